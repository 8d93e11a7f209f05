import Derived.Test.YtnfakamfmkhlbabGreatDoorB18
set_option maxRecDepth 100000
set_option maxHeartbeats 4000000
set_option linter.all false
open Go.Value renaming int->I,bool->Za,string->Zb,agg->Zc,tuple->Ze,slice->Zq
open Go.IntKind renaming i64->L,u8->Zg,u64->Zh
open Go.Obj renaming cells->Z
open Go.Ending renaming returned->Zd
open Or renaming inl->Zi,inr->Zj
open Option renaming some->S,none->N
open Bool renaming true->Zk,false->Zl
open Decidable renaming decide->Zm
open Go.RowKit renaming Hid->Y
open Go renaming World->I6,Value->I7
namespace Go.Proofs.YtnfakamfmkhlbabGreatDoor.P
open Go.ChangeShapes Go.WideShapes Go.ChangeAt Go.RowKit Go.Shelf Go.Proofs.YtnfakamfmkhlbabGreatDoor.P
variable {z:I2}{wh:Bool}{b h m:Int}{PA A M:I0}{fc:I5}{w W a w' w1 V:I6}{f n i k g base d e l j x B Bp:Nat}{v:I7}{u:UInt8}{Q:Nat->Obj->Prop}{rs:I3}{y:I1}
theorem LH(x:Int):IntKind.u64.wrap x=U (BitVec.ofInt 64 x):=by rw[IntKind.wrap_u64];unfold U;rw[BitVec.toNat_ofInt];have:=Int.emod_nonneg x (show(18446744073709551616:Int)≠0 from WW);have e:((2 ^ 64:Nat):Int)=18446744073709551616:=WW;rw[e];omega
end Go.Proofs.YtnfakamfmkhlbabGreatDoor.P
namespace Go.Proofs.YtnfakamfmkhlbabGreatDoor.C
open Go.ChangeShapes Go.WideShapes Go.ChangeAt Go.RowKit Go.Shelf Go.Proofs.YtnfakamfmkhlbabGreatDoor.P Tryz
attribute [local go_sem] qd qe Oper.semAt_some
variable {z:I2}{wh:Bool}{b h m:Int}{PA A M:I0}{fc:I5}{w W a w' w1 V:I6}{f n i k g base d e l j x B Bp:Nat}{v:I7}{u:UInt8}{Q:Nat->Obj->Prop}{rs:I3}{y:I1}
theorem Fr.setNew{b:I6}(h:Fr Q a b){p:Addr}(u:I7)(f:a.heap.size<=p.block):Fr Q a (b.setCell p u) :=
 ⟨h.os,h.tape,h.output,by show a.heap.size<=(b.heap.modify _ _).size;simp;exact h.size,λk o e q=>by
  have d:k≠p.block:=λd=>UR
  exact(Yg b p u k d).trans (h.same k o e q)⟩
theorem Ld{a b:I4}(h:a=b):Ending.returned (Zb a)=Zd (Zb b):=by rw[h]
theorem LF(b:Bool)(w:I6):Calls prog 288 #[Za b] w λe w'=>e=Zd (Zb ⟨#[if b then 119 else 98]⟩)/\w'=w:=by
 go_enter func288,ntmps288;cases b
 .exact Wz
 .exact Wz
theorem NX(n:Nat)(h:n<64)(w:I6):ZL 69 #[I L n] w (Zb ⟨(xQ n).toArray⟩):=by
 have b:((UInt8.ofNat (97+n%8)).toNat:Int)=97+(n:Int)%8:=WX;have d:((UInt8.ofNat (49+n/8)).toNat:Int)=49+(n:Int)/8:=WX;have a:=qq4 (w.alloc (Z #[I Zg (97+(n:Int)%8),I Zg (49+(n:Int)/8)] 5)) ⟨w.heap.size,0,N⟩ 2 (xQ n) (by
  intro i g;rw[X2,Z2,Z8 _ _ _ _ R];have:i=0\/i=1:=by simp[xQ]at g;omega
  obtain rfl|rfl:=this
  .show S (Value.int Zg (97+(n:Int)%8))=S (I Zg ((UInt8.ofNat (97+n%8)).toNat:Int));rw[b]
  .show S (Value.int Zg (49+(n:Int)/8))=S (I Zg ((UInt8.ofNat (49+n/8)).toNat:Int));rw[d])
 have f:(convert 145 9 (Zq (S ⟨w.heap.size,0,N⟩) 2 2)).run prog (w.alloc (Z #[I Zg (97+(n:Int)%8),I Zg (49+(n:Int)/8)] 5))=.ok (Zb ⟨(xQ n).toArray⟩) (w.alloc (Z #[I Zg (97+(n:Int)%8),I Zg (49+(n:Int)/8)] 5)):=a;clear a b d;go_enter func69,ntmps69;go_wp2;exact WM
theorem Ju(n:Int)(h:n=-1\/(0<=n/\n<64))(w:I6):ZL 290 #[I L n] w (Zb ⟨(oO n).toArray⟩):=by
 go_enter func290,ntmps290;by_cases f:n=-1
 .subst f;go_wp2;go_ret;exact⟨R,ZO⟩
 .obtain⟨k,rfl⟩:=Yt (show 0<=n from O);have b:k<64:=O;have e:oO (k:Int)=xQ k:=by unfold oO;rw[qF f];simp
  have d:((k:Int)==-1)=Zl:=WU;rw[e];clear f h e;go_wp2_with(go_at_call 69;refine Z0 (NX k b _) λw' a=>?_);go_ret;exact⟨R,a⟩
theorem j3(a b:I4):(a++b).data.toList=a.data.toList++b.data.toList:=WU
theorem Js(f:I5)(w:I6):ZL 289 #[Zc #[Za (f 0),Za (f 1),Za (f 2),Za (f 3)]] w (Zb ⟨(eE f).toArray⟩):=by
 obtain⟨j,o⟩:∃b,Y (f 0=b):=⟨_,R⟩;obtain⟨k,p⟩:∃b,Y (f 1=b):=⟨_,R⟩;obtain⟨l,r⟩:∃b,Y (f 2=b):=⟨_,R⟩;obtain⟨m,u⟩:∃b,Y (f 3=b):=⟨_,R⟩;rw[o.a,p.a,r.a,u.a];have C:∀w,(Instr.index 68 (Zc #[Za j,Za k,Za l,Za m]) (I L 0)).run prog w=.ok (Za j) w:=λ_=>WR;have D:∀w,(Instr.index 68 (Zc #[Za j,Za k,Za l,Za m]) (I L 1)).run prog w=.ok (Za k) w:=λ_=>WR;have E:∀w,(Instr.index 68 (Zc #[Za j,Za k,Za l,Za m]) (I L 2)).run prog w=.ok (Za l) w:=λ_=>WR;have F:∀w,(Instr.index 68 (Zc #[Za j,Za k,Za l,Za m]) (I L 3)).run prog w=.ok (Za m) w:=λ_=>WR;go_enter func289,ntmps289;go_wp2;go_loopg [3,7] 4 (λg t n wr=>∃i:Nat,i+g=4/\n=I L i/\(∃q:I4,t=Zb q/\q.data.toList=E5 f i/\q.size<=i)/\wr=w.alloc (Z #[Za j,Za k,Za l,Za m] 68))
 case atStart=>exact⟨0,R,R,⟨_,R,R,Zy⟩,R⟩
 case round=>
  obtain⟨i,G,rfl,⟨q,rfl,y,B⟩,rfl⟩:=hrel;have h:=X y;clear y;by_cases e:i<4
  .have A:i=0\/i=1\/i=2\/i=3:=O;obtain rfl|rfl|rfl|rfl:=A
   .cases j
    .have a:Y (E5 f 1=E5 f 0):=X (by rw[oN,o.a];simp);go_wp2;go_roundg (gk-1)
     case measure=>omega
     case rel=>exact⟨1,O,R,⟨q,R,Tk,O⟩,R⟩
    .have a:Y (E5 f 1=E5 f 0++[vn 0]):=X (by rw[oN,o.a];simp);go_wp2;go_roundg (gk-1)
     case measure=>omega
     case rel=>
      refine⟨1,O,R,⟨_,R,?_,?_⟩,R⟩
      .rw[a.a,j3,h.a];rfl
      .rw[Yn];have:(ByteArray.extract ⟨#[75,81,107,113]⟩ 0 1).size=1:=R;omega
   .cases k
    .have a:Y (E5 f 2=E5 f 1):=X (by rw[oN,p.a];simp);go_wp2;go_roundg (gk-1)
     case measure=>omega
     case rel=>exact⟨2,O,R,⟨q,R,Tk,O⟩,R⟩
    .have a:Y (E5 f 2=E5 f 1++[vn 1]):=X (by rw[oN,p.a];simp);go_wp2;go_roundg (gk-1)
     case measure=>omega
     case rel=>
      refine⟨2,O,R,⟨_,R,?_,?_⟩,R⟩
      .rw[a.a,j3,h.a];rfl
      .rw[Yn];have:(ByteArray.extract ⟨#[75,81,107,113]⟩ 1 2).size=1:=R;omega
   .cases l
    .have a:Y (E5 f 3=E5 f 2):=X (by rw[oN,r.a];simp);go_wp2;go_roundg (gk-1)
     case measure=>omega
     case rel=>exact⟨3,O,R,⟨q,R,Tk,O⟩,R⟩
    .have a:Y (E5 f 3=E5 f 2++[vn 2]):=X (by rw[oN,r.a];simp);go_wp2;go_roundg (gk-1)
     case measure=>omega
     case rel=>
      refine⟨3,O,R,⟨_,R,?_,?_⟩,R⟩
      .rw[a.a,j3,h.a];rfl
      .rw[Yn];have:(ByteArray.extract ⟨#[75,81,107,113]⟩ 2 3).size=1:=R;omega
   .cases m
    .have a:Y (E5 f 4=E5 f 3):=X (by rw[oN,u.a];simp);go_wp2;go_roundg (gk-1)
     case measure=>omega
     case rel=>exact⟨4,O,R,⟨q,R,Tk,O⟩,R⟩
    .have a:Y (E5 f 4=E5 f 3++[vn 3]):=X (by rw[oN,u.a];simp);go_wp2;go_roundg (gk-1)
     case measure=>omega
     case rel=>
      refine⟨4,O,R,⟨_,R,?_,?_⟩,R⟩
      .rw[a.a,j3,h.a];rfl
      .rw[Yn];have:(ByteArray.extract ⟨#[75,81,107,113]⟩ 3 4).size=1:=R;omega
  .have z:i=4:=O;subst z;have x:q.toList.isEmpty=(E5 f 4).isEmpty:=by rw[Xl,h.a]
   cases H:(E5 f 4).isEmpty
   .rw[H]at x;have v:Y (q=⟨(eE f).toArray⟩):=X (by
     unfold eE;rw[H];have:=h.a;cases q with|mk d=>simp at this |-;rw[<-this])
    clear H;go_wp2;go_ret;exact⟨Ld v.a,ZN⟩
   .rw[H]at x;have v:Y (eE f=[45]):=X (by unfold eE;rw[H];rfl);clear H;go_wp2;go_ret;exact⟨Ld (by rw[v.a]),ZN⟩
theorem Ra:(prog.info? 5).map (λi=>(i.zero,i.size,i.bytes))=S (S (I Zg 0),1,1):=WR
def Jn(l:I1):List I7:=l.map (λc=>Value.int Zg (c.toNat:Int))
def Txt(base:Nat)(v:I7)(l:I1)(w:I6):Prop:=w.ownsRow base 5 1 v l.length (Jn l)
theorem JK{l:I1}(h:Txt base v l w):∀k,v.ownBlock=S k->base<=k:=by exact O8
theorem Np(v:I7)(w:I6):Calls prog 355 #[v,I L 0] w λe w'=>e=Zd v/\w'=w:=by go_enter func355,ntmps355;exact Wz
theorem Nq(base:Nat)(v:I7)(l:I1)(x:l.length<=64)(g:Nat)(r:1<=g)(u:g<=9)(w:I6)(m:base<=w.heap.size)(k:Txt base v l w) :
 Calls prog 355 #[v,I L g] w λe w'=>∃v',e=Zd v'/\Txt base v' (l++[UInt8.ofNat (48+g)]) w'/\Below base w w':=by
 have d:=X k;clear k;obtain⟨q,n,f,h,i⟩:=We Ra;have o:((g:Int)==0)=Zl:=WX;have p:Y (((UInt8.ofNat (48+g)).toNat:Int)=48+(g:Int)):=X WX;go_enter func355,ntmps355;go_wp2_with(at_builtin;refine Xv _ R (.tmp 8) (.tmp 12) 145 rfl base 5 q (I Zg 0) 1 1 underlying145 n f h i R WW v l.length (Jn l) R (d.a.alloc _) ⟨w.heap.size,0,N⟩ 1 1 [I Zg (48+(g:Int))] R R (Wp _ _ _) Vi Vk O WX ?_;intro v' w1 b a j);go_ret;refine⟨v',R,?_,?_⟩
 .unfold Txt Jn;rw[Ys,qZ];show World.ownsRow _ _ _ _ _ _ (_++[Value.int Zg _]);rw[p.a];exact b
 .exact((XL base w).alloc m _).grown a WX (JK d.a)
theorem MD(base:Nat)(v:I7)(l:I1)(f:l.length<=64)(g:Nat)(b:g<=9)(w:I6)(d:base<=w.heap.size)(a:Txt base v l w) :
 Calls prog 355 #[v,I L g] w λe w'=>∃v',e=Zd v'/\Txt base v' (l++ur g) w'/\Below base w w':=by
 by_cases h:g=0
 .subst h;refine Z1 (Np v w) ?_;exact⟨v,R,by simpa[ur]using a,XL _ _⟩
 .have e:ur g=[UInt8.ofNat (48+g)]:=by unfold ur;rw[qF h]
  rw[e];exact Nq base v l f g O b w d a
theorem JG(z:Nat->UInt8):∀k,(DV z k).1.length<=2*k/\(DV z k).2<=k
 | 0=>⟨Zy,Zy⟩
 | k+1=>by
  have h:=JG z k;unfold DV;have a:(ur (DV z k).2).length<=1:=U0
  split
  .exact⟨WX,WX⟩
  .exact⟨WX,WU⟩
theorem Nx(w:I6):(convert 145 9 (Zq N 0 0)).run prog w=.ok (Zb ⟨#[]⟩) w:=WR
theorem Mp{l:I1}(h:Txt base v l w):(convert 145 9 v).run prog w=.ok (Zb ⟨l.toArray⟩) w:=by
 obtain⟨rfl,a⟩|⟨g,cap,cur,rfl,j,b,a,f,k,e⟩:=h.2
 .have:l=[]:=Yz.mp a;subst this;exact Nx w
 .refine qq4 w ⟨g,0,N⟩ cap l (λi d=>?_);rw[X2,Z2,Zs b];have:cur.toList[i]?=(cur.toList.take (l.length*1))[i]?:=by rw[Yv,qI O]
  rw[<-qO,this,e];simp[Jn,d]
theorem LJ(z:I2)(b o c:Nat)(w:I6)(P:b<w.heap.size)(K:∀i,i<8->w.cell? ⟨b,o+i,N⟩=S (I Zg (z i).toNat)) :
 ZL 327 #[Zq (S ⟨b,o,N⟩) 8 c] w (Zb ⟨(oJ z).toArray⟩):=by
 have E:=X K;clear K;obtain⟨T,J,F,H,a2⟩:=We Ra;have B:=X J;clear J;go_enter func327,ntmps327;go_wp2;go_loopg [3,4,9] 8 (λG t g i wr=>∃k:Nat,k+G=8/\i=I L k/\g=I L (DV z k).2/\Txt w.heap.size t (DV z k).1 wr/\Below w.heap.size w wr)
 case atStart=>exact⟨0,R,R,R,⟨R,Or.inl ⟨R,R⟩⟩,XL _ _⟩
 case round=>
  obtain⟨k,V,rfl,rfl,x,n⟩:=hrel;have D:=X x;have a:=X n;clear x n;have Q:=JG z k;by_cases a1:k<8
  .have f:wr.cell? ⟨b,o+k,N⟩=S (I Zg (z k).toNat):=(ZW a.a (p:=⟨b,o+k,N⟩) P).trans (E.a k a1);by_cases W:z k=46
   .have l:Y (DV z (k+1)=((DV z k).1,(DV z k).2+1)):=X (by rw[DV,qI W]);have r:((z k).toNat:Int)=46:=by rw[W];rfl
    rw[r]at f;clear r W;go_wp2;go_roundg (gk-1)
    case measure=>omega
    case rel=>exact⟨k+1,O,Vg,by rw[l.a];go_num,by rw[l.a];exact D.a,a.a⟩
   .have l:Y (DV z (k+1)=((DV z k).1++ur (DV z k).2++[z k],0)):=X (by rw[DV,qF W]);have r:(((z k).toNat:Int)==46)=Zl:=by simp only[qM];intro e;exact W (q6.mp WX)
    clear W;go_wp2_with fail;refine(MD w.heap.size _ _ O _ O _ (ZR a.a) D.a).mono ?_;rintro e w1 ⟨p,rfl,m,d⟩;have C:w.heap.size<=w1.heap.size:=by have:=ZR a.a;have:=ZR d;omega
    have A:(ur (DV z k).2).length<=1:=U0;have a5:((DV z k).1++ur (DV z k).2).length<=40:=WX;have q:=X m;have u:=X (a.a.trans d);clear m d f A;go_wp2_with(at_builtin;refine Xv _ R (.tmp 19) (.tmp 21) 145 rfl w.heap.size 5 T (I Zg 0) 1 1 underlying145 B.a F H a2 R WW p _ _ R (q.a.alloc _) ⟨w1.heap.size,0,N⟩ 1 1 [I Zg (z k).toNat] R R (Wp _ _ _) Vi Vk O WX ?_;intro v' M j h v);have a0:Y (Txt w.heap.size v' (DV z (k+1)).1 M):=X (by
     rw[l.a];unfold Txt Jn;rw[Ys,qZ];exact j)
    have y:Y (Below w.heap.size w M):=X ((u.a.alloc C _).grown h WX (JK q.a));clear j h v;go_wp2;go_roundg (gk-1)
    case measure=>omega
    case rel=>exact⟨k+1,O,Vg,by rw[l.a];rfl,a0.a,y.a⟩
  .have a3:k=8:=O;subst a3;go_wp2_with fail;refine(MD w.heap.size _ _ O _ O _ (ZR a.a) D.a).mono ?_;rintro e w1 ⟨p,rfl,m,d⟩;have a4:=Mp m;have y:=X (a.a.trans d);clear m d;go_wp2;go_ret;exact⟨R,y.a⟩
theorem JF(z:I2)(i:Nat):(oH z i).length<=17:=by unfold oH oJ;have h:=JG (λf=>z (8*(7-i)+f)) 8;have a:(ur (DV (λf=>z (8*(7-i)+f)) 8).2).length<=1:=U0;rw[qZ];omega
theorem HO(b:I1)(n:Nat):∀d:List (I1),(∀x∈d,x.length<=n)->(Lib.join d b).length<=d.length*(n+b.length)
 | [],_=>by simp[Lib.join,List.intercalate]
 | [x],h=>by
  have:=h x WU;rw[Lib.join_one];simp;omega
 | x :: y :: r,h=>by
  have i:=HO b n (y :: r) (λa f=>h a (by simp at f |-;right;exact f));have g:=h x WU;have e:Lib.join (x :: y :: r) b=x++b++Lib.join (y :: r) b:=by simp[Lib.join,List.intercalate,List.intersperse]
  rw[e,qZ,qZ,Yq,Nat.add_mul];omega
theorem Ko(z:I2)(A:I0)(a1:∀i,i<64->A[i]?=S (I Zg (z i).toNat))(w:I6) :
 ZL 287 #[Zc A] w (Zb ⟨(dA z).toArray⟩):=by
 have H:=X a1;clear a1;go_enter func287,ntmps287;go_wp2;go_loopg [6] 8 (λG i wr=>∃k:Nat,k+G=8/\i=I L k/\wr.heap[w.heap.size]?=S (Z A 67)/\(∃p:I0,p.size=8/\wr.heap[w.heap.size+1]?=S (Z p 369)/\∀j,j<k->p[j]?=S (Zb ⟨(oH z j).toArray⟩))/\w.heap.size+2<=wr.heap.size/\Gr w wr)
 case atStart=>exact⟨0,R,R,heap_alloc2_old _ _ _,⟨_,R,Zw,λj h=>O⟩,WU,ZN.al⟩
 case round=>
  obtain⟨k,k1,rfl,B,⟨p,hR,C,n⟩,a7,D⟩:=hrel;have g:=X B;have l:=X C;have u:=X hR;have d:=X n;have m:=X D;clear B C hR n D;by_cases a0:k<8
  .obtain⟨q,P⟩:∃q:Nat,q=8*(7-k):=⟨_,R⟩;have hw:8*(7-(k:Int))=(q:Int):=O;have T:(q:Int)+8<=64:=O;have V:(q:Int)<=q+8:=O;have Q:q<=56:=O;have M:=X P;clear P;go_wp2_with fail;refine(LJ (λf=>z (8*(7-k)+f)) w.heap.size q (64-q) _ O (λi a8=>by rw[Zs g.a,H.a (q+i) O,M.a])).mono ?_;rintro e w1 ⟨rfl,b⟩;have W:=ZR b;have a3:Y (w1.heap[w.heap.size]?=S (Z A 67)):=X (by rw[Zz b O];exact g.a);have o:Y (w1.heap[w.heap.size+1]?=S (Z p 369)):=X (by rw[Zz b O];exact l.a);have J:Y (Gr w w1):=X (m.a.trans b);have v:k<p.size:=by rw[u.a];exact a0
   have K:w1.cell? ⟨w.heap.size+1,k,N⟩=S (p[k]'v):=by rw[Zs o.a];exact qQ _
   have a6:w1.frozen? ⟨w.heap.size+1,k,N⟩=Zl:=frozen_of_row _ _ _ _ _ o.a;clear g l m b;go_wp2;go_roundg (gk-1)
   case measure=>omega
   case rel=>
    refine⟨k+1,O,Vg,?_,⟨p.setIfInBounds k (Zb ⟨(oH z k).toArray⟩),by simpa using u.a,?_,?_⟩,?_,?_⟩
    .rw[heap_setCell_other _ _ _ _ (by show w.heap.size≠w.heap.size+1;omega)];exact a3.a
    .exact heap_setCell_same _ _ _ _ _ _ o.a
    .intro j F;rw[Yu];by_cases e:k=j
     .subst e;rw[qI R,qI v]
     .rw[qF e];exact d.a j O
    .simp[World.setCell];omega
    .exact J.a.setCell (p:=⟨w.heap.size+1,k,N⟩) (by show w.heap.size<=w.heap.size+1;omega) _
  .have a5:k=8:=O;subst a5;have a:(eB z).length=8:=by simp[eB]
   have F:=Tryz.strings_Join (w.heap.size+1) 0 8 (eB z) ⟨#[47]⟩ wr (by
    intro j x r;have E:j<8:=by rw[<-a];exact(Z5.mp r).1
    rw[Z2,Zs l.a,d.a j E]
    have:x=⟨(oH z j).toArray⟩:=by
     unfold eB at r;rw[YN,List.getElem?_range E]at r;simpa using r.symm
    rw[this]) O (by rw[a];omega) (by rw[a];omega) (by
    have:=HO [47] 17 ((eB z).map (·.data.toList)) (by
     intro x r;obtain⟨y,a2,rfl⟩:=YL.mp r;obtain⟨i,_,rfl⟩:=YL.mp a2;exact JF z i)
    rw[YD,a]at this;exact q7 this WU)
   rw[a]at F;have a4:=X F;clear F;go_wp2_with(go_at_call 291;refine a4.a.mono ?_;rintro e w1 ⟨rfl,b⟩);go_ret;exact⟨R,m.a.trans b⟩
theorem Kd(n:Int)(b:0<=n)(d:n<=65535)(w:I6)(a:HG w):ZL 160 #[I L n] w (Zb ⟨(Lib.itoa n).toArray⟩):=by refine(Tryz.strconv_Itoa n O O w a).mono ?_;rintro e w' ⟨rfl,k,os,rfl⟩;exact⟨R,Gr.grow w k os⟩
theorem SS(a b d f g h:I4)(l:∀x∈[a,b,d,f,g,h],x.data.toList.length<=100000)(w:I6) :
 Calls prog 291 #[Zq (S ⟨w.heap.size,0,N⟩) 6 6,Zb ⟨#[32]⟩] (w.alloc (Z #[Zb a,Zb b,Zb d,Zb f,Zb g,Zb h] 9)) λe w' =>
  e=Zd (Zb ⟨(Lib.join ([a,b,d,f,g,h].map (·.data.toList)) [32]).toArray⟩)/\Gr w w':=by
 have k:=Tryz.strings_Join w.heap.size 0 6 [a,b,d,f,g,h] ⟨#[32]⟩ (w.alloc (Z #[Zb a,Zb b,Zb d,Zb f,Zb g,Zb h] 9)) (by
  intro j x i;rw[Z2,Z8 _ _ _ _ R];have k:j<6:=by simpa using(Z5.mp i).1
  have:j=0\/j=1\/j=2\/j=3\/j=4\/j=5:=O
  rcases this with rfl|rfl|rfl|rfl|rfl|rfl<;>simp at i<;>subst i<;>rfl) Vj WU WU (by
  have:=HO [32] 100000 ([a,b,d,f,g,h].map (·.data.toList)) (by
   intro y n;obtain⟨x,i,rfl⟩:=YL.mp n;exact l x i)
  exact q7 this WU)
 refine k.mono ?_;rintro e w' ⟨rfl,m⟩;exact⟨R,ZN.trans m⟩
theorem Jg:∀n u,u<=n->(Lib.decDigits u).length<=u+1:=by
 intro n;induction n with
 | zero=>intro u h;unfold Lib.decDigits;rw[Wf O];simp
 | succ n ih =>
  intro u h;unfold Lib.decDigits;by_cases a:u<10
  .rw[Wf a];simp
  .rw[dif_neg a,qZ];have:=ih (u/10) O;simp;omega
theorem HP(n:Int)(a:0<=n)(b:n<=65535):(Lib.itoa n).length<=65536:=by unfold Lib.itoa;rw[qF O];have:=Jg n.toNat n.toNat Zy;omega
theorem HT(z:I2):(dA z).length<=144:=by
 have a:(eB z).length=8:=by simp[eB]
 have:=HO [47] 17 ((eB z).map (·.data.toList)) (by
  intro x b;obtain⟨y,d,rfl⟩:=YL.mp b;obtain⟨i,_,rfl⟩:=YL.mp d;exact JF z i)
 rw[YD,a]at this;exact q7 this WU
theorem Jt(f:Nat->Bool):∀i,(E5 f i).length<=i
 | 0=>Zy
 | i+1=>by
  have:=Jt f i;rw[oN,qZ];split<;>simp<;>omega
theorem D2(f:I5):(eE f).length<=4:=by
 unfold eE;split
 .simp
 .exact Jt f 4
theorem JH(b:Int):(oO b).length<=2:=by unfold oO xQ;split<;>simp
def Qx(b:Bool):I4:=⟨#[if b then 119 else 98]⟩
theorem Mn(b:Bool)(w:I6):ZL 288 #[Za b] w (Zb (Qx b)) :=
 (LF b w).mono (by rintro e w' ⟨rfl,rfl⟩;exact⟨R,ZO⟩)
theorem Kn(z:I2)(A:I0)(p:A.size=64)(r:∀i,i<64->A[i]?=S (I Zg (z i).toNat))(wh:Bool)(f:I5)(b h g:Int)(M:b=-1\/(0<=b/\b<64))(J:0<=h)(K:h<=65535)(H:0<=g)(a0:g<=65535)(w:I6)(T:HG w) :
 ZL 239 #[Zc (kU A wh (f 0) (f 1) (f 2) (f 3) b h g)] w (Zb ⟨(oI z wh f b h g).toArray⟩):=by
 have P:=underlying67;have E:(prog.info? 67).map (·.size)=S A.toList.length:=by rw[x7];simp[p]
 have a1:A.toList.length=64:=by simpa using p
 have a2:∀v∈A.toList,v.oneCell'=Zk:=by intro v q;obtain⟨i,E,rfl⟩:=List.getElem_of_mem q;have:=r i O;rw[<-qO,Yf E]at this;simp at this;simp[this,Value.oneCell']
 have l:PS w A.toList wh (f 0) (f 1) (f 2) (f 3) b h g (w.alloc (Z (kU A wh (f 0) (f 1) (f 2) (f 3) b h g) 70)):=by
  have D:∀o,(w.alloc (Z (kU A wh (f 0) (f 1) (f 2) (f 3) b h g) 70)).cell? ⟨w.heap.size,o,N⟩=(kU A wh (f 0) (f 1) (f 2) (f 3) b h g)[o]?:=λo=>Z8 _ _ _ _ R;refine⟨λj v q=>?_,?_,?_,?_,?_,?_,?_,?_,?_,Vj,ZN,T.gr ZN⟩
  .rw[D,Z2];unfold kU;rw[Y7,qI (by rw[p,<-a1];exact(Z5.mp q).1),<-qO];exact q
  all_goals (rw[D];unfold kU;rw[Y7,qF O,p];rfl)
 have a:=X l;clear l;generalize V:kU A wh (f 0) (f 1) (f 2) (f 3) b h g=PA at a |-;clear V;have u:=X r;clear r;go_enter func239,ntmps239;go_wp2;obtain⟨w1,n⟩:∃w1,w1=w.alloc (Z PA 70):=⟨_,R⟩;rw[<-n]at a |-;clear n;have m:Y (HG w1):=X a.a.2.2.2.2.2.2.2.2.2.2.2;go_region_held3 (λw'=>Gr w1 w'/\w'.rangeAt w.heap.size 0 A.toList/\w'.cell? ⟨w.heap.size,64,N⟩=S (Za wh)/\w'.cell? ⟨w.heap.size,65,N⟩=S (Za (f 0))/\w'.cell? ⟨w.heap.size,66,N⟩=S (Za (f 1))/\w'.cell? ⟨w.heap.size,67,N⟩=S (Za (f 2))/\w'.cell? ⟨w.heap.size,68,N⟩=S (Za (f 3))/\w'.cell? ⟨w.heap.size,69,N⟩=S (I L b)/\w'.cell? ⟨w.heap.size,70,N⟩=S (I L h)/\w'.cell? ⟨w.heap.size,71,N⟩=S (I L g)) (first|exact held a.a ZO.drew|exact held a.a ‹_›|exact held a.a (Gr.alloc (vy ‹_›) _ _)) (first|(go_at_call 287;refine Z0 (Ko z A u.a _) λw' k=>?_;have d:=Gr.trans (vy ‹_›) k)|(go_at_call 288;refine Z0 (Mn wh _) λw' k=>?_;have d:=Gr.trans (vy ‹_›) k)|(go_at_call 289;refine Z0 (Js f _) λw' k=>?_;have d:=Gr.trans (vy ‹_›) k)|(go_at_call 290;refine Z0 (Ju b M _) λw' k=>?_;have d:=Gr.trans (vy ‹_›) k)|(go_at_call 160;refine Z0 (Kd _ ‹_› ‹_› _ (HG.gr m.a (vy ‹_›))) λw' k=>?_;have d:=Gr.trans (vy ‹_›) k));have F:=λW=>SS ⟨(dA z).toArray⟩ (Qx wh) ⟨(eE f).toArray⟩ ⟨(oO b).toArray⟩ ⟨(Lib.itoa h).toArray⟩ ⟨(Lib.itoa g).toArray⟩ (by
  intro x G;simp only[Yj,List.mem_nil_iff,or_false]at G;obtain rfl|rfl|rfl|rfl|rfl|rfl:=G
  .exact q7 (HT z) O
  .show([if wh then 119 else 98]:I1).length<=_;simp
  .exact q7 (D2 f) O
  .exact q7 (JH b) O
  .exact q7 (HP h J K) O
  .exact q7 (HP g H a0) O) W
 have B:=X F;clear F;have C:Y (Gr w w1):=X a.a.2.2.2.2.2.2.2.2.2.2.1;go_wp2_with(go_at_call 291;refine Z0 (B.a w') λQ y=>?_);go_ret;exact⟨R,(C.a.trans d).trans y⟩
theorem NP(a b c:Int)(w:I6):ZL 185 #[Zc #[I L a,I L b,I Zg c]] w (I L 1):=by go_enter func185,ntmps185;go_wp2;exact WM
theorem M1{lb:I0}{C:Nat->Prop}{G:List Mv}(L:It prog g lb vr (λ_=>False) C G w)(K:∀args w,(callFunc g args).run prog w=.ok (.enter g args) w)(y:∀k,C k->k<w.heap.size)(Q:G.length<9223372036854775807) :
 ZL 184 #[.func (.func g) #[] lb,.func (.func 185) #[] #[]] w (I .i64 (G.length:Int)):=by
 refine(ZY (n:=9)).1 ?_;refine callsIn_of_wp_marks func184 rfl trivial ?_ R;simp only[ntmps184,Nat.reduceAdd,Nat.reduceSub,Zr];refine Z9.2 ?_;go_wp2_with fail;obtain⟨a7,n⟩:=x6 w (Z #[.func (.func 185) #[] #[]] 262) (Z #[I .i64 0] 3);have m:Gr w ((w.alloc (Z #[.func (.func 185) #[] #[]] 262)).alloc (Z #[I .i64 0] 3)):=ZN.al;have M:((w.alloc (Z #[.func (.func 185) #[] #[]] 262)).alloc (Z #[I .i64 0] 3)).heap.size=w.heap.size+2:=WU;generalize ((w.alloc (Z #[.func (.func 185) #[] #[]] 262)).alloc (Z #[I .i64 0] 3))=w2 at a7 n m M |-;refine Z9.1 (xj (n:=9) (gf:=g) (lb:=lb) R K L (λ_ h=>h.elim) (λk P=>by have:=y k P;omega) (Fr.of_gr m) (λ_=>R)
  (λa V=>V.heap[w.heap.size]?=S (Z #[.func (.func 185) #[] #[]] 262)/\V.heap[w.heap.size+1]?=S (Z #[I .i64 (a.length:Int)] 3)/\Gr w V/\w2.heap.size<=V.heap.size)
  (λ_ _ _=>False)
  ?sI (λ_ _ _ _ h _=>h) ⟨a7,n,m,Zy⟩ ?rnd ?done (λ_ _ _ _ _ _ h _=>h.elim))
 case sI=>exact λs A A' h f=>⟨f.same _ _ h.1 (Zi O),f.same _ _ h.2.1 (Zi O),Below.trans h.2.2.1 (f.below (n:=w.heap.size) (ZR h.2.2.1) (λk o P=>Zi O)),q7 h.2.2.2 f.size⟩
 case done=>rintro D V hD ⟨p,l,F,B⟩ hK;have c2:=(qi l).1;go_wp2_with fail;refine⟨WU,Zi ⟨_,_,R,YU hK,?_⟩⟩;exact⟨_,Wh R _ _ _,R,Below.trans F (XZ (w:=w2) (n₀:=w.heap.size) O _ D _ _ hD hK R R)⟩
 case rnd=>
  rintro a6 a ⟨fr,T,u⟩ V b0 hx ⟨p,l,F,B⟩ a8;have b1:a6<V.heap.size:=a8.elim λr hr=>(qB.1 hr).1;simp only[vr,gJ];gi_wp2;refine⟨ZP.alloc _,?_⟩;intro b W J a0;obtain⟨p,l,F,B⟩:=J;have v:b.heap[V.heap.size]?=S (Z (ZJ fr T u) 87):=W.same _ _ (ZQ V _) O;generalize V.heap.size=Bx at v |-;have a4:a.length+1<=G.length:=by have:=hx.length_le;simpa using this
  have a5:IntKind.i64.wrap ((a.length:Int)+1)=(a.length:Int)+1:=Vc;have d1:b.drew.cell? ⟨w.heap.size,0,N⟩=S (.func (.func 185) #[] #[]):=(qi p).1;have d2:b.drew.cell? ⟨w.heap.size+1,0,N⟩=S (I .i64 (a.length:Int)):=(qi l).1;have d3:b.drew.frozen? ⟨w.heap.size+1,0,N⟩=Zl:=(qi l).2;obtain⟨x0,x1,x2⟩:=qm (show b.drew.heap[Bx]?=_ from v);have aft:∀d,Gr b.drew d->(d.cell? ⟨w.heap.size,0,N⟩=S (.func (.func 185) #[] #[])/\d.cell? ⟨w.heap.size+1,0,N⟩=S (I .i64 (a.length:Int))/\d.frozen? ⟨w.heap.size+1,0,N⟩=Zl):=λd j=>by have H:=(ZE j (show b.drew.heap[w.heap.size]?=_ from p));have E:=(ZE j (show b.drew.heap[w.heap.size+1]?=_ from l));exact⟨(qi H).1,(qi E).1,(qi E).2⟩
  have x:=X aft;clear aft;have a9:Y (∀d,Gr b.drew d->Fr (jM w2.heap.size (λ_=>False) C) b (d.setCell ⟨w.heap.size+1,0,N⟩ (I .i64 ((a.length:Int)+1)))/\(d.setCell ⟨w.heap.size+1,0,N⟩ (I .i64 ((a.length:Int)+1))).heap[w.heap.size]?=S (Z #[.func (.func 185) #[] #[]] 262)/\(d.setCell ⟨w.heap.size+1,0,N⟩ (I .i64 ((a.length:Int)+1))).heap[w.heap.size+1]?=S (Z #[I .i64 ((a++[((fr,T,u):Mv)]).length:Int)] 3)/\Gr w (d.setCell ⟨w.heap.size+1,0,N⟩ (I .i64 ((a.length:Int)+1)))/\w2.heap.size<=(d.setCell ⟨w.heap.size+1,0,N⟩ (I .i64 ((a.length:Int)+1))).heap.size):=X (λd j=>by
   have i:Gr b d:=Gr.trans (Gr.refl b).drew j;have H:=(ZE i p);have E:=(ZE i l);refine⟨(Fr.of_gr i).setCell _ ?_,by rw[Yg _ _ _ _ WU];exact H,?_,Yr (Gr.trans F i) (show w.heap.size<=w.heap.size+1 from O) _,?_⟩
   .rintro o-(q|q)
    .have:=y _ q;simp at this;omega
    .have:=q.1;simp at this;omega
   .have:=jm (v:=I .i64 ((a.length:Int)+1)) E;rw[this];simp
   .have:=ZR i;simp[World.setCell];omega)
  gi_wp2;gi_region_with (refine⟨trivial,?_⟩;gi_at_call 185;refine((ZY.2 (NP _ _ _ _)).inRound a6).mono ?_;rintro e wc ⟨rfl,z⟩;obtain⟨a1,a2,a3⟩:=x.a wc z);all_goals
   gi_wp2;exact a9.a _ z
theorem Hr{lb:I0}{C:Nat->Prop}{i:List Mv}(h:It prog g lb vr (λ_=>False) C i w)(f:∀args w,(callFunc g args).run prog w=.ok (.enter g args) w)(d:∀k,C k->k<w.heap.size)(a:i.length<9223372036854775807) :
 ZL 94 #[.func (.func g) #[] lb] w (I L (i.length:Int)):=by have b:=X (M1 h f d a);go_enter func94,ntmps94;go_wp2_with(go_at_call 184;refine Z0 b.a λw' j=>?_);go_ret;exact⟨R,j⟩
theorem MK:∀n,n<256->bz (UInt8.ofNat n)=Zk->uT (UInt8.ofNat n)=Zl:=WS
theorem QV(c:UInt8)(h:bz c=Zk):uT c=Zl:=by have:=MK c.toNat c.toNat_lt;exact IE
theorem MC:∀g,g<9->1<=g->uT (UInt8.ofNat (48+g))=Zk/\(UInt8.ofNat (48+g)).toNat-48=g:=WS
theorem N9(t:I1)(a:I1)(g:Nat)(h:vY t=S (nI a,Zl))(f:a.length+g<=8):vY (t++ur g)=S (nI (a++List.replicate g 46),Zm (1<=g)):=by
 by_cases i:g=0
 .subst i;simp[ur,h]
 .have e:ur g=[UInt8.ofNat (48+g)]:=by unfold ur;rw[qF i]
  obtain⟨b,d⟩:=MC g O O;rw[e,vj,h];unfold zZ;simp only[b,YS,d,Xo,D7];rw[qF WX,sM,D6];simp;omega
theorem Km(a:I1)(h:a.all wj=Zk)(i:a.length<=8):∃b g,a=b++List.replicate g 46/\(lh a).2=g/\vY (lh a).1=S (nI b,Zl):=by
 induction q:a.length generalizing a with
 | zero =>
  have:a=[]:=Yz.mp q;subst this;exact⟨[],0,R,R,R⟩
 | succ n ih =>
  have d:a≠[]:=λe=>by subst e;simp at q
  obtain⟨m,c,rfl⟩:∃m c,a=m++[c]:=⟨a.dropLast,a.getLast d,(XY d).symm⟩;rw[Xf]at h;simp only[qH,Wc,List.all_nil,Wl]at h;obtain⟨b,g,f,j,k⟩:=ih m h.1 (by simp at i;omega) Ul;rw[qv3];unfold gx;by_cases p:c=46
  .rw[qI p];exact⟨b,g+1,by rw[f,p,qS,<-List.replicate_succ'],by simp[j],k⟩
  .rw[qF p];have l:bz c=Zk:=by have:=h.2;unfold wj at this;simpa[p]using this
   have o:b.length+g+1<=8:=by have:=Xn List.length f;simp at this i;omega
   refine⟨m++[c],0,WU,R,?_⟩;simp only[j];rw[vj,N9 _ b g k O,<-f];unfold zZ;simp only[QV c l,l,qR,YH,YS,D7];rw[qF (by simp at i;omega),sM];rfl
theorem Ku(a:I1)(h:a.all wj=Zk)(j:a.length=8):jL ((lh a).1++ur (lh a).2)=S (nI a):=by
 obtain⟨e,g,d,f,i⟩:=Km a h O;have b:e.length+g<=8:=by have:=Xn List.length d;simp at this;omega
 unfold jL;rw[f,N9 _ e g i b,<-d];simp[D7,j]
theorem Kp(s:I4)(b:Bool)(h:s.data.toList=[if b then 119 else 98]):kO s=S b:=by unfold kO;rw[Xl,h];cases b<;>rfl
def MQ(b0 b1 b2 b3:Bool):Bool :=
 match vS (eE (λi=>if i=0 then b0 else if i=1 then b1 else if i=2 then b2 else b3))with
 | some g=>g 0==b0&&g 1==b1&&g 2==b2&&g 3==b3
 | none=>Zl
theorem Ny:∀a b d e,MQ a b d e=Zk:=WW
theorem Jj(f:Nat->Bool):∃g,vS (eE f)=S g/\g 0=f 0/\g 1=f 1/\g 2=f 2/\g 3=f 3:=by
 have h:=Ny (f 0) (f 1) (f 2) (f 3);unfold MQ at h;have e:eE (λi=>if i=0 then f 0 else if i=1 then f 1 else if i=2 then f 2 else f 3)=eE f:=R;rw[e]at h;cases a:vS (eE f)with
 | none=>rw[a]at h;simp at h
 | some g =>
  rw[a]at h;simp only[qH,YF]at h;exact⟨g,R,h.1.1.1,h.1.1.2,h.1.2,h.2⟩
theorem MV:∀k,k<64->v8 ⟨(xQ k).toArray⟩=S ((k:Nat):Int):=WS
theorem Nz:v8 ⟨#[45]⟩=S (-1):=WS
theorem Jm(n:Int)(h:n=-1\/(0<=n/\n<64))(s:I4)(a:s.data.toList=oO n):v8 s=S n:=by
 have e:s=⟨(oO n).toArray⟩:=by cases s with|mk d=>simp at a |-;rw[<-a]
 rw[e];obtain rfl|⟨b,f⟩:=h
 .exact Nz
 .obtain⟨k,rfl⟩:=Yt b;have:oO (k:Int)=xQ k:=by unfold oO;rw[qF O];simp
  rw[this];exact MV k O
theorem Rk:∀d,d<10->dg (UInt8.ofNat (48+d))=Zk/\(UInt8.ofNat (48+d)).toNat-48=d:=WS
theorem PQ:∀k n,n<=k->dv (Lib.decDigits n)=n/\(Lib.decDigits n).all dg=Zk/\Lib.decDigits n≠[]/\(1<=n->(Lib.decDigits n).head?≠S 48):=by
 intro k;induction k with
 | zero =>
  intro n h;have:n=0:=O
  subst this;unfold Lib.decDigits;rw[Wf O];exact⟨R,WW,WU,λh=>O⟩
 | succ k ih =>
  intro n h;unfold Lib.decDigits;by_cases l:n<10
  .rw[Wf l];obtain⟨b,a⟩:=Rk n l;refine⟨by show 10*0+((UInt8.ofNat (48+n)).toNat-48)=n;omega,by rw[Wc,b];rfl,WU,λj=>?_⟩;simp only[List.head?_cons,ne_eq,Xh];intro e;rw[e]at a;simp at a;omega
  .rw[dif_neg l];obtain⟨d,f,g,i⟩:=ih (n/10) O;obtain⟨b,a⟩:=Rk (n%10) O;refine⟨by rw[yz,d,a];omega,by rw[Xf,f,Wc,b];rfl,WU,λ_=>?_⟩;have:=i O;cases m:Lib.decDigits (n/10)with
   | nil=>exact absurd m g
   | cons x r=>rw[m]at this;simpa using this
theorem dz:∀k n,n<10 ^ (k+1)->(Lib.decDigits n).length<=k+1:=by
 intro k;induction k with
 | zero=>intro n h;unfold Lib.decDigits;rw[Wf Vq];simp
 | succ k ih =>
  intro n h;unfold Lib.decDigits;by_cases a:n<10
  .rw[Wf a];simp
  .rw[dif_neg a,qZ];have:=ih (n/10) (by rw[Nat.pow_succ]at h;omega);simp;omega
theorem Hd(n:Nat)(h:n<=65535):vR (Lib.itoa (n:Int))=S n:=by
 have e:Lib.itoa (n:Int)=Lib.decDigits n:=by unfold Lib.itoa;rw[qF O,YE]
 obtain⟨b,f,g,i⟩:=PQ n n Zy;have d:=dz 4 n WX;rw[e];unfold vR;rw[qI,b];refine⟨List.length_pos_iff.mpr g,d,λa=>?_,f,by rw[b];exact h⟩;by_cases j:1<=n
 .exact i j
 .have:n=0:=O;subst this;unfold Lib.decDigits at a;rw[Wf O]at a;simp at a
theorem PV(B:I1):∀k,((List.range k).map (dL B)).flatten=B.take (8*k)
 | 0=>by simp
 | k+1=>by
  rw[YI,Ys,List.flatten_append,PV B k];simp only[YM,Wi,List.flatten_cons,List.flatten_nil,Yh,dL];rw[show 8*(k+1)=8*k+8 from O,List.take_add]
def sgn(c:UInt8):Bool:=bz c||uT c
theorem MA(g:Nat)(h:g<=8):(ur g).all sgn=Zk:=by
 unfold ur;split
 .rfl
 .have:=(MC g O O).1;rw[Wc];unfold sgn;rw[this];simp
theorem Qo(a:I1)(h:a.all wj=Zk)(d:a.length<=8):(lh a).1.all sgn=Zk/\(lh a).2<=a.length:=by
 induction l:a.length generalizing a with
 | zero =>
  have:a=[]:=Yz.mp l;subst this;exact⟨R,Zy⟩
 | succ n ih =>
  have b:a≠[]:=λe=>by subst e;simp at l
  obtain⟨m,c,rfl⟩:∃m c,a=m++[c]:=⟨a.dropLast,a.getLast b,(XY b).symm⟩;rw[Xf]at h;simp only[qH,Wc,List.all_nil,Wl]at h;have i:m.length=n:=by simpa using l
  obtain⟨f,j⟩:=ih m h.1 U2 i;rw[qv3];unfold gx;by_cases k:c=46
  .rw[qI k];exact⟨f,WX⟩
  .rw[qF k];have g:bz c=Zk:=by have:=h.2;unfold wj at this;simpa[k]using this
   refine⟨?_,WU⟩;rw[Xf,Xf,f,MA _ U2];simp[sgn,g]
theorem LK(a:I1)(h:a.all wj=Zk)(b:a.length<=8):(AQ a).all sgn=Zk:=by obtain⟨d,e⟩:=Qo a h b;unfold AQ;rw[Xf,d,MA _ O];rfl
theorem Qy:sgn 47=Zl:=WW
theorem Qz:sgn 32=Zl:=WW
theorem PK(l:I1)(h:l.all sgn=Zk)(c:UInt8)(a:sgn c=Zl):c∉l:=λb=>by
 have:=qW.mp h c b;rw[a]at this;exact absurd this WW
theorem HY:∀(b:I3) (a:List (I1)),b.map (·.data.toList)=a.map AQ->(∀z∈a,z.length=8/\z.all wj=Zk)->jK b=S (a.map nI)
 | [],[],_,_=>rfl
 | [],z :: t,h,_=>by simp at h
 | x :: t,[],h,_=>by simp at h
 | x :: t,z :: zt,h,hz=>by
  simp only[YM,X7]at h;have d:jL x.data.toList=S (nI z):=by rw[h.1];exact Ku z (hz z WU).2 (hz z WU).1
  have e:=HY t zt h.2 (λy f=>hz y (by simp[f]));unfold jK;rw[d,e];rfl
theorem Lb(B:I1)(b:B.length=64)(h:B.all wj=Zk)(j:Nat)(d:j<8):(dL B j).length=8/\(dL B j).all wj=Zk:=by refine⟨by simp[dL];omega,?_⟩;rw[qW]at h |-;intro c a;exact h c (List.mem_of_mem_drop (List.mem_of_mem_take a))
theorem KH(B:I1)(d:B.length=64)(h:B.all wj=Zk)(x:I4)(m:x.data.toList=dA (zB B)):j7 x=S (nI B):=by
 have a:=oG B d;have f:x.data.toList=Lib.join ((List.range 8).map (λi=>AQ (dL B (7-i)))) [47]:=by rw[m];unfold dA;rw[a]
 have l:=qv4 47 9 (AQ (dL B 7)) ((List.range 7).map (λi=>AQ (dL B (6-i)))) (by
  intro y g
  have:∃j,j<8/\y=AQ (dL B j):=by
   obtain rfl|g:=Yj.mp g
   .exact⟨7,O,R⟩
   .obtain⟨i,_,rfl⟩:=YL.mp g;exact⟨6-i,O,R⟩
  obtain⟨j,f,rfl⟩:=this;obtain⟨p,o⟩:=Lb B d h j f;exact PK _ (LK _ o O) 47 Qy) WU x T1
 have b:(xL 47 9 x).map (·.data.toList)=((List.range 8).map (λi=>dL B (7-i))).map AQ:=by rw[l];rfl
 have k:(xL 47 9 x).length=8:=by have:=Xn List.length b;simpa using this
 unfold j7;rw[qI k,HY _ _ b (by
  intro z n;obtain⟨i,_,rfl⟩:=YL.mp n;exact Lb B d h (7-i) O)]
 simp only[Xh];have e:(List.map nI ((List.range 8).map (λi=>dL B (7-i)))).reverse=((List.range 8).map (dL B)).map nI:=R;rw[e];have:=PV B 8;rw[Yk O]at this;unfold nI;rw[<-List.map_flatten,this]
theorem L7(a:I1):∀(d:List (I1)) (c:UInt8),c∈Lib.join d a->c∈a\/∃x∈d,c∈x
 | [],c,h=>by simp[Lib.join,List.intercalate]at h
 | [x],c,h=>by rw[Lib.join_one]at h;exact Or.inr ⟨x,WU,h⟩
 | x :: y :: r,c,h=>by
  rw[ve,Yi,Yi]at h;obtain(h|h)|h:=h
  .exact Or.inr ⟨x,WU,h⟩
  .exact Or.inl h
  .obtain h|⟨z,b,e⟩:=L7 a (y :: r) c h
   .exact Or.inl h
   .exact Or.inr ⟨z,by simp at b |-;right;exact b,e⟩
theorem Kz(B:I1)(b:B.length=64)(h:B.all wj=Zk):(32:UInt8)∉dA (zB B):=by
 intro a;unfold dA at a;rw[oG B b]at a;obtain d|⟨x,f,e⟩:=L7 _ _ _ a
 .simp at d
 .obtain⟨i,_,rfl⟩:=YL.mp f;obtain⟨j,g⟩:=Lb B b h (7-i) O;exact PK _ (LK _ g O) 32 Qz e
theorem Ls(b:Bool):(32:UInt8)∉([if b then 119 else 98]:I1):=by cases b<;>decide
theorem JY:∀a b d e:Bool,(32:UInt8)∉eE (λi=>if i=0 then a else if i=1 then b else if i=2 then d else e):=WW
theorem J5(f:I5):(32:UInt8)∉eE f:=JY (f 0) (f 1) (f 2) (f 3)
theorem Ky:∀k,k<64->(32:UInt8)∉xQ k:=WS
theorem NR(b:Int)(h:b=-1\/(0<=b/\b<64)):(32:UInt8)∉oO b:=by
 obtain rfl|⟨a,d⟩:=h
 .decide
 .obtain⟨k,rfl⟩:=Yt a;have:oO (k:Int)=xQ k:=by unfold oO;rw[qF O];simp
  rw[this];exact Ky k O
theorem JX(n:Nat):(32:UInt8)∉Lib.itoa (n:Int):=by
 have e:Lib.itoa (n:Int)=Lib.decDigits n:=by unfold Lib.itoa;rw[qF O,YE]
 rw[e];intro a;have:=qW.mp (PQ n n Zy).2.1 32 a;exact absurd this WW
theorem HS(B:I1)(e:B.length=64)(a:B.all wj=Zk)(wh:Bool)(f:Nat->Bool)(b:Int)(i:b=-1\/(0<=b/\b<64))(h g:Nat)(w:h<=65535)(v:g<=65535)(s:I4)
 (x:s.data.toList=oI (zB B) wh f b h g):∃p,xG s=S p/\p.board=nI B/\p.white=wh/\p.castle 0=f 0/\p.castle 1=f 1/\p.castle 2=f 2/\p.castle 3=f 3/\p.behind=b/\p.half=h/\p.full=g:=by
 have d:=qv4 32 7 (dA (zB B)) [[if wh then 119 else 98],eE f,oO b,Lib.itoa (h:Int),Lib.itoa (g:Int)] (by
  intro y j;simp only[Yj,List.mem_nil_iff,or_false]at j;obtain rfl|rfl|rfl|rfl|rfl|rfl:=j
  .exact Kz B e a
  .exact Ls wh
  .exact J5 f
  .exact NR b i
  .exact JX h
  .exact JX g) WU s x
 unfold xG;have u:(xL 32 7 s).length=6:=by have:=Xn List.length d;simpa using this
 match hx:xL 32 7 s,u with
 | [x0,x1,x2,x3,x4,x5],_ =>
  rw[hx]at d;simp only[YM,Wi,X7,and_true]at d;obtain⟨l,m,n,o,q,r⟩:=d;obtain⟨c,c0,c1,c2,c3,k⟩:=Jj f;simp only;unfold Ac;rw[KH B e a x0 l,Kp x1 wh m,n,c0,Jm b i x3 o,q,Hd h w,r,Hd g v];exact⟨_,R,R,R,c1,c2,c3,k,R,R,R⟩
theorem PE:prog.plainKey 5=Zk:=WR
theorem KU:prog.plainKey 4=Zk:=WR
theorem ol:prog.plainKey 3=Zk:=WR
theorem Sa:∃i,prog.info? 5=S i:=Xr.1 (show(prog.info? 5).isSome=Zk from WR)
theorem Rb:∃i,prog.info? 4=S i:=Xr.1 (show(prog.info? 4).isSome=Zk from WR)
theorem Rr:prog.cellsOf 5=1:=WR
theorem Rt:prog.cellsOf 4=1:=WR
theorem Pf:prog.underlying 70=S (.struct (prog.fieldsOf 70)):=WR
theorem Pt:prog.stoodInHeld 70=Zl:=WR
theorem Nt : (prog.fieldsOf 70).toList.map (λf => (f.name != "_", f.type, f.offset)) = [(Zk, 67, 0), (Zk, 4, 64), (Zk, 68, 65), (Zk, 3, 69), (Zk, 3, 70), (Zk, 3, 71)] := WR
theorem PG(a:I0)(w:I6):(part 67 a 0).run prog w=.ok (Zc (a.extract 0 64)) w:=by simp[part,isAgg,run_underlying underlying67,sizeOf,typeInfo];kernel_rfl
theorem RC(a:I0)(w:I6):(part 68 a 65).run prog w=.ok (Zc (a.extract 65 69)) w:=by simp[part,isAgg,run_underlying underlying68,sizeOf,typeInfo];kernel_rfl
theorem Q0{f d:I5}{g:Int}{l m:I0}(r:jE z wh f b h g l)(a:jE z wh d b h g m)(k:∀i,i<4->f i=d i):l=m:=by
 apply YV;intro i;by_cases e:i<64
 .rw[r.sq i e,a.sq i e]
 .by_cases j:i<72
  .have:i=64\/i=65+0\/i=65+1\/i=65+2\/i=65+3\/i=69\/i=70\/i=71:=O;obtain rfl|rfl|rfl|rfl|rfl|rfl|rfl|rfl:=this
   .rw[r.wh,a.wh]
   .rw[r.c 0 O,a.c 0 O,k 0 O]
   .rw[r.c 1 O,a.c 1 O,k 1 O]
   .rw[r.c 2 O,a.c 2 O,k 2 O]
   .rw[r.c 3 O,a.c 3 O,k 3 O]
   .rw[r.b,a.b]
   .rw[r.h,a.h]
   .rw[r.g,a.g]
  .rw[Z6 Vw,Z6 (by rw[a.size];omega)]
theorem A2{B:I1}(v:B.length=64){f:I5}{g:Int}(r:jE (zB B) wh f b h g PA)(k:k6 (zB B) wh f b h g=Zk){e:Ending}(w:zA ⟨(oI (zB B) wh f b h g).toArray⟩ e):e=Zd (Ze #[Zc PA,I L 0]):=by
 obtain⟨x,y,z,A⟩:=nG k;have d:B.all wj=Zk:=by rw[qW];intro c m;obtain⟨i,o,rfl⟩:=List.getElem_of_mem m;have:=x i O;unfold zB at this;rwa[YR,Yf o]at this
 obtain⟨n,rfl⟩:=Yt z.1;obtain⟨gn,rfl⟩:=Yt (show 0<=g from O);obtain⟨p,p1,p2,p3,c0,c1,c2,c3,p4,p5,p6⟩:=HS B v d wh f b y n gn O O ⟨(oI (zB B) wh f b n gn).toArray⟩ R;have m:∀i,i<4->p.castle i=f i:=λi o=>by exact Ij
 have j:xP p=Zk:=by unfold xP;rw[ip p2,p3,p4,p5,p6,fx _ _ _ _ _ m];exact k
 have l:jE (zB B) wh p.castle b n gn (jV p):=by have:=jo p1;rwa[ip p2,p3,p4,p5,p6]at this
 obtain⟨q,a,_,rfl⟩|⟨q,a,u,_⟩|⟨a,_⟩:=w
 .have:q=p:=qP (a.symm.trans p1);rw[this,Q0 l r m]
 .have:q=p:=qP (a.symm.trans p1);rw[this,j]at u;cases u
 .rw[p1]at a;cases a
theorem tN{f:I5}{g:Int}(k:k6 z wh f b h g=Zk):(⟨(oI z wh f b h g).toArray⟩:I4).size<4294967281:=by obtain⟨_,_,a,d⟩:=nG k;have e:=HT z;have i:=D2 f;have j:=JH b;have l:=HP h a.1 a.2;have m:=HP g O d.2;show(oI z wh f b h g).toArray.size<_;rw[Ya];unfold oI;rw[Lib.join_length];simp only[Lib.lens,Yq,XN,YM,Wi,List.sum_cons,List.sum_nil];omega
theorem Sk(W:I6):(Instr.sliceAt 9 (Zb ⟨#[48,49,50,51,52,53,54,55,56,57]⟩) (S (I Zh 0)) (S (I Zh 1)) N).run prog W=.ok (Zb ⟨#[48]⟩) W:=WR
theorem Sj(W:I6):(Instr.sliceAt 9 (Zb ⟨#[48,49,50,51,52,53,54,55,56,57]⟩) (S (I Zh 1)) (S (I Zh 2)) N).run prog W=.ok (Zb ⟨#[49]⟩) W:=WR
theorem Si(W:I6):(Instr.sliceAt 9 (Zb ⟨#[48,49,50,51,52,53,54,55,56,57]⟩) (S (I Zh 2)) (S (I Zh 3)) N).run prog W=.ok (Zb ⟨#[50]⟩) W:=WR
theorem Sh(W:I6):(Instr.sliceAt 9 (Zb ⟨#[48,49,50,51,52,53,54,55,56,57]⟩) (S (I Zh 3)) (S (I Zh 4)) N).run prog W=.ok (Zb ⟨#[51]⟩) W:=WR
theorem Sg(W:I6):(Instr.sliceAt 9 (Zb ⟨#[48,49,50,51,52,53,54,55,56,57]⟩) (S (I Zh 4)) (S (I Zh 5)) N).run prog W=.ok (Zb ⟨#[52]⟩) W:=WR
theorem Sf(W:I6):(Instr.sliceAt 9 (Zb ⟨#[48,49,50,51,52,53,54,55,56,57]⟩) (S (I Zh 5)) (S (I Zh 6)) N).run prog W=.ok (Zb ⟨#[53]⟩) W:=WR
theorem Se(W:I6):(Instr.sliceAt 9 (Zb ⟨#[48,49,50,51,52,53,54,55,56,57]⟩) (S (I Zh 6)) (S (I Zh 7)) N).run prog W=.ok (Zb ⟨#[54]⟩) W:=WR
theorem Sd(W:I6):(Instr.sliceAt 9 (Zb ⟨#[48,49,50,51,52,53,54,55,56,57]⟩) (S (I Zh 7)) (S (I Zh 8)) N).run prog W=.ok (Zb ⟨#[55]⟩) W:=WR
theorem Sc(W:I6):(Instr.sliceAt 9 (Zb ⟨#[48,49,50,51,52,53,54,55,56,57]⟩) (S (I Zh 8)) (S (I Zh 9)) N).run prog W=.ok (Zb ⟨#[56]⟩) W:=WR
theorem Sb(W:I6):(Instr.sliceAt 9 (Zb ⟨#[48,49,50,51,52,53,54,55,56,57]⟩) (S (I Zh 9)) (S (I Zh 10)) N).run prog W=.ok (Zb ⟨#[57]⟩) W:=WR
theorem Bb(d:Nat)(a:d<10)(W:I6):(Instr.sliceAt 9 (Zb ⟨#[48,49,50,51,52,53,54,55,56,57]⟩) (S (I Zh d)) (S (I Zh ((d:Int)+1))) N).run prog W=.ok (Zb ⟨#[UInt8.ofNat (48+d)]⟩) W:=by
 have:d=0\/d=1\/d=2\/d=3\/d=4\/d=5\/d=6\/d=7\/d=8\/d=9:=O;obtain rfl|rfl|rfl|rfl|rfl|rfl|rfl|rfl|rfl|rfl:=this
 .exact Sk W
 .exact Sj W
 .exact Si W
 .exact Sh W
 .exact Sg W
 .exact Sf W
 .exact Se W
 .exact Sd W
 .exact Sc W
 .exact Sb W
theorem eP(d:Nat):UInt8.ofNat (48+d)=48+UInt8.ofNat d:=by simp[UInt8.ofNat_add]
theorem H5(c:UInt8)(u:I4):((⟨#[c]⟩:I4)++u).data.toList=c :: u.data.toList:=by rw[j3];rfl
theorem fm(n:Nat)(h:n<100000)(w:I6):ZL 75 #[I Zh n] w (Zb ⟨(Lib.decDigits n).toArray⟩):=by
 go_enter func75,ntmps75;go_wp2;go_loopg [0,3] n (λx nn ss wr=>∃(m:Nat)(u:I4),m<=x/\u.size+m<=n/\nn=I Zh m/\ss=Zb u/\Lib.decDigits n=Lib.decDigits m++u.data.toList/\Gr w wr)
 case atStart=>exact⟨n,⟨#[]⟩,Zy,Nat.le_of_eq (Z2 n),R,R,WU,ZO⟩
 case round=>
  obtain⟨m,u,H,e,rfl,rfl,b,l⟩:=hrel;have a:=X b;have f:=X l;clear b l;by_cases J:9<m
  .obtain⟨d,y⟩:∃d:Nat,m%10=d:=⟨_,R⟩;obtain⟨q,z⟩:∃q:Nat,m/10=q:=⟨_,R⟩;have j:d<10:=O;have F:(m:Int).tmod 10=(d:Int):=Vu;have G:(m:Int).tdiv 10=(q:Int):=Uh;have B:(m:Int)%10=d:=O;have C:(m:Int)/10=q:=O;have v:IntKind.u64.wrap ((d:Int)+1)=(d:Int)+1:=Vh;have D:IntKind.u64.wrap (q:Int)=q:=Vh;have E:IntKind.u64.wrap (d:Int)=d:=Vh;have i:=Bb d j;have o:Y (Lib.decDigits n=Lib.decDigits q++((⟨#[UInt8.ofNat (48+d)]⟩:I4)++u).data.toList):=X (by
    rw[a.a,H5]
    conv=>lhs;arg 1;unfold Lib.decDigits
    rw[dif_neg O,z,y,qS];rfl)
   have A:q<m:=O;have p:Y (((⟨#[UInt8.ofNat (48+d)]⟩:I4)++u).size+q<=n):=X (by
    have:((⟨#[UInt8.ofNat (48+d)]⟩:I4)++u).size=1+u.size:=by rw[Yn];rfl
    omega)
   have r:u.size<100000:=O;rw[eP]at i o p;go_wp2;go_roundg q
   case measure=>omega
   case rel=>exact⟨q,_,Zy,p.a,R,R,o.a,f.a⟩
  .have g:m<10:=O;have v:IntKind.u64.wrap ((m:Int)+1)=(m:Int)+1:=Vh;have i:=Bb m g;have r:u.size<100000:=O;have k:Y ((⟨#[48+UInt8.ofNat m]⟩:I4)++u=⟨(Lib.decDigits n).toArray⟩):=X (by
    have:(Lib.decDigits n).toArray=((⟨#[48+UInt8.ofNat m]⟩:I4)++u).data:=by
     rw[a.a];unfold Lib.decDigits;rw[Wf g,eP];apply Array.toList_inj.1;rw[H5];rfl
    rw[this])
   rw[eP]at i;go_wp2;go_ret;exact⟨by rw[<-k.a];rfl,f.a⟩
theorem MO(n:Nat)(h:n<10)(b:n≠0):Lib.decDigits n=ur n:=by unfold Lib.decDigits ur;rw[Wf h,qF b]
def stR(z:I2)(j:Nat):I1 × Nat:=if j<8 then DV z j else(oJ z,0)
theorem SG(z:I2):stR z 0=([],0):=R
theorem LR(z:I2):stR z 8=(oJ z,0):=R
theorem Hk(z:I2)(j:Nat)(h:j<8):stR z j=DV z j:=qI h
theorem Pv(z:I2)(j:Nat)(h:j<7)(e:z j=46):stR z (j+1)=((stR z j).1,(stR z j).2+1):=by rw[Hk z j O,Hk z (j+1) O];show(if z j=46 then _ else _)=_;rw[qI e]
theorem M5(z:I2)(e:z 7=46):stR z 8=((stR z 7).1++ur ((stR z 7).2+1),0):=by
 rw[LR,Hk z 7 O];have:DV z 8=((DV z 7).1,(DV z 7).2+1):=by show(if z 7=46 then _ else _)=_;rw[qI e]
 unfold oJ;rw[this]
theorem Pu(z:I2)(j:Nat)(h:j<8)(e:z j≠46):stR z (j+1)=((stR z j).1++ur (stR z j).2++[z j],0):=by
 rw[Hk z j h];have a:DV z (j+1)=((DV z j).1++ur (DV z j).2++[z j],0):=by show(if z j=46 then _ else _)=_;rw[qF e]
 by_cases b:j=7
 .subst b;rw[LR];unfold oJ;rw[a];simp[ur]
 .rw[Hk z (j+1) O,a]
theorem N7(z:I2)(j:Nat)(h:j<=8):(stR z j).1.length<=17/\(stR z j).2<=8:=by
 by_cases d:j<8
 .rw[Hk z j d];have:=JG z j;omega
 .have:j=8:=O;subst this;rw[LR];have a:=JG z 8;have b:(ur (DV z 8).2).length<=1:=U0;refine⟨?_,WU⟩;show(oJ z).length<=17;unfold oJ;rw[qZ];omega
def rowsT(z:Nat->UInt8):Nat->I1
 | 0=>[]
 | k+1=>rowsT z k++oJ (λf=>z (8*(7-k)+f))++(if k<7 then[47]else[])
theorem Ad(z:Nat->UInt8):∀k,(rowsT z k).length<=18*k
 | 0=>Zy
 | k+1=>by
  have b:=Ad z k;have a:=(N7 (λf=>z (8*(7-k)+f)) 8 Zy).1;rw[LR]at a;have:(if k<7 then[47]else[]:I1).length<=1:=by split<;>simp
  show(rowsT z k++oJ (λf=>z (8*(7-k)+f))++(if k<7 then[47]else[])).length<=_;simp only[qZ];simp only at a;omega
theorem Kq(z:I2):rowsT z 8=dA z:=by have e:(eB z).map (·.data.toList)=[oH z 0,oH z 1,oH z 2,oH z 3,oH z 4,oH z 5,oH z 6,oH z 7]:=R;unfold dA;rw[e];simp only[ve,Lib.join_one];simp[rowsT,oH]
theorem Kc(n:Nat):Lib.itoa (n:Int)=Lib.decDigits n:=by unfold Lib.itoa;rw[qF O,YE]
theorem Pk(z:I2)(wh:Bool)(f:I5)(b:Int)(h g:Nat):oI z wh f b h g=rowsT z 8++[32,if wh then 119 else 98,32]++eE f++[32]++oO b++[32]++Lib.decDigits h++[32]++Lib.decDigits g:=by unfold oI;simp only[ve,Lib.join_one];rw[Kq,Kc,Kc];simp
theorem Nw(W:I6)(c:UInt8):(convert 145 9 (Zq (S ⟨W.heap.size,0,N⟩) 1 1)).run prog (W.alloc (Z #[I Zg c.toNat] 5))=.ok (Zb ⟨#[c]⟩) (W.alloc (Z #[I Zg c.toNat] 5)) :=
 qq4 (W.alloc (Z #[I Zg c.toNat] 5)) ⟨W.heap.size,0,N⟩ 1 [c] (by
  intro i a;have:i=0:=by simp at a;omega
  subst this;rw[X2,Z2,Z8 _ _ _ _ R];rfl)
theorem Ke(n:Nat)(h:n<=65535):(⟨(Lib.decDigits n).toArray⟩:I4).size<=70000:=by show(Lib.decDigits n).toArray.size<=_;rw[Ya];have:=Jg n n Zy;omega
theorem QN{b:Nat}{u:I7}(h:zJ b A w1)(a:A[i]?=S u)(d:A[j]?=S v)(g:Gr w1 w'):Gr w1 w'/\w'.cell? ⟨b,i,N⟩=S u/\w'.cell? ⟨b,j,N⟩=S v :=
 ⟨g,(h.gr g).at' a,(h.gr g).at' d⟩
theorem TL(W:I6):(Instr.sliceAt 9 (Zb ⟨#[75,81,107,113]⟩) (S (I L 0)) (S (I L 1)) N).run prog W=.ok (Zb ⟨#[vn 0]⟩) W:=WR
theorem TJ(W:I6):(Instr.sliceAt 9 (Zb ⟨#[75,81,107,113]⟩) (S (I L 1)) (S (I L 2)) N).run prog W=.ok (Zb ⟨#[vn 1]⟩) W:=WR
theorem TI(W:I6):(Instr.sliceAt 9 (Zb ⟨#[75,81,107,113]⟩) (S (I L 2)) (S (I L 3)) N).run prog W=.ok (Zb ⟨#[vn 2]⟩) W:=WR
theorem TH(W:I6):(Instr.sliceAt 9 (Zb ⟨#[75,81,107,113]⟩) (S (I L 3)) (S (I L 4)) N).run prog W=.ok (Zb ⟨#[vn 3]⟩) W:=WR
theorem Mw{f:I5}{g:Int}(r:jE z wh f b h g PA)(hb:b=-1\/(0<=b/\b<64))(h0:0<=h/\h<=65535)(g0:0<=g/\g<=65535)(w:I6):ZL 73 #[Zc PA] w (Zb ⟨(oI z wh f b h g).toArray⟩):=by
 have C:Y (zJ w.heap.size PA (w.alloc (Z PA 70))):=X (qy Zv);have b7:Y (Gr w (w.alloc (Z PA 70))):=X ZN;have h4:=X r.sq;go_enter func73,ntmps73;go_wp2;generalize w.alloc (Z PA 70)=w1 at C b7 |-;go_loopg [3,4] 8 (λgg ss rr wr=>∃(k:Nat)(u:I4),k+gg=8/\rr=I L (7-(k:Int))/\ss=Zb u/\u.data.toList=rowsT z k/\Gr w1 wr)
 case atStart=>exact⟨0,⟨#[]⟩,R,R,R,R,ZO⟩
 case round=>
  obtain⟨k,u,k1,rfl,rfl,hu,c4⟩:=hrel;have p0:u.size<=144:=by have:=Ad z k;rw[<-hu,ZX,YY]at this;omega
  have c6:=X hu;have d:=X c4;clear hu c4;by_cases r3:k<8
  .have n1:(0:Int)<=7-(k:Int):=O;have n2:(k:Int)<=7:=O;obtain⟨zr,d3⟩:∃zr:I2,Y (zr=λf=>z (8*(7-k)+f)):=⟨_,X R⟩;go_wp2;go_loopg [3,5,6] 8 (λgg ss nn ff wr=>∃(j:Nat)(v:I4),j+gg=8/\ff=I L j/\ss=Zb v/\nn=I L ((stR zr j).2:Nat)/\v.data.toList=rowsT z k++(stR zr j).1/\Gr w1 wr)
   case atStart=>exact⟨0,u,R,R,R,R,by rw[c6.a,SG];simp,d.a⟩
   case round=>
    obtain⟨j,v,j1,rfl,rfl,rfl,hv,n⟩:=hrel;obtain⟨m,hm⟩:=Zn ((stR zr j).2);have f0:=N7 zr j O;rw[hm.a]at f0;have d0:v.size<=200:=by have h1:=Ad z k;have E:=Xn List.length hv;rw[qZ,ZX,YY]at E;omega
    have p:=X hv;have a:=X n;have B:=C.a.gr n;clear hv n;rw[hm.a];by_cases hj:j<8
    .obtain⟨o,ho⟩:∃o:Nat,8*(7-k)=o:=⟨_,R⟩;have n7:8*(7-(k:Int))=(o:Int):=O;have r0:IntKind.i64.wrap (8*(7-(k:Int)))=(o:Int):=Vc;have g9:o+j<64:=O;have F:=B.at' (h4.a (o+j) g9);have k0:Y (zr j=z (o+j)):=X (by rw[d3.a,ho]);rw[<-k0.a]at F;clear B;by_cases hd:zr j=46
     .have k8:Y (zr j=46):=X hd;rw[hd]at F;by_cases h7:j<7
      .have n5:((j:Int)==7)=Zl:=Vp;have q:=X (Pv zr j h7 hd);clear hd;go_wp2;go_roundg (gk-1)
       case measure=>omega
       case rel=>exact⟨j+1,v,O,Vg,R,by rw[q.a,hm.a];rfl,by rw[q.a];exact p.a,a.a⟩
      .have e7:j=7:=O;subst e7;have q:=X (M5 zr hd);have G:Y (∀W:I6,ZL 75 #[I Zh ((m:Int)+1)] W (Zb ⟨(ur (m+1)).toArray⟩)):=X λW=>by have:=fm (m+1) O W;rwa[MO (m+1) O O]at this
       have g2:(⟨(ur (m+1)).toArray⟩:I4).size=1:=by unfold ur;rw[qF O];rfl
       clear hd;go_wp2_with(go_at_call 75;refine Z0 (G.a _) λw' hg=>?_);go_roundg (gk-1)
       case measure=>omega
       case rel=>refine⟨8,_,O,R,R,by rw[q.a]<;>rfl,?_,Gr.trans a.a hg⟩;rw[j3,p.a,q.a,hm.a,qS]
     .have n0:(((zr j).toNat:Int)==46)=Zl:=by rw[qM];intro hh;exact hd (q6.1 (by show(zr j).toNat=46;omega))
      have q:=X (Pu zr j hj hd);have m6:=λW=>Nw W (zr j);clear hd;by_cases h2:m=0
      .subst h2;go_wp2;go_roundg (gk-1)
       case measure=>omega
       case rel=>refine⟨j+1,_,O,Vg,R,by rw[q.a]<;>rfl,?_,a.a.alloc _ _⟩;rw[j3,p.a,q.a,hm.a];simp[ur]
      .have G:Y (∀W:I6,ZL 75 #[I Zh m] W (Zb ⟨(ur m).toArray⟩)):=X λW=>by have:=fm m O W;rwa[MO m O h2]at this
       have g2:(⟨(ur m).toArray⟩:I4).size=1:=by unfold ur;rw[qF h2];rfl
       have n4:(0:Int)<(m:Int):=O;go_wp2_with(go_at_call 75;refine Z0 (G.a _) λw' hg=>?_);go_roundg (gk-1)
       case measure=>omega
       case rel=>refine⟨j+1,_,O,Vg,R,by rw[q.a]<;>rfl,?_,(Gr.trans a.a hg).alloc _ _⟩;rw[j3,j3,p.a,q.a,hm.a];simp
    .have ej:j=8:=O;subst ej;have r1:IntKind.i64.wrap (7-(k:Int)-1)=7-((k+1:Nat):Int):=Vc;have y:Y (v.data.toList++(if k<7 then[47]else[])=rowsT z (k+1)):=X (by rw[p.a,LR,d3.a];rfl);by_cases r2:k<7
     .rw[qI r2]at y;have n3:(0:Int)<7-(k:Int):=O;go_wp2;go_roundg (7-k)
      case measure=>omega
      case rel=>exact⟨k+1,_,O,R,R,by rw[j3,<-y.a],a.a⟩
     .rw[qF r2]at y;have d4:k=7:=O;subst d4;go_wp2;go_roundg 0
      case measure=>omega
      case rel=>exact⟨8,v,O,R,R,by rw[<-y.a];simp,a.a⟩
  .have ek:k=8:=O;subst ek;obtain⟨sd,b0⟩:∃l:I1,Y (l=rowsT z 8++[32,if wh then 119 else 98,32]):=⟨_,X R⟩;have Q:Y (sd.length<=150):=X (by
    rw[b0.a,qZ];have:=Ad z 8;simp;omega)
   have h9:=(C.a.gr d.a).at' r.wh;have b4:=X r.c;have b3:=X r.b;have a7:=X r.h;have a0:=X r.g;clear r;go_upto_if 57 with fail;go_cut [3]from 58 to 61 (λs3 wx=>∃t:I4,s3=Zb t/\t.data.toList=sd/\Gr w1 wx)
   case first=>
    cases wh;all_goals
     go_wp2_with fail;go_meet
     case rel=>exact⟨_,R,by rw[j3,c6.a,b0.a];rfl,d.a⟩
   case rest=>
    obtain⟨t,rfl,t0,P⟩:=hcut;have h5:=X t0;have g4:=X P;clear t0 P h9;go_wp2;go_loopg [3,8,9] 4 (λgg ss sm ii k3=>∃(i:Nat)(v:I4),i+gg=4/\ii=I L i/\ss=Zb v/\sm=Za (!(E5 f i).isEmpty)/\v.data.toList=sd++E5 f i/\Gr w1 k3)
    case atStart=>exact⟨0,t,R,R,R,R,by rw[h5.a];simp[E5],g4.a⟩
    case round=>
     obtain⟨i,v,i1,rfl,rfl,rfl,hv,n⟩:=hrel;have B:=C.a.gr n;have d0:v.size<=160:=by have h1:=Q.a;have h3:=Jt f i;have E:=Xn List.length hv;rw[qZ,ZX,YY]at E;omega
     have p:=X hv;have a:=X n;clear hv n;obtain⟨sm,K⟩:=Zn (!(E5 f i).isEmpty);rw[K.a];by_cases r3:i<4
     .have g7:i=0\/i=1\/i=2\/i=3:=O;have f8:=B.at' (b4.a i r3);obtain⟨fv,M⟩:=Zn (f i);rw[M.a]at f8;obtain⟨i',H⟩:∃j,Y (j=i+1):=⟨_,X R⟩;have c5:Y (i'+(gk-1)=4):=X (by have:=H.a;omega);have b1:Y (fv=Zl->E5 f i'=E5 f i):=X (λh=>by rw[H.a,oN,M.a,h];simp);have hwT:Y (fv=Zk->E5 f i'=E5 f i++[vn i]):=X (λh=>by rw[H.a,oN,M.a,h];simp);have s0:=TL;have s1:=TJ;have s2:=TI;have s3:=TH;clear B M;obtain rfl|rfl|rfl|rfl:=g7;all_goals
       cases fv
       .have r7:=X (b1.a R);clear b1 hwT;go_wp2;go_roundg (gk-1)
        case measure=>omega
        case rel=>exact⟨i',v,c5.a,by rw[H.a];go_num,R,by rw[r7.a,K.a],by rw[r7.a];exact p.a,a.a⟩
       .have r7:=X (hwT.a R);clear b1 hwT;go_wp2;go_roundg (gk-1)
        case measure=>omega
        case rel=>exact⟨i',_,c5.a,by rw[H.a];go_num,R,by rw[r7.a];simp,by rw[j3,p.a,r7.a,qS],a.a⟩
     .have ei:i=4:=O;subst ei;have k5:=B.at' b3.a;have m1:=B.at' a7.a;have m0:=B.at' a0.a;have g5:=a7;have g1:=a0;clear B b4 b3 a7 a0;obtain⟨r4,rfl⟩:=Yt h0.1;obtain⟨gn,rfl⟩:=Yt g0.1;have g6:r4<=65535:=O;have g3:gn<=65535:=O;have k9:(⟨(Lib.decDigits r4).toArray⟩:I4).size<=70000:=Ke r4 g6;have l0:(⟨(Lib.decDigits gn).toArray⟩:I4).size<=70000:=Ke gn g3;clear h0 g0;have p8:IntKind.u64.wrap (r4:Int)=r4:=Vh;have p7:IntKind.u64.wrap (gn:Int)=gn:=Vh;have h6:=X (Pk z wh f b r4 gn);have a9:Y (eE f=if sm then E5 f 4 else[45]):=X (by
       unfold eE;rw[<-K.a];cases (E5 f 4).isEmpty<;>rfl)
      go_upto_if 77 with fail;go_cut [3]from 78 to 79 (λs3 wx=>∃T:I4,s3=Zb T/\T.data.toList=sd++eE f/\wx=wr)
      case first=>
       cases sm
       .have b5:Y (E5 f 4=[]):=X (by have:=K.a;simpa using this);go_wp2_with fail;go_meet
        case rel=>exact⟨_,R,by rw[j3,p.a,a9.a,b5.a];simp,R⟩
       .go_wp2_with fail;go_meet
        case rel=>exact⟨_,R,by rw[p.a,a9.a];rfl,R⟩
      case rest=>
       obtain⟨T,rfl,s9,d1⟩:=hcut;have d2:=d1.symm;subst d2;have b2:=X s9;have m2:T.size<=200:=by have h1:=Q.a;have E:=Xn List.length b2.a;have h3:=D2 f;rw[qZ,ZX,YY]at E;omega
       clear d1 s9 p d0 K a9;obtain⟨bb,s8⟩:=Zo (Zm (0<=b));go_upto_if 82 with fail;go_cut [10]from 83 to 85 (λk2 wx=>∃r6:I4,k2=Zb r6/\r6.data.toList=oO b/\Gr wr wx)
       case first=>
        obtain hb|⟨s7,d5⟩:=hb
        .have E:bb=Zl:=by rw[<-s8,hb];rfl
         subst E;have hN:Y (oO b=[45]):=X (by rw[hb];rfl);clear hb;go_wp2_with fail;go_meet
         case rel=>exact⟨_,R,by rw[hN.a],ZO⟩
        .have E:bb=Zk:=by rw[<-s8];exact qJ s7
         subst E;obtain⟨bn,rfl⟩:=Yt s7;have f7:bn<64:=O;have h8:Y (oO (bn:Int)=xQ bn):=X (by unfold oO;rw[qF O,YE]);have g8:Y (∀W:I6,ZL 110 #[I L bn] W (Zb ⟨(xQ bn).toArray⟩)):=X λW=>qxo bn f7 W;clear s7 d5;go_wp2_with(first|(go_at_call 110;refine Z0 (g8.a _) λwn D=>?_));go_meet
         case rel=>exact⟨_,R,by rw[h8.a],D⟩
       case rest=>
        obtain⟨r6,rfl,s5,D⟩:=hcut;have hN:=X s5;have k4:r6.size<=2:=by have E:=Xn List.length s5;rw[ZX,YY]at E;rw[E];unfold oO;split<;>simp[xQ]
        clear s5 s8 hb;have J:=(C.a.gr a.a).gr D;have a8:=g5.a;have d:=g1.a;obtain⟨A1,a1⟩:∃A,Y (A=T++(⟨#[32]⟩:I4)):=⟨_,X R⟩;obtain⟨r5,a2⟩:∃A,Y (A=A1++r6):=⟨_,X R⟩;obtain⟨A3,a3⟩:∃A,Y (A=r5++(⟨#[32]⟩:I4)):=⟨_,X R⟩;obtain⟨V,a4⟩:∃A,Y (A=A3++(⟨(Lib.decDigits r4).toArray⟩:I4)):=⟨_,X R⟩;obtain⟨A5,a5⟩:∃A,Y (A=V++(⟨#[32]⟩:I4)):=⟨_,X R⟩;obtain⟨A6,a6⟩:∃A,Y (A=A5++(⟨(Lib.decDigits gn).toArray⟩:I4)):=⟨_,X R⟩;have l1:A1.size<=201:=by rw[a1.a,Yn];show T.size+1<=_;omega
        have l2:r5.size<=203:=by rw[a2.a,Yn];omega
        have l3:A3.size<=204:=by rw[a3.a,Yn];show r5.size+1<=_;omega
        have l4:V.size<=70204:=by rw[a4.a,Yn];omega
        have l5:A5.size<=70205:=by rw[a5.a,Yn];show V.size+1<=_;omega
        have f1:∀W:I6,(Op.stringOp .add T (⟨#[32]⟩:I4)).run prog W=.ok (Zb A1) W:=λW=>by rw[a1.a];exact Xy W T _ (by show T.size+1<=_;omega)
        have f2:∀W:I6,(Op.stringOp .add A1 r6).run prog W=.ok (Zb r5) W:=λW=>by rw[a2.a];exact Xy W A1 _ O
        have f3:∀W:I6,(Op.stringOp .add r5 (⟨#[32]⟩:I4)).run prog W=.ok (Zb A3) W:=λW=>by rw[a3.a];exact Xy W r5 _ (by show r5.size+1<=_;omega)
        have f4:∀W:I6,(Op.stringOp .add A3 (⟨(Lib.decDigits r4).toArray⟩:I4)).run prog W=.ok (Zb V) W:=λW=>by rw[a4.a];exact Xy W A3 _ O
        have f5:∀W:I6,(Op.stringOp .add V (⟨#[32]⟩:I4)).run prog W=.ok (Zb A5) W:=λW=>by rw[a5.a];exact Xy W V _ (by show V.size+1<=_;omega)
        have f6:∀W:I6,(Op.stringOp .add A5 (⟨(Lib.decDigits gn).toArray⟩:I4)).run prog W=.ok (Zb A6) W:=λW=>by rw[a6.a];exact Xy W A5 _ O
        have b6:Y (A6=⟨(oI z wh f b r4 gn).toArray⟩):=X (by
         have:A6.data.toList=oI z wh f b r4 gn:=by rw[h6.a,a6.a,j3,a5.a,j3,a4.a,j3,a3.a,j3,a2.a,j3,a1.a,j3,b2.a,b0.a,hN.a]
         rw[<-this])
        go_upto_region 34 with fail;go_region_held3 (λw'=>Gr wc w'/\w'.cell? ⟨w.heap.size,70,N⟩=S (I L r4)/\w'.cell? ⟨w.heap.size,71,N⟩=S (I L gn)) (first|exact QN J a8 d ZO.drew|exact QN J a8 d ‹_›|exact QN J a8 d (Gr.alloc (vy ‹_›) _ _)) (first|(go_at_call 75;refine Z0 (fm _ O _) λw' hg=>?_;have f9:=Gr.trans (vy ‹_›) hg));go_wp2;go_ret;exact⟨by rw[<-b6.a];rfl,Gr.trans b7.a (Gr.trans (Gr.trans a.a D) f9)⟩
def isTrue:I7->Bool
 | Za Zk=>Zk
 | _=>Zl
instance (c : UInt8) : Decidable (DO c) := by unfold DO; infer_instance
theorem LU:∀n,n<256->DO (UInt8.ofNat n):=WS
theorem JZ(c:UInt8):DO c:=by have:=LU c.toNat c.toNat_lt;rwa[UInt8.ofNat_toNat]at this
theorem K5(z:I2)(B:I0)(V:B.size=64)(A:∀i,i<64->B[i]?=S (I Zg (z i).toNat))(w:I6):ZL 328 #[Zc B] w (Za (uw z)):=by
 have y:=X A;clear A;have u:Y ((w.alloc (Z B 67)).heap[w.heap.size]?=S (Z B 67)):=X (Z7 w _);go_enter func328,ntmps328;go_wp2_with(refine ZV R 67 _ R w.heap.size R 67 B (0,0) _ u.a underlying67 rfl (by rw[V];exact x7) ?_);go_loopg [3,7] 64 (λg l n wr=>∃k:Nat,k+g=64/\n=I L k/\l=I L (ws z k:Nat)/\(∀j,j<k->(yB (z j)||vG (z j))=Zk)/\wr=w.alloc (Z B 67))
 case atStart=>exact⟨0,R,R,R,λj C=>absurd C (Yy j),R⟩
 case round=>
  obtain⟨k,Q,rfl,rfl,E,rfl⟩:=hrel;have p:=X E;clear E;by_cases T:k<64
  .have v:=G1 B k T _ (y.a k T);have G:0<=(k:Int):=O;have H:(k:Int)<64:=O;have D:=EH z k;have a:=X (sU z k);have b:Y ((yB (z k)||vG (z k))=Zk->∀j,j<k+1->(yB (z j)||vG (z j))=Zk):=X (λh j C=>by
    by_cases W:j=k
    .subst W;exact h
    .exact p.a j O)
   rcases JZ (z k)with⟨f,d,x⟩|⟨f,d,x⟩|⟨f,d⟩
   .have m:=X (b.a T1);have o:Y (ws z (k+1)=ws z k):=X (by rw[a.a,d];rfl);clear b a f d;obtain e|e|e:=x;all_goals
     rw[e]at v;clear e;go_wp2;go_roundg (gk-1)
     case measure=>omega
     case rel=>exact⟨k+1,O,Vg,by rw[o.a],m.a,R⟩
   .have m:=X (b.a Oi);have o:Y (ws z (k+1)=ws z k+1):=X (by rw[a.a,d];rfl);clear b a f d;obtain e|e|e|e:=x;all_goals
     rw[e]at v;clear e;go_wp2;go_roundg (gk-1)
     case measure=>omega
     case rel=>exact⟨k+1,O,Vg,(by rw[o.a];go_num),m.a,R⟩
   .have r:=X (tT T f);have J:=d 46 WU;have K:=d 75 WU;have a1:=d 107 WU;have M:=d 78 WU;have a2:=d 110 WU;have a0:=d 66 WU;have P:=d 98 WU;clear d f b a;go_wp2;go_ret;exact⟨by rw[r.a];rfl,ZN⟩
  .have F:k=64:=O;subst F;have q:=X (tU p.a);clear p;go_wp2;go_ret;exact⟨by rw[q.a];rfl,ZN⟩
theorem NN(z:I2)(B:I0)(h:B.size=64)(f:∀i,i<64->B[i]?=S (I Zg (z i).toNat))(c:Bool)(n:Int)(w:I6):ZL 292 #[Zc B,Za c,I L n] w (I L (yO z c n)):=by
 have g:=X (λW=>K5 z B h f W);have a:Y ((w.alloc (Z B 67)).heap[w.heap.size]?=S (Z B 67)):=X (Z7 w _);have b:Y (Gr w (w.alloc (Z B 67))):=X ZN;unfold yO;generalize uw z=D at g |-;clear f;by_cases l:n=0
 .subst l;rw[qI R];cases c;all_goals
   go_enter func292,ntmps292;go_wp2_with fail;go_ret;exact⟨R,b.a⟩
 .rw[qF l];have j:(n==0)=Zl:=qM.2 l;cases D;all_goals
   go_enter func292,ntmps292
   go_wp2_with(first
    | (refine ZV R 67 _ R w.heap.size R 67 B (0,0) _ a.a underlying67 rfl (by rw[h];exact x7) ?_)
    | (go_at_call 328;refine Z0 (g.a _) λk d=>?_))
   go_ret;exact⟨R,Gr.trans b.a d⟩
structure Lk(w:I6)(PA:I0)(W:I6):Prop where
 ck:Ck w 60 61 PA W
 st:W.heap[w.heap.size+2]?=S (Z (xB Zl 0 0) 186)
theorem Lk.next(h:Lk w PA W)(g:Gr W a):Lk w PA a :=
 ⟨h.ck.next g,(ZE g h.st)⟩
theorem Lk.c0(h:Lk w PA W):W.cell? ⟨w.heap.size,0,N⟩=S (.func (.func 60) #[] #[]):=by rw[Zs h.ck.q];rfl
theorem Lk.c1(h:Lk w PA W):W.cell? ⟨w.heap.size,1,N⟩=S (.func (.func 61) #[] #[]):=by rw[Zs h.ck.q];rfl
theorem Nc(w:I6)(PA:I0):Lk w PA (((w.alloc (Z (zG 60 61) 74)).alloc (Z PA 70)).alloc (Z (xB Zl 0 0) 186)):=by refine⟨(ta w _ _ PA).next ZN,?_⟩;have:=ZQ ((w.alloc (Z (zG 60 61) 74)).alloc (Z PA 70)) (Z (xB Zl 0 0) 186);rw[Z3,Z3]at this;exact this
theorem Lz{g:Int}(r:jE z wh fc b h g PA)(q:xO z=Zk)(y:-1<=b)(A:b<=63)(T:0<=xR z wh)(V:xR z wh<=63)(w:I6)(a3:jF w)(M:jQ w) :
 ZL 240 #[Zc jP,Zc PA] w (Zc (bx z wh fc b)):=by
 have a6:=X r;obtain⟨Q,a4⟩:=FN r;have a7:=r.size;have f:=X (λW=>fp r q T V W);have u:=X (λc n W=>NN z _ Q a4 c n W);have G:=bu z wh fc b;have a:Y (∀Bp W,Gr w W->W.heap[Bp]?=S (Z PA 70)->ZL 94 #[.func (.func 128) #[] #[ZI Bp]] W (I L ((xC z wh fc b).length:Int))):=X (λBp W a1 a5 =>
  Hr (qxq a6.a q y A Bp (λ_=>False) (λ_ h=>h.elim) W a5 (a3.gr a1) (M.gr a1)) (YC func128 WR R) (by
   rintro k (rfl|rfl|rfl)
   .exact(qB.1 a5).1
   .exact(a3.gr a1).2
   .exact(M.gr a1).2) O)
 have p:Y (bx z wh fc b=xB (kz z wh) ((xC z wh fc b).length:Int) (yO z (kz z wh) ((xC z wh fc b).length:Int))):=X R;generalize i:((xC z wh fc b).length:Int)=a0 at a p;generalize kz z wh=CQ at f p;have m:(prog.info? 70).map (·.size)=S PA.toList.length:=by rw[ZX,a7];exact jJ
 have o:=Nc w PA;have l:Y (∀W,Lk w PA W->W.rangeAt (w.heap.size+1) 0 (PA.toList.take 64)):=X (λW hW=>by
  intro j v J;rw[Zs hW.ck.pa,Z2,<-qO];rw[Yv]at J;split at J
  .exact J
  .cases J)
 have F:Y ((prog.info? 67).map (·.size)=S (PA.toList.take 64).length):=X (by rw[x7];simp[a7]);clear r q Q a4 T V a6 i G y A a3 M;simp only[jP,zG];go_enter func240,ntmps240;go_upto_region 1 with fail;show Code.wp _ _ _ _ (((w.alloc (Z (zG 60 61) 74)).alloc (Z PA 70)).alloc (Z (xB Zl 0 0) 186));generalize (((w.alloc (Z (zG 60 61) 74)).alloc (Z PA 70)).alloc (Z (xB Zl 0 0) 186))=wA at o |-;refine ZT (S:=Lk w PA) WR (o.next ZO.drew) (λd=>?_);refine ZB 0 (Zc #[.func (.func 60) #[] #[],.func (.func 61) #[] #[]]) R (λw' x=>by have c0:=x.c0;have c1:=x.c1;go_simp) d ?_;refine ty 1 (Zc PA) R (wY m Vb _ R (w.heap.size+1) R (λ_ h=>h.ck.pa)) d ?_;refine tq 3 (.pointer (S ⟨w.heap.size,1,N⟩)) d ?_;refine ZB 4 (.func (.func 61) #[] #[]) R (λw' x=>by have c0:=x.c0;have c1:=x.c1;go_simp) d ?_;refine ty 5 (Zc PA) R (wY m Vb _ R (w.heap.size+1) R (λ_ h=>h.ck.pa)) d ?_;refine rd 2 λK hK=>?_;go_simp;refine Z0 (f.a _) λwa B=>?_;refine hK.out _ _ (d.next B) λd=>?_;clear hK K;refine rd 6 λK hK=>?_;go_simp;refine Z0 (zk PA _) λwb⟨H,D⟩=>?_;refine hK.out _ _ (d.next D) λd=>?_;clear hK K;refine rd 7 λK hK=>?_;go_simp;refine Z0 (a.a _ _ d.ck.gr H) λwc E=>?_;refine hK.out _ _ (d.next E) λd=>?_;clear hK K;refine rd 8 λK hK=>?_;go_simp;refine hK.out _ _ d λd=>?_;clear hK K;refine rd 9 λK hK=>?_;go_simp;refine hK.out _ _ d λd=>?_;clear hK K;refine ZZ WR ?_ _;clear d a f o B D E H;rename_i d;go_wp2_with(first
  | (refine Yo R 67 _ R (w.heap.size+1) 0 R (PA.toList.take 64) _ (l.a _ ‹_›) underlying67 rfl F.a ?_)
  | (go_at_call 292;refine Z0 (u.a CQ a0 _) λwd P=>?_;have a2:=Lk.next ‹_› P)
  | (refine ZU R 186 _ _ R (w.heap.size+2) (xB CQ a0 (yO z CQ a0)) R R 186 (xB Zl 0 0) a2.st vI R (xw _ _ _) ?_))
 exact ZS (v:=Zc (xB CQ a0 (yO z CQ a0))) (Yp results240 _ _ (w.heap.size+2) 186 _ (0,0) _ R (Zt a2.st) underlying186 rfl vI) R ⟨UG,a2.ck.gr.setRow _ O _⟩
def neg(s:yZ):yZ:=(-s.1,-s.2)
def afW(p:pH)(x:Mv):I1:=oI (zE (xM p) p.behind x) (!p.white) (kB p.castle x.1 x.2.1 4) (vK (xM p) x.1 x.2.1) (kK (xM p) x.1 x.2.1 p.half) (kj p.white p.full)
theorem Kl{f:I5}{g:Int}(r:jE z wh f b h g PA)(m:b=-1\/(0<=b/\b<64))(k:0<=h)(l:h<=65535)(i:0<=g)(j:g<=65535)(w:I6)(n:HG w):ZL 239 #[Zc PA] w (Zb ⟨(oI z wh f b h g).toArray⟩):=by obtain⟨A,a,d,rfl⟩:=Aj r;exact Kn z A a d wh f b h g m k l i j w n
section
variable {z : Nat → UInt8} {wh : Bool} {fc : Nat → Bool} {b : Int} {i f t cs : Nat} {u : UInt8}
end
section
variable {z : Nat → UInt8} {wh : Bool} {fc : Nat → Bool} {b : Int}
end
section
variable {z : Nat → UInt8} {wh : Bool} {fc : Nat → Bool} {b : Int} {i f t cs : Nat} {u : UInt8}
end
theorem LS{s:I4}(h:uX s=S n):s.data.toList=xQ n:=by
 unfold uX at h;by_cases a:s.size=2
 .rw[Wf a]at h;by_cases b:97<=s[0].toNat/\s[0].toNat<=104/\49<=s[1].toNat/\s[1].toNat<=56
  .rw[qI b]at h;have h:=qP h;subst h;unfold xQ;rw[oY s a,show 97+(s[0].toNat-97+8*(s[1].toNat-49))%8=s[0].toNat from O,show 49+(s[0].toNat-97+8*(s[1].toNat-49))/8=s[1].toNat from O];simp
  .rw[qF b]at h;cases h
 .rw[dif_neg a]at h;cases h
theorem JA(s:I4)(a e:Nat):(s.extract a e).data.toList=(s.data.toList.take e).drop a:=by rw[ByteArray.data_extract,Array.toList_extract];simp[List.drop_take]
theorem Pg:∀c:UInt8,0<=Lib.indexByte uf c->c≠0:=vg WS
theorem NZ{t:I4}(h:yn t=S (f,e,u))(d:t.size=5):u≠0:=by
 unfold yn at h;split at h
 case isFalse=>cases h
 case isTrue h45=>
  split at h
  case h_2=>cases h
  case h_1 a b ea eb=>
   split at h
   case isFalse=>cases h
   case isTrue hd=>injection h with h;injection h with h1 h;injection h with h2 h3;rw[rZ d]at h3 hd;rw[<-h3];exact Pg _ (q8 hd)
theorem SO{t:I4}(h:yn t=S (f,i,u)):t=xJ (uY f i u):=by
 have r:=mV h;obtain⟨b,g,_,_,_,j⟩:=r;have v:uX (t.extract 0 2)=S f:=by
  unfold dJ at b;cases x:uX (t.extract 0 2)with
  | none=>rw[x]at b;simp only at b;omega
  | some n=>rw[x]at b;simp only at b;rw[show n=f from O]
 have w:uX (t.extract 2 4)=S i:=by
  unfold dJ at g;cases x:uX (t.extract 2 4)with
  | none=>rw[x]at g;simp only at g;omega
  | some n=>rw[x]at g;simp only at g;rw[show n=i from O]
 have l:=LS v;have m:=LS w;rw[JA]at l m;have a:t.data.toList=uY f i u:=by
  unfold uY;rw[<-l,<-m];have k:t.data.toList.length=t.size:=ZX;obtain⟨e,u0⟩|⟨e,u0⟩:=j
  .rw[qI u0,Yh];rw[List.drop_zero,Yk (show t.data.toList.length<=4 from O),XQ]
  .rw[qF (NZ h e),u0];have p:4<t.data.toList.length:=O;have q:t.data.toList.drop 4=[t[4]]:=by rw[XP p,Ws O];rfl
   rw[<-q,List.drop_zero];have o:(t.data.toList.take 4).take 2=t.data.toList.take 2:=by rw[List.take_take];rfl
   rw[<-o,XQ,XQ]
 cases t with
 | mk d=>unfold xJ;simp at a |-;rw[<-a]
end Go.Proofs.YtnfakamfmkhlbabGreatDoor.C
