import Derived.Test.YtnfakamfmkhlbabGreatDoorC5
set_option maxRecDepth 100000
set_option maxHeartbeats 4000000
set_option linter.all false
open Go.Value renaming int->I,bool->Za,string->Zb,agg->Zc,tuple->Ze,slice->Zq
open Go.IntKind renaming i64->L,u8->Zg,u64->Zh,wrap->a_
open Go.Obj renaming cells->Z
open Go.Ending renaming returned->Zd
open Or renaming inl->Zi,inr->Zj
open Option renaming some->S,none->N
open Bool renaming true->Zk,false->Zl
open Decidable renaming decide->Zm
open Go.RowKit renaming Hid->Y
open Go renaming World->I6,Value->I7,Calls->i_,undef->m_
open Go.Proofs.Tryz renaming zeroCells70->b_,prog->c_
open Go.Lib renaming decDigits->d_,indexByte->e_,join->f_,cut->g_
open List renaming range->h_
open UInt8 renaming ofNat->j_
open Go.Op renaming stringOp->k_
open Go.Instr renaming index->l_
open Go.Code renaming wp->n_
namespace Go.Proofs.YtnfakamfmkhlbabGreatDoor.C
open Go.ChangeShapes Go.WideShapes Go.ChangeAt Go.RowKit Go.Shelf Tryz
attribute [local go_sem] qd qe Oper.semAt_some
variable {z:I2}{wh:Bool}{b h m:Int}{PA A M:I0}{fc:I5}{w W a w' w1 V:I6}{f n i k g base d e l j x B Bp:Nat}{v:I7}{u:UInt8}{Q:Nat->Obj->Prop}{rs:I3}{y:I1}
def LH(x:Int):a_ Zh x=U (BitVec.ofInt 64 x):=by rw[IntKind.wrap_u64];rw[U,BitVec.toNat_ofInt];have:=Int.emod_nonneg x (show(18446744073709551616:Int)≠0 from WW);have e:((2^64:Nat):Int)=18446744073709551616:=WW;rw[e];omega
def Fr.setNew{b:I6}(h:Fr Q a b){p:Addr}(u:I7)(f:a<=p.block):Fr Q a (b.setCell p u):=
 ⟨h.os,h.tape,h.output,by show a<=(b.heap.modify _ _).size;simp;exact h.size,λk o e q=>by
  have d:k≠p.block:=λd=>UR
  exact(Yg b p u k d).trans (h.same k o e q)⟩
def Ld{a b:I4}(h:a=b):Zd a=Zd b:=by rw[h]
def LF(b:Bool)(w:I6):i_ c_ 288 #[b] w λe w'=>e=Zd (Zb ⟨#[if b then 119 else 98]⟩)/\w'=w:=by
 go_in;cases b
 .exact Wz
 exact Wz
def NX(n:Nat)(h:n<64)(w:I6):ZL 69 #[n] w (Zb ⟨(xQ n).toArray⟩):=by
 have b:((j_ (97+n%8)).toNat:Int)=97+(n:Int)%8:=WX;have d:((j_ (49+n/8)).toNat:Int)=49+(n:Int)/8:=WX;have a:=qq4 (w.alloc (Z #[I Zg (97+(n:Int)%8),I Zg (49+(n:Int)/8)] 5)) ⟨w,0,N⟩ 2 (xQ n) (by
  intro i g;rw[X2,Z2,Z8 _ _ _ _ R];have:i=0\/i=1:=by simp[xQ]at g;omega
  obtain rfl|rfl:=this
  .show S (I Zg (97+(n:Int)%8))=I Zg ((j_ (97+n%8)).toNat:Int);rw[b]
  show S (I Zg (49+(n:Int)/8))=I Zg ((j_ (49+n/8)).toNat:Int);rw[d])
 have f:(convert 145 9 (Zq (S w) 2 2)).run c_ (w.alloc (Z #[I Zg (97+(n:Int)%8),I Zg (49+(n:Int)/8)] 5))=.ok (Zb ⟨(xQ n).toArray⟩) (w.alloc (Z #[I Zg (97+(n:Int)%8),I Zg (49+(n:Int)/8)] 5)):=a;unfold ZL;go_in;go_wp2;exact WM
def Ju(n:Int)(h:n=-1\/(0<=n/\n<64))(w:I6):ZL 290 #[n] w (Zb ⟨(oO n).toArray⟩):=by
 unfold ZL;go_in;by_cases f:n=-1
 .subst f;go_wp2;go_ret;exact⟨R,ZO⟩
 obtain⟨k,rfl⟩:=Yt (show 0<=n from O);have b:k<64:=O;have e:oO (k:Int)=xQ k:=by rw[oO,qF f];simp
 have d:((k:Int)==-1)=Zl:=WU;rw[e];go_wp2_with(go_at_call 69;refine Z0 (NX k b _) λw' a=>?_);go_ret;exact⟨R,a⟩
def j3(a b:I4):(a++b).data.toList=a.data.toList++b.data.toList:=WU
def Js(f:I5)(w:I6):ZL 289 #[Zc #[f 0,f 1,f 2,f 3]] w (Zb ⟨(eE f).toArray⟩):=by
 obtain⟨j,o⟩:∃b,Y (f 0=b):=⟨_,R⟩;obtain⟨k,p⟩:∃b,Y (f 1=b):=⟨_,R⟩;obtain⟨l,r⟩:∃b,Y (f 2=b):=⟨_,R⟩;obtain⟨m,u⟩:∃b,Y (f 3=b):=⟨_,R⟩;rw[o.a,p.a,r.a,u.a];have C:∀w,(l_ 68 (Zc #[j,k,l,m]) (I L 0)).run c_ w=.ok j w:=λ_=>WR;have D:∀w,(l_ 68 (Zc #[j,k,l,m]) (I L 1)).run c_ w=.ok k w:=λ_=>WR;have E:∀w,(l_ 68 (Zc #[j,k,l,m]) (I L 2)).run c_ w=.ok l w:=λ_=>WR;have F:∀w,(l_ 68 (Zc #[j,k,l,m]) (I L 3)).run c_ w=.ok m w:=λ_=>WR;unfold ZL;go_in;go_wp2;go_loopg [3,7] 4 (λg t n wr=>∃i:Nat,i+g=4/\n=i/\(∃q:I4,t=q/\q.data.toList=E5 f i/\q.size<=i)/\wr=w.alloc (Z #[j,k,l,m] 68))
 .exact⟨0,R,R,⟨_,R,R,Zy⟩,R⟩
 obtain⟨i,G,rfl,⟨q,rfl,y,B⟩,rfl⟩:=hrel;have h:=X y;by_cases e:i<4
 .have A:i=0\/i=1\/i=2\/i=3:=O;obtain rfl|rfl|rfl|rfl:=A
  .cases j
   .have a:Y (E5 f 1=E5 f 0):=X (by rw[oN,o.a];simp);go_wp2;go_roundg (gk-1)
    .exact⟨1,O,R,⟨q,R,Tk,O⟩,R⟩
    omega
   have a:Y (E5 f 1=E5 f 0++[vn 0]):=X (by rw[oN,o.a];simp);go_wp2;go_roundg (gk-1)
   .refine⟨1,O,R,⟨_,R,?_,?_⟩,R⟩
    .rw[a.a,j3,h.a];rfl
    rw[Yn];have:(ByteArray.extract ⟨#[75,81,107,113]⟩ 0 1).size=1:=R;omega
   omega
  .cases k
   .have a:Y (E5 f 2=E5 f 1):=X (by rw[oN,p.a];simp);go_wp2;go_roundg (gk-1)
    .exact⟨2,O,R,⟨q,R,Tk,O⟩,R⟩
    omega
   have a:Y (E5 f 2=E5 f 1++[vn 1]):=X (by rw[oN,p.a];simp);go_wp2;go_roundg (gk-1)
   .refine⟨2,O,R,⟨_,R,?_,?_⟩,R⟩
    .rw[a.a,j3,h.a];rfl
    rw[Yn];have:(ByteArray.extract ⟨#[75,81,107,113]⟩ 1 2).size=1:=R;omega
   omega
  .cases l
   .have a:Y (E5 f 3=E5 f 2):=X (by rw[oN,r.a];simp);go_wp2;go_roundg (gk-1)
    .exact⟨3,O,R,⟨q,R,Tk,O⟩,R⟩
    omega
   have a:Y (E5 f 3=E5 f 2++[vn 2]):=X (by rw[oN,r.a];simp);go_wp2;go_roundg (gk-1)
   .refine⟨3,O,R,⟨_,R,?_,?_⟩,R⟩
    .rw[a.a,j3,h.a];rfl
    rw[Yn];have:(ByteArray.extract ⟨#[75,81,107,113]⟩ 2 3).size=1:=R;omega
   omega
  cases m
  .have a:Y (E5 f 4=E5 f 3):=X (by rw[oN,u.a];simp);go_wp2;go_roundg (gk-1)
   .exact⟨4,O,R,⟨q,R,Tk,O⟩,R⟩
   omega
  have a:Y (E5 f 4=E5 f 3++[vn 3]):=X (by rw[oN,u.a];simp);go_wp2;go_roundg (gk-1)
  .refine⟨4,O,R,⟨_,R,?_,?_⟩,R⟩
   .rw[a.a,j3,h.a];rfl
   rw[Yn];have:(ByteArray.extract ⟨#[75,81,107,113]⟩ 3 4).size=1:=R;omega
  omega
 have z:i=4:=O;subst z;have x:q.toList.isEmpty=(E5 f 4).isEmpty:=by rw[Xl,h.a]
 cases H:(E5 f 4).isEmpty
 .rw[H]at x;have v:Y (q=⟨(eE f).toArray⟩):=X (by
   unfold eE;rw[H];have:=h;cases q with|mk d=>simp at this|-;rw[<-this])
  go_wp2;go_ret;exact⟨Ld v,ZN⟩
 rw[H]at x;have v:Y (eE f=[45]):=(by unfold eE;rw[H];rfl);go_wp2;go_ret;exact⟨Ld (by rw[v.a]),ZN⟩
def Ra:(c_.info? 5).map (λi=>(i.zero,i.size,i.bytes))=S (S (I Zg 0),1,1):=WR
def Jn(l:I1):List I7:=l.map (λc=>I Zg (c.toNat:Int))
def Txt(base:Nat)(v:I7)(l:I1)(w:I6):Prop:=w.ownsRow base 5 1 v l.length (Jn l)
def JK{l:I1}(h:Txt base v l w):∀k,v.ownBlock=S k->base<=k:=by exact O8
def Np(v:I7)(w:I6):i_ c_ 355 #[v,I L 0] w λe w'=>e=Zd v/\w'=w:=by go_in;exact Wz
def Nq(base:Nat)(v:I7)(l:I1)(x:l.length<=64)(g:Nat)(r:1<=g)(u:g<=9)(w:I6)(m:base<=w)(k:Txt base v l w):i_ c_ 355 #[v,g] w λe w'=>∃v',e=Zd v'/\Txt base v' (l++[j_ (48+g)]) w'/\Below base w w':=by
 have d:=k;obtain⟨q,n,f,h,i⟩:=We Ra;have o:((g:Int)==0)=Zl:=WX;have p:((j_ (48+g)).toNat:Int)=48+(g:Int):=WX;go_in;go_wp2_with(at_builtin;apply Xv _ R (.tmp 8) (.tmp 12) 145 rfl base 5 q (I Zg 0) 1 1 underlying145 n f h i R WW v l.length (Jn l) R (d.alloc _) ⟨w,0,N⟩ 1 1 [I Zg (48+(g:Int))] R R (Wp _ _ _) Vi Vk O WX;intro v' w1 b a j);go_ret;refine⟨v',R,?_,?_⟩
 .unfold Txt Jn;rw[Ys,qZ];show World.ownsRow _ _ _ _ _ _ (_++[I Zg _]);rw[p];exact b
 exact((XL base w).alloc m _).grown a WX (JK d)
def MD(base:Nat)(v:I7)(l:I1)(f:l.length<=64)(g:Nat)(b:g<=9)(w:I6)(d:base<=w)(a:Txt base v l w):i_ c_ 355 #[v,g] w λe w'=>∃v',e=Zd v'/\Txt base v' (l++ur g) w'/\Below base w w':=by
 by_cases h:g=0
 .subst h;apply Z1 (Np v w);exact⟨v,R,by simpa[ur]using a,XL _ _⟩
 have e:ur g=[j_ (48+g)]:=by rw[ur,qF h]
 rw[e];exact Nq base v l f g O b w d a
theorem JG(z:Nat->UInt8):∀k,(DV z k).1.length<=2*k/\(DV z k).2<=k
 | 0=>⟨Zy,Zy⟩
 | k+1=>by
  have h:=JG z k;unfold DV;have a:(ur (DV z k).2).length<=1:=U0
  split
  .exact⟨WX,WX⟩
  exact⟨WX,WU⟩
def Nx(w:I6):(convert 145 9 (Zq N 0 0)).run c_ w=.ok (Zb ⟨#[]⟩) w:=WR
def Mp{l:I1}(h:Txt base v l w):(convert 145 9 v).run c_ w=.ok (Zb ⟨l.toArray⟩) w:=by
 obtain⟨rfl,a⟩|⟨g,cap,cur,rfl,j,b,a,f,k,e⟩:=h.2
 .have:l=[]:=Yz.mp a;subst this;exact Nx w
 refine qq4 w ⟨g,0,N⟩ cap l (λi d=>?_);rw[X2,Z2,Zs b];have:cur.toList[i]?=(cur.toList.take (l.length*1))[i]?:=by rw[Yv,qI O]
 rw[<-qO,this,e];simp[Jn,d]
def LJ(z:I2)(b o c:Nat)(w:I6)(P:b<w)(K:∀i,i<8->w.cell? ⟨b,o+i,N⟩=I Zg (z i).toNat):ZL 327 #[Zq (S ⟨b,o,N⟩) 8 c] w (Zb ⟨(oJ z).toArray⟩):=by
 have E:=X K;obtain⟨T,J,F,H,a2⟩:=We Ra;have B:=X J;go_enter func327,ntmps327;go_wp2;go_loopg [3,4,9] 8 (λG t g i wr=>∃k:Nat,k+G=8/\i=k/\g=(DV z k).2/\Txt w t (DV z k).1 wr/\Below w w wr)
 .exact⟨0,R,R,R,⟨R,Zi ⟨R,R⟩⟩,XL _ _⟩
 obtain⟨k,V,rfl,rfl,x,n⟩:=hrel;have D:=X x;have a:=X n;have Q:=JG z k;by_cases a1:k<8
 .have f:wr.cell? ⟨b,o+k,N⟩=I Zg (z k).toNat:=(ZW a (p:=⟨b,o+k,N⟩) P).trans (E k a1);by_cases W:z k=46
  .have l:Y (DV z (k+1)=((DV z k).1,(DV z k).2+1)):=X (by rw[DV,qI W]);have r:((z k).toNat:Int)=46:=(by rw[W];rfl);rw[r]at f;go_wp2;go_roundg (gk-1)
   .exact⟨k+1,O,Vg,by rw[l.a];go_num,by rw[l.a];exact D.a,a⟩
   omega
  have l:Y (DV z (k+1)=((DV z k).1++ur (DV z k).2++[z k],0)):=X (by rw[DV,qF W]);have r:(((z k).toNat:Int)==46)=Zl:=by simp only[qM];intro e;exact W (q6.mp WX)
  go_wp2_with fail;refine(MD w _ _ O _ O _ (ZR a) D).mono ?_;rintro e w1 ⟨p,rfl,m,d⟩;have C:w<=w1.heap.size:=by have:=ZR a;have:=ZR d;omega
  have A:(ur (DV z k).2).length<=1:=U0;have a5:((DV z k).1++ur (DV z k).2).length<=40:=WX;have q:=X m;have u:=X (a.trans d);go_wp2_with(at_builtin;apply Xv _ R (.tmp 19) (.tmp 21) 145 rfl w 5 T (I Zg 0) 1 1 underlying145 B F H a2 R WW p _ _ R (q.alloc _) ⟨w1,0,N⟩ 1 1 [I Zg (z k).toNat] R R (Wp _ _ _) Vi Vk O WX;intro v' M j h v);have a0:Y (Txt w v' (DV z (k+1)).1 M):=X (by
   rw[l.a];unfold Txt Jn;rw[Ys,qZ];exact j)
  have y:Y (Below w w M):=(u.alloc C _).grown h WX (JK q);go_wp2;go_roundg (gk-1)
  .exact⟨k+1,O,Vg,by rw[l.a];rfl,a0,y⟩
  omega
 have a3:k=8:=O;subst a3;go_wp2_with fail;refine(MD w _ _ O _ O _ (ZR a) D).mono ?_;rintro e w1 ⟨p,rfl,m,d⟩;have a4:=Mp m;have y:=X (a.trans d);go_wp2;go_ret;exact⟨R,y⟩
def JF(z:I2)(i:Nat):(oH z i).length<=17:=by unfold oH oJ;have h:=JG (λf=>z (8*(7-i)+f)) 8;have a:(ur (DV (λf=>z (8*(7-i)+f)) 8).2).length<=1:=U0;rw[qZ];omega
theorem HO(b:I1)(n:Nat):∀d:List (I1),(∀x∈d,x.length<=n)->(f_ d b).length<=d.length*(n+b.length)
 | [],_=>by simp[f_,List.intercalate]
 | [x],h=>by
  have:=h x WU;rw[Lib.join_one];simp;omega
 | x::y::r,h=>by
  have i:=HO b n (y::r) (λa f=>h a (by simp at f|-;right;exact f));have g:=h x WU;have e:f_ (x::y::r) b=x++b++f_ (y::r) b:=by simp[f_,List.intercalate,List.intersperse]
  rw[e,qZ,qZ,Yq,Nat.add_mul];omega
def Ko(z:I2)(A:I0)(a1:∀i,i<64->A[i]?=I Zg (z i).toNat)(w:I6):ZL 287 #[A] w (Zb ⟨(dA z).toArray⟩):=by
 have H:=X a1;clear a1;go_enter func287,ntmps287;go_wp2;go_loopg [6] 8 (λG i wr=>∃k:Nat,k+G=8/\i=k/\wr.heap[w.heap.size]?=Z A 67/\(∃p:I0,p.size=8/\wr.heap[w.heap.size+1]?=Z p 369/\∀j,j<k->p[j]?=Zb ⟨(oH z j).toArray⟩)/\w+2<=wr.heap.size/\Gr w wr)
 case atStart=>exact⟨0,R,R,heap_alloc2_old _ _ _,⟨_,R,Zw,λj h=>O⟩,WU,ZN.al⟩
 case round=>
  obtain⟨k,k1,rfl,B,⟨p,hR,C,n⟩,a7,D⟩:=hrel;have g:=X B;have l:=X C;have u:=X hR;have d:=X n;have m:=X D;clear B C hR n D;by_cases a0:k<8
  .obtain⟨q,P⟩:∃q:Nat,q=8*(7-k):=⟨_,R⟩;have hw:8*(7-(k:Int))=(q:Int):=O;have T:(q:Int)+8<=64:=O;have V:(q:Int)<=q+8:=O;have Q:q<=56:=O;have M:=X P;clear P;go_wp2_with fail;refine(LJ (λf=>z (8*(7-k)+f)) w q (64-q) _ O (λi a8=>by rw[Zs g.a,H.a (q+i) O,M.a])).mono ?_;rintro e w1 ⟨rfl,b⟩;have W:=ZR b;have a3:Y (w1.heap[w.heap.size]?=Z A 67):=X (by rw[Zz b O];exact g);have o:Y (w1.heap[w.heap.size+1]?=Z p 369):=X (by rw[Zz b O];exact l);have J:=X (m.trans b);have v:k<p.size:=(by rw[u.a];exact a0);have K:w1.cell? ⟨w+1,k,N⟩=p[k]'v:=(by rw[Zs o.a];exact qQ _);have a6:w1.frozen? ⟨w+1,k,N⟩=Zl:=frozen_of_row _ _ _ _ _ o;clear g l m b;go_wp2;go_roundg (gk-1)
   case measure=>omega
   case rel=>
    refine⟨k+1,O,Vg,?_,⟨p.setIfInBounds k (Zb ⟨(oH z k).toArray⟩),by simpa using u.a,?_,?_⟩,?_,?_⟩
    .rw[heap_setCell_other _ _ _ _ (by show w≠w.heap.size+1;omega)];exact a3
    .exact heap_setCell_same _ _ _ _ _ _ o
    .intro j F;rw[Yu];by_cases e:k=j
     .subst e;rw[qI R,qI v]
     .rw[qF e];exact d j O
    .simp[World.setCell];omega
    .exact J.a.setCell (p:=⟨w+1,k,N⟩) (by show w<=w.heap.size+1;omega) _
  .have a5:k=8:=O;subst a5;have a:(eB z).length=8:=(by simp[eB]);have F:=Tryz.strings_Join (w+1) 0 8 (eB z) ⟨#[47]⟩ wr (by
    intro j x r;have E:j<8:=(by rw[<-a];exact(Z5.mp r).1);rw[Z2,Zs l.a,d.a j E]
    have:x=⟨(oH z j).toArray⟩:=by
     unfold eB at r;rw[YN,List.getElem?_range E]at r;simpa using r.symm
    rw[this]) O (by rw[a];omega) (by rw[a];omega) (by
    have:=HO [47] 17 ((eB z).map (·.data.toList)) (by
     intro x r;obtain⟨y,a2,rfl⟩:=YL.mp r;obtain⟨i,_,rfl⟩:=YL.mp a2;exact JF z i)
    rw[YD,a]at this;exact q7 this WU)
   rw[a]at F;have a4:=X F;clear F;go_wp2_with(go_at_call 291;apply a4.mono;rintro e w1 ⟨rfl,b⟩);go_ret;exact⟨R,m.trans b⟩
def Kd(n:Int)(b:0<=n)(d:n<=65535)(w:I6)(a:HG w):ZL 160 #[n] w (Zb ⟨(Lib.itoa n).toArray⟩):=by refine(Tryz.strconv_Itoa n O O w a).mono ?_;rintro e w' ⟨rfl,k,os,rfl⟩;exact⟨R,Gr.grow w k os⟩
def SS(a b d f g h:I4)(l:∀x∈[a,b,d,f,g,h],x.data.toList.length<=100000)(w:I6):i_ c_ 291 #[Zq (S w) 6 6,Zb ⟨#[32]⟩] (w.alloc (Z #[a,b,d,f,g,h] 9)) λe w'=> e=Zd (Zb ⟨(f_ ([a,b,d,f,g,h].map (·.data.toList)) [32]).toArray⟩)/\Gr w w':=by
 have k:=Tryz.strings_Join w 0 6 [a,b,d,f,g,h] ⟨#[32]⟩ (w.alloc (Z #[a,b,d,f,g,h] 9)) (by
  intro j x i;rw[Z2,Z8 _ _ _ _ R];have k:j<6:=by simpa using(Z5.mp i).1
  have:j=0\/j=1\/j=2\/j=3\/j=4\/j=5:=O
  rcases this with rfl|rfl|rfl|rfl|rfl|rfl<;>simp at i<;>subst i<;>rfl) Vj WU WU (by
  have:=HO [32] 100000 ([a,b,d,f,g,h].map (·.data.toList)) (by
   intro y n;obtain⟨x,i,rfl⟩:=YL.mp n;exact l x i)
  exact q7 this WU)
 apply k.mono;rintro e w' ⟨rfl,m⟩;exact⟨R,ZN.trans m⟩
def Jg:∀n u,u<=n->(d_ u).length<=u+1:=by
 intro n;induction n with
 | zero=>intro u h;rw[d_,Wf O];simp
 | succ n ih=>
  intro u h;unfold d_;by_cases a:u<10
  .rw[Wf a];simp
  rw[dif_neg a,qZ];have:=ih (u/10) O;simp;omega
def HP(n:Int)(a:0<=n)(b:n<=65535):(Lib.itoa n).length<=65536:=by rw[Lib.itoa,qF O];have:=Jg n.toNat n.toNat Zy;omega
def HT(z:I2):(dA z).length<=144:=by
 have a:(eB z).length=8:=by simp[eB]
 have:=HO [47] 17 ((eB z).map (·.data.toList)) (by
  intro x b;obtain⟨y,d,rfl⟩:=YL.mp b;obtain⟨i,_,rfl⟩:=YL.mp d;exact JF z i)
 rw[YD,a]at this;exact q7 this WU
theorem Jt(f:Nat->Bool):∀i,(E5 f i).length<=i
 | 0=>Zy
 | i+1=>by
  have:=Jt f i;rw[oN,qZ];split<;>simp<;>omega
def D2(f:I5):(eE f).length<=4:=by
 unfold eE;split
 .simp
 exact Jt f 4
def JH(b:Int):(oO b).length<=2:=by unfold oO xQ;split<;>simp
def Qx(b:Bool):I4:=⟨#[if b then 119 else 98]⟩
def Mn(b:Bool)(w:I6):ZL 288 #[b] w (Qx b):=(LF b w).mono (by rintro e w' ⟨rfl,rfl⟩;exact⟨R,ZO⟩)
def Kn(z:I2)(A:I0)(p:A.size=64)(r:∀i,i<64->A[i]?=I Zg (z i).toNat)(wh:Bool)(f:I5)(b h g:Int)(M:b=-1\/(0<=b/\b<64))(J:0<=h)(K:h<=65535)(H:0<=g)(a0:g<=65535)(w:I6)(T:HG w):ZL 239 #[kU A wh (f 0) (f 1) (f 2) (f 3) b h g] w (Zb ⟨(oI z wh f b h g).toArray⟩):=by
 have P:=t_;have E:(c_.info? 67).map (·.size)=S A.toList.length:=by rw[x7];simp[p]
 have a1:A.toList.length=64:=by simpa using p
 have a2:∀v∈A.toList,v.oneCell'=Zk:=by intro v q;obtain⟨i,E,rfl⟩:=List.getElem_of_mem q;have:=r i O;rw[<-qO,Yf E]at this;simp at this;simp[this,Value.oneCell']
 have l:PS w A.toList wh (f 0) (f 1) (f 2) (f 3) b h g (w.alloc (Z (kU A wh (f 0) (f 1) (f 2) (f 3) b h g) 70)):=by
  have D:∀o,(w.alloc (Z (kU A wh (f 0) (f 1) (f 2) (f 3) b h g) 70)).cell? ⟨w,o,N⟩=(kU A wh (f 0) (f 1) (f 2) (f 3) b h g)[o]?:=λo=>Z8 _ _ _ _ R;refine⟨λj v q=>?_,?_,?_,?_,?_,?_,?_,?_,?_,Vj,ZN,T.gr ZN⟩
  .rw[D,Z2];rw[kU,Y7,qI (by rw[p,<-a1];exact(Z5.mp q).1),<-qO];exact q
  all_goals (rw[D];rw[kU,Y7,qF O,p];rfl)
 have a:=l;clear l;generalize V:kU A wh (f 0) (f 1) (f 2) (f 3) b h g=PA at a|-;clear V;have u:=r;clear r;unfold ZL;go_in;go_wp2;obtain⟨w1,n⟩:∃w1,w1=w.alloc (Z PA 70):=⟨_,R⟩;rw[<-n]at a|-;clear n;have m:=a.2.2.2.2.2.2.2.2.2.2.2;go_region_held3 (λw'=>Gr w1 w'/\w'.rangeAt w 0 A.toList/\w'.cell? ⟨w,64,N⟩=wh/\w'.cell? ⟨w,65,N⟩=(f 0)/\w'.cell? ⟨w,66,N⟩=(f 1)/\w'.cell? ⟨w,67,N⟩=(f 2)/\w'.cell? ⟨w,68,N⟩=(f 3)/\w'.cell? ⟨w,69,N⟩=b/\w'.cell? ⟨w,70,N⟩=h/\w'.cell? ⟨w,71,N⟩=g) (first|exact P' a ZO.drew|exact P' a ‹_›|exact P' a (Gr.alloc (vy ‹_›) _ _)) (first|(go_at_call 287;refine Z0 (Ko z A u _) λw' k=>?_;have d:=o_ (vy ‹_›) k)|(go_at_call 288;refine Z0 (Mn wh _) λw' k=>?_;have d:=o_ (vy ‹_›) k)|(go_at_call 289;refine Z0 (Js f _) λw' k=>?_;have d:=o_ (vy ‹_›) k)|(go_at_call 290;refine Z0 (Ju b M _) λw' k=>?_;have d:=o_ (vy ‹_›) k)|(go_at_call 160;refine Z0 (Kd _ ‹_› ‹_› _ (HG.gr m (vy ‹_›))) λw' k=>?_;have d:=o_ (vy ‹_›) k));have F:=λW=>SS ⟨(dA z).toArray⟩ (Qx wh) ⟨(eE f).toArray⟩ ⟨(oO b).toArray⟩ ⟨(Lib.itoa h).toArray⟩ ⟨(Lib.itoa g).toArray⟩ (by
  intro x G;simp only[Yj,List.mem_nil_iff,or_false]at G;obtain rfl|rfl|rfl|rfl|rfl|rfl:=G
  .exact q7 (HT z) O
  .show([if wh then 119 else 98]:I1).length<=_;simp
  .exact q7 (D2 f) O
  .exact q7 (JH b) O
  .exact q7 (HP h J K) O
  exact q7 (HP g H a0) O) W
 have B:=F;clear F;have C:=a.2.2.2.2.2.2.2.2.2.2.1;go_wp2_with(go_at_call 291;refine Z0 (B w') λQ y=>?_);go_ret;exact⟨R,(C.trans d).trans y⟩
def NP(a b c:Int)(w:I6):ZL 185 #[Zc #[a,b,I Zg c]] w (I L 1):=by unfold ZL;go_in;go_wp2;exact WM
def M1{lb:I0}{C:Nat->Prop}{G:List Mv}(L:It c_ g lb vr (λ_=>False) C G w)(K:∀args w,(callFunc g args).run c_ w=.ok (.enter g args) w)(y:∀k,C k->k<w.heap.size)(Q:G.length<9223372036854775807):ZL 184 #[.func (.func g) #[] lb,.func (.func 185) #[] #[]] w (I .i64 (G.length:Int)):=by
 refine(ZY (n:=9)).1 ?_;refine callsIn_of_wp_marks func184 rfl x_ ?_ R;simp only[ntmps184,Nat.reduceAdd,Nat.reduceSub,Zr];apply Z9.2;go_wp2;obtain⟨a7,n⟩:=x6 w (Z #[.func (.func 185) #[] #[]] 262) (Z #[I .i64 0] 3);have m:Gr w ((w.alloc (Z #[.func (.func 185) #[] #[]] 262)).alloc (Z #[I .i64 0] 3)):=ZN.al;have M:((w.alloc (Z #[.func (.func 185) #[] #[]] 262)).alloc (Z #[I .i64 0] 3)).heap.size=w.heap.size+2:=WU;generalize (w.alloc _).alloc _=w2 at a7 n m M|-;refine Z9.1 (xj (n:=9) (gf:=g) (lb:=lb) R K L (λ_ h=>h.elim) (λk P=>by have:=y k P;omega) (p_ m) (λ_=>R)
  (λa V=>V.heap[w.heap.size]?=Z #[.func (.func 185) #[] #[]] 262/\V.heap[w.heap.size+1]?=Z #[I .i64 (a.length:Int)] 3/\Gr w V/\w2<=V.heap.size)
  (λ_ _ _=>False)
  ?sI (λ_ _ _ _ h _=>h) ⟨a7,n,m,Zy⟩ ?rnd ?done (λ_ _ _ _ _ _ h _=>h.elim))
 case sI=>exact λs A A' h f=>⟨f.same _ _ h.1 (Zi O),f.same _ _ h.2.1 (Zi O),u_ h.2.2.1 (f.below (n:=w) (ZR h.2.2.1) (λk o P=>Zi O)),q7 h.2.2.2 f.size⟩
 case done=>rintro D V hD ⟨p,l,F,B⟩ hK;have c2:=(qi l).1;go_wp2;refine⟨WU,Zi ⟨_,_,R,YU hK,?_⟩⟩;exact⟨_,Wh R _ _ _,R,u_ F (XZ (w:=w2) (n₀:=w) O _ D _ _ hD hK R R)⟩
 case rnd=>
  rintro a6 a ⟨fr,T,u⟩ V b0 hx ⟨p,l,F,B⟩ a8;have b1:a6<V:=a8.elim λr hr=>(qB.1 hr).1;simp only[vr,gJ];gi_wp2;refine⟨ZP.alloc _,?_⟩;intro b W J a0;obtain⟨p,l,F,B⟩:=J;have v:b.heap[V.heap.size]?=Z (ZJ fr T u) 87:=W.same _ _ (ZQ V _) O;generalize V.heap.size=Bx at v|-;have a4:a.length+1<=G.length:=by have:=hx.length_le;simpa using this
  have a5:a_ .i64 ((a.length:Int)+1)=(a.length:Int)+1:=Vc;have d1:=(qi p).1;have d2:=(qi l).1;have d3:=(qi l).2;obtain⟨x0,x1,x2⟩:=qm (show b.drew.heap[Bx]?=_ from v);have aft:∀d,Gr b.drew d->(d.cell? ⟨w,0,N⟩=S (.func (.func 185) #[] #[])/\d.cell? ⟨w+1,0,N⟩=I .i64 (a.length:Int)/\d.frozen? ⟨w+1,0,N⟩=Zl):=λd j=>by have H:=ZE j (show b.drew.heap[w.heap.size]?=_ from p);have E:=ZE j (show b.drew.heap[w.heap.size+1]?=_ from l);exact⟨(qi H).1,(qi E).1,(qi E).2⟩
  have x:=aft;have a9:∀d,Gr b.drew d->Fr (jM w2 (λ_=>False) C) b (d.setCell ⟨w+1,0,N⟩ (I .i64 ((a.length:Int)+1)))/\(d.setCell ⟨w+1,0,N⟩ (I .i64 ((a.length:Int)+1))).heap[w.heap.size]?=Z #[.func (.func 185) #[] #[]] 262/\(d.setCell ⟨w+1,0,N⟩ (I .i64 ((a.length:Int)+1))).heap[w.heap.size+1]?=Z #[I .i64 ((a++[((fr,T,u):Mv)]).length:Int)] 3/\Gr w (d.setCell ⟨w+1,0,N⟩ (I .i64 ((a.length:Int)+1)))/\w2<=(d.setCell ⟨w+1,0,N⟩ (I .i64 ((a.length:Int)+1))).heap.size:=λd j=>by
   have i:=o_ (q_ b).drew j;have H:=ZE i p;have E:=ZE i l;refine⟨(p_ i).setCell _ ?_,by rw[Yg _ _ _ _ WU];exact H,?_,Yr (o_ F i) (show w<=w.heap.size+1 from O) _,?_⟩
   .rintro o-(q|q)
    .have:=y _ q;simp at this;omega
    have:=q.1;simp at this;omega
   .have:=jm (v:=I .i64 ((a.length:Int)+1)) E;rw[this];simp
   have:=ZR i;simp[World.setCell];omega
  gi_wp2;gi_region_with (refine⟨x_,?_⟩;gi_at_call 185;refine((ZY.2 (NP _ _ _ _)).inRound a6).mono ?_;rintro e wc ⟨rfl,z⟩;obtain⟨a1,a2,a3⟩:=x wc z);all_goals
   gi_wp2;exact a9 _ z
def Hr{lb:I0}{C:Nat->Prop}{i:List Mv}(h:It c_ g lb vr (λ_=>False) C i w)(f:∀args w,(callFunc g args).run c_ w=.ok (.enter g args) w)(d:∀k,C k->k<w.heap.size)(a:i.length<9223372036854775807):ZL 94 #[.func (.func g) #[] lb] w ((i.length:Int)):=by have b:=M1 h f d a;unfold ZL;go_in;go_wp2_with(go_at_call 184;refine Z0 b λw' j=>?_);go_ret;exact⟨R,j⟩
def MK:∀n,n<256->bz (j_ n)=Zk->uT (j_ n)=Zl:=WS
def QV(c:UInt8)(h:bz c=Zk):uT c=Zl:=by have:=MK c.toNat c.toNat_lt;exact IE
def MC:∀g,g<9->1<=g->uT (j_ (48+g))=Zk/\(j_ (48+g)).toNat-48=g:=WS
def N9(t:I1)(a:I1)(g:Nat)(h:vY t=S (nI a,Zl))(f:a.length+g<=8):vY (t++ur g)=S (nI (a++List.replicate g 46),Zm (1<=g)):=by
 by_cases i:g=0
 .subst i;simp[ur,h]
 have e:ur g=[j_ (48+g)]:=by rw[ur,qF i]
 obtain⟨b,d⟩:=MC g O O;rw[e,vj,h];unfold zZ;simp only[b,YS,d,Xo,D7];rw[qF WX,sM,D6];simp;omega
def Km(a:I1)(h:a.all wj=Zk)(i:a.length<=8):∃b g,a=b++List.replicate g 46/\(lh a).2=g/\vY (lh a).1=S (nI b,Zl):=by
 induction q:a.length generalizing a with
 | zero=>
  have:a=[]:=Yz.mp q;subst this;exact⟨[],0,R,R,R⟩
 | succ n ih=>
  have d:a≠[]:=λe=>by subst e;simp at q
  obtain⟨m,c,rfl⟩:∃m c,a=m++[c]:=⟨a.dropLast,a.getLast d,(XY d).symm⟩;rw[Xf]at h;simp only[qH,Wc,List.all_nil,Wl]at h;obtain⟨b,g,f,j,k⟩:=ih m h.1 (by simp at i;omega) Ul;rw[qv3];unfold gx;by_cases p:c=46
  .rw[qI p];exact⟨b,g+1,by rw[f,p,qS,<-List.replicate_succ'],by simp[j],k⟩
  rw[qF p];have l:bz c=Zk:=by have:=h.2;unfold wj at this;simpa[p]using this
  have o:b.length+g+1<=8:=by have:=Xn List.length f;simp at this i;omega
  refine⟨m++[c],0,WU,R,?_⟩;simp only[j];rw[vj,N9 _ b g k O,<-f];unfold zZ;simp only[QV c l,l,qR,YH,YS,D7];rw[qF (by simp at i;omega),sM];rfl
def Ku(a:I1)(h:a.all wj=Zk)(j:a.length=8):jL ((lh a).1++ur (lh a).2)=nI a:=by
 obtain⟨e,g,d,f,i⟩:=Km a h O;have b:e.length+g<=8:=by have:=Xn List.length d;simp at this;omega
 rw[jL,f,N9 _ e g i b,<-d];simp[D7,j]
def Kp(s:I4)(b:Bool)(h:s.data.toList=[if b then 119 else 98]):kO s=b:=by rw[kO,Xl,h];cases b<;>rfl
def MQ(b0 b1 b2 b3:Bool):Bool:=
 match vS (eE (λi=>if i=0 then b0 else if i=1 then b1 else if i=2 then b2 else b3))with
 | some g=>g 0==b0&&g 1==b1&&g 2==b2&&g 3==b3
 | none=>Zl
def Ny:∀a b d e,MQ a b d e=Zk:=WW
def Jj(f:Nat->Bool):∃g,vS (eE f)=S g/\g 0=f 0/\g 1=f 1/\g 2=f 2/\g 3=f 3:=by
 have h:=Ny (f 0) (f 1) (f 2) (f 3);unfold MQ at h;have e:eE (λi=>if i=0 then f 0 else if i=1 then f 1 else if i=2 then f 2 else f 3)=eE f:=R;rw[e]at h;cases a:vS (eE f)with
 | none=>rw[a]at h;simp at h
 | some g=>
  rw[a]at h;simp only[qH,YF]at h;exact⟨g,R,h.1.1.1,h.1.1.2,h.1.2,h.2⟩
def MV:∀k,k<64->v8 ⟨(xQ k).toArray⟩=S ((k:Nat):Int):=WS
def Nz:v8 ⟨#[45]⟩=S (-1):=WS
def Jm(n:Int)(h:n=-1\/(0<=n/\n<64))(s:I4)(a:s.data.toList=oO n):v8 s=S n:=by
 have e:s=⟨(oO n).toArray⟩:=by cases s with|mk d=>simp at a|-;rw[<-a]
 rw[e];obtain rfl|⟨b,f⟩:=h
 .exact Nz
 obtain⟨k,rfl⟩:=Yt b;have:oO (k:Int)=xQ k:=by rw[oO,qF O];simp
 rw[this];exact MV k O
def Rk:∀d,d<10->dg (j_ (48+d))=Zk/\(j_ (48+d)).toNat-48=d:=WS
def PQ:∀k n,n<=k->dv (d_ n)=n/\(d_ n).all dg=Zk/\d_ n≠[]/\(1<=n->(d_ n).head?≠S 48):=by
 intro k;induction k with
 | zero=>
  intro n h;have:n=0:=O
  subst this;rw[d_,Wf O];exact⟨R,WW,WU,λh=>O⟩
 | succ k ih=>
  intro n h;unfold d_;by_cases l:n<10
  .rw[Wf l];obtain⟨b,a⟩:=Rk n l;refine⟨by show 10*0+((j_ (48+n)).toNat-48)=n;omega,by rw[Wc,b];rfl,WU,λj=>?_⟩;simp only[List.head?_cons,ne_eq,Xh];intro e;rw[e]at a;simp at a;omega
  rw[dif_neg l];obtain⟨d,f,g,i⟩:=ih (n/10) O;obtain⟨b,a⟩:=Rk (n%10) O;refine⟨by rw[yz,d,a];omega,by rw[Xf,f,Wc,b];rfl,WU,λ_=>?_⟩;have:=i O;cases m:d_ (n/10)with
  | nil=>exact w_ m g
  | cons x r=>rw[m]at this;simpa using this
def dz:∀k n,n<10^(k+1)->(d_ n).length<=k+1:=by
 intro k;induction k with
 | zero=>intro n h;rw[d_,Wf Vq];simp
 | succ k ih=>
  intro n h;unfold d_;by_cases a:n<10
  .rw[Wf a];simp
  rw[dif_neg a,qZ];have:=ih (n/10) (by rw[Nat.pow_succ]at h;omega);simp;omega
def Hd(n:Nat)(h:n<=65535):vR (Lib.itoa (n:Int))=n:=by
 have e:Lib.itoa (n:Int)=d_ n:=by rw[Lib.itoa,qF O,YE]
 obtain⟨b,f,g,i⟩:=PQ n n Zy;have d:=dz 4 n WX;rw[e];rw[vR,qI,b];refine⟨List.length_pos_iff.mpr g,d,λa=>?_,f,by rw[b];exact h⟩;by_cases j:1<=n
 .exact i j
 have:n=0:=O;subst this;unfold d_ at a;rw[Wf O]at a;simp at a
theorem PV(B:I1):∀k,((h_ k).map (dL B)).flatten=B.take (8*k)
 | 0=>by simp
 | k+1=>by
  rw[YI,Ys,List.flatten_append,PV B k];simp only[YM,Wi,List.flatten_cons,List.flatten_nil,Yh,dL];rw[show 8*(k+1)=8*k+8 from O,List.take_add]
def sgn(c:UInt8):Bool:=bz c||uT c
def MA(g:Nat)(h:g<=8):(ur g).all sgn=Zk:=by
 unfold ur;split
 .rfl
 have:=(MC g O O).1;rw[Wc];rw[sgn,this];simp
def Qo(a:I1)(h:a.all wj=Zk)(d:a.length<=8):(lh a).1.all sgn=Zk/\(lh a).2<=a.length:=by
 induction l:a.length generalizing a with
 | zero=>
  have:a=[]:=Yz.mp l;subst this;exact⟨R,Zy⟩
 | succ n ih=>
  have b:a≠[]:=λe=>by subst e;simp at l
  obtain⟨m,c,rfl⟩:∃m c,a=m++[c]:=⟨a.dropLast,a.getLast b,(XY b).symm⟩;rw[Xf]at h;simp only[qH,Wc,List.all_nil,Wl]at h;have i:m.length=n:=by simpa using l
  obtain⟨f,j⟩:=ih m h.1 U2 i;rw[qv3];unfold gx;by_cases k:c=46
  .rw[qI k];exact⟨f,WX⟩
  rw[qF k];have g:bz c=Zk:=by have:=h.2;unfold wj at this;simpa[k]using this
  refine⟨?_,WU⟩;rw[Xf,Xf,f,MA _ U2];simp[sgn,g]
def LK(a:I1)(h:a.all wj=Zk)(b:a.length<=8):(AQ a).all sgn=Zk:=by obtain⟨d,e⟩:=Qo a h b;rw[AQ,Xf,d,MA _ O];rfl
def Qy:sgn 47=Zl:=WW
def Qz:sgn 32=Zl:=WW
def PK(l:I1)(h:l.all sgn=Zk)(c:UInt8)(a:sgn c=Zl):c∉l:=λb=>by
 have:=qW.mp h c b;rw[a]at this;exact w_ this WW
theorem HY:∀(b:I3) (a:List (I1)),b.map (·.data.toList)=a.map AQ->(∀z∈a,z.length=8/\z.all wj=Zk)->jK b=a.map nI
 | [],[],_,_=>rfl
 | [],z::t,h,_=>by simp at h
 | x::t,[],h,_=>by simp at h
 | x::t,z::zt,h,hz=>by
  simp only[YM,X7]at h;have d:jL x.data.toList=nI z:=by rw[h.1];exact Ku z (hz z WU).2 (hz z WU).1
  have e:=HY t zt h.2 (λy f=>hz y (by simp[f]));rw[jK,d,e];rfl
def Lb(B:I1)(b:B.length=64)(h:B.all wj=Zk)(j:Nat)(d:j<8):(dL B j).length=8/\(dL B j).all wj=Zk:=by refine⟨by simp[dL];omega,?_⟩;rw[qW]at h|-;intro c a;exact h c (List.mem_of_mem_drop (List.mem_of_mem_take a))
def KH(B:I1)(d:B.length=64)(h:B.all wj=Zk)(x:I4)(m:x.data.toList=dA (zB B)):j7 x=nI B:=by
 have a:=oG B d;have f:x.data.toList=f_ ((h_ 8).map (λi=>AQ (dL B (7-i)))) [47]:=by rw[m];unfold dA;rw[a]
 have l:=qv4 47 9 (AQ (dL B 7)) ((h_ 7).map (λi=>AQ (dL B (6-i)))) (by
  intro y g
  have:∃j,j<8/\y=AQ (dL B j):=by
   obtain rfl|g:=Yj.mp g
   .exact⟨7,O,R⟩
   obtain⟨i,_,rfl⟩:=YL.mp g;exact⟨6-i,O,R⟩
  obtain⟨j,f,rfl⟩:=this;obtain⟨p,o⟩:=Lb B d h j f;exact PK _ (LK _ o O) 47 Qy) WU x T1
 have b:(xL 47 9 x).map (·.data.toList)=((h_ 8).map (λi=>dL B (7-i))).map AQ:=by rw[l];rfl
 have k:(xL 47 9 x).length=8:=by have:=Xn List.length b;simpa using this
 unfold j7;rw[qI k,HY _ _ b (by
  intro z n;obtain⟨i,_,rfl⟩:=YL.mp n;exact Lb B d h (7-i) O)]
 simp only[Xh];have e:(List.map nI ((h_ 8).map (λi=>dL B (7-i)))).reverse=((h_ 8).map (dL B)).map nI:=R;rw[e];have:=PV B 8;rw[Yk O]at this;unfold nI;rw[<-List.map_flatten,this]
theorem L7(a:I1):∀(d:List (I1)) (c:UInt8),c∈f_ d a->c∈a\/∃x∈d,c∈x
 | [],c,h=>by simp[f_,List.intercalate]at h
 | [x],c,h=>by rw[Lib.join_one]at h;exact Zj ⟨x,WU,h⟩
 | x::y::r,c,h=>by
  rw[ve,Yi,Yi]at h;obtain(h|h)|h:=h
  .exact Zj ⟨x,WU,h⟩
  .exact Zi h
  obtain h|⟨z,b,e⟩:=L7 a (y::r) c h
  .exact Zi h
  exact Zj ⟨z,by simp at b|-;right;exact b,e⟩
def Kz(B:I1)(b:B.length=64)(h:B.all wj=Zk):(32:UInt8)∉dA (zB B):=by
 intro a;unfold dA at a;rw[oG B b]at a;obtain d|⟨x,f,e⟩:=L7 _ _ _ a
 .simp at d
 obtain⟨i,_,rfl⟩:=YL.mp f;obtain⟨j,g⟩:=Lb B b h (7-i) O;exact PK _ (LK _ g O) 32 Qz e
def Ls(b:Bool):(32:UInt8)∉([if b then 119 else 98]:I1):=by cases b<;>decide
def JY:∀a b d e:Bool,(32:UInt8)∉eE (λi=>if i=0 then a else if i=1 then b else if i=2 then d else e):=WW
def J5(f:I5):(32:UInt8)∉eE f:=JY (f 0) (f 1) (f 2) (f 3)
def Ky:∀k,k<64->(32:UInt8)∉xQ k:=WS
def NR(b:Int)(h:b=-1\/(0<=b/\b<64)):(32:UInt8)∉oO b:=by
 obtain rfl|⟨a,d⟩:=h
 .decide
 obtain⟨k,rfl⟩:=Yt a;have:oO (k:Int)=xQ k:=by rw[oO,qF O];simp
 rw[this];exact Ky k O
def JX(n:Nat):(32:UInt8)∉Lib.itoa (n:Int):=by
 have e:Lib.itoa (n:Int)=d_ n:=by rw[Lib.itoa,qF O,YE]
 rw[e];intro a;have:=qW.mp (PQ n n Zy).2.1 32 a;exact w_ this WW
def HS(B:I1)(e:B.length=64)(a:B.all wj=Zk)(wh:Bool)(f:Nat->Bool)(b:Int)(i:b=-1\/(0<=b/\b<64))(h g:Nat)(w:h<=65535)(v:g<=65535)(s:I4)(x:s.data.toList=oI (zB B) wh f b h g):∃p,xG s=S p/\p.board=nI B/\p.white=wh/\p.castle 0=f 0/\p.castle 1=f 1/\p.castle 2=f 2/\p.castle 3=f 3/\p.behind=b/\p.half=h/\p.full=g:=by
 have d:=qv4 32 7 (dA (zB B)) [[if wh then 119 else 98],eE f,oO b,Lib.itoa (h:Int),Lib.itoa (g:Int)] (by
  intro y j;simp only[Yj,List.mem_nil_iff,or_false]at j;obtain rfl|rfl|rfl|rfl|rfl|rfl:=j
  .exact Kz B e a
  .exact Ls wh
  .exact J5 f
  .exact NR b i
  .exact JX h
  exact JX g) WU s x
 unfold xG;have u:(xL 32 7 s).length=6:=by have:=Xn List.length d;simpa using this
 match hx:xL 32 7 s,u with
 | [x0,x1,x2,x3,x4,x5],_=>
  rw[hx]at d;simp only[YM,Wi,X7,and_true]at d;obtain⟨l,m,n,o,q,r⟩:=d;obtain⟨c,c0,c1,c2,c3,k⟩:=Jj f;simp only;rw[Ac,KH B e a x0 l,Kp x1 wh m,n,c0,Jm b i x3 o,q,Hd h w,r,Hd g v];exact⟨_,R,R,R,c1,c2,c3,k,R,R,R⟩
def PE:c_.plainKey 5=Zk:=WR
def KU:c_.plainKey 4=Zk:=WR
def ol:c_.plainKey 3=Zk:=WR
def Sa:∃i,c_.info? 5=S i:=Xr.1 (show(c_.info? 5).isSome=Zk from WR)
def Rb:∃i,c_.info? 4=S i:=Xr.1 (show(c_.info? 4).isSome=Zk from WR)
def Rr:c_.cellsOf 5=1:=WR
def Rt:c_.cellsOf 4=1:=WR
def Pf:c_.underlying 70=S (.struct (c_.fieldsOf 70)):=WR
def Pt:c_.stoodInHeld 70=Zl:=WR
def Nt:(c_.fieldsOf 70).toList.map (λf => (f.name != "_", f.type, f.offset)) = [(Zk, 67, 0), (Zk, 4, 64), (Zk, 68, 65), (Zk, 3, 69), (Zk, 3, 70), (Zk, 3, 71)]:= WR
def PG(a:I0)(w:I6):(part 67 a 0).run c_ w=.ok (a.extract 0 64) w:=by simp[part,isAgg,run_underlying t_,sizeOf,typeInfo];kernel_rfl
def RC(a:I0)(w:I6):(part 68 a 65).run c_ w=.ok (a.extract 65 69) w:=by simp[part,isAgg,run_underlying underlying68,sizeOf,typeInfo];kernel_rfl
def Q0{f d:I5}{g:Int}{l m:I0}(r:jE z wh f b h g l)(a:jE z wh d b h g m)(k:∀i,i<4->f i=d i):l=m:=by
 apply YV;intro i;by_cases e:i<64
 .rw[r.sq i e,a.sq i e]
 by_cases j:i<72
 .have:i=64\/i=65+0\/i=65+1\/i=65+2\/i=65+3\/i=69\/i=70\/i=71:=O;obtain rfl|rfl|rfl|rfl|rfl|rfl|rfl|rfl:=this
  .rw[r.wh,a.wh]
  .rw[r.c 0 O,a.c 0 O,k 0 O]
  .rw[r.c 1 O,a.c 1 O,k 1 O]
  .rw[r.c 2 O,a.c 2 O,k 2 O]
  .rw[r.c 3 O,a.c 3 O,k 3 O]
  .rw[r.b,a.b]
  .rw[r.h,a.h]
  rw[r.g,a.g]
 rw[Z6 Vw,Z6 (by rw[a.size];omega)]
def A2{B:I1}(v:B.length=64){f:I5}{g:Int}(r:jE (zB B) wh f b h g PA)(k:k6 (zB B) wh f b h g=Zk){e:Ending}(w:zA ⟨(oI (zB B) wh f b h g).toArray⟩ e):e=Ze #[PA,I L 0]:=by
 obtain⟨x,y,z,A⟩:=nG k;have d:B.all wj=Zk:=by rw[qW];intro c m;obtain⟨i,o,rfl⟩:=List.getElem_of_mem m;have:=x i O;unfold zB at this;rwa[YR,Yf o]at this
 obtain⟨n,rfl⟩:=Yt z.1;obtain⟨gn,rfl⟩:=Yt (show 0<=g from O);obtain⟨p,p1,p2,p3,c0,c1,c2,c3,p4,p5,p6⟩:=HS B v d wh f b y n gn O O ⟨(oI (zB B) wh f b n gn).toArray⟩ R;have m:∀i,i<4->p.castle i=f i:=λi o=>by exact Ij
 have j:xP p=Zk:=by rw[xP,ip p2,p3,p4,p5,p6,fx _ _ _ _ _ m];exact k
 have l:jE (zB B) wh p.castle b n gn (jV p):=by have:=jo p1;rwa[ip p2,p3,p4,p5,p6]at this
 obtain⟨q,a,_,rfl⟩|⟨q,a,u,_⟩|⟨a,_⟩:=w
 .have:q=p:=qP (a.symm.trans p1);rw[this,Q0 l r m]
 .have:q=p:=qP (a.symm.trans p1);rw[this,j]at u;cases u
 rw[p1]at a;cases a
def tN{f:I5}{g:Int}(k:k6 z wh f b h g=Zk):(⟨(oI z wh f b h g).toArray⟩:I4).size<4294967281:=by obtain⟨_,_,a,d⟩:=nG k;have e:=HT z;have i:=D2 f;have j:=JH b;have l:=HP h a.1 a.2;have m:=HP g O d.2;show(oI z wh f b h g).toArray.size<_;rw[Ya];rw[oI,Lib.join_length];simp only[Lib.lens,Yq,XN,YM,Wi,List.sum_cons,List.sum_nil];omega
def Sk(W:I6):(Instr.sliceAt 9 (Zb ⟨#[48,49,50,51,52,53,54,55,56,57]⟩) (S (I Zh 0)) (S (I Zh 1)) N).run c_ W=.ok (Zb ⟨#[48]⟩) W:=WR
def Sj(W:I6):(Instr.sliceAt 9 (Zb ⟨#[48,49,50,51,52,53,54,55,56,57]⟩) (S (I Zh 1)) (S (I Zh 2)) N).run c_ W=.ok (Zb ⟨#[49]⟩) W:=WR
def Si(W:I6):(Instr.sliceAt 9 (Zb ⟨#[48,49,50,51,52,53,54,55,56,57]⟩) (S (I Zh 2)) (S (I Zh 3)) N).run c_ W=.ok (Zb ⟨#[50]⟩) W:=WR
def Sh(W:I6):(Instr.sliceAt 9 (Zb ⟨#[48,49,50,51,52,53,54,55,56,57]⟩) (S (I Zh 3)) (S (I Zh 4)) N).run c_ W=.ok (Zb ⟨#[51]⟩) W:=WR
def Sg(W:I6):(Instr.sliceAt 9 (Zb ⟨#[48,49,50,51,52,53,54,55,56,57]⟩) (S (I Zh 4)) (S (I Zh 5)) N).run c_ W=.ok (Zb ⟨#[52]⟩) W:=WR
def Sf(W:I6):(Instr.sliceAt 9 (Zb ⟨#[48,49,50,51,52,53,54,55,56,57]⟩) (S (I Zh 5)) (S (I Zh 6)) N).run c_ W=.ok (Zb ⟨#[53]⟩) W:=WR
def Se(W:I6):(Instr.sliceAt 9 (Zb ⟨#[48,49,50,51,52,53,54,55,56,57]⟩) (S (I Zh 6)) (S (I Zh 7)) N).run c_ W=.ok (Zb ⟨#[54]⟩) W:=WR
def Sd(W:I6):(Instr.sliceAt 9 (Zb ⟨#[48,49,50,51,52,53,54,55,56,57]⟩) (S (I Zh 7)) (S (I Zh 8)) N).run c_ W=.ok (Zb ⟨#[55]⟩) W:=WR
def Sc(W:I6):(Instr.sliceAt 9 (Zb ⟨#[48,49,50,51,52,53,54,55,56,57]⟩) (S (I Zh 8)) (S (I Zh 9)) N).run c_ W=.ok (Zb ⟨#[56]⟩) W:=WR
def Sb(W:I6):(Instr.sliceAt 9 (Zb ⟨#[48,49,50,51,52,53,54,55,56,57]⟩) (S (I Zh 9)) (S (I Zh 10)) N).run c_ W=.ok (Zb ⟨#[57]⟩) W:=WR
def Bb(d:Nat)(a:d<10)(W:I6):(Instr.sliceAt 9 (Zb ⟨#[48,49,50,51,52,53,54,55,56,57]⟩) (S (I Zh d)) (S (I Zh ((d:Int)+1))) N).run c_ W=.ok (Zb ⟨#[j_ (48+d)]⟩) W:=by
 have:d=0\/d=1\/d=2\/d=3\/d=4\/d=5\/d=6\/d=7\/d=8\/d=9:=O;obtain rfl|rfl|rfl|rfl|rfl|rfl|rfl|rfl|rfl|rfl:=this
 .exact Sk W
 .exact Sj W
 .exact Si W
 .exact Sh W
 .exact Sg W
 .exact Sf W
 .exact Se W
 .exact Sd W
 .exact Sc W
 exact Sb W
def eP(d:Nat):j_ (48+d)=48+j_ d:=by simp[UInt8.ofNat_add]
def H5(c:UInt8)(u:I4):((⟨#[c]⟩:I4)++u).data.toList=c::u.data.toList:=by rw[j3];rfl
def dM(n:Nat)(h:n<=1000000000000000000)(w:I6):ZL 75 #[I Zh n] w (Zb ⟨(d_ n).toArray⟩):=by
 unfold ZL;go_in;go_wp2;go_loopg [0,3] n (λr nn ss wr=>∃(m:Nat)(u:I4),m<=r/\r<=n/\nn=I Zh m/\ss=u/\d_ n=d_ m++u.data.toList/\Gr w wr)
 case atStart=>exact⟨n,⟨#[]⟩,Zy,Zy,R,R,WU,ZO⟩
 case round=>
  obtain⟨m,u,K,J,rfl,rfl,a,l⟩:=hrel;have B:u.size<100000:=by have v:=dz 18 n O;have F:u.data.toList.length=u.size:=R;rw[a,qZ]at v;omega
  have b:=X a;have f:=X l;clear a l;by_cases G:9<m
  .obtain⟨d,x⟩:∃d:Nat,m%10=d:=⟨_,R⟩;obtain⟨q,y⟩:∃q:Nat,m/10=q:=⟨_,R⟩;have j:d<10:=O;have H:(m:Int).tmod 10=(d:Int):=Vu;have e:(m:Int).tdiv 10=(q:Int):=Uh;have A:(m:Int)%10=d:=O;have C:(m:Int)/10=q:=O;have p:a_ Zh ((d:Int)+1)=(d:Int)+1:=Vh;have D:a_ Zh (q:Int)=q:=Vh;have E:a_ Zh (d:Int)=d:=Vh;have i:=Bb d j;have o:Y (d_ n=d_ q++((⟨#[j_ (48+d)]⟩:I4)++u).data.toList):=X (by
    rw[b.a,H5]
    conv=>lhs;arg 1;unfold d_
    rw[dif_neg O,y,x,qS];rfl)
   have z:q<m:=O;rw[eP]at i o;go_wp2;go_roundg q
   case measure=>omega
   case rel=>exact⟨q,_,Zy,O,R,R,o,f⟩
  .have g:m<10:=O;have p:a_ Zh ((m:Int)+1)=(m:Int)+1:=Vh;have i:=Bb m g;have k:Y ((⟨#[48+j_ m]⟩:I4)++u=⟨(d_ n).toArray⟩):=X (by
    have:(d_ n).toArray=((⟨#[48+j_ m]⟩:I4)++u).data:=by
     rw[b.a];unfold d_;rw[Wf g,eP];apply Array.toList_inj.1;rw[H5];rfl
    rw[this])
   rw[eP]at i;go_wp2;go_ret;exact⟨by rw[<-k.a];rfl,f⟩
def fm(n:Nat)(h:n<100000)(w:I6):ZL 75 #[I Zh n] w (Zb ⟨(d_ n).toArray⟩):=dM n O w
def MO(n:Nat)(h:n<10)(b:n≠0):d_ n=ur n:=by unfold d_ ur;rw[Wf h,qF b]
def Hf(z:I2)(j:Nat):I1×Nat:=if j<8 then DV z j else(oJ z,0)
def SG(z:I2):Hf z 0=([],0):=R
def LR(z:I2):Hf z 8=(oJ z,0):=R
def Hk(z:I2)(j:Nat)(h:j<8):Hf z j=DV z j:=qI h
def Pv(z:I2)(j:Nat)(h:j<7)(e:z j=46):Hf z (j+1)=((Hf z j).1,(Hf z j).2+1):=by rw[Hk z j O,Hk z (j+1) O];show(if z j=46 then _ else _)=_;rw[qI e]
def M5(z:I2)(e:z 7=46):Hf z 8=((Hf z 7).1++ur ((Hf z 7).2+1),0):=by
 rw[LR,Hk z 7 O];have:DV z 8=((DV z 7).1,(DV z 7).2+1):=by show(if z 7=46 then _ else _)=_;rw[qI e]
 rw[oJ,this]
def Pu(z:I2)(j:Nat)(h:j<8)(e:z j≠46):Hf z (j+1)=((Hf z j).1++ur (Hf z j).2++[z j],0):=by
 rw[Hk z j h];have a:DV z (j+1)=((DV z j).1++ur (DV z j).2++[z j],0):=by show(if z j=46 then _ else _)=_;rw[qF e]
 by_cases b:j=7
 .subst b;rw[LR];rw[oJ,a];simp[ur]
 rw[Hk z (j+1) O,a]
def N7(z:I2)(j:Nat)(h:j<=8):(Hf z j).1.length<=17/\(Hf z j).2<=8:=by
 by_cases d:j<8
 .rw[Hk z j d];have:=JG z j;omega
 have:j=8:=O;subst this;rw[LR];have a:=JG z 8;have b:(ur (DV z 8).2).length<=1:=U0;refine⟨?_,WU⟩;show(oJ z).length<=17;rw[oJ,qZ];omega
def F'(z:Nat->UInt8):Nat->I1
 | 0=>[]
 | k+1=>F' z k++oJ (λf=>z (8*(7-k)+f))++(if k<7 then[47]else[])
theorem Ad(z:Nat->UInt8):∀k,(F' z k).length<=18*k
 | 0=>Zy
 | k+1=>by
  have b:=Ad z k;have a:=(N7 (λf=>z (8*(7-k)+f)) 8 Zy).1;rw[LR]at a;have:(if k<7 then[47]else[]:I1).length<=1:=by split<;>simp
  show(F' z k++oJ (λf=>z (8*(7-k)+f))++(if k<7 then[47]else[])).length<=_;simp only[qZ];simp only at a;omega
def Kq(z:I2):F' z 8=dA z:=by have e:(eB z).map (·.data.toList)=[oH z 0,oH z 1,oH z 2,oH z 3,oH z 4,oH z 5,oH z 6,oH z 7]:=R;rw[dA,e];simp only[ve,Lib.join_one];simp[F',oH]
def Kc(n:Nat):Lib.itoa (n:Int)=d_ n:=by rw[Lib.itoa,qF O,YE]
def Pk(z:I2)(wh:Bool)(f:I5)(b:Int)(h g:Nat):oI z wh f b h g=F' z 8++[32,if wh then 119 else 98,32]++eE f++[32]++oO b++[32]++d_ h++[32]++d_ g:=by unfold oI;simp only[ve,Lib.join_one];rw[Kq,Kc,Kc];simp
def Nw(W:I6)(c:UInt8):(convert 145 9 (Zq (S W) 1 1)).run c_ (W.alloc (Z #[I Zg c.toNat] 5))=.ok (Zb ⟨#[c]⟩) (W.alloc (Z #[I Zg c.toNat] 5)):=
 qq4 (W.alloc (Z #[I Zg c.toNat] 5)) ⟨W,0,N⟩ 1 [c] (by
  intro i a;have:i=0:=by simp at a;omega
  subst this;rw[X2,Z2,Z8 _ _ _ _ R];rfl)
def Ke(n:Nat)(h:n<=65535):(⟨(d_ n).toArray⟩:I4).size<=70000:=by show(d_ n).toArray.size<=_;rw[Ya];have:=Jg n n Zy;omega
def QN{b:Nat}{u:I7}(h:zJ b A w1)(a:A[i]?=u)(d:A[j]?=v)(g:Gr w1 w'):Gr w1 w'/\w'.cell? ⟨b,i,N⟩=u/\w'.cell? ⟨b,j,N⟩=S v:=⟨g,(h.gr g).at' a,(h.gr g).at' d⟩
def TL(W:I6):(Instr.sliceAt 9 (Zb ⟨#[75,81,107,113]⟩) (S (I L 0)) (S (I L 1)) N).run c_ W=.ok (Zb ⟨#[vn 0]⟩) W:=WR
def TJ(W:I6):(Instr.sliceAt 9 (Zb ⟨#[75,81,107,113]⟩) (S (I L 1)) (S (I L 2)) N).run c_ W=.ok (Zb ⟨#[vn 1]⟩) W:=WR
def TI(W:I6):(Instr.sliceAt 9 (Zb ⟨#[75,81,107,113]⟩) (S (I L 2)) (S (I L 3)) N).run c_ W=.ok (Zb ⟨#[vn 2]⟩) W:=WR
def TH(W:I6):(Instr.sliceAt 9 (Zb ⟨#[75,81,107,113]⟩) (S (I L 3)) (S (I L 4)) N).run c_ W=.ok (Zb ⟨#[vn 3]⟩) W:=WR
def Mw{f:I5}{g:Int}(r:jE z wh f b h g PA)(hb:b=-1\/(0<=b/\b<64))(h0:0<=h/\h<=65535)(g0:0<=g/\g<=65535)(w:I6):ZL 73 #[PA] w (Zb ⟨(oI z wh f b h g).toArray⟩):=by
 have C:Y (zJ w PA (w.alloc (Z PA 70))):=X (qy Zv);have b7:Y (Gr w (w.alloc (Z PA 70))):=X ZN;have h4:=X r.sq;unfold ZL;go_in;go_wp2;generalize w.alloc (Z PA 70)=w1 at C b7|-;go_loopg [3,4] 8 (λgg ss rr wr=>∃(k:Nat)(u:I4),k+gg=8/\rr=I L (7-(k:Int))/\ss=u/\u.data.toList=F' z k/\Gr w1 wr)
 case atStart=>exact⟨0,⟨#[]⟩,R,R,R,R,ZO⟩
 case round=>
  obtain⟨k,u,k1,rfl,rfl,hu,c4⟩:=hrel;have p0:u.size<=144:=by have:=Ad z k;rw[<-hu,ZX,YY]at this;omega
  have c6:=X hu;have d:=X c4;clear hu c4;by_cases r3:k<8
  .have n1:(0:Int)<=7-(k:Int):=O;have n2:(k:Int)<=7:=O;obtain⟨zr,d3⟩:∃zr:I2,Y (zr=λf=>z (8*(7-k)+f)):=⟨_,X R⟩;go_wp2;go_loopg [3,5,6] 8 (λgg ss nn ff wr=>∃(j:Nat)(v:I4),j+gg=8/\ff=j/\ss=v/\nn=((Hf zr j).2:Nat)/\v.data.toList=F' z k++(Hf zr j).1/\Gr w1 wr)
   case atStart=>exact⟨0,u,R,R,R,R,by rw[c6.a,SG];simp,d.a⟩
   case round=>
    obtain⟨j,v,j1,rfl,rfl,rfl,hv,n⟩:=hrel;obtain⟨m,hm⟩:=Zn ((Hf zr j).2);have f0:=N7 zr j O;rw[hm.a]at f0;have d0:v.size<=200:=(by have h1:=Ad z k;have E:=Xn List.length hv;rw[qZ,ZX,YY]at E;omega);have p:=X hv;have a:=X n;have B:=C.a.gr n;clear hv n;rw[hm.a];by_cases hj:j<8
    .obtain⟨o,ho⟩:∃o:Nat,8*(7-k)=o:=⟨_,R⟩;have n7:8*(7-(k:Int))=(o:Int):=O;have r0:a_ L (8*(7-(k:Int)))=(o:Int):=Vc;have g9:o+j<64:=O;have F:=B.at' (h4.a (o+j) g9);have k0:Y (zr j=z (o+j)):=X (by rw[d3.a,ho]);rw[<-k0.a]at F;clear B;by_cases hd:zr j=46
     .have k8:Y (zr j=46):=X hd;rw[hd]at F;by_cases h7:j<7
      .have n5:((j:Int)==7)=Zl:=Vp;have q:=X (Pv zr j h7 hd);clear hd;go_wp2;go_roundg (gk-1)
       case measure=>omega
       case rel=>exact⟨j+1,v,O,Vg,R,by rw[q.a,hm.a];rfl,by rw[q.a];exact p.a,a.a⟩
      .have e7:j=7:=O;subst e7;have q:=X (M5 zr hd);have G:Y (∀W:I6,ZL 75 #[I Zh ((m:Int)+1)] W (Zb ⟨(ur (m+1)).toArray⟩)):=X λW=>(by have:=fm (m+1) O W;rwa[MO (m+1) O O]at this);have g2:(⟨(ur (m+1)).toArray⟩:I4).size=1:=(by unfold ur;rw[qF O];rfl);clear hd;go_wp2_with(go_at_call 75;refine Z0 (G.a _) λw' hg=>?_);go_roundg (gk-1)
       case measure=>omega
       case rel=>refine⟨8,_,O,R,R,by rw[q.a]<;>rfl,?_,o_ a.a hg⟩;rw[j3,p.a,q.a,hm.a,qS]
     .have n0:(((zr j).toNat:Int)==46)=Zl:=(by rw[qM];intro hh;exact hd (q6.1 (by show(zr j).toNat=46;omega)));have q:=X (Pu zr j hj hd);have m6:=λW=>Nw W (zr j);clear hd;by_cases h2:m=0
      .subst h2;go_wp2;go_roundg (gk-1)
       case measure=>omega
       case rel=>refine⟨j+1,_,O,Vg,R,by rw[q.a]<;>rfl,?_,a.a.alloc _ _⟩;rw[j3,p.a,q.a,hm.a];simp[ur]
      .have G:Y (∀W:I6,ZL 75 #[I Zh m] W (Zb ⟨(ur m).toArray⟩)):=X λW=>(by have:=fm m O W;rwa[MO m O h2]at this);have g2:(⟨(ur m).toArray⟩:I4).size=1:=(by unfold ur;rw[qF h2];rfl);have n4:(0:Int)<(m:Int):=O;go_wp2_with(go_at_call 75;refine Z0 (G.a _) λw' hg=>?_);go_roundg (gk-1)
       case measure=>omega
       case rel=>refine⟨j+1,_,O,Vg,R,by rw[q.a]<;>rfl,?_,(o_ a.a hg).alloc _ _⟩;rw[j3,j3,p.a,q.a,hm.a];simp
    .have ej:j=8:=O;subst ej;have r1:a_ L (7-(k:Int)-1)=7-((k+1:Nat):Int):=Vc;have y:Y (v.data.toList++(if k<7 then[47]else[])=F' z (k+1)):=X (by rw[p.a,LR,d3.a];rfl);by_cases r2:k<7
     .rw[qI r2]at y;have n3:(0:Int)<7-(k:Int):=O;go_wp2;go_roundg (7-k)
      case measure=>omega
      case rel=>exact⟨k+1,_,O,R,R,by rw[j3,<-y.a],a.a⟩
     .rw[qF r2]at y;have d4:k=7:=O;subst d4;go_wp2;go_roundg 0
      case measure=>omega
      case rel=>exact⟨8,v,O,R,R,by rw[<-y.a];simp,a.a⟩
  .have ek:k=8:=O;subst ek;obtain⟨sd,b0⟩:∃l:I1,Y (l=F' z 8++[32,if wh then 119 else 98,32]):=⟨_,X R⟩;have Q:Y (sd.length<=150):=X (by
    rw[b0.a,qZ];have:=Ad z 8;simp;omega)
   have h9:=(C.a.gr d.a).at' r.wh;have b4:=X r.c;have b3:=X r.b;have a7:=X r.h;have a0:=X r.g;clear r;go_upto_if 57 with fail;go_cut [3]from 58 to 61 (λs3 wx=>∃t:I4,s3=t/\t.data.toList=sd/\Gr w1 wx)
   case first=>
    cases wh;all_goals
     go_wp2;go_meet
     case rel=>exact⟨_,R,by rw[j3,c6.a,b0.a];rfl,d.a⟩
   case rest=>
    obtain⟨t,rfl,t0,P⟩:=hcut;have h5:=X t0;have g4:=X P;clear t0 P h9;go_wp2;go_loopg [3,8,9] 4 (λgg ss sm ii k3=>∃(i:Nat)(v:I4),i+gg=4/\ii=i/\ss=v/\sm=(!(E5 f i).isEmpty)/\v.data.toList=sd++E5 f i/\Gr w1 k3)
    case atStart=>exact⟨0,t,R,R,R,R,by rw[h5.a];simp[E5],g4.a⟩
    case round=>
     obtain⟨i,v,i1,rfl,rfl,rfl,hv,n⟩:=hrel;have B:=C.a.gr n;have d0:v.size<=160:=(by have h1:=Q.a;have h3:=Jt f i;have E:=Xn List.length hv;rw[qZ,ZX,YY]at E;omega);have p:=X hv;have a:=X n;clear hv n;obtain⟨sm,K⟩:=Zn (!(E5 f i).isEmpty);rw[K.a];by_cases r3:i<4
     .have g7:i=0\/i=1\/i=2\/i=3:=O;have f8:=B.at' (b4.a i r3);obtain⟨fv,M⟩:=Zn (f i);rw[M.a]at f8;obtain⟨i',H⟩:∃j,Y (j=i+1):=⟨_,X R⟩;have c5:Y (i'+(gk-1)=4):=X (by have:=H.a;omega);have b1:Y (fv=Zl->E5 f i'=E5 f i):=X (λh=>by rw[H.a,oN,M.a,h];simp);have hwT:Y (fv=Zk->E5 f i'=E5 f i++[vn i]):=X (λh=>by rw[H.a,oN,M.a,h];simp);have s0:=TL;have s1:=TJ;have s2:=TI;have s3:=TH;clear B M;obtain rfl|rfl|rfl|rfl:=g7;all_goals
       cases fv
       .have r7:=X (b1.a R);clear b1 hwT;go_wp2;go_roundg (gk-1)
        case measure=>omega
        case rel=>exact⟨i',v,c5.a,by rw[H.a];go_num,R,by rw[r7.a,K.a],by rw[r7.a];exact p.a,a.a⟩
       .have r7:=X (hwT.a R);clear b1 hwT;go_wp2;go_roundg (gk-1)
        case measure=>omega
        case rel=>exact⟨i',_,c5.a,by rw[H.a];go_num,R,by rw[r7.a];simp,by rw[j3,p.a,r7.a,qS],a.a⟩
     .have ei:i=4:=O;subst ei;have k5:=B.at' b3.a;have m1:=B.at' a7.a;have m0:=B.at' a0.a;have g5:=a7;have g1:=a0;clear B b4 b3 a7 a0;obtain⟨r4,rfl⟩:=Yt h0.1;obtain⟨gn,rfl⟩:=Yt g0.1;have g6:r4<=65535:=O;have g3:gn<=65535:=O;have k9:(⟨(d_ r4).toArray⟩:I4).size<=70000:=Ke r4 g6;have l0:(⟨(d_ gn).toArray⟩:I4).size<=70000:=Ke gn g3;clear h0 g0;have p8:a_ Zh (r4:Int)=r4:=Vh;have p7:a_ Zh (gn:Int)=gn:=Vh;have h6:=X (Pk z wh f b r4 gn);have a9:Y (eE f=if sm then E5 f 4 else[45]):=X (by
       unfold eE;rw[<-K.a];cases (E5 f 4).isEmpty<;>rfl)
      go_upto_if 77 with fail;go_cut [3]from 78 to 79 (λs3 wx=>∃T:I4,s3=T/\T.data.toList=sd++eE f/\wx=wr)
      case first=>
       cases sm
       .have b5:Y (E5 f 4=[]):=X (by have:=K.a;simpa using this);go_wp2;go_meet
        case rel=>exact⟨_,R,by rw[j3,p.a,a9.a,b5.a];simp,R⟩
       .go_wp2;go_meet
        case rel=>exact⟨_,R,by rw[p.a,a9.a];rfl,R⟩
      case rest=>
       obtain⟨T,rfl,s9,d1⟩:=hcut;have d2:=d1.symm;subst d2;have b2:=X s9;have m2:T.size<=200:=(by have h1:=Q.a;have E:=Xn List.length b2.a;have h3:=D2 f;rw[qZ,ZX,YY]at E;omega);clear d1 s9 p d0 K a9;obtain⟨bb,s8⟩:=Zo (Zm (0<=b));go_upto_if 82 with fail;go_cut [10]from 83 to 85 (λk2 wx=>∃r6:I4,k2=r6/\r6.data.toList=oO b/\Gr wr wx)
       case first=>
        obtain hb|⟨s7,d5⟩:=hb
        .have E:bb=Zl:=(by rw[<-s8,hb];rfl);subst E;have hN:Y (oO b=[45]):=X (by rw[hb];rfl);clear hb;go_wp2;go_meet
         case rel=>exact⟨_,R,by rw[hN.a],ZO⟩
        .have E:bb=Zk:=(by rw[<-s8];exact qJ s7);subst E;obtain⟨bn,rfl⟩:=Yt s7;have f7:bn<64:=O;have h8:Y (oO (bn:Int)=xQ bn):=X (by unfold oO;rw[qF O,YE]);have g8:Y (∀W:I6,ZL 110 #[bn] W (Zb ⟨(xQ bn).toArray⟩)):=X λW=>qxo bn f7 W;clear s7 d5;go_wp2_with(first|(go_at_call 110;refine Z0 (g8.a _) λwn D=>?_));go_meet
         case rel=>exact⟨_,R,by rw[h8.a],D⟩
       case rest=>
        obtain⟨r6,rfl,s5,D⟩:=hcut;have hN:=X s5;have k4:r6.size<=2:=(by have E:=Xn List.length s5;rw[ZX,YY]at E;rw[E];unfold oO;split<;>simp[xQ]);clear s5 s8 hb;have J:=(C.a.gr a.a).gr D;have a8:=g5.a;have d:=g1.a;obtain⟨A1,a1⟩:∃A,Y (A=T++(⟨#[32]⟩:I4)):=⟨_,X R⟩;obtain⟨r5,a2⟩:∃A,Y (A=A1++r6):=⟨_,X R⟩;obtain⟨A3,a3⟩:∃A,Y (A=r5++(⟨#[32]⟩:I4)):=⟨_,X R⟩;obtain⟨V,a4⟩:∃A,Y (A=A3++(⟨(d_ r4).toArray⟩:I4)):=⟨_,X R⟩;obtain⟨A5,a5⟩:∃A,Y (A=V++(⟨#[32]⟩:I4)):=⟨_,X R⟩;obtain⟨A6,a6⟩:∃A,Y (A=A5++(⟨(d_ gn).toArray⟩:I4)):=⟨_,X R⟩;have l1:A1.size<=201:=(by rw[a1.a,Yn];show T.size+1<=_;omega);have l2:r5.size<=203:=(by rw[a2.a,Yn];omega);have l3:A3.size<=204:=(by rw[a3.a,Yn];show r5.size+1<=_;omega);have l4:V.size<=70204:=(by rw[a4.a,Yn];omega);have l5:A5.size<=70205:=(by rw[a5.a,Yn];show V.size+1<=_;omega);have f1:∀W:I6,(k_ .add T (⟨#[32]⟩:I4)).run c_ W=.ok A1 W:=λW=>(by rw[a1.a];exact Xy W T _ (by show T.size+1<=_;omega));have f2:∀W:I6,(k_ .add A1 r6).run c_ W=.ok r5 W:=λW=>(by rw[a2.a];exact Xy W A1 _ O);have f3:∀W:I6,(k_ .add r5 (⟨#[32]⟩:I4)).run c_ W=.ok A3 W:=λW=>(by rw[a3.a];exact Xy W r5 _ (by show r5.size+1<=_;omega));have f4:∀W:I6,(k_ .add A3 (⟨(d_ r4).toArray⟩:I4)).run c_ W=.ok V W:=λW=>(by rw[a4.a];exact Xy W A3 _ O);have f5:∀W:I6,(k_ .add V (⟨#[32]⟩:I4)).run c_ W=.ok A5 W:=λW=>(by rw[a5.a];exact Xy W V _ (by show V.size+1<=_;omega));have f6:∀W:I6,(k_ .add A5 (⟨(d_ gn).toArray⟩:I4)).run c_ W=.ok A6 W:=λW=>(by rw[a6.a];exact Xy W A5 _ O);have b6:Y (A6=⟨(oI z wh f b r4 gn).toArray⟩):=X (by
         have:A6.data.toList=oI z wh f b r4 gn:=(by rw[h6.a,a6.a,j3,a5.a,j3,a4.a,j3,a3.a,j3,a2.a,j3,a1.a,j3,b2.a,b0.a,hN.a]);rw[<-this])
        go_upto_region 34 with fail;go_region_held3 (λw'=>Gr wc w'/\w'.cell? ⟨w,70,N⟩=I L r4/\w'.cell? ⟨w,71,N⟩=I L gn) (first|exact QN J a8 d ZO.drew|exact QN J a8 d ‹_›|exact QN J a8 d (Gr.alloc (vy ‹_›) _ _)) (first|(go_at_call 75;refine Z0 (fm _ O _) λw' hg=>?_;have f9:=o_ (vy ‹_›) hg));go_wp2;go_ret;exact⟨by rw[<-b6.a];rfl,o_ b7.a (o_ (o_ a.a D) f9)⟩
def isTrue:I7->Bool
 | Za Zk=>Zk
 | _=>Zl
instance (c : UInt8) : Decidable (DO c) := by unfold DO; infer_instance
def LU:∀n,n<256->DO (j_ n):=WS
def JZ(c:UInt8):DO c:=by have:=LU c.toNat c.toNat_lt;rwa[UInt8.ofNat_toNat]at this
def K5(z:I2)(B:I0)(V:B.size=64)(A:∀i,i<64->B[i]?=I Zg (z i).toNat)(w:I6):ZL 328 #[B] w (uw z):=by
 have y:=X A;have u:Y ((w.alloc (Z B 67)).heap[w.heap.size]?=Z B 67):=X (Z7 w _);unfold ZL;go_in;go_wp2_with(refine ZV R 67 _ R w R 67 B (0,0) _ u.a t_ rfl (by rw[V];exact x7) ?_);go_loopg [3,7] 64 (λg l n wr=>∃k:Nat,k+g=64/\n=k/\l=(ws z k:Nat)/\(∀j,j<k->(yB (z j)||vG (z j))=Zk)/\wr=w.alloc (Z B 67))
 .exact⟨0,R,R,R,λj C=>w_ C (Yy j),R⟩
 obtain⟨k,Q,rfl,rfl,E,rfl⟩:=hrel;have p:=X E;by_cases T:k<64
 .have v:=G1 B k T _ (y k T);have G:0<=(k:Int):=O;have H:(k:Int)<64:=O;have D:=EH z k;have a:=X (sU z k);have b:Y ((yB (z k)||vG (z k))=Zk->∀j,j<k+1->(yB (z j)||vG (z j))=Zk):=X (λh j C=>by
   by_cases W:j=k
   .subst W;exact h
   exact p j O)
  rcases JZ (z k)with⟨f,d,x⟩|⟨f,d,x⟩|⟨f,d⟩
  .have m:=X (b T1);have o:Y (ws z (k+1)=ws z k):=(by rw[a.a,d];rfl);obtain e|e|e:=x;all_goals
    rw[e]at v;go_wp2;go_roundg (gk-1)
    .exact⟨k+1,O,Vg,by rw[o.a],m,R⟩
    omega
  .have m:=X (b Oi);have o:Y (ws z (k+1)=ws z k+1):=(by rw[a.a,d];rfl);obtain e|e|e|e:=x;all_goals
    rw[e]at v;go_wp2;go_roundg (gk-1)
    .exact⟨k+1,O,Vg,(by rw[o.a];go_num),m,R⟩
    omega
  have r:=X (tT T f);have J:=d 46 WU;have K:=d 75 WU;have a1:=d 107 WU;have M:=d 78 WU;have a2:=d 110 WU;have a0:=d 66 WU;have P:=d 98 WU;go_wp2;go_ret;exact⟨by rw[r.a];rfl,ZN⟩
 have F:k=64:=O;subst F;have q:=X (tU p);go_wp2;go_ret;exact⟨by rw[q.a];rfl,ZN⟩
def NN(z:I2)(B:I0)(h:B.size=64)(f:∀i,i<64->B[i]?=I Zg (z i).toNat)(c:Bool)(n:Int)(w:I6):ZL 292 #[B,c,n] w (yO z c n):=by
 have g:=λW=>K5 z B h f W;have a:(w.alloc (Z B 67)).heap[w.heap.size]?=Z B 67:=Z7 w _;have b:Gr w (w.alloc (Z B 67)):=ZN;unfold yO;generalize uw z=D at g|-;by_cases l:n=0
 .subst l;rw[qI R];cases c;all_goals
   unfold ZL;go_in;go_wp2;go_ret;exact⟨R,b⟩
 rw[qF l];have j:=qM.2 l;cases D;all_goals
  unfold ZL;go_in
  go_wp2_with(first|(refine ZV R 67 _ R w R 67 B (0,0) _ a t_ rfl (by rw[h];exact x7) ?_)|(go_at_call 328;refine Z0 (g _) λk d=>?_));go_ret;exact⟨R,o_ b d⟩
structure Lk(w:I6)(PA:I0)(W:I6):Prop where
 ck:Ck w 60 61 PA W
 st:W.heap[w.heap.size+2]?=S (Z (xB Zl 0 0) 186)
def Lk.next(h:Lk w PA W)(g:Gr W a):Lk w PA a:=⟨h.ck.next g,ZE g h.st⟩
def Lk.c0(h:Lk w PA W):W.cell? w=S (.func (.func 60) #[] #[]):=by rw[Zs h.ck.q];rfl
def Lk.c1(h:Lk w PA W):W.cell? ⟨w,1,N⟩=S (.func (.func 61) #[] #[]):=by rw[Zs h.ck.q];rfl
def Nc(w:I6)(PA:I0):Lk w PA (((w.alloc (Z (zG 60 61) 74)).alloc (Z PA 70)).alloc (Z (xB Zl 0 0) 186)):=by refine⟨(ta w _ _ PA).next ZN,?_⟩;have:=ZQ ((w.alloc (Z (zG 60 61) 74)).alloc (Z PA 70)) (Z (xB Zl 0 0) 186);rw[Z3,Z3]at this;exact this
def Lz{g:Int}(r:jE z wh fc b h g PA)(q:xO z=Zk)(y:-1<=b)(A:b<=63)(T:0<=xR z wh)(V:xR z wh<=63)(w:I6)(a3:jF w)(M:jQ w):ZL 240 #[jP,PA] w (bx z wh fc b):=by
 have a6:=X r;obtain⟨Q,a4⟩:=FN r;have a7:=r.size;have f:=X (λW=>fp r q T V W);have u:=X (λc n W=>NN z _ Q a4 c n W);have G:=bu z wh fc b;have a:Y (∀Bp W,Gr w W->W.heap[Bp]?=Z PA 70->ZL 94 #[.func (.func 128) #[] #[ZI Bp]] W (((xC z wh fc b).length:Int))):=X (λBp W a1 a5=>
  Hr (qxq a6.a q y A Bp (λ_=>False) (λ_ h=>h.elim) W a5 (a3.gr a1) (M.gr a1)) (YC func128 WR R) (by
   rintro k (rfl|rfl|rfl)
   .exact(qB.1 a5).1
   .exact(a3.gr a1).2
   exact(M.gr a1).2) O)
 have p:Y (bx z wh fc b=xB (kz z wh) ((xC z wh fc b).length:Int) (yO z (kz z wh) ((xC z wh fc b).length:Int))):=R;generalize i:((xC z wh fc b).length:Int)=a0 at a p;generalize kz _ _=CQ at f p;have m:(c_.info? 70).map (·.size)=S PA.toList.length:=by rw[ZX,a7];exact jJ
 have o:=Nc w PA;have l:Y (∀W,Lk w PA W->W.rangeAt (w+1) 0 (PA.toList.take 64)):=X (λW hW=>by
  intro j v J;rw[Zs hW.ck.pa,Z2,<-qO];rw[Yv]at J;split at J
  .exact J
  cases J)
 have F:Y ((c_.info? 67).map (·.size)=S (PA.toList.take 64).length):=X (by rw[x7];simp[a7]);simp only[jP,zG];unfold ZL;go_in;go_upto_region 1 with fail;show n_ _ _ _ _ (((w.alloc (Z (zG 60 61) 74)).alloc (Z PA 70)).alloc (Z (xB Zl 0 0) 186));generalize ((w.alloc (Z (zG 60 61) 74)).alloc (Z PA 70)).alloc _=wA at o|-;refine ZT (S:=Lk w PA) WR (o.next ZO.drew) (λd=>?_);refine ZB 0 (Zc #[.func (.func 60) #[] #[],.func (.func 61) #[] #[]]) R (λw' x=>by have c0:=x.c0;have c1:=x.c1;go_simp) d ?_;apply ty 1 _ R (wY m Vb _ R (w+1) R (λ_ h=>h.ck.pa)) d;apply tq 3 _ d;refine ZB 4 (.func (.func 61) #[] #[]) R (λw' x=>by have c0:=x.c0;have c1:=x.c1;go_simp) d ?_;apply ty 5 _ R (wY m Vb _ R (w+1) R (λ_ h=>h.ck.pa)) d;refine rd 2 λK hK=>?_;go_simp;refine Z0 (f _) λwa B=>?_;refine hK.out _ _ (d.next B) λd=>?_;refine rd 6 λK hK=>?_;go_simp;refine Z0 (zk PA _) λwb⟨H,D⟩=>?_;refine hK.out _ _ (d.next D) λd=>?_;refine rd 7 λK hK=>?_;go_simp;refine Z0 (a _ _ d.ck.gr H) λwc E=>?_;refine hK.out _ _ (d.next E) λd=>?_;refine rd 8 λK hK=>?_;go_simp;refine hK.out _ _ d λd=>?_;refine rd 9 λK hK=>?_;go_simp;refine hK.out _ _ d λd=>?_;refine ZZ WR ?_ _;rename_i d;go_wp2_with(first|(refine Yo R 67 _ R (w+1) 0 R (PA.toList.take 64) _ (l.a _ ‹_›) t_ rfl F.a ?_)|(go_at_call 292;refine Z0 (u CQ a0 _) λwd P=>?_;have a2:=Lk.next ‹_› P)|(refine ZU R 186 _ _ R (w+2) (xB CQ a0 (yO z CQ a0)) R R 186 (xB Zl 0 0) a2.st vI R (xw _ _ _) ?_));exact ZS (v:=(xB CQ a0 (yO z CQ a0))) (Yp results240 _ _ (w+2) 186 _ (0,0) _ R (Zt a2.st) underlying186 rfl vI) R ⟨UG,a2.ck.gr.setRow _ O _⟩
def neg(s:yZ):yZ:=(-s.1,-s.2)
def Kl{f:I5}{g:Int}(r:jE z wh f b h g PA)(m:b=-1\/(0<=b/\b<64))(k:0<=h)(l:h<=65535)(i:0<=g)(j:g<=65535)(w:I6)(n:HG w):ZL 239 #[PA] w (Zb ⟨(oI z wh f b h g).toArray⟩):=by obtain⟨A,a,d,rfl⟩:=Aj r;exact Kn z A a d wh f b h g m k l i j w n
def JA(s:I4)(a e:Nat):(s.extract a e).data.toList=(s.data.toList.take e).drop a:=by rw[ByteArray.data_extract,Array.toList_extract];simp[List.drop_take]
def Qn{Z:I2}(h:∀n,64<=n->Z n=0):Z=zB ((h_ 64).map Z):=by
 funext n;unfold zB;by_cases a:n<64
 .rw[YR,YN,List.getElem?_range a];rfl
 rw[YR,Y9 WX];exact h n O
def JQ{B:I1}(m:B.length=64){f:I5}{g:Int}(k:k6 (zB B) wh f b h g=Zk):∃p,xG ⟨(oI (zB B) wh f b h g).toArray⟩=S p/\xP p=Zk/\xM p=zB B/\p.white=wh/\(∀i,i<4->p.castle i=f i)/\p.behind=b:=by
 obtain⟨n,o,q,r⟩:=nG k;have a:B.all wj=Zk:=by rw[qW];intro c e;obtain⟨i,j,rfl⟩:=List.getElem_of_mem e;have:=n i O;unfold zB at this;rwa[YR,Yf j]at this
 obtain⟨l,rfl⟩:=Yt q.1;obtain⟨gn,rfl⟩:=Yt (show 0<=g from O);obtain⟨p,p1,p2,p3,c0,c1,c2,c3,p4,p5,p6⟩:=HS B m a wh f b o l gn O O ⟨(oI (zB B) wh f b l gn).toArray⟩ R;have e:∀i,i<4->p.castle i=f i:=λi j=>by exact Ij
 have d:xP p=Zk:=by rw[xP,ip p2,p3,p4,p5,p6,fx _ _ _ _ _ e];exact k
 exact⟨p,p1,d,ip p2,p3,e,p4⟩
def QG(a b:BitVec 64):a_ Zh (U a*U b)=U (a*b):=by rw[LH];apply Xn U;unfold U;rw[<-Int.natCast_mul,BitVec.ofInt_natCast];exact BitVec.eq_of_toNat_eq (by rw[BitVec.toNat_ofNat,BitVec.toNat_mul])
def Sq(a b:BitVec 64):a_ Zh (U a+U b)=U (a+b):=by rw[LH];apply Xn U;unfold U;rw[<-Int.natCast_add,BitVec.ofInt_natCast];exact BitVec.eq_of_toNat_eq (by rw[BitVec.toNat_ofNat,BitVec.toNat_add])
def SQ(x:BitVec 64):BitVec 64:=
 let a:=(x ^^^ x>>>30)*13787848793156543929#64
 let b:=(a ^^^ a>>>27)*10723151780598845931#64
 b ^^^ b>>>31
def SN(s n:BitVec 64):BitVec 64:=SQ (s+n*11400714819323198485#64)
def SJ(x:BitVec 64):U x/(1073741824:Int)=U (x>>>30):=rE x 30
def SK(x:BitVec 64):U x/(134217728:Int)=U (x>>>27):=rE x 27
def SI(x:BitVec 64):U x/(2147483648:Int)=U (x>>>31):=rE x 31
def RJ(x:Int):Int:=
 let a:=a_ Zh (bits .xor Zh x (x/1073741824)*13787848793156543929)
 let b:=a_ Zh (bits .xor Zh a (a/134217728)*10723151780598845931)
 bits .xor Zh b (b/2147483648)
def mxB:(13787848793156543929:Int)=U 13787848793156543929#64:=WS
def mxC:(10723151780598845931:Int)=U 10723151780598845931#64:=WS
def mxA:(11400714819323198485:Int)=U 11400714819323198485#64:=WS
def SP(x:BitVec 64):RJ (U x)=U (SQ x):=by unfold RJ SQ;simp only;rw[SJ,oF,mxB,QG,SK,oF,mxC,QG,SI,oF]
def QI(x:Int)(w:I6):i_ c_ 295 #[I Zh x] w λe w'=>e=Zd (I Zh (RJ x))/\w'=w:=by go_in;go_wp2;go_ret;exact⟨xo (a:=RJ x) R,R⟩
def NQ(s n:Int):Int:=RJ (a_ Zh (s+a_ Zh (n*11400714819323198485)))
def RH(s n:BitVec 64):NQ (U s) (U n)=U (SN s n):=by unfold NQ SN;rw[mxA,QG,Sq,SP]
def K1(s n:Int)(w:I6):i_ c_ 243 #[I Zh s,I Zh n] w λe w'=>e=Zd (I Zh (NQ s n))/\w'=w:=by go_in;go_wp2_with(go_at_call 295;apply Z1 (QI _ _));go_ret;exact⟨xo (a:=NQ s n) R,R⟩
def lx(n:Nat):BitVec 64:=SN 0#64 (BitVec.ofNat 64 n)
def IZ(z:Nat->UInt8):Nat->BitVec 64
 | 0=>0#64
 | n+1=>if 0<=jB (z n)then IZ z n ^^^ lx (64*(jB (z n)).toNat+n+1)else IZ z n
def kyC(fc:Nat->Bool)(k:BitVec 64):Nat->BitVec 64
 | 0=>k
 | n+1=>if fc n then kyC fc k n ^^^ lx (769+n)else kyC fc k n
def kyW(wh:Bool)(k:BitVec 64):BitVec 64:=if wh then k else k ^^^ lx 773
def kyF(b:Int)(k:BitVec 64):BitVec 64:=if 0<=b then k ^^^ lx (774+(b%8).toNat)else k
def K3(z:I2)(wh:Bool)(fc:I5)(b:Int):BitVec 64:=kyF b (kyW wh (kyC fc (IZ z 64) 4))
def nmB(z:I2):List Nat:=(h_ 64).filterMap λn=>if 0<=jB (z n)then S (64*(jB (z n)).toNat+n+1)else N
def nmC(fc:I5):List Nat:=(h_ 4).filterMap λn=>if fc n then S (769+n)else N
def Ha(z:I2)(wh:Bool)(fc:I5)(b:Int):List Nat:=nmB z++nmC fc++(if wh then[]else[773])++(if 0<=b then[774+(b%8).toNat]else[])
def V_(k:BitVec 64)(l:List Nat):BitVec 64:=l.foldl (λa n=>a ^^^ lx n) k
def mB(k:BitVec 64)(l m:List Nat):V_ k (l++m)=V_ (V_ k l) m:=List.foldl_append
def Nk(z:I2)(n:Nat):IZ z (n+1)=if 0<=jB (z n)then IZ z n ^^^ lx (64*(jB (z n)).toNat+n+1)else IZ z n:=R
def Nj(fc:I5)(k:BitVec 64)(n:Nat):kyC fc k (n+1)=if fc n then kyC fc k n ^^^ lx (769+n)else kyC fc k n:=R
def RT(z:Nat->UInt8)(k:Nat):IZ z k=V_ 0#64 ((h_ k).filterMap λn=>if 0<=jB (z n)then S (64*(jB (z n)).toNat+n+1)else N):=by
 induction k with
 | zero=>rfl
 | succ k ih=>
  rw[YI,List.filterMap_append,mB,<-ih,Nk];by_cases h:0<=jB (z k)
  .simp[h,V_]
  simp[h,V_]
def RP(fc:Nat->Bool)(x:BitVec 64)(k:Nat):kyC fc x k=V_ x ((h_ k).filterMap λn=>if fc n then S (769+n)else N):=by
 induction k with
 | zero=>rfl
 | succ k ih=>
  rw[YI,List.filterMap_append,mB,<-ih,Nj];cases h:fc k
  .simp[h,V_]
  simp[h,V_]
def Nl(z:I2)(wh:Bool)(fc:I5)(b:Int):K3 z wh fc b=V_ 0#64 (Ha z wh fc b):=by unfold K3 Ha;rw[mB,mB,mB];unfold nmB nmC;rw[<-RT,<-RP];unfold kyF kyW;cases wh<;>by_cases h:0<=b<;>simp[h,V_]
def S'(z:I2)(k:Nat):List Nat:=(h_ k).filterMap λn=>if 0<=jB (z n)then S (64*(jB (z n)).toNat+n+1)else N
def qC(fc:I5)(k:Nat):List Nat:=(h_ k).filterMap λn=>if fc n then S (769+n)else N
def KX(z:I2)(k:Nat):S' z (k+1)=S' z k++(if 0<=jB (z k)then[64*(jB (z k)).toNat+k+1]else[]):=by
 rw[S',YI,List.filterMap_append];congr 1;by_cases h:0<=jB (z k)
 .simp[h]
 simp[h]
def Ki(fc:I5)(k:Nat):qC fc (k+1)=qC fc k++(if fc k then[769+k]else[]):=by rw[qC,YI,List.filterMap_append];congr 1;cases h:fc k<;>simp[h]
theorem Lt(z:Nat->UInt8)(k:Nat):∀d,S' z k<+:S' z (k+d)
 | 0=>List.prefix_refl _
 | d+1=>by rw[<-Nat.add_assoc,KX];exact(Lt z k d).trans (Xz _ _)
theorem MP(fc:Nat->Bool)(k:Nat):∀d,qC fc k<+:qC fc (k+d)
 | 0=>List.prefix_refl _
 | d+1=>by rw[<-Nat.add_assoc,Ki];exact(MP fc k d).trans (Xz _ _)
def whN(wh:Bool):List Nat:=if wh then[]else[773]
def bhN(b:Int):List Nat:=if 0<=b then[774+(b%8).toNat]else[]
def H6(z:I2)(wh:Bool)(fc:I5)(b:Int):Ha z wh fc b=S' z 64++qC fc 4++whN wh++bhN b:=R
def PJ(a:k<=64):S' z k <+:Ha z wh fc b:=by rw[H6,qS,qS];have:=Lt z k (64-k);rw[show k+(64-k)=64 from O]at this;exact this.trans (Xz _ _)
def PI(a:k<=4):S' z 64++qC fc k <+:Ha z wh fc b:=by rw[H6,qS,qS];have:=MP fc k (4-k);rw[show k+(4-k)=4 from O]at this;exact(Xq _).2 (this.trans (Xz _ _))
def cL4(h:∀i,i<4->W.cell? ⟨Bp,65+i,N⟩=S (Za (fc i))):W.rangeAt Bp 65 [Za (fc 0),Za (fc 1),Za (fc 2),Za (fc 3)]:=by intro j v a;have b:j<4:=(Z5.1 a).1;have:j=0\/j=1\/j=2\/j=3:=O;rcases this with rfl|rfl|rfl|rfl<;>(rw[<-a];exact h _ O)
def RZ:(c_.info? 68).map (·.size)=S 4:=WR
theorem SX(c0 c1 c2 c3:Bool)(w:I6):(l_ 68 (Zc #[Za c0,Za c1,Za c2,Za c3]) (I L 0)).run c_ w=.ok (Za c0) w:=WR
theorem SW(c0 c1 c2 c3:Bool)(w:I6):(l_ 68 (Zc #[Za c0,Za c1,Za c2,Za c3]) (I L 1)).run c_ w=.ok (Za c1) w:=WR
theorem SV(c0 c1 c2 c3:Bool)(w:I6):(l_ 68 (Zc #[Za c0,Za c1,Za c2,Za c3]) (I L 2)).run c_ w=.ok (Za c2) w:=WR
theorem SU(c0 c1 c2 c3:Bool)(w:I6):(l_ 68 (Zc #[Za c0,Za c1,Za c2,Za c3]) (I L 3)).run c_ w=.ok (Za c3) w:=WR
def TS(fc:I5)(k:Nat)(a:k<4)(w:I6):(l_ 68 (Zc #[Za (fc 0),Za (fc 1),Za (fc 2),Za (fc 3)]) (I L k)).run c_ w=.ok (Za (fc k)) w:=by grind[SX,SW,SV,SU]
def ST(z:I2)(k:Nat)(a:k<64)(w:I6):(l_ 67 (Zc (zL z).toArray) (I L k)).run c_ w=.ok (I Zg (z k).toNat) w:=G1 _ k a _ ((gu z).2 k a) w
def Kx(a5:xO z=Zk)(a8:-1<=b)(a9:b<=63)(V Bp:Nat)(T:Obj->Prop)(w:I6)(h1:w.cell? V=S (ZI Bp))(Z:Ps z wh fc b Bp w):It c_ 294 #[ZI V] (λx:Nat=>#[I L (x:Int)]) T (λk=>k=V\/k=Bp) (Ha z wh fc b) w:=by
 intro l B J Jx W f0 hB hJ a7 n h0;have c0:=f0.cell h1 (λ_ _=>Zi R);have y:=Z.fr f0 (λ_ _=>Zj R);refine(ZY (n:=1)).1 ?_;refine callsIn_of_wp func294 rfl trivial ?_ R;simp only[ntmps294,Nat.reduceAdd,Nat.reduceSub,Zr];refine Z9.2 ?_;have C:=y.bd.range;go_wp2_with(refine Yo R 67 _ R Bp 0 R (zL z) _ C t_ rfl (by rw[ub];exact x7) ?_);refine(Z9 (n:=1)).1 ?_;have a1:=y;gi_loopw [11] (λp wr=>∃k:Nat,k<=64/\p=I L k/\wr.cell? V=S (ZI Bp)/\Ps z wh fc b Bp wr/\J (S' z k) wr) (λp _=>64-(intOf p).toNat)
 .exact⟨0,O,R,c0,y,h0⟩
 obtain⟨k,hk,rfl,c0,y,D⟩:=hrel;have j:=X y;have a:=X D;by_cases b3:k<64
 .have P:=ST z k b3;have b4:ew (z k)=Zk:=by have c5:=a5;unfold xO at c5;exact(qW.1 c5) k (qK.2 b3)
  have a3:0<=(k:Int):=O;have c6:(k:Int)<64:=O;have a0:a_ L ((k:Int)+1)=(((k+1:Nat)):Int):=Vc;have o:Y (S' z (k+1)=S' z k++(if 0<=jB (z k)then[64*(jB (z k)).toNat+k+1]else[])):=X (KX z k);by_cases b1:z k=46
  .have a4:(((z k).toNat:Int)!=46)=Zl:=(by rw[b1];rfl);have i:Y (S' z (k+1)=S' z k):=X (by rw[o.a,qF (by rw[b1];decide),Yh]);exact OM
  have a4:(((z k).toNat:Int)!=46)=Zk:=by rw[qU];intro e;apply b1;apply q6.1;have:(z k).toNat=46:=O;rw[this];rfl
  have b5:0<=jB (z k):=by rw[bf,Ym,YF,qG]at b4;exact b4.resolve_left b1
  have Q:=(rn (z k)).2;obtain⟨m,hm⟩:=Yt b5;have i:S' z (k+1)=S' z k++[64*m+k+1]:=by rw[o.a,qI b5,hm];rfl
  have a2:Y (∀W:I6,i_ c_ 200 #[Zb ⟨#[80,78,66,82,81,75,112,110,98,114,113,107]⟩,I Zg (z k).toNat] W λe w'=>e=Zd (I L m)/\w'=W):=X (λW=>by
   refine(Tryz.strings_IndexByte _ _ _).mono ?_;rintro e w' ⟨rfl,rfl⟩;have hu:((z k).toNat:Int).toNat.toUInt8=z k:=WU
   exact⟨by rw[<-hm];simp only[hu];rfl,R⟩)
  have b0:m<12:=O;have e1:a_ L (64*(m:Int))=64*(m:Int):=Vc;have e2:a_ L (64*(m:Int)+k)=64*(m:Int)+k:=Vc;have e3:a_ L (64*(m:Int)+k+1)=((64*m+k+1:Nat):Int):=Vc;obtain⟨fn,tmps,g,v,hy,hR⟩:=n (S' z k) (64*m+k+1) wr (by rw[<-i];exact PJ O) a.a;have u:=X i;generalize 64*m+k+1=xx at hy hR e3 u;gi_wp2_with (refine⟨trivial,?_⟩;gi_at_call 200;refine(ZY.2 (a2.a _)).mono ?_;rintro e w' ⟨rfl,rfl⟩);refine hR.mono ?_;rintro e W3 ⟨K,⟨rfl,A⟩|⟨rfl,q⟩⟩
  .exact OO
  gi_wp2;refine ZS (XS R _ _ _) R ?_;exact⟨⟨_,R⟩,Zj ⟨S' z k++[xx],by rw[<-u.a];exact PJ O,q⟩⟩
 have ek:k=64:=O;subst ek;have y:=j.a;have C:=cL4 y.c;refine Z9.2 ?_;go_wp2_with(refine Yo R 68 _ R Bp 65 R [Za (fc 0),Za (fc 1),Za (fc 2),Za (fc 3)] _ C underlying68 rfl RZ ?_);refine(Z9 (n:=1)).1 ?_;gi_loopw [33] (λp wr=>∃k:Nat,k<=4/\p=I L k/\wr.cell? V=S (ZI Bp)/\Ps z wh fc b Bp wr/\J (S' z 64++qC fc k) wr) (λp _=>4-(intOf p).toNat)
 .exact⟨0,O,R,c0,y,by rw[show qC fc 0=[]from R,Yh];exact a.a⟩
 obtain⟨k,hk,rfl,c0,y,D⟩:=hrel;have j:=X y;have a:=X D;by_cases b3:k<4
 .have P:=TS fc k b3;have a3:0<=(k:Int):=O;have c6:(k:Int)<4:=O;have a0:a_ L ((k:Int)+1)=(((k+1:Nat)):Int):=Vc;have o:Y (qC fc (k+1)=qC fc k++(if fc k then[769+k]else[])):=X (Ki fc k);cases b2:fc k
  .have i:Y (S' z 64++qC fc (k+1)=S' z 64++qC fc k):=X (by rw[o.a,b2];simp);rw[b2]at P;exact OM
  have i:S' z 64++qC fc (k+1)=S' z 64++qC fc k++[769+k]:=by rw[o.a,b2];simp
  have e3:a_ L (769+(k:Int))=((769+k:Nat):Int):=Vc;obtain⟨fn,tmps,g,v,hy,hR⟩:=n (S' z 64++qC fc k) (769+k) wr (by rw[<-i];exact PI O) a.a;have u:=X i;rw[b2]at P;generalize 769+k=xx at hy hR e3 u;gi_wp2;refine hR.mono ?_;rintro e W3 ⟨K,⟨rfl,A⟩|⟨rfl,q⟩⟩
  .exact OO
  gi_wp2;refine ZS (XS R _ _ _) R ?_;exact⟨⟨_,R⟩,Zj ⟨S' z 64++qC fc k++[xx],by rw[<-u.a];exact PI O,q⟩⟩
 have ek:k=4:=O;subst ek;have G:=X (H6 z wh fc b);obtain⟨r,H⟩:∃l,Y (l=S' z 64++qC fc 4):=⟨_,X R⟩;rw[<-H.a]at a G;have cw:=j.a.wh;have cb:=j.a.b;have f:Y (bhN b=if 0<=b then[774+(b%8).toNat]else[]):=X R;cases wh
 .have b6:Ha z Zl fc b=r++[773]++bhN b:=G.a;obtain⟨fn,tmps,g,v,hy,hR⟩:=n r 773 wr (by rw[b6];exact Xz _ _) a.a;have d:=X b6;simp only[show((773:Nat):Int)=773 from R]at hy;gi_wp2;refine(Z9 (n:=1)).1 ?_;gi_wp2;refine hR.mono ?_;rintro e W3 ⟨K,⟨rfl,A⟩|⟨rfl,q⟩⟩
  .have c3:=K.cell c0 (λ_ _=>Zi (Zi R));have a6:=(j.a.fr K (λ_ _=>Zi (Zj R))).b;by_cases hb:0<=b
   .rw[qI hb]at f;obtain⟨fn,tmps,g,v,b7,F⟩:=n (r++[773]) (774+(b%8).toNat) W3 (by rw[d.a,f.a];exact List.prefix_refl _) A;have e1:a_ L (774+b%8)=((774+(b%8).toNat:Nat):Int):=Vc;have e2:b.tmod 8=b%8:=Int.tmod_eq_emod_of_nonneg hb;have h:=X (show r++[773]++[774+(b%8).toNat]=Ha z Zl fc b by rw[d.a,f.a]);generalize 774+(b%8).toNat=xx at b7 F e1 h;gi_wp2;exact OG
   rw[qF hb]at f;gi_wp2;go_end0;exact⟨⟨_,R⟩,Zi (by rw[d.a,f.a,Yh];exact A)⟩
  gi_wp2;refine ZS (XS R _ _ _) R ?_;exact⟨⟨_,R⟩,Zj ⟨r++[773],by rw[d.a];exact Xz _ _,q⟩⟩
 have d:Y (Ha z Zk fc b=r++bhN b):=X (by rw[G.a];simp[whN]);by_cases hb:0<=b
 .rw[qI hb]at f;obtain⟨fn,tmps,g,v,b7,F⟩:=n r (774+(b%8).toNat) wr (by rw[d.a,f.a];exact List.prefix_refl _) a.a;have e1:a_ L (774+b%8)=((774+(b%8).toNat:Nat):Int):=Vc;have e2:b.tmod 8=b%8:=Int.tmod_eq_emod_of_nonneg hb;have h:=X (show r++[774+(b%8).toNat]=Ha z Zk fc b by rw[d.a,f.a]);generalize 774+(b%8).toNat=xx at b7 F e1 h;gi_wp2;refine(Z9 (n:=1)).1 ?_;gi_wp2_with ((with_reducible apply YB);(first|exact trivial|(intro _ _;trivial)));exact OG
 rw[qF hb]at f;gi_wp2;refine(Z9 (n:=1)).1 ?_;gi_wp2_with ((with_reducible apply YB);(first|exact trivial|(intro _ _;trivial)));go_end0;exact⟨⟨_,R⟩,Zi (by rw[d.a,f.a,Yh];exact a.a)⟩
def Sr(n:Nat)(h:n<18446744073709551616):U (BitVec.ofNat 64 n)=(n:Int):=by rw[U,BitVec.toNat_ofNat,Nat.mod_eq_of_lt h]
def QD(n:Nat)(h:n<18446744073709551616)(w:I6):i_ c_ 243 #[I Zh 0,I Zh n] w λe w'=>e=Zd (I Zh (U (lx n)))/\w'=w:=by have e:=RH 0#64 (BitVec.ofNat 64 n);rw[Sr n h]at e;have:=K1 (U 0#64) (n:Int) w;rw[e]at this;exact this
def QC(h:x∈Ha z wh fc b):x<1000:=by
 rw[H6,Yi,Yi,Yi]at h;obtain((h|h)|h)|h:=h
 .unfold S' at h;obtain⟨n,a,e⟩:=List.mem_filterMap.1 h;have:=qK.1 a;have:=(rn (z n)).2;split at e
  .injection e with e;omega
  cases e
 .unfold qC at h;obtain⟨n,a,e⟩:=List.mem_filterMap.1 h;have:=qK.1 a;split at e
  .injection e with e;omega
  cases e
 .unfold whN at h;split at h
  .cases h
  rw[qT.1 h];omega
 unfold bhN at h;split at h
 .rw[qT.1 h];omega
 cases h
def Kw(Bp:Nat)(w:I6):i_ c_ 242 #[ZI Bp] w λe w'=>e=Zd (.func (.func 294) #[] #[ZI w.heap.size])/\w'.heap[w.heap.size]?=S (Z #[ZI Bp] 229)/\Gr w w':=by go_in;go_wp2;go_ret;exact⟨R,Z7 w _,ZN⟩
def L6{g:Int}(r:jE z wh fc b h g PA)(Q:xO z=Zk)(M:-1<=b)(a8:b<=63)(w:I6):ZL 183 #[Zc PA] w (I Zh (U (K3 z wh fc b))):=by
 rw[Nl];obtain⟨H,n⟩:=x6 w (Z PA 70) (Z #[I Zh 0] 23);have u:Gr w ((w.alloc (Z PA 70)).alloc (Z #[I Zh 0] 23)):=ZN.al;have F:((w.alloc (Z PA 70)).alloc (Z #[I Zh 0] 23)).heap.size=w.heap.size+2:=WU;have E:=X (λW=>Kw w W);refine(ZY (n:=9)).1 ?_;refine callsIn_of_wp_marks func183 rfl x_ ?_ R;simp only[ntmps183,Nat.reduceAdd,Nat.reduceSub,Zr];apply Z9.2;go_upto_region 2 with fail;generalize (w.alloc _).alloc _=w0 at H n u F|-;go_wp2_with(go_at_call 242;refine(E _).mono ?_;rintro e G ⟨rfl,v,d⟩);have a7:=ZE d H;have a9:=(Zz d ((qB.1 n).1)).trans n;have P:=o_ u d;have a6:=ZR d;have a5:=(qB.1 v).1;have B:=Kx Q M a8 w0 w (λ_=>False) G (qi v).1 (Ps.of r a7);rw[F]at v a6 a5 B;refine Z9.1 (xj (n:=9) (gf:=294) (lb:=#[ZI (w.heap.size+2)]) R (YC func294 WR R) B (λ_ h=>h.elim) (by rintro k (rfl|rfl)<;>omega) ZP (λ_=>R)
  (λa V=>V.heap[w.heap.size+1]?=S (Z #[I Zh (U (V_ 0#64 a))] 23)/\Gr w V/\G.heap.size<=V.heap.size)
  (λ_ _ _=>False)
  ?sI (λ_ _ _ _ h _=>h) ⟨a9,P,Zy⟩ ?rnd ?done (λ_ _ _ _ _ _ h _=>h.elim))
 case sI=>exact λs A A' h f=>⟨f.same _ _ h.1 (Zi O),u_ h.2.1 (f.below (n:=w) (ZR h.2.1) (λk o hk=>Zi O)),q7 h.2.2 f.size⟩
 case done=>rintro D V hD ⟨p,y,l⟩ hK;have c2:=(qi p).1;go_wp2;refine⟨WU,Zi ⟨_,_,R,YU hK,?_⟩⟩;exact⟨_,Wh R _ _ _,R,u_ y (XZ (w:=G) (n₀:=w) O _ D _ _ hD hK R R)⟩
 case rnd=>
  rintro a3 a x V T hx ⟨p,y,l⟩ hl;have a0:a3<V:=hl.elim λr hr=>(qB.1 hr).1;gi_wp2;refine⟨ZP,?_⟩;intro i f2 K a1;obtain⟨p,y,l⟩:=K;have a2:x<1000:=QC (hx.subset WU);have ew:a_ Zh ((x:Nat):Int)=(x:Int):=Vh;have m:=X (λW=>QD x O W);have j:Y (U (V_ 0#64 (a++[x]))=bits .xor Zh (U (V_ 0#64 a)) (U (lx x))):=(by rw[oF,mB];rfl);generalize lx x=gv at m j;obtain⟨kn,C⟩:∃q,q=V_ 0#64 (a++[x]):=⟨_,R⟩;rw[<-C]at j;generalize V_ _ _=kv at p j;have d2:i.drew.cell? ⟨w+1,0,N⟩=I Zh (U kv):=(qi p).1;have d3:i.drew.frozen? ⟨w+1,0,N⟩=Zl:=(qi p).2;have J:Y (Fr (jM G.heap.size (λ_=>False) (λk=>k=w.heap.size+2\/k=w.heap.size)) i (i.setCell ⟨w.heap.size+1,0,N⟩ (I Zh (bits .xor Zh (U kv) (U gv)))).drew/\(i.setCell ⟨w.heap.size+1,0,N⟩ (I Zh (bits .xor Zh (U kv) (U gv)))).drew.heap[w.heap.size+1]?=S (Z #[I Zh (U (V_ 0#64 (a++[x])))] 23)/\Gr w (i.setCell ⟨w.heap.size+1,0,N⟩ (I Zh (bits .xor Zh (U kv) (U gv)))).drew/\G.heap.size<=(i.setCell ⟨w.heap.size+1,0,N⟩ (I Zh (bits .xor Zh (U kv) (U gv)))).drew.heap.size):=X (by
   have a4:Fr (λk _=>k≠w.heap.size+1) i (i.setCell ⟨w+1,0,N⟩ (I Zh (bits .xor Zh (U kv) (U gv)))):=ZP.setCell _ (λo _ q=>q R);refine⟨Fr.drew (a4.mono ?_),?_,Gr.drew (Yr y (show w<=w.heap.size+1 from O) _),?_⟩
   .rintro k o-(q|q)
    .rcases q with q|q<;>omega
    have:=q.1;omega
   .show(i.setCell ⟨w+1,0,N⟩ (I Zh (bits .xor Zh (U kv) (U gv)))).heap[w.heap.size+1]?=_;have:=jm (v:=I Zh (bits .xor Zh (U kv) (U gv))) p;rw[this,<-C,j.a]
   exact q7 l a4.size)
  gi_wp2;gi_region_with (refine⟨x_,?_⟩;gi_at_call 243;refine((ZY.2 (m _)).inRound a3).mono ?_;rintro e wc ⟨rfl,rfl⟩);all_goals
   gi_wp2;exact J
def z_:Nat->(Nat->UInt8)->Bool->(Nat->Bool)->Int->Nat
 | 0,_,_,_,_=>1
 | d+1,z,wh,fc,b=>((xC z wh fc b).map λx=>z_ d (zE z b x) (!wh) (kB fc x.1 x.2.1 4) (vK z x.1 x.2.1)).sum
def Qr{l:List Nat}{m:Nat}(d:l.length<=m)(h:∀x∈l,x<=n):l.sum<=m*n:=by
 have b:∀l:List Nat,(∀x∈l,x<=n)->l.sum<=l.length*n:=by
  intro l;induction l with
  | nil=>intro _;simp
  | cons a r ih=>
   intro h;rw[List.sum_cons,Yq,Nat.add_mul,Nat.one_mul];have:=ih (λx e=>h x (Xg _ e));have:=h a (XE ..);omega
 exact q7 (b l h) (XT n d)
def NK(d:Nat):∀z wh fc b,z_ d z wh fc b<=1000000^d:=by
 induction d with
 | zero=>intros;exact Zy
 | succ d ih=>
  intro z wh fc b;rw[Nat.pow_succ,Nat.mul_comm];refine Qr (by rw[YD];exact bu z wh fc b) λx a=>?_;obtain⟨y,_,rfl⟩:=YL.1 a;exact ih _ _ _ _
def pb(a:d<=3)(z:I2)(wh:Bool)(fc:I5)(b:Int):z_ d z wh fc b<=1000000000000000000:=by refine q7 (NK d z wh fc b) (q7 (X8 WW a) WW)
def JS(z:Nat->UInt8)(wh:Bool)(fc:Nat->Bool)(b:Int):z_ 1 z wh fc b=(xC z wh fc b).length:=by
 unfold z_;generalize xC _ _ _ _=l;induction l with
 | nil=>rfl
 | cons a r ih=>rw[YM,List.sum_cons,ih,Yq];show 1+_=_;omega
section
variable {z : Nat → UInt8} {wh : Bool} {fc : Nat → Bool} {b h g : Int}
def F7{l:List Mv}(a:l.Perm (xC z wh fc b))(d:Nat):(l.map λx=>z_ d (zE z b x) (!wh) (kB fc x.1 x.2.1 4) (vK z x.1 x.2.1)).sum=z_ (d+1) z wh fc b:=(a.map _).sum_nat
def Nd(a:kJ z wh fc b)(d:-1<=b)(e:b<=63):(yo z wh fc b).Perm (xC z wh fc b):=(List.perm_ext_iff_of_nodup (fF a) (fB z wh fc b)).2 (je a d e)
def Kj(e:kJ z wh fc b)(a:-1<=b)(d:b<=63):(yY z wh fc b).Perm (xC z wh fc b):=by rw[qk3 e a d];exact xq _
def LQ{f:Mv->Nat}{a:List Mv}{x:Mv}{b:List Mv}(h:a++[x] <+:b):(a.map f).sum+f x<=(b.map f).sum:=by obtain⟨r,rfl⟩:=h;simp only[Ys,List.sum_append,YM,Wi,List.sum_cons,List.sum_nil];omega
end
def zm(g:Nat)(w w':I6):Prop:=Fr (λk _=>k≠g) w w'
def zm.refl(g:Nat)(w:I6):zm g w w:=ZP
def zm.trans{b c:I6}(h:zm g a b)(k:zm g b c):zm g a c:=Fr.trans h k
def zm.of{b:I6}(h:Gr a b):zm g a b:=p_ h
def zm.size{b:I6}(h:zm g a b):a.heap.size<=b.heap.size:=Fr.size h
def zm.gr{b:I6}(h:zm g a b)(d:a.heap.size<=g):Gr a b:=Fr.below h Zy (λk _ e=>O)
def zm.at{b:I6}(h:zm g a b){o:Obj}(e:a.heap[k]?=S o)(d:k≠g):b.heap[k]?=S o:=Fr.same h k o e d
def zm.below{b c:I6}(h:zm g a b)(k:Below a.heap.size b c):zm g a c:=⟨k.os.trans h.os,k.tape.trans h.tape,k.output.trans h.output,q7 h.size k.size,λi o e q=>(k.block i (qB.1 e).1).trans (h.same i o e q)⟩
def Mz{L:Nat}{lb:I0}{C:Nat->Prop}{W:List Mv}(a9:It c_ L lb vr (λ_=>False) C W w)(a5:∀args w,(callFunc L args).run c_ w=.ok (.enter L args) w)(M:∀k,C k->k<w.heap.size)(g:Nat)(a6:¬C g)(c5:g<w.heap.size)(b2 b3 Z:Nat) (a:Mv->Nat) (v:I6->Prop) (H:∀A G,v A->Fr (λk _=>k<w.heap.size) A G->v G) (h0:v w)(hw:∀f t u,(f,t,u)∈W->∀V,v V->i_ c_ 96 #[Zc (ZJ f t u),ZI b2,ZI b3,ZI Z] V λe V'=>e=Zd (I Zh (a (f,t,u):Nat))/\zm g V V'/\v V')(hb:(W.map a).sum<=1000000000000000000):i_ c_ 95 #[.func (.func L) #[] lb,.func (.func 96) #[] #[ZI b2,ZI b3,ZI Z]] w λe w'=>e=Zd (I Zh ((W.map a).sum:Nat))/\zm g w w'/\v w':=by
 obtain⟨z,i⟩:∃z:I7,z=.func (.func 96) #[] #[ZI b2,ZI b3,ZI Z]:=⟨_,R⟩;rw[<-i];refine(ZY (n:=9)).1 ?_;refine callsIn_of_wp_marks func95 rfl x_ ?_ R;simp only[ntmps95,Nat.reduceAdd,Nat.reduceSub,Zr];refine Z9.2 ?_;have c4:z.oneCell'=Zk:=by rw[i];rfl
 rw[i];go_wp2;rw[<-i];obtain⟨h1,h2⟩:=x6 w (.cells #[z] 172) (.cells #[I Zh 0] 23);have B:Gr w ((w.alloc (.cells #[z] 172)).alloc (.cells #[I Zh 0] 23)):=ZN.al;have b4:((w.alloc (.cells #[z] 172)).alloc (.cells #[I Zh 0] 23)).heap.size=w.heap.size+2:=WU;generalize ((w.alloc (.cells #[z] 172)).alloc (.cells #[I Zh 0] 23))=w2 at h1 h2 B b4|-;have b6:∀{A G},v A->Gr A G->w.heap.size<=A.heap.size->v G:=λh k _=>H _ _ h (p_ k);refine Z9.1 (xj (n:=9) (gf:=L) (lb:=lb) R a5 a9 (λ_ h=>h.elim) (λk P=>by have:=M k P;omega) (p_ B) (λ_=>R)
  (λy V=>V.heap[w.heap.size]?=S (.cells #[z] 172)/\V.heap[w.heap.size+1]?=S (.cells #[I Zh ((y.map a).sum:Nat)] 23)/\zm g w V/\w2.heap.size<=V.heap.size/\v V)
  (λ_ _ _=>False)
  ?sI (λ_ _ _ _ h _=>h) ⟨h1,h2,zm.of B,Zy,H _ _ h0 (p_ B)⟩ ?rnd ?done (λ_ _ _ _ _ _ h _=>h.elim))
 case sI=>exact λs A G h f=>⟨f.same _ _ h.1 (Zi O),f.same _ _ h.2.1 (Zi O),zm.below h.2.2.1 (f.below (n:=w.heap.size) (zm.size h.2.2.1) (λk o P=>Zi O)),q7 h.2.2.2.1 f.size,H _ _ h.2.2.2.2 (f.mono λk o _ P=>Zi O)⟩
 case done=>rintro D V hD ⟨T,F,hg,f0,b1⟩ hK;have c2:=(qi F).1;go_wp2;refine⟨WU,Zi ⟨_,_,R,YU hK,?_⟩⟩;refine⟨_,Wh R _ _ _,R,zm.below hg (XZ (w:=w2) (n₀:=w.heap.size) O _ D _ _ hD hK R R),H _ _ b1 (Fr.of_below (n:=w.heap.size) (XZ (w:=w2) (n₀:=w.heap.size) O _ D _ _ hD hK R R) λk _ _ P=>P)⟩
 case rnd=>
  rintro l1 y ⟨fr,J,u⟩ V b7 hx ⟨T,F,hg,f0,b1⟩ hl;have c6:l1<V.heap.size:=hl.elim λr hr=>(qB.1 hr).1;simp only[vr,gJ];gi_wp2;refine⟨ZP.alloc _,?_⟩;intro d f2 a4 d0;obtain⟨T,F,hg,f0,b1⟩:=a4;have kx:d.heap[V.heap.size]?=S (.cells (ZJ fr J u) 87):=f2.same _ _ (ZQ V _) O;generalize V.heap.size=Bx at kx|-;have Q:(fr,J,u)∈W:=hx.subset WU;have d5:=LQ (f:=a) hx;obtain⟨j,p⟩:∃n,Y (n=(y.map a).sum):=⟨_,X R⟩;obtain⟨xv,x⟩:∃n,Y (n=a (fr,J,u)):=⟨_,X R⟩;have b5:Y ((((y++[((fr,J,u):Mv)]).map a).sum:Nat)=j+xv):=X (by rw[p.a,x.a];simp);have l:=X (hw fr J u Q);rw[<-p.a]at F d5;rw[<-x.a]at d5 l;have d4:a_ Zh ((j:Int)+xv)=(j:Int)+xv:=Vh;have d1:d.drew.cell? w.heap.size=S z:=(qi T).1;rw[i]at d1;have d2:d.drew.cell? ⟨w.heap.size+1,0,N⟩=S (I Zh j):=(qi F).1;have d3:d.drew.frozen? ⟨w.heap.size+1,0,N⟩=Zl:=(qi F).2;obtain⟨x0,x1,x2⟩:=qm (show d.drew.heap[Bx]?=_ from kx);have a8:v d.drew:=H _ _ b1 (ZP.drew);have aft:∀b,zm g d.drew b->(b.cell? w.heap.size=S (.func (.func 96) #[] #[ZI b2,ZI b3,ZI Z])/\b.cell? ⟨w.heap.size+1,0,N⟩=S (I Zh j)/\b.frozen? ⟨w.heap.size+1,0,N⟩=Zl):=λb E=>by have e1:=E.at (show d.drew.heap[w.heap.size]?=_ from T) O;have e2:=E.at (show d.drew.heap[w.heap.size+1]?=_ from F) O;exact⟨by rw[<-i];exact(qi e1).1,(qi e2).1,(qi e2).2⟩
  have K:=X aft;have a0:Y (∀b,zm g d.drew b->v b->Fr (jM w2.heap.size (λ_=>False) C) d (b.setCell ⟨w.heap.size+1,0,N⟩ (I Zh ((j:Int)+xv)))/\(b.setCell ⟨w.heap.size+1,0,N⟩ (I Zh ((j:Int)+xv))).heap[w.heap.size]?=S (.cells #[z] 172)/\(b.setCell ⟨w.heap.size+1,0,N⟩ (I Zh ((j:Int)+xv))).heap[w.heap.size+1]?=S (.cells #[I Zh ((((y++[((fr,J,u):Mv)]).map a).sum:Nat):Int)] 23)/\zm g w (b.setCell ⟨w.heap.size+1,0,N⟩ (I Zh ((j:Int)+xv)))/\w2.heap.size<=(b.setCell ⟨w.heap.size+1,0,N⟩ (I Zh ((j:Int)+xv))).heap.size/\v (b.setCell ⟨w.heap.size+1,0,N⟩ (I Zh ((j:Int)+xv)))):=X (λb E b0=>by
   have m:zm g d b:=zm.trans (zm.of (q_ d).drew) E;have e1:=m.at T O;have e2:=m.at F O;have fs:Fr (λk _=>k≠w.heap.size+1) b (b.setCell ⟨w.heap.size+1,0,N⟩ (I Zh ((j:Int)+xv))):=ZP.setCell _ (λo _ q=>q R);refine⟨Fr.trans (Fr.mono m λk o _ q=>?_) (fs.mono λk o _ q=>?_),fs.same _ _ e1 O,?_,Fr.setNew (zm.trans hg m) _ (show w.heap.size<=w.heap.size+1 from O),?_,H _ _ b0 (fs.mono λk o _ q=>O)⟩
   .rintro rfl;obtain q|q:=q
    .exact a6 q
    omega
   .rintro rfl;obtain q|q:=q
    .have:=M _ q;omega
    omega
   .have:=jm (v:=I Zh ((j:Int)+xv)) e2;rw[this,b5.a];simp
   have:=zm.size m;simp[World.setCell];omega)
  gi_wp2;gi_region_with (refine⟨x_,?_⟩;gi_at_call 96;refine((ZY.2 (l.a _ (by with_reducible exact a8))).inRound l1).mono ?_;rintro e wc ⟨rfl,f1,a7⟩;obtain⟨a1,a2,a3⟩:=K.a wc f1);all_goals
   gi_wp2;exact a0.a _ f1 a7
structure LD(g:Nat):Prop where
 t1:g≠2
 t2:g≠3
 t3:g≠0
 t4:g≠1
structure Wt(w:I6):Prop where
 tab:jF w
 cas:jQ w
 st:vT w
 hom:vJ w
def Wt.gr(h:Wt w)(g:Gr w w'):Wt w':=⟨h.tab.gr g,h.cas.gr g,h.st.gr g,h.hom.gr g⟩
def Wt.fx(h:Wt w)(a:LD g)(f:zm g w w'):Wt w':=⟨h.tab.fr f (λ_=>a.t1.symm),h.cas.fr f (λ_=>a.t2.symm),h.st.fr f (λ_=>a.t3.symm),h.hom.fr f (λ_=>a.t4.symm)⟩
def Wt.lt(h:Wt w)(e:w.heap.size<=n):LD n:=by have a:=h.tab.2;have b:=h.cas.2;have c:=h.st.2;have d:=h.hom.2;exact⟨O,O,O,O⟩
def Wt.low(h:Wt w)(d:Wt w1)(f:Fr (λk _=>k<w1.heap.size) w w'):Wt w':=⟨⟨λj e=>f.cell (h.tab.1 j e) (λ_ _=>d.tab.2),qN h.tab.2 f.size⟩,⟨λj v b=>f.cell (h.cas.1 j v b) (λ_ _=>d.cas.2),qN h.cas.2 f.size⟩,⟨λj v b=>f.cell (h.st.1 j v b) (λ_ _=>d.st.2),qN h.st.2 f.size⟩,⟨λj v b=>f.cell (h.hom.1 j v b) (λ_ _=>d.hom.2),qN h.hom.2 f.size⟩⟩
def Jp(C:Nat->Prop)(w:I6):Prop:=∀k,C k->k<w.heap.size/\((k=2\/k=3\/k=0)\/∃c ty fr,ty≠168/\w.heap[k]?=S (Z c ty fr))
def Jp.not{C:Nat->Prop}(h:Jp C w)(a:LD g){S:I0}{fr:Nat×Nat}(d:w.heap[g]?=some (Z S 168 fr)):¬C g:=λb=>by
 rcases(h g b).2 with(e|e|e)|⟨c,ty,i,f,e⟩
 .exact a.t1 e
 .exact a.t2 e
 .exact a.t3 e
 rw[d]at e;injection e with e
 injection e with _ e _
 exact f e.symm
structure Su(gm gi:Nat)(PA:I0)(xs:List Mv)(w:I6):Prop where
 em:∀args w,(callFunc gm args).run c_ w=.ok (.enter gm args) w
 ei:∀args w,(callFunc gi args).run c_ w=.ok (.enter gi args) w
 go:i_ c_ gm #[Zc PA] w λe w'=>∃lb C,e=Zd (.func (.func gi) #[] lb)/\Gr w w'/\Jp C w'/\It c_ gi lb vr (λ_=>False) C xs w'
section
variable {z : Nat → UInt8} {wh : Bool} {fc : Nat → Bool} {b h g : Int} {PA : I0}
theorem TD(r:jE z wh fc b h g PA)(o:Ok z wh fc b h g)(w:I6)(d:Wt w):Su 61 128 PA (xC z wh fc b) w where
 em:=YC func61 WR R
 ei:=YC func128 WR R
 go:=by
  refine Z0 (zk PA w) λw'⟨f,a⟩=>?_;refine⟨_,_,R,a,?_,qxq r o.lay o.b0 o.b1 w _ (λ_ h=>h.elim) w' f (d.tab.gr a) (d.cas.gr a)⟩;rintro k (rfl|rfl|rfl)
  .exact⟨(qB.1 f).1,Zj ⟨_,_,_,WW,f⟩⟩
  .exact⟨(d.tab.gr a).2,Zi WU⟩
  exact⟨(d.cas.gr a).2,Zi WU⟩
theorem TE(r:jE z wh fc b h g PA)(o:Ok z wh fc b h g)(w:I6)(G:Wt w):Su 65 155 PA (yo z wh fc b) w where
 em:=YC func65 WR R
 ei:=YC func155 WR R
 go:=by
  have d:=qjw o.good o.b0 o.b1;have l:z6 (λ_=>False):=λ_ h=>h.elim;refine(qzm PA w).mono ?_;rintro e w' ⟨E,F,Bf,rfl,p,q,j,x,m⟩;have i:=G.st.gr m;have B:=Ps.of r p;have A:=ak d.home E w _ l w' (qi q).1 B i;refine⟨_,_,R,m,?_,qkg A (YC func223 WR R) (YC func153 WR R) (z6.cells l) (λc fr h=>h) ?_ F Bf (uS z wh b) j x ?_⟩
  .rintro k ((rfl|rfl|rfl)|rfl|rfl)
   .exact⟨(qB.1 q).1,Zj ⟨_,_,_,WW,q⟩⟩
   .exact⟨(qB.1 p).1,Zj ⟨_,_,_,WW,p⟩⟩
   .exact⟨i.2,Zi WU⟩
   .exact⟨(qB.1 j).1,Zj ⟨_,_,_,WW,j⟩⟩
   exact⟨(qB.1 x).1,Zj ⟨_,_,_,WW,x⟩⟩
  .rintro k (rfl|rfl|rfl)
   .exact(qB.1 q).1
   .exact(qB.1 p).1
   exact i.2
  rintro⟨f,t,u⟩ v V C;obtain⟨y,H,n⟩:=d.kg _ v;have D:=iI d.home v;have:=mt r f t u D.1 D.2 (d.k1 f t u v) (d.k2 f t u v) y H n w V (C.same _ _ p (Zj (Zi R))) (i.fr C (λ_=>Zj (Zj R)));have e:uS z wh b (f,t,u)=!(vL (zE z b (f,t,u)) y (!wh)):=by rw[uS,n];rfl
  rw[e];exact this
structure LB(n:Int)(ga gm gi:Nat):Prop where
 is:(n=1/\ga=64/\gm=65/\gi=155)\/(n=2/\ga=60/\gm=61/\gi=128)
def LB.mk'{n:Int}(a:LB n j e d)(r:jE z wh fc b h g PA)(o:Ok z wh fc b h g)(w:I6)(f:Wt w):∃i:List Mv,i.Perm (xC z wh fc b)/\Su e d PA i w:=by
 obtain⟨_,_,rfl,rfl⟩|⟨_,_,rfl,rfl⟩:=a.is
 .exact⟨_,Nd o.good o.b0 o.b1,TE r o w f⟩
 exact⟨_,List.Perm.refl _,TD r o w f⟩
def LB.em{n:Int}{b:Nat}(a:LB n d b e):∀args w,(callFunc b args).run c_ w=.ok (.enter b args) w:=by
 obtain⟨_,_,rfl,rfl⟩|⟨_,_,rfl,rfl⟩:=a.is
 .exact YC func65 WR R
 exact YC func61 WR R
def LB.list{n:Int}(a:LB n j f e)(r:jE z wh fc b h g PA)(o:Ok z wh fc b h g)(w:I6)(d:Wt w):∃i:List Mv,jI i=jI (xC z wh fc b)/\iM f e PA i w:=by
 obtain⟨_,_,rfl,rfl⟩|⟨_,_,rfl,rfl⟩:=a.is
 .exact⟨_,(Fd o.good o.b0 o.b1).1,mkL r (qjw o.good o.b0 o.b1) w d.st⟩
 exact⟨_,R,mkS r o.lay o.b0 o.b1 w d.tab d.cas⟩
end
def Rz(a:List (Nat×I7)):c_.built 117 a=Instr.fill (λi=>(#[(0,72),(72,1),(73,1)]:Array (Nat×Nat))[i]?) zeroCells117 a:=WR
def Pd:zeroCells117.size=74:=WR
def BW:(c_.info? 117).map (·.size)=S 74:=WR
def fY(h:A.size=72)(d n:Int):(qA A d n).size=74:=by unfold qA;simp[h]
def H1(h:A.all (·.oneCell')=Zk)(d n:Int):(qA A d n).all (·.oneCell')=Zk:=by rw[qA,Wo,h];simp[Value.oneCell']
def MS(A:I0)(a:A.size=72)(d n:Int):c_.built 117 [(0,Zc A),(1,I L d),(2,I L n)]=S (qA A d n):=by
 rw[Rz];have b:=zo 0 A zeroCells117;have p1:=zo 72 #[d] (P_ 0 A zeroCells117);have p2:=zo 73 #[n] (P_ 72 #[d] (P_ 0 A zeroCells117));have z:=Pd;rw[xv _ _ 0 0 72 _ _ R (by simpa[Value.cells]using a) O,
  xv _ _ 1 72 1 _ _ R R Vl,xv _ _ 2 73 1 _ _ R R Vl]
 simp only[Instr.fill,Value.cells,Xh];apply YV;intro i;rw[p2.2 i WX,p1.2 i WX,b.2 i O];rw[qA,Y7,a];by_cases e:i<72
 .rw[qF WX,qF WX,qI ⟨O,O⟩,qI e];simp
 by_cases f:i<74
 .have:i=72\/i=73:=O;rcases this with rfl|rfl<;>simp
 rw[qF WX,qF WX,qF O,qF e,Z6 O,Z6 WX]
def NC{g:Int}(r:jE z wh fc b h g PA):jE z wh fc b 0 0 ((PA.setIfInBounds 70 (I L 0)).setIfInBounds 71 (I L 0)):=by
 have d:=r.size;have at':∀i,i≠70->i≠71->((PA.setIfInBounds 70 (I L 0)).setIfInBounds 71 (I L 0))[i]?=PA[i]?:=λi e f=>by rw[XO O,XO O]
 exact⟨by simp[d],λi a=>by rw[at' i O O];exact r.sq i a,by rw[at' 64 O O];exact r.wh,λi a=>by rw[at' _ O O];exact r.c i a,by rw[at' 69 O O];exact r.b,
  by rw[XO O,Array.getElem?_setIfInBounds_self_of_lt O],by rw[Array.getElem?_setIfInBounds_self_of_lt WX]⟩
def Qa{g:Int}(r:jE z wh fc b h g PA)(d n:Int)(w:I6):i_ c_ 45 #[Zc PA,I L d,I L n] w λe w'=>∃f,e=Zd (Zc (qA f d n))/\jE z wh fc b 0 0 f/\Gr w w':=by
 obtain⟨l,y⟩:=x6 w (Z PA 70) (Z zeroCells117 117);have k:Gr w ((w.alloc (Z PA 70)).alloc (Z zeroCells117 117)):=ZN.al;have i:=r;have D:=r.size;go_in;go_upto_region 1 with fail;generalize (w.alloc _).alloc _=a at l y k|-;have p:a.cell? ⟨w,70,N⟩=I L h:=by rw[qn l];exact i.h
 have q:a.cell? ⟨w,71,N⟩=I L g:=by rw[qn l];exact i.g
 have u:a.frozen? ⟨w,70,N⟩=Zl:=xr l;have x:a.frozen? ⟨w,71,N⟩=Zl:=xr l;have o:Gr w ((a.setCell ⟨w,70,N⟩ (I L 0)).setCell ⟨w,71,N⟩ (I L 0)):=Yr (Yr k Zy _) Zy _;have A:((a.setCell ⟨w,70,N⟩ (I L 0)).setCell ⟨w,71,N⟩ (I L 0)).heap[w.heap.size]?=Z ((PA.setIfInBounds 70 (I L 0)).setIfInBounds 71 (I L 0)) 70:=qv (qv l);have B:((a.setCell ⟨w,70,N⟩ (I L 0)).setCell ⟨w,71,N⟩ (I L 0)).heap[w.heap.size+1]?=Z zeroCells117 117:=by rw[Yg _ _ _ _ WU,Yg _ _ _ _ WU];exact y
 go_upto_region 2 with fail;generalize ((a.setCell ⟨w,70,N⟩ (I L 0)).setCell ⟨w,71,N⟩ (I L 0))=E at A B o|-;have j:=NC i;generalize (PA.setIfInBounds _ _).setIfInBounds _ _=f at A j;have m:=j.size;have C:=qx j;go_wp2_with(first|(refine ZD w f (by with_reducible exact A) m ?_)|(refine qqq R 117 #[(0,.tmp 9),(1,.tmp 10),(2,.tmp 11)] R (qA f d n) ?_ ?_;focus (first|(go_simp;exact MS f m d n)|(simp;exact MS f m d n)))|(refine ZU R 117 _ _ R (w+1) (qA f d n) R R 117 zeroCells117 (by with_reducible exact B) (by rw[fY m];exact BW) (by rw[fY m];exact Pd) (H1 C d n) ?_));exact ZS (v:=(qA f d n)) (Yp results45 _ _ (w+1) 117 _ (0,0) _ R (Zt B) underlying117 rfl (by rw[fY m];exact BW)) R ⟨f,R,j,o.setRow _ O _⟩
structure Qh(g n:Nat)(I:I6->Prop):Prop where
 st:∀A A',I A->Fr (λk _=>k=g) A A'->I A'
 ob:∀A,I A->∃S fr,A.heap[g]?=some (Z S 168 fr)
 rc:∀{z:I2}{wh:Bool}{fc:I5}{b h gg:Int}{QA:I0},Ok z wh fc b h gg->jE z wh fc b 0 0 QA->∀d:Nat,1<=d->d<=3->∀(way:Int)(W:I6),I W →
  i_ c_ 46 #[Zc #[F_ g n],Zc (qA QA (d:Int) way)] W λe w'=>(e=Zd (Ze #[.int Zh 0,Za Zl])\/e=Zd (Ze #[.int Zh (z_ d z wh fc b:Nat),Za Zk]))/\Gr W w'
 rm:∀{z:I2}{wh:Bool}{fc:I5}{b h gg:Int}{QA:I0},Ok z wh fc b h gg->jE z wh fc b 0 0 QA->∀d:Nat,1<=d->d<=3->∀(way:Int)(W:I6),I W →
  i_ c_ 48 #[Zc #[F_ g n],Zc (qA QA (d:Int) way),.int Zh (z_ d z wh fc b:Nat)] W λe w'=>(∃v,e=Zd v)/\zm g W w'/\I w'
def J1(g:Nat)(Q:I0)(w:I6):ZL 46 #[Zc #[F_ g 0],Zc Q] w (Ze #[I Zh 0,Za Zl]):=by unfold F_;unfold ZL;go_in;go_wp2;go_ret2;exact⟨R,ZN.al⟩
def H0(g:Nat)(Q:I0)(v:Int)(w:I6):i_ c_ 48 #[Zc #[F_ g 0],Zc Q,I Zh v] w λe w'=>(∃v,e=Zd v)/\Gr w w':=by unfold F_;go_in;go_wp2;go_end0;exact⟨⟨_,R⟩,ZN.al⟩
theorem TG(g:Nat):Qh g 0 (λA=>∃S fr,A.heap[g]?=some (Z S 168 fr)) where
 st:=λA q h f=>by obtain⟨S,fr,h⟩:=h;exact⟨S,fr,f.same _ _ h R⟩
 ob:=λA h=>h
 rc:=by
  intro z wh fc b h m l o r d n p a W j;exact(J1 g _ W).mono λe w' h=>⟨Zi h.1,h.2⟩
 rm:=by
  intro z wh fc b h m l o r d n p a W j;obtain⟨S,fr,i⟩:=j;exact(H0 g _ _ W).mono λe w' k=>⟨k.1,zm.of k.2,S,fr,ZE k.2 i⟩
def C_(ga gm:Nat)(wn:Int)(g n:Nat):I0:=#[.func (.func ga) #[] #[],.func (.func gm) #[] #[],I L wn,F_ g n]
def Jc:(c_.info? 78).map (·.size)=S 4:=WR
def Mb(g n:Nat)(I:I6->Prop)(ga gm:Nat)(wn:Int)(d:Nat):Prop:=
 ∀{z:I2}{wh:Bool}{fc:I5}{b h gg:Int}{PA:I0},Ok z wh fc b h gg->jE z wh fc b h gg PA->∀W:I6,I W->Wt W →
  i_ c_ 25 #[Zc (C_ ga gm wn g n),Zc PA,.int L d] W λe w'=>e=Zd (.int Zh (z_ d z wh fc b:Nat))/\zm g W w'/\I w'
def Sw(g n:Nat)(I:I6->Prop)(ga gm:Nat)(wn:Int)(d:Nat):Prop:=
 ∀{z:I2}{wh:Bool}{fc:I5}{b h gg:Int}{PA:I0},Ok z wh fc b h gg->jE z wh fc b h gg PA->∀W:I6,I W->Wt W →
  i_ c_ 47 #[Zc (C_ ga gm wn g n),Zc PA,.int L d] W λe w'=>e=Zd (.int Zh (z_ d z wh fc b:Nat))/\zm g W w'/\I w'
structure Mg(g n:Nat)(I:I6->Prop)(ga gm:Nat)(wn:Int)(PA:I0)(d:Nat)(b1 b2 b3:Nat)(W:I6):Prop where
 c:W.heap[b1]?=S (Z (C_ ga gm wn g n) 78)
 p:W.heap[b2]?=S (Z PA 70)
 d:W.heap[b3]?=S (Z #[.int L d] 3)
 wt:Wt W
 i:I W
def Mg.fx{u:I6->Prop}{wn:Int}{b:I6}(h:Mg g n u k l wn PA d e i j W)(a:LD g)(f:zm g W b)(m:e≠g)(o:i≠g)(q:j≠g)(r:u b):Mg g n u k l wn PA d e i j b:=⟨f.at h.c m,f.at h.p o,f.at h.d q,h.wt.fx a f,r⟩
def Mg.low{w:I6->Prop}{wn:Int}{b:Nat}{v:Nat}(h:Mg g n w j l wn PA d b e i W)(f:Fr (λk _=>k<v) W a)(m:b<v)(o:e<v)(q:i<v)(u:Wt a)(r:w a):Mg g n w j l wn PA d b e i a:=⟨f.same _ _ h.c m,f.same _ _ h.p o,f.same _ _ h.d q,u,r⟩
structure SC(g n:Nat)(I:I6->Prop)(ga gm:Nat)(wn:Int)(PA:I0)(d:Nat)(b1 b2 b3:Nat)(V:I6)(f t:Nat)(u:UInt8)(W:I6):Prop where
 cw:Mg g n I ga gm wn PA d b1 b2 b3 W
 m:W.heap[V.heap.size]?=S (Z (ZJ f t u) 87)
 fx:zm g V W
def M3{v:I6->Prop}{y:Nat}{wn:Int}(hd:d<=3)(mi:Qh g n v)(aw:LD g)(ih:Mb g n v x y wn d){M:Int}(o:Ok z wh fc b h M)(r:jE z wh fc b h M PA)(j A B:Nat) (h1:j≠g) (h2:A≠g) (h3:B≠g) (f t:Nat) (u:UInt8) (a3:(f,t,u)∈xC z wh fc b) (V:I6) (a1:Mg g n v x y wn PA (d+1) j A B V):i_ c_ 96 #[Zc (ZJ f t u),ZI j,ZI A,ZI B] V λe V'=>e=Zd (I Zh ((z_ d (zE z b (f,t,u)) (!wh) (kB fc f t 4) (vK z f t):Nat):Int))/\zm g V V'/\v V':=by
 have hz:=r.size;obtain⟨c0,c1,c2,c3⟩:=o.clk;obtain⟨hf,ht,hu,k1,k2⟩:=o.mv a3;have P:∀W,vJ W->i_ c_ 50 #[PA,Zc (ZJ f t u)] W λe w'=>∃Q,e=Zd (Zc Q)/\jE (zE z b (f,t,u)) (!wh) (kB fc f t 4) (vK z f t) (kK z f t h) (kj wh M) Q/\Gr W w':=λW hH=>iJ r f t u hf ht k1 k2 c0 c1 c2 c3 W hH;have J:∀Q,jE (zE z b (f,t,u)) (!wh) (kB fc f t 4) (vK z f t) (kK z f t h) (kj wh M) Q->∀W,v W->Wt W->i_ c_ 25 #[C_ x y wn g n,Q,d] W λe w'=>e=I Zh ((z_ d (zE z b (f,t,u)) (!wh) (kB fc f t 4) (vK z f t):Nat):Int)/\zm g W w'/\v w':=λQ a2 W F q=>ih (o.next a3) a2 W F q;obtain⟨S0,a0,H⟩:=mi.ob V a1.i;have T:g<V:=(qB.1 H).1;have l:∀W w,SC g n v x y wn PA (d+1) j A B V f t u W->zm g W w->v w->SC g n v x y wn PA (d+1) j A B V f t u w:=λW w k fx F=>⟨k.cw.fx aw fx h1 h2 h3 F,fx.at k.m O,zm.trans k.fx fx⟩;have a4:∀W w,v W->Gr W w->v w:=λW w F k=>mi.st W w F (p_ k);have D:SC g n v x y wn PA (d+1) j A B V f t u (V.alloc (Z (ZJ f t u) 87)).drew:=by have gr:Gr V (V.alloc (Z (ZJ f t u) 87)).drew:=ZN.drew;exact⟨a1.fx aw (zm.of gr) h1 h2 h3 (a4 _ _ a1.i gr),Z7 V _,zm.of gr⟩
 have ed:a_ L (((d+1:Nat):Int)-1)=(d:Int):=Vc;have a6:a_ L (d:Int)=d:=Vc;generalize z_ _ _ _ _ _=a7 at J|-;go_in;go_upto_region 1 with fail;refine ZT (S:=SC g n v x y wn PA (d+1) j A B V f t u) WR D (λa=>?_);refine wpAnyH_take (i:=0) (v:=Zc (C_ x y wn g n)) R WR WR WR (λ_ _ _ h=>h) (Zi ⟨Vb,λw' q=>(by
  have a5:w'.cell? j=S (.func (.func x) #[] #[]):=T7
  have e1:w'.cell? ⟨j,1,N⟩=S (.func (.func y) #[] #[]):=T7
  have e2:w'.cell? ⟨j,2,N⟩=I L wn:=T7
  have e3:w'.cell? ⟨j,3,N⟩=F_ g n:=T7
  go_simp;rfl)⟩) a ?_
 simp only[py];apply ty 1 PA R (zy hz Vb _ R A R (λ_ h=>qy h.cw.p)) a;refine wpAnyH_take (i:=2) (v:=Zc (ZJ f t u)) R WR WR WR (λ_ _ _ h=>h) (Zi ⟨Vb,λw' q=>(by
  obtain⟨a5,e1,e2⟩:=qm q.m;go_simp;try rfl)⟩) a ?_
 simp only[py];refine wpAnyH_take (i:=4) (v:=I L (d+1:Nat)) R WR WR WR (λ_ _ _ h=>h) (Zi ⟨Vb,λw' q=>(by
  have a5:=(qi q.cw.d).1;go_simp;try rfl)⟩) a ?_
 simp only[py];refine ZB 5 d R (λw' q=>by go_simp;first|done|exact ed|exact a6) a ?_;refine rd 3 λK hK=>?_;go_simp;refine(P _ a.cw.wt.hom).mono ?_;rintro e wa ⟨Q,rfl,a2,CQ⟩;refine hK.out _ _ (l _ _ a (zm.of CQ) (a4 _ _ a.cw.i CQ)) λa=>?_;try simp only[py]
 refine rd 6 λK hK=>?_;go_simp;refine Z0 (J Q a2 _ a.cw.i a.cw.wt) λwb⟨E,G⟩=>?_;refine hK.out _ _ (l _ _ a E G) λa=>?_;try simp only[py]
 refine rd 7 λK hK=>?_;go_simp;refine hK.out _ _ a λa=>?_;try simp only[py]
 refine ZZ WR ?_ _;go_wp2;go_ret;exact⟨R,a.fx,G⟩
def M2{a5:I6->Prop}{D M:Nat}{wn:Int}(mi:Qh g n a5)(aw:LD g)(wy:LB wn D l M)(d:Nat)(hd:d+1<=3)(ih:Mb g n a5 D l wn d):Sw g n a5 D l wn (d+1):=by
 intro z wh fc b h gg PA o r w a8 hw;have hz:=r.size;obtain⟨S0,a0,J⟩:=mi.ob w a8;have a2:g<w:=(qB.1 J).1;obtain⟨x1,q,x3,x4⟩:=jG w (Z (C_ D l wn g n) 78) (Z PA 70) (Z #[I L (d+1:Nat)] 3);have v:Gr w (((w.alloc (Z (C_ D l wn g n) 78)).alloc (Z PA 70)).alloc (Z #[I L (d+1:Nat)] 3)):=ZN.al.al;obtain⟨a7,hR⟩:∃a7,Y (a7=z_ (d+1) z wh fc b):=⟨_,X R⟩;rw[<-hR.a];go_in;go_upto_region 1 with fail;show n_ _ _ _ _ (((w.alloc (Z (C_ D l wn g n) 78)).alloc (Z PA 70)).alloc (Z #[I L (d+1:Nat)] 3));generalize ((w.alloc (Z (C_ D l wn g n) 78)).alloc (Z PA 70)).alloc _=p at x1 q x3 x4 v|-;have y:=mi.st _ _ a8 (p_ v);have F:=hw.gr v;have m:Mg g n a5 D l wn PA (d+1) w (w+1) (w+2) p:=⟨x1,q,x3,F,y⟩;obtain⟨K,a,a6⟩:=wy.mk' r o p F;have em:=a6.em;have Q:=a6.go;have c1:p.cell? ⟨w,1,N⟩=S (.func (.func l) #[] #[]):=by rw[qn x1];rfl
 have c3:=(qi x3).1;by_cases h0:d=0
 .subst h0;have b2:∀lb C W,Jp C W->It c_ M lb vr (λ_=>False) C K W->ZL 94 #[.func (.func M) #[] lb] W ((K.length:Nat)):=λlb C W h1 h2=>Hr h2 a6.ei (λk a9=>(h1 k a9).1) (by have:=a.length_eq;have:=bu z wh fc b;omega);have hl:a7=K.length:=by rw[hR.a,show 0+1=1 from R,JS,a.length_eq]
  have a3:K.length<=1000000:=by rw[a.length_eq];exact bu z wh fc b
  have ew:a_ Zh ((K.length:Nat):Int)=((K.length:Nat):Int):=Vh;have e1:(((0+1:Nat):Int)==1)=Zk:=WW;have P:∀W,Gr p W->zm g w W/\a5 W:=λW k=>⟨zm.of (o_ v k),mi.st _ _ y (p_ k)⟩;subst hl;go_wp2_with(first|(refine ZD (w+1) PA (by with_reducible exact q) hz ?_)|(go_at_fn l;apply Q.mono;rintro e w1 ⟨lb,C,rfl,G,j,B⟩)|(go_at_call 94;refine(b2 _ _ _ j B).mono ?_;rintro e w2 ⟨rfl,H⟩));go_ret;exact⟨R,P _ (o_ G H)⟩
 have e1:(((d+1:Nat):Int)==1)=Zl:=Vp;have b3:∀lb C W,Gr p W->Jp C W->It c_ M lb vr (λ_=>False) C K W->i_ c_ 95 #[.func (.func M) #[] lb,.func (.func 96) #[] #[ZI w.heap.size,ZI (w.heap.size+1),ZI (w.heap.size+2)]] W λe w'=>e=Zd (I Zh (a7:Nat))/\zm g w w'/\a5 w':=λlb C W E j B=>by
  have b0:=mi.st _ _ y (p_ E);have b1:=m.fx aw (zm.of E) O O O b0;obtain⟨S1,a1,T⟩:=mi.ob W b0;have a4:=ZR E;have:=Mz B a6.ei (λk a9=>(j k a9).1) g (j.not aw T) O w.heap.size (w.heap.size+1) (w.heap.size+2) (λx=>z_ d (zE z b x) (!wh) (kB fc x.1 x.2.1 4) (vK z x.1 x.2.1)) (Mg g n a5 D l wn PA (d+1) w.heap.size (w.heap.size+1) (w.heap.size+2))
   (λA A' hA f=>hA.low f O O O (hA.wt.low b1.wt f) (mi.st _ _ hA.i (f.mono λk _ _ a9=>O))) b1
   (λf t u hx V hV=>(M3 O mi aw ih o r w.heap.size (w.heap.size+1) (w.heap.size+2) O O O f t u (a.mem_iff.1 hx) V hV).mono λe V' k=>?_) (by rw[F7 a d];exact pb hd z wh fc b)
  .apply this.mono;rintro e w' ⟨rfl,k1,k2⟩;exact⟨by rw[F7 a d,hR.a],zm.trans (zm.of (o_ v E)) k1,k2.i⟩
  exact⟨k.1,k.2.1,hV.fx aw k.2.1 O O O k.2.2⟩
 go_wp2_with(first|(refine ZD (w+1) PA (by with_reducible exact q) hz ?_)|(go_at_fn l;apply Q.mono;rintro e w1 ⟨lb,C,rfl,G,j,B⟩)|(go_at_call 95;refine(b3 _ _ _ G j B).mono ?_;rintro e w2 ⟨rfl,H⟩));go_ret;exact⟨R,H⟩
structure Pw(g n:Nat)(I:I6->Prop)(ga gm:Nat)(wn:Int)(PA Q:I0)(b1 b2 b3:Nat)(w W:I6):Prop where
 c:W.heap[b1]?=S (Z (C_ ga gm wn g n) 78)
 p:W.heap[b2]?=S (Z PA 70)
 q:W.heap[b3]?=S (Z Q 117)
 wt:Wt W
 i:I W
 fx:zm g w W
def Pw.next{u:I6->Prop}{wn:Int}{Q:I0}{b:I6}(h:Pw g n u j k wn PA Q d e i w W)(a:LD g)(f:zm g W b)(l:d≠g)(m:e≠g)(o:i≠g)(r:u b):Pw g n u j k wn PA Q d e i w b:=⟨f.at h.c l,f.at h.p m,f.at h.q o,h.wt.fx a f,r,zm.trans h.fx f⟩
def Pw.c3{i:I6->Prop}{wn:Int}{Q:I0}{a b:Nat}(h:Pw g n i e f wn PA Q a b d w W):W.cell? ⟨a,3,N⟩=S (F_ g n):=by rw[qn h.c];rfl
def Pw.cs{i:I6->Prop}{b:Nat}{wn:Int}{Q:I0}{a:Nat}(h:Pw g n i b d wn PA Q a e f w W):W.cell? a=S (.func (.func b) #[] #[])/\W.cell? ⟨a,1,N⟩=S (.func (.func d) #[] #[])/\W.cell? ⟨a,2,N⟩=S (I L wn):=by refine⟨?_,?_,?_⟩<;>(rw[qn h.c];rfl)
def HZ{b0:I6->Prop}{u gi:Nat}{wn:Int}(mi:Qh g n b0)(aw:LD g)(wy:LB wn u x gi):∀d:Nat,d<=3->Mb g n b0 u x wn d:=by
 intro d;induction d with
 | zero=>
  intro _ z wh fc b h gg PA o r w l b1;have a0:∀W,Gr w W->zm g w W/\b0 W:=λW k=>⟨zm.of k,mi.st _ _ l (p_ k)⟩;show i_ c_ 25 #[C_ u x wn g n,PA,I L 0] w λe w'=>e=I Zh 1/\zm g w w'/\b0 w';go_in;go_wp2;go_ret;exact⟨R,a0 _ ZN.al⟩
 | succ d ih=>
  intro hd z wh fc b h gg PA o r w l b1;have G:Sw g n b0 u x wn (d+1):=M2 mi aw wy d hd (ih O);have hz:=r.size;obtain⟨S0,a8,a3⟩:=mi.ob w l;have a9:g<w:=(qB.1 a3).1;obtain⟨x1,x2⟩:=x6 w (Z (C_ u x wn g n) 78) (Z PA 70);have A:Gr w ((w.alloc (Z (C_ u x wn g n) 78)).alloc (Z PA 70)):=ZN.al;have a7:((w.alloc (Z (C_ u x wn g n) 78)).alloc (Z PA 70)).heap.size=w.heap.size+2:=WU
  have M:∀W,i_ c_ 45 #[PA,I L (d+1:Nat),wn] W λe w'=>∃a,e=Zd (qA a ((d+1:Nat):Int) wn)/\jE z wh fc b 0 0 a/\Gr W w':=λW=>Qa r _ _ W;have D:∀a,jE z wh fc b 0 0 a->∀W,b0 W->i_ c_ 46 #[Zc #[F_ g n],qA a ((d+1:Nat):Int) wn] W λe w'=>(e=Ze #[I Zh 0,Zl]\/e=Ze #[I Zh (z_ (d+1) z wh fc b:Nat),Zk])/\Gr W w':=λa C W l=>mi.rc o C (d+1) O hd wn W l;have E:∀a,jE z wh fc b 0 0 a->∀W,b0 W->i_ c_ 48 #[Zc #[F_ g n],qA a ((d+1:Nat):Int) wn,I Zh (z_ (d+1) z wh fc b:Nat)] W λe w'=>(∃v,e=Zd v)/\zm g W w'/\b0 w':=λa C W l=>mi.rm o C (d+1) O hd wn W l;have V:∀W,b0 W->Wt W->i_ c_ 47 #[C_ u x wn g n,PA,I L (d+1:Nat)] W λe w'=>e=I Zh (z_ (d+1) z wh fc b:Nat)/\zm g W w'/\b0 w':=λW l b1=>G o r W l b1;have b4:∀W W',b0 W->Gr W W'->b0 W':=λW W' l k=>mi.st W W' l (p_ k);have b7:∀a d n,jE z wh fc b 0 0 a->(qA a d n).size=74/\(qA a d n).all (·.oneCell')=Zk:=λa d n C=>⟨fY C.size d n,H1 (qx C) d n⟩;have e0:(((d+1:Nat):Int)==0)=Zl:=Vp
  generalize z_ _ _ _ _ _=c5 at D E V|-;go_in;go_upto_region 3 with fail;generalize (w.alloc _).alloc _=w0 at x1 x2 A a7|-;have a1:=b4 _ _ l A;have a4:=b1.gr A;have c2:w0.cell? ⟨w,2,N⟩=I L wn:=by rw[qn x1];rfl
  go_upto_region 4 with(first|(refine ZD (w+1) PA (by with_reducible exact x2) hz ?_)|(go_at_call 45;refine(M _).mono ?_;rintro e w1 ⟨a,rfl,C,T⟩;have y1:=Z7 w1 (Z zeroCells117 117);obtain⟨H,b6⟩:=b7 a ((d+1:Nat):Int) wn C)|(refine ZU R 117 _ _ R w1 (qA a ((d+1:Nat):Int) wn) R R 117 zeroCells117 UI (by rw[H];exact BW) (by rw[H];exact Pd) b6 ?_));have y:Pw g n b0 u x wn PA (qA a ((d+1:Nat):Int) wn) w.heap.size (w.heap.size+1) w1.heap.size w ((w1.alloc (Z zeroCells117 117)).setRow w1.heap.size (qA a ((d+1:Nat):Int) wn)):=by
   have hk:Gr w1 ((w1.alloc (Z zeroCells117 117)).setRow w1 (qA a ((d+1:Nat):Int) wn)):=ZN.setRow _ Zy _;have B:=o_ T hk;exact⟨(Zz B (xe x1)).trans x1,(Zz B (xe x2)).trans x2,Zt y1,a4.gr B,b4 _ _ a1 B,zm.of (o_ A B)⟩
  have K:w1≠g:=by have:=ZR T;omega
  generalize ((w1.alloc (Z zeroCells117 117)).setRow w1 (qA a ((d+1:Nat):Int) wn))=w2 at y|-;generalize w1.heap.size=b3 at y K|-;have P:w≠g:=O
  have b5:w+1≠g:=O
  have j:=D a C;have F:=E a C;generalize qA a ((d+1:Nat):Int) wn=Q at y j F H|-;have c3:=y.c3;have b2:=y.q
  go_upto_region 5 with(first|(refine ZV R 117 _ R b3 R 117 Q (0,0) _ (by with_reducible exact b2) underlying117 rfl (by rw[H];exact BW) ?_)|(go_at_call 46;refine(j _ y.i).mono ?_;rintro e w3 ⟨rfl|rfl,m⟩))
  .have f:=y.next aw (zm.of m) P b5 K (b4 _ _ y.i m);obtain⟨d0,d1,d2⟩:=f.cs;have d3:=f.c3;have dp:=f.p
   go_upto_region 8 with(first|(refine ZD (w+1) PA (by with_reducible exact dp) hz ?_)|(refine ZV R 78 _ R w R 78 (C_ u x wn g n) (0,0) _ (by with_reducible exact f.c) underlying78 rfl Jc ?_)|(go_at_call 47;refine Z0 (V _ f.i f.wt) λw4⟨c4,a2⟩=>?_));have J:=f.next aw c4 P b5 K a2;have c3:=J.c3;have b2:=J.q
   go_wp2_with(first|(refine ZV R 117 _ R b3 R 117 Q (0,0) _ (by with_reducible exact b2) underlying117 rfl (by rw[H];exact BW) ?_)|(go_at_call 48;refine(F _ J.i).mono ?_;rintro e w5 ⟨⟨v,rfl⟩,a5,a6⟩));go_ret;exact⟨R,zm.trans J.fx a5,a6⟩
  have f:=y.next aw (zm.of m) P b5 K (b4 _ _ y.i m);go_wp2;go_ret;exact⟨R,f.fx,f.i⟩
def He{g:Int}(o:Ok z wh fc b h g)(r:jE z wh fc b h g PA){t:Nat}(j:(f,t,u)∈xC z wh fc b)(w:I6):i_ c_ 106 #[Zc PA,Zc (ZJ f t u)] w λe w'=>∃Q,e=Zd (Zc Q)/\jE (zE z b (f,t,u)) (!wh) (kB fc f t 4) (vK z f t) (kK z f t h) (kj wh g) Q/\Gr w w':=by obtain⟨c0,c1,c2,c3⟩:=o.clk;obtain⟨a,d,i,_,_⟩:=o.mv j;have l:=(C8 o.good o.b0 o.b1 a d i).2 ((je o.good o.b0 o.b1 _).2 j);refine(qxg r f t a d u i c0 c1 c2 c3 w).mono ?_;rintro e w' ⟨Q,rfl,m,k⟩;exact⟨Q,R,bT o.good c1 c3 a d i l m,k⟩
def JD{g:Int}(o:Ok z wh fc b h g)(r:jE z wh fc b h g PA)(w:I6):i_ c_ 54 #[Zc PA] w λe w'=>∃v,e=Zd v/\np w.heap.size v (yY z wh fc b) w'/\Gr w w':=by obtain⟨c0,c1,c2,c3⟩:=o.clk;exact ai r o.good o.b0 o.b1 c0 c1 c2 c3 w
def eO(d:Nat)(z:I2)(wh:Bool)(fc:I5)(b:Int)(x:Mv):Nat:=z_ d (zE z b x) (!wh) (kB fc x.1 x.2.1 4) (vK z x.1 x.2.1)
structure Rp(w:I6)(PA:I0)(w1 W:I6):Prop where
 p:W.heap[w.heap.size]?=S (Z PA 70)
 gr:Gr w1 W
def Rp.next(h:Rp w PA w1 W)(g:Gr W a):Rp w PA w1 a:=⟨(Zz g (xe h.p)).trans h.p,o_ h.gr g⟩
def na:∀(d:Nat),d<=3->∀{z:Nat->UInt8}{wh:Bool}{fc:Nat->Bool}{b h g:Int}{PA:I0},Ok z wh fc b h g->jE z wh fc b h g PA->∀w:I6, ZL 163 #[Zc PA,I L d] w (I Zh (z_ d z wh fc b:Nat)):=by
 intro d;induction d with
 | zero=>
  intro _ z wh fc b h g PA o r w;show ZL 163 #[Zc PA,I L 0] w (I Zh 1);unfold ZL;go_in;go_wp2;go_ret;exact⟨R,ZN⟩
 | succ d ih=>
  intro hd z wh fc b h g PA o r w;have hz:=r.size;have x:Y (∀W:I6,i_ c_ 54 #[Zc PA] W λe w'=>∃v,e=Zd v/\np W.heap.size v (yY z wh fc b) w'/\Gr W w'):=X λW=>JD o r W;have F:=Kj o.good o.b0 o.b1
  have m:Y (∀f t u,(f,t,u)∈yY z wh fc b->∀W:I6,i_ c_ 106 #[Zc PA,Zc (ZJ f t u)] W λe w'=>∃Q,e=Zd (Zc Q)/\(∀V:I6,ZL 163 #[Zc Q,I L d] V (I Zh (eO d z wh fc b (f,t,u):Nat)))/\Gr W w'):=X λf t u hx W=>by
   have a5:=F.mem_iff.1 hx;refine(He o r a5 W).mono ?_;rintro e w' ⟨Q,rfl,hq,hg⟩;exact⟨Q,R,λV=>ih O (o.next a5) hq V,hg⟩
  have a1:(yY z wh fc b).length<=20480:=iW _ _ _ _ 64;have a:Y (((yY z wh fc b).map (eO d z wh fc b)).sum=z_ (d+1) z wh fc b):=X (F7 F d);have q:Y (((yY z wh fc b).map (eO d z wh fc b)).sum<=1000000000000000000):=X (by rw[a.a];exact pb hd z wh fc b)
  have j:Y (d=0->((yY z wh fc b).length:Nat)=z_ (d+1) z wh fc b):=X λe=>by
   subst e;rw[show 0+1=1 from R,JS,F.length_eq]
  generalize z_ (d+1) z wh fc b=T at a j|-;generalize eO d z wh fc b=b5 at m a q;generalize yY z wh fc b=ys at x m a1 a q j;have y1:=Z7 w (Z PA 70);have M:Gr w (w.alloc (Z PA 70)):=ZN;obtain⟨D,hD⟩:∃D:Int,Y (D=((d+1:Nat):Int)):=⟨_,X R⟩;rw[<-hD.a];have e0:(D==0)=Zl:=by have:=hD.a;rw[qM];omega
  unfold ZL;go_in;go_upto_region 3 with fail;generalize w.alloc (Z PA 70)=w0 at y1 M|-;have d1:=X (qy y1);have d0:=xe y1
  go_upto_region 4 with(first|(go_at_call 54;refine(x.a _).mono ?_;rintro e w1 ⟨v,rfl,hv,c4⟩;obtain⟨pp,cap,rfl,b3,c6⟩:=bt hv)|(refine ql Vb _ R w.heap.size R hz d1.a ?_));have a0:=X (o_ M c4);have a2:=X ((Zz c4 d0).trans y1);have d2:=X c6;by_cases h1:d=0
  .subst h1;have hT:=j.a R;subst hT;have e1:(D==1)=Zk:=(by have:=hD.a;rw[YF];omega);have ew:a_ Zh (ys.length:Int)=(ys.length:Int):=Vh
   go_wp2;go_ret;exact⟨R,a0.a⟩
  have e1:(D==1)=Zl:=by have:=hD.a;rw[qM];omega
  have ed:a_ L (D-1)=(d:Int):=by have:=hD.a;rw[YO];omega
  have a6:a_ L (d:Int)=d:=Vc
  go_wp2;go_loopg [6,7] ys.length (λg n i wr=>∃k:Nat,k+g=ys.length/\i=I L k/\n=I Zh ((((ys.take k).map b5).sum:Nat):Int)/\Gr w1 wr)
  case atStart=>exact⟨0,O,R,R,ZO⟩
  case round=>
   obtain⟨k,k1,rfl,rfl,E⟩:=hrel;by_cases b6:k<ys.length
   .obtain⟨gg,rfl,x0,x1,x2⟩:=d2.a k b6;have A:gg<w1.heap.size:=Zx x0;have z0:=x0;have z1:=x1;have z2:=x2;have a3:=X ((Zz E (xe a2.a)).trans a2.a);have b4:=X (qy a3.a);have B:ys[k]∈ys:=Xs _;have b7:ys.take (k+1)=ys.take k++[ys[k]]:=Yd b6;have J:ys.take k++[ys[k]]<+:ys:=(by rw[<-b7];exact List.take_prefix _ _);have G:=LQ (f:=b5) J;have H:Y (((ys.take (k+1)).map b5).sum=((ys.take k).map b5).sum+b5 ys[k]):=X (by rw[b7,Ys,List.sum_append,YM,Wi,List.sum_cons,List.sum_nil,Nat.add_zero]);have a4:=q.a;generalize ys[k]=y at z0 z1 z2 B G H;obtain⟨f,t,u⟩:=y;have c5:=X (m.a f t u B);generalize ((ys.take k).map b5).sum=sv at G H|-;generalize b5 (f,t,u)=xv at G H c5;have b2:a_ Zh ((sv:Int)+xv)=((sv+xv:Nat):Int):=Vh
    have d3:=X E;have k0:0<=(k:Int):=O
    have kl:(k:Int)<(ys.length:Int):=O
    go_upto_region 10 with fail;have P:Rp w PA w1 wr.drew:=⟨a3.a,d3.a.drew⟩;refine ZT (S:=Rp w PA w1) WR P (λl=>?_);refine tq 0 (I Zh sv) l ?_;refine ty 1 (Zc PA) R (zy hz Vb _ R w.heap.size R (λ_ h=>qy h.p)) l ?_;refine tq 2 (Zq (S gg) ys.length cap) l ?_;refine tq 3 (I L k) l ?_;refine tq 4 (.pointer (S ⟨gg,k*3,N⟩)) l ?_
    refine wpAnyH_take (i:=5) (v:=Zc (ZJ f t u)) R WR WR WR (λ_ _ _ h=>h) (Zi ⟨Vb,λw' CQ=>(by
     have e0:=(ZW CQ.gr A).trans z0;have e1:=(ZW CQ.gr A).trans z1;have e2:=(ZW CQ.gr A).trans z2;go_simp;try rfl)⟩) l ?_
    simp only[py];refine ZB 7 (I L D) R (λw' CQ=>by go_simp;try rfl) l ?_;refine ZB 8 (I L d) R (λw' CQ=>by go_simp;first|done|exact ed|exact a6) l ?_;refine rd 6 λK hK=>?_;go_simp;refine(c5.a _).mono ?_;rintro e w2 ⟨Q,rfl,hq,a7⟩;refine hK.out _ _ (l.next a7) λl=>?_;try simp only[py]
    refine rd 9 λK hK=>?_;go_simp;refine Z0 (hq _) λw3 a8=>?_;refine hK.out _ _ (l.next a8) λl=>?_;try simp only[py]
    refine ZB 10 (I Zh (sv+xv:Nat)) R (λw' CQ=>by go_simp;try exact b2) l ?_;refine rd 11 λK hK=>?_;go_simp;refine hK.out _ _ l λl=>?_;try simp only[py]
    refine ZZ WR ?_ _;have a9:=X l.gr;go_wp2;go_roundg (gk-1)
    .exact⟨k+1,O,Vg,by rw[H.a,Int.natCast_add],a9.a⟩
    omega
   have ek:k=ys.length:=O
   subst ek;have hT:((ys.take ys.length).map b5).sum=T:=(by rw[XA];exact a.a);rw[hT];go_wp2;go_ret;exact⟨R,o_ a0.a E⟩
