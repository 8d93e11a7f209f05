import Derived.Test.YtnfakamfmkhlbabGreatDoorB6
set_option maxRecDepth 100000
set_option maxHeartbeats 4000000
set_option linter.all false
open Go.Value renaming int->I,bool->Za,string->Zb,agg->Zc,tuple->Ze,slice->Zq
open Go.IntKind renaming i64->L,u8->Zg,u64->Zh
open Go.Obj renaming cells->Z
open Go.Ending renaming returned->Zd
open Or renaming inl->Zi,inr->Zj
open Option renaming some->S,none->N
open Bool renaming true->Zk,false->Zl
open Decidable renaming decide->Zm
open Go.RowKit renaming Hid->Y
open Go renaming World->I6,Value->I7
namespace Go.Proofs.YtnfakamfmkhlbabGreatDoor.C
open Go.ChangeShapes Go.WideShapes Go.ChangeAt Go.RowKit Go.Shelf Go.Proofs.YtnfakamfmkhlbabGreatDoor.P Tryz
attribute [local go_sem] qd qe Oper.semAt_some
variable {z:I2}{wh:Bool}{b h m:Int}{PA A M:I0}{fc:I5}{w W a w' w1 V:I6}{f n i k g base d e l j x B Bp:Nat}{v:I7}{u:UInt8}{Q:Nat->Obj->Prop}{rs:I3}{y:I1}
def pU(x:Mv):I0:=#[I L (x.1:Int),I L (x.2.1:Int),I Zg (x.2.2.toNat:Int)]
theorem dV(g gf:Nat)(lb a:I0)(w:I6):Calls prog 67 #[.func (.func g) #[] lb,.func (.func gf) #[] a] w λe w'=>e=Zd (.func (.func 155) #[] #[ZI w.heap.size,ZI (w.heap.size+1)])/\w'.heap[w.heap.size]?=S (Z #[.func (.func g) #[] lb] 141)/\w'.heap[w.heap.size+1]?=S (Z #[.func (.func gf) #[] a] 143)/\Gr w w':=by have h:∀(b:Fn)(first cap:I0)(w:I6),(Instr.makeFunc b first cap).run prog w=.ok (.func b first cap) w:=λ_ _ _ _=>R;go_enter func67,ntmps67;go_wp2;go_ret;obtain⟨d,f⟩:=x6 w (Z #[.func (.func g) #[] lb] 141) (Z #[.func (.func gf) #[] a] 143);exact⟨R,d,f,ZN.al⟩
def xC(z:I2)(wh:Bool)(fc:I5)(b:Int):List Mv:=zH (xD z 64) wh (xZ (xD z 64) wh) (xZ (xD z 64) (!wh)) (vV b) fc 6
theorem qxq{g:Int}(r:jE z wh fc b h g PA)(f:xO z=Zk)(d:-1<=b)(e:b<=63)(Bp:Nat)(T:Obj->Prop)(a:∀o,T o->∃c fr,o=Z c 87 fr)(w:I6)
 (l:w.heap[Bp]?=S (Z PA 70)) (j:jF w) (i:jQ w) :
 It prog 128 #[ZI Bp] vr T (λk=>k=Bp\/k=2\/k=3) (xC z wh fc b) w :=
 mY r.size (λW=>aJ r f d e W) Bp T a w l j i
theorem zk(PA:I0)(w:I6):Calls prog 61 #[Zc PA] w λe w'=>e=Zd (.func (.func 128) #[] #[ZI w.heap.size])/\w'.heap[w.heap.size]?=S (Z PA 70)/\Gr w w':=by have b:∀(a:Fn)(first cap:I0)(w:I6),(Instr.makeFunc a first cap).run prog w=.ok (.func a first cap) w:=λ_ _ _ _=>R;go_enter func61,ntmps61;go_wp2;go_ret;exact⟨R,Zv,ZN⟩
def nI(l:I1):List Int:=l.map (λc=>(c.toNat:Int))
def gx(st:I1 × Nat)(c:UInt8):I1 × Nat:=if c=46 then(st.1,st.2+1)else(st.1++ur st.2++[c],0)
def lh(zs:I1):I1 × Nat:=zs.foldl gx ([],0)
theorem qv3(a:I1)(c:UInt8):lh (a++[c])=gx (lh a) c:=by unfold lh;rw[List.foldl_append];rfl
theorem iR(z:Nat->UInt8):∀k,DV z k=lh ((List.range k).map z)
 | 0=>rfl
 | k+1=>by
  rw[YI,Ys,YM,Wi,qv3,<-iR z k];rfl
theorem cZ(a:I1):∀d,lh (a++List.replicate d 46)=((lh a).1,(lh a).2+d)
 | 0=>by simp
 | d+1=>by
  rw[List.replicate_succ',<-qS,qv3,cZ a d];unfold gx;rw[qI R];rfl
def wj(c:UInt8):Bool:=c==46||bz c
theorem EI:bz 46=Zl:=WW
theorem sM(a b:I1):nI (a++b)=nI a++nI b:=Ys
theorem D6(d:Nat):nI (List.replicate d 46)=List.replicate d 46:=by unfold nI;rw[List.map_replicate];rfl
theorem D7(a:I1):(nI a).length=a.length:=YD _
theorem CK(c:UInt8)(h:uT c=Zk):1<=c.toNat-48/\c.toNat-48<=8/\UInt8.ofNat (48+(c.toNat-48))=c:=by unfold uT at h;simp only[qH,qG]at h;refine⟨O,O,?_⟩;rw[show 48+(c.toNat-48)=c.toNat from O];simp
theorem eW(l:I1):∀b a,vY l=S (b,a)->∃d,b=nI d/\d.all wj=Zk/\(a=Zl->lh d=(l,0))/\(a=Zk->∃t g,lh d=(t,g)/\1<=g/\l=t++[UInt8.ofNat (48+g)]):=by
 induction w:l.length generalizing l with
 | zero =>
  have:l=[]:=Yz.mp w;subst this;intro b a h;unfold vY at h;simp at h;obtain⟨rfl,rfl⟩:=h;exact⟨[],R,R,λ_=>R,λh=>by simp at h⟩
 | succ n ih =>
  have k:l≠[]:=λe=>by subst e;simp at w
  obtain⟨m,c,rfl⟩:∃m c,l=m++[c]:=⟨l.dropLast,l.getLast k,(XY k).symm⟩;intro b a h;rw[vj]at h;cases v:vY m with
  | none=>rw[v]at h;simp[zZ]at h
  | some st =>
   obtain⟨f,o⟩:=st;rw[v]at h;obtain⟨d,x,y,z,E⟩:=ih m (by simpa using w) f o v;unfold zZ at h;simp only at h;by_cases u:uT c=Zk
   .rw[qI u]at h;split at h
    .simp at h
    .rename_i B;simp only[Ym,qG,not_or]at B;have r:o=Zl:=by simpa using B.1
     simp only[Xh,Prod.mk.injEq]at h;obtain⟨p,q⟩:=h;obtain⟨C,H,D⟩:=CK c u;refine⟨d++List.replicate (c.toNat-48) 46,by rw[sM,D6,<-x];exact p.symm,?_,λh=>by rw[<-q]at h;simp at h,λ_=>⟨m,c.toNat-48,?_,C,by rw[D]⟩⟩
     .rw[Xf,y];simp[wj]
     .rw[cZ,z r];simp
   .rw[qF u]at h;by_cases j:bz c=Zk
    .rw[qI j]at h;split at h
     .simp at h
     .simp only[Xh,Prod.mk.injEq]at h;obtain⟨p,q⟩:=h;have i:¬ c=46:=λe=>by rw[e,EI]at j;simp at j
      refine⟨d++[c],by rw[sM,<-x];exact p.symm,?_,λ_=>?_,λh=>by rw[<-q]at h;simp at h⟩
      .rw[Xf,y];simp[wj,j]
      .rw[qv3];unfold gx;rw[qF i];cases A:o with
       | false=>rw[z A];simp[ur]
       | true =>
        obtain⟨t,g,F,J,G⟩:=E A;rw[F,G];have:ur g=[UInt8.ofNat (48+g)]:=by unfold ur;rw[qF O]
        simp[this]
    .rw[qF j]at h;simp at h
theorem gA(l:I1)(r:List Int)(h:jL l=S r):∃b,r=nI b/\b.length=8/\b.all wj=Zk/\(lh b).1++ur (lh b).2=l:=by
 unfold jL at h;cases e:vY l with
 | none=>rw[e]at h;simp at h
 | some st =>
  obtain⟨d,a⟩:=st;rw[e]at h;simp only at h;split at h
  .rename_i i;simp at h;subst h;obtain⟨b,f,j,k,m⟩:=eW l d a e;refine⟨b,f,by rw[f,D7]at i;exact i,j,?_⟩;cases a with
   | false=>rw[k R];simp[ur]
   | true =>
    obtain⟨t,g,n,p,o⟩:=m R;rw[n,o];have:ur g=[UInt8.ofNat (48+g)]:=by unfold ur;rw[qF O]
    simp[this]
  .simp at h
theorem qjx(c:UInt8):∀l:I1,(Lib.indexByte l c=-1/\c∉l)\/∃a b,l=a++c :: b/\c∉a/\Lib.indexByte l c=(a.length:Int)
 | []=>Or.inl ⟨R,WU⟩
 | x :: l=>by
  unfold Lib.indexByte;by_cases d:x=c
  .subst d;right;exact⟨[],l,R,WU,WU⟩
  .have i:(x==c)=Zl:=VG
   rw[i];simp only[qR,YH];obtain⟨f,g⟩|⟨a,b,f,g,h⟩:=qjx c l
   .left;rw[f];exact⟨WU,Og⟩
   .right;refine⟨x :: a,b,T1,Og,?_⟩;rw[h];have:((a.length:Int)==-1)=Zl:=WU
    rw[this];simp
theorem qva(c:UInt8)(k:Nat)(l:I1)(h:c∉l):Lib.splitK [c] 0 k l=[l]:=by
 cases k with
 | zero=>rfl
 | succ k =>
  unfold Lib.splitK;rw[Lib.index_one];obtain⟨d,_⟩|⟨a,b,d,_,_⟩:=qjx c l
  .rw[d];simp
  .rw[d]at h;simp at h
theorem qj6(c:UInt8)(k:Nat)(a b:I1)(h:c∉a):Lib.splitK [c] 0 (k+1) (a++c :: b)=a :: Lib.splitK [c] 0 k b:=by
 conv=>lhs;unfold Lib.splitK
 rw[Lib.index_one];rcases qjx c (a++c :: b)with⟨_,l⟩|⟨n,o,r,l,u⟩
 .simp at l
 .have v:n=a/\o=b:=by
   have m:∀(p q d g:I1),p++c :: q=d++c :: g->c∉p->c∉d->p=d/\q=g:=by
    intro p;induction p with
    | nil =>
     intro q d g e _ f;cases d with
     | nil=>simp at e;exact⟨R,e⟩
     | cons y d=>simp at e f;exact absurd e.1 f.1
    | cons x p ih =>
     intro q d g e h f;cases d with
     | nil=>simp at e h;exact absurd e.1.symm h.1
     | cons y d =>
      simp at e h f;obtain⟨i,j⟩:=ih q d g e.2 h.2 f.2;exact⟨by rw[e.1,i],j⟩
   obtain⟨i,j⟩:=m a b n o r h l;exact⟨i.symm,j.symm⟩
  rw[u,v.1];have:((a.length:Int)==-1)=Zl:=WU;rw[this];simp
theorem ve(x y:I1)(r:List (I1))(a:I1):Lib.join (x :: y :: r) a=x++a++Lib.join (y :: r) a:=by simp[Lib.join,List.intercalate,List.intersperse]
theorem o9(c:UInt8)(k:Nat)(l:I1):∃x r,Lib.splitK [c] 0 k l=x :: r:=by
 cases k with
 | zero=>exact⟨_,_,R⟩
 | succ k=>unfold Lib.splitK;split<;>exact⟨_,_,R⟩
theorem qvt(c:UInt8):∀(k:Nat)(l:I1),Lib.join (Lib.splitK [c] 0 k l) [c]=l
 | 0,l=>Lib.join_one l [c]
 | k+1,l=>by
  obtain⟨_,d⟩|⟨a,b,rfl,d,_⟩:=qjx c l
  .rw[qva c _ l d,Lib.join_one]
  .rw[qj6 c k a b d];obtain⟨x,r,e⟩:=o9 c k b;rw[e,ve,<-e,qvt c k b];simp
theorem qjc(c:UInt8)(n:Nat)(s:I4):(xL c n s).map (·.data.toList)=Lib.splitK [c] 0 (min n (s.size+1)-1) s.data.toList:=by unfold xL;rw[Lib.splitB_data]
theorem qz5(c:UInt8)(n:Nat)(s:I4):Lib.join ((xL c n s).map (·.data.toList)) [c]=s.data.toList:=by rw[qjc,qvt]
theorem mA(s:I4)(b:Bool)(h:kO s=S b):s.data.toList=[if b then 119 else 98]:=by
 unfold kO at h;rw[Xl]at h;by_cases a:s.data.toList=[119]
 .rw[qI a]at h;simp at h;subst h;exact a
 .rw[qF a]at h;by_cases d:s.data.toList=[98]
  .rw[qI d]at h;simp at h;subst h;exact d
  .rw[qF d]at h;simp at h
theorem mF(l:I1)(i:Nat):jN l i=(if zW l i then[vn i]else[])++jN l (i+1):=by
 show jN l i=(if Lib.hasPrefix (jN l i) [vn i]then[vn i]else[])++Lib.trimPrefix (jN l i) [vn i];unfold Lib.trimPrefix;cases h:Lib.hasPrefix (jN l i) [vn i]with
 | false=>simp
 | true =>
  simp only[YS];unfold Lib.hasPrefix at h;obtain⟨t,a⟩:=List.isPrefixOf_iff_prefix.mp h;rw[<-a];simp
theorem iU(l:I1):∀i,l=E5 (zW l) i++jN l i
 | 0=>rfl
 | i+1=>by
  rw[oN,qS,<-mF];exact iU l i
theorem aU(l:I1)(f:I5)(h:vS l=S f):eE f=l:=by
 unfold vS at h;by_cases b:l=[45]
 .rw[qI b]at h;simp at h;subst h;rw[b];rfl
 .rw[qF b]at h;by_cases a:(!l.isEmpty&&(jN l 4).isEmpty)=Zk
  .rw[qI a]at h;simp at h;subst h;simp only[qH,YK,List.isEmpty_iff]at a;have:=iU l 4;rw[a.2,Yh]at this;unfold eE;rw[<-this];rw[a.1];rfl
  .rw[qF a]at h;simp at h
theorem oY(s:I4)(h:s.size=2):s.data.toList=[s[0],s[1]]:=by have a:=xi s 0 O;have b:=xi s 1 O;have c:s.data.toList.take 2=s.data.toList:=Yk UW;rw[c,a]at b;simpa using b
theorem ag(s:I4)(n:Int)(h:v8 s=S n):oO n=s.data.toList/\(n=-1\/(0<=n/\n<64)):=by
 unfold v8 at h;by_cases a:s.toList=[45]
 .rw[qI a]at h;simp at h;subst h;rw[Xl]at a;rw[a];exact⟨R,Or.inl R⟩
 .rw[qF a]at h;unfold uX at h;by_cases b:s.size=2
  .rw[Wf b]at h;by_cases d:97<=s[0].toNat/\s[0].toNat<=104/\49<=s[1].toNat/\s[1].toNat<=56
   .rw[qI d]at h;simp only[fA,Xh]at h;subst h;refine⟨?_,Or.inr O⟩;unfold oO xQ;rw[qF O,oY s b,YE];rw[show 97+(s[0].toNat-97+8*(s[1].toNat-49))%8=s[0].toNat from O,show 49+(s[0].toNat-97+8*(s[1].toNat-49))/8=s[1].toNat from O];simp
   .rw[qF d]at h;simp[fA]at h
  .rw[dif_neg b]at h;simp[fA]at h
theorem fg:∀n,n<256->dg (UInt8.ofNat n)=Zk->UInt8.ofNat (48+(n-48))=UInt8.ofNat n/\48<=n/\n<=57:=WS
theorem tR(c:UInt8)(h:dg c=Zk):UInt8.ofNat (48+(c.toNat-48))=c/\48<=c.toNat/\c.toNat<=57:=by have:=fg c.toNat c.toNat_lt;exact IE
theorem Ei:∀(l:I1),l≠[]->l.all dg=Zk->l.head?≠S 48->1<=dv l:=by
 intro l;induction i:l.length generalizing l with
 | zero=>intro h;exact absurd (Yz.mp i) h
 | succ n ih =>
  intro a b g;obtain⟨m,c,rfl⟩:∃m c,l=m++[c]:=⟨l.dropLast,l.getLast a,(XY a).symm⟩;rw[yz];rw[Xf]at b;simp only[qH,Wc,List.all_nil,Wl]at b;by_cases f:m=[]
  .subst f;have d:c≠48:=by simpa using g
   have:=tR c b.2;have:c.toNat≠48:=λe=>d (q6.mp VI);omega
  .have:=ih m (by simpa using i) f b.1 (by
    cases m with
    | nil=>exact absurd R f
    | cons x r=>simpa using g)
   omega
theorem Ek:∀(l:I1),l≠[]->l.all dg=Zk->(1<l.length->l.head?≠S 48)->Lib.decDigits (dv l)=l:=by
 intro l;induction f:l.length generalizing l with
 | zero=>intro h;exact absurd (Yz.mp f) h
 | succ n ih =>
  intro e a g;obtain⟨m,c,rfl⟩:∃m c,l=m++[c]:=⟨l.dropLast,l.getLast e,(XY e).symm⟩;rw[yz];rw[Xf]at a;simp only[qH,Wc,List.all_nil,Wl]at a;obtain⟨c1,c2,c3⟩:=tR c a.2;by_cases d:m=[]
  .subst d;unfold Lib.decDigits;rw[Wf (by simp[dv];omega)];simp[dv,c1]
  .have b:m.head?≠S 48:=by
    have:=g (by have:0<m.length:=List.length_pos_iff.mpr d;simp at f;omega);cases m with
    | nil=>exact absurd R d
    | cons x r=>simpa using this
   have i:=Ei m d a.1 b;unfold Lib.decDigits;rw[dif_neg O,show(10*dv m+(c.toNat-48))/10=dv m from O,show(10*dv m+(c.toNat-48))%10=c.toNat-48 from O,c1,ih m Uq d a.1 (λ_=>b)]
theorem qvv(l:I1)(n:Nat)(h:vR l=S n):Lib.itoa (n:Int)=l/\n<=65535:=by
 unfold vR at h;split at h
 .rename_i a;simp at h;subst h;refine⟨?_,a.2.2.2.2⟩;unfold Lib.itoa;rw[qF O,YE];exact Ek l (λe=>by subst e;simp at a) a.2.2.2.1 a.2.2.1
 .simp at h
def zB(B:I1)(i:Nat):UInt8:=B.getD i 0
def dL(B:I1)(j:Nat):I1:=(B.drop (8*j)).take 8
def AQ(zs:I1):I1:=(lh zs).1++ur (lh zs).2
theorem Dh(B:I1)(j:Nat)(h:8*j+8<=B.length):(List.range 8).map (λf=>zB B (8*j+f))=dL B j:=by
 apply List.ext_getElem
 .simp[dL];omega
 .intro i a b;have d:i<8:=VS;simp[dL,zB,Yf (show 8*j+i<B.length from O)]
theorem AP(B:I1)(i:Nat)(h:8*(7-i)+8<=B.length):oH (zB B) i=AQ (dL B (7-i)):=by unfold oH oJ AQ;rw[iR,Dh B (7-i) h]
theorem oG(B:I1)(h:B.length=64):(eB (zB B)).map (·.data.toList)=(List.range 8).map (λi=>AQ (dL B (7-i))):=by unfold eB;rw[List.map_map];apply List.map_congr_left;intro i _;exact AP B i O
theorem HA(e:List (I1))(h:∀r∈e,r.length=8):∀j (a:j<e.length),dL e.flatten j=e[j]:=by
 induction e with
 | nil=>intro j a;simp at a
 | cons r t ih =>
  intro j a;have b:=h r WU;cases j with
  | zero=>simp[dL,b]
  | succ j =>
   have:=ih (λx d=>h x (by simp[d])) j VS;unfold dL at this |-;rw[List.flatten_cons,show 8*(j+1)=r.length+8*j from O,List.drop_length_add_append,this];rfl
theorem qvg:∀(i:I3) (rs:List (List Int)),jK i=S rs->∃d:List (I1),rs=d.map nI/\(∀z∈d,z.length=8/\z.all wj=Zk)/\d.map AQ=i.map (·.data.toList)
 | [],rs,h=>by simp[jK]at h;subst h;exact⟨[],R,WU,R⟩
 | x :: t,rs,h=>by
  unfold jK at h;cases e:jL x.data.toList with
  | none=>rw[e]at h;simp at h
  | some a =>
   cases f:jK t with
   | none=>rw[e,f]at h;simp at h
   | some b =>
    rw[e,f]at h;simp at h;subst h;obtain⟨j,n,o,p,q⟩:=gA _ _ e;obtain⟨d,k,l,m⟩:=qvg t b f;refine⟨j :: d,by rw[n,k];rfl,?_,?_⟩
    .intro z g;obtain rfl|g:=Yj.mp g
     .exact⟨o,p⟩
     .exact l z g
    .show AQ j :: d.map AQ=_ :: _;rw[m];unfold AQ;rw[q]
theorem tJ(b:List (I1))(h:∀r∈b,r.length=8):b.flatten.length=8*b.length:=by
 induction b with
 | nil=>rfl
 | cons r t ih=>rw[List.flatten_cons,qZ,ih (λx a=>h x VM),h r WU];simp;omega
theorem fz(x:I4)(b:List Int)(h:j7 x=S b):∃B,b=nI B/\B.length=64/\B.all wj=Zk/\dA (zB B)=x.data.toList:=by
 unfold j7 at h;split at h
 .rename_i o;cases e:jK (xL 47 9 x)with
  | none=>rw[e]at h;simp at h
  | some rs =>
   rw[e]at h;simp at h;obtain⟨a,m,j,k⟩:=qvg _ _ e;have g:a.length=8:=by have:=Xn List.length k;simpa[o]using this
   have d:∀r∈a.reverse,r.length=8:=λr e=>(j r VI).1;have l:a.reverse.flatten.length=64:=by rw[tJ _ d];simp[g]
   refine⟨a.reverse.flatten,?_,l,?_,?_⟩
   .rw[<-h,m];unfold nI;rw[List.map_flatten,List.map_reverse]
   .rw[qW];intro c p;obtain⟨r,e,f⟩:=List.mem_flatten.mp p;exact qW.mp (j r VI).2 c f
   .unfold dA;rw[oG _ l]
    have:(List.range 8).map (λi=>AQ (dL a.reverse.flatten (7-i)))=a.map AQ:=by
     apply List.ext_getElem
     .simp[g]
     .intro i n q;have u:i<8:=by simpa using n
      simp only[List.getElem_map,List.getElem_range];rw[HA _ d (7-i) (by simp[g];omega),List.getElem_reverse];congr 2;omega
    rw[this,k,qz5]
 .simp at h
theorem FM(s:I4)(p:pH)(h:xG s=S p):∃B,p.board=nI B/\B.length=64/\B.all wj=Zk/\(p.behind=-1\/(0<=p.behind/\p.behind<64))/\(0<=p.half/\p.half<=65535)/\(0<=p.full/\p.full<=65535) ∧
 oI (zB B) p.white p.castle p.behind p.half p.full=s.data.toList:=by
 unfold xG at h;split at h
 .rename_i C D E F G H o;unfold Ac at h;split at h
  .rename_i b wh c e A f q r u v w x;simp at h;subst h;obtain⟨B,d,g,i,j⟩:=fz _ _ q;obtain⟨k,l⟩:=ag _ _ v;obtain⟨n,z⟩:=qvv _ _ w;obtain⟨m,y⟩:=qvv _ _ x;refine⟨B,d,g,i,l,UJ,UJ,?_⟩;have a:=qz5 32 7 s;rw[o]at a;rw[<-a];unfold oI;simp only[YM,Wi];rw[j,<-mA _ _ r,aU _ _ u,k,n,m]
  .simp at h
 .simp at h
def xM(p:pH)(i:Nat):UInt8:=UInt8.ofNat (p.board.getD i 0).toNat
def xP(p:pH):Bool:=k6 (xM p) p.white p.castle p.behind p.half p.full
theorem ip{p:pH}{B:I1}(h:p.board=nI B):xM p=zB B:=by
 funext i;unfold xM zB nI at *;rw[h];obtain a|a:=Nat.lt_or_ge i B.length
 .rw[YR,YN,Yf a,YR,Yf a];simp
 .rw[YR,YN,Y9 a,YR,Y9 a];rfl
theorem qkb(z:I2)(A:I0)(e:A.size=64)(j:∀i,i<64->A[i]?=S (I Zg (z i).toNat))(wh:Bool)(f:I5)(b h g:Int):jE z wh f b h g (kU A wh (f 0) (f 1) (f 2) (f 3) b h g):=by
 have a:∀i,(kU A wh (f 0) (f 1) (f 2) (f 3) b h g)[i]?=if i<64 then A[i]? else(#[Za wh,Za (f 0),Za (f 1),Za (f 2),Za (f 3),I L b,I L h,I L g]:I0)[i-64]?:=λi=>by unfold kU;rw[Y7,e]
 refine⟨by unfold kU;rw[Array.size_append,e];rfl,λi d=>?_,?_,λi d=>?_,?_,?_,?_⟩
 .rw[a,qI d];exact j i d
 .rw[a];rfl
 .rw[a,qF O];have:i=0\/i=1\/i=2\/i=3:=O;exact O1
 .rw[a];rfl
 .rw[a];rfl
 .rw[a];rfl
theorem qzx{p:pH}{B:I1}(h:p.board=nI B)(a:B.length=64):((p.board.map (Value.int Zg)).toArray).size=64/\∀i,i<64->((p.board.map (Value.int Zg)).toArray)[i]?=S (I Zg (xM p i).toNat):=by refine⟨by rw[h];simp[nI,a],λi b=>?_⟩;rw[ip h,h];unfold nI zB;rw[Xu,YN,YN,Yf O,YR,Yf O];rfl
theorem jo{s:I4}{p:pH}(h:xG s=S p):jE (xM p) p.white p.castle p.behind p.half p.full (jV p):=by obtain⟨B,d,e,_⟩:=FM s p h;obtain⟨a,b⟩:=qzx d e;exact qkb _ _ a b _ _ _ _ _
def zA(s:I4)(e:Ending):Prop :=
 (∃p,xG s=S p/\xP p=Zk/\e=Zd (Ze #[Zc (jV p),I L 0])) ∨
 (∃p,xG s=S p/\xP p=Zl/\e=Zd (Ze #[Zc zeroCells70,I L 2])) ∨
 (xG s=N/\e=Zd (Ze #[Zc zeroCells70,I L 1]))
theorem gC{p:pH}{B:I1}(h:p.board=nI B)(b:B.length=64):(jV p).size=72/\(jV p).all (·.oneCell')=Zk:=by obtain⟨a,e⟩:=qzx h b;refine qzd ⟨a,?_⟩ _ _ _ _ _ _ _ _;rw[List.all_toArray,qW];intro v d;obtain⟨z,_,rfl⟩:=YL.mp d;rfl
theorem kS.plain{s:I4}{e:Ending}(h:kS s e):∃A ok,e=Zd (Ze #[Zc A,Za ok])/\A.size=72/\A.all (·.oneCell')=Zk/\(ok=Zk->∃p,xG s=S p/\A=jV p)/\(ok=Zl->xG s=N):=by
 obtain⟨p,a,f,rfl⟩|⟨a,rfl⟩:=h
 .exact Ic
 .exact⟨zeroCells70,Zl,R,xF,xH,(λh=>Ub),λ_=>a⟩
structure Pp(w:I6)(bp:Nat)(A:I0)(cur:I6):Prop where
 res:cur.heap[w.heap.size]?=S (Z zeroCells70 70)
 p:cur.heap[bp]?=S (Z A 70)
 lt:bp<cur.heap.size
 lr:w.heap.size<cur.heap.size
 gr:Gr w cur
 tab:jF cur
 homes:vJ cur
theorem Pp.next{cur:I6}{bp:Nat}(h:Pp w bp A cur)(g:Gr cur a):Pp w bp A a :=
 ⟨by rw[Zz g h.lr];exact h.res,Oq,qN h.lt (ZR g),qN h.lr (ZR g),Gr.trans h.gr g,h.tab.gr g,h.homes.gr g⟩
theorem qzg(s:I4)(M:s.size<4294967281)(m:Int)(w:I6)(J:w.cell? ⟨4,0,N⟩=S (I L m))(i:4<w.heap.size)(v:jF w)(H:vJ w):Calls prog 34 #[Zb s] w λe w'=>zA s e/\Gr w w':=by
 have j:Gr w (w.alloc (Z zeroCells70 70)):=ZN;have z:=X (v.gr j);have y:=X (H.gr j);have V:Y (Calls prog 62 #[Zb s] (w.alloc (Z zeroCells70 70)) λe w'=>∃A ok,e=Zd (Ze #[Zc A,Za ok])/\A.size=72/\A.all (·.oneCell')=Zk/\(ok=Zk->∃p,xG s=S p/\A=jV p)/\(ok=Zl->xG s=N)/\Gr (w.alloc (Z zeroCells70 70)) w'):=X ((rY s M m _ (by rw[YZ _ _ _ i];exact J) Vj).mono λe w' h=>by obtain⟨A,ok,a1,P,Q,a2,a3⟩:=h.1.plain;exact⟨A,ok,a1,P,Q,a2,a3,h.2⟩);have B:Y ((w.alloc (Z zeroCells70 70)).heap[w.heap.size]?=S (Z zeroCells70 70)):=X Zv;have u:Y (w.heap.size<(w.alloc (Z zeroCells70 70)).heap.size):=X Vj;have n:=X j;clear j v H J i M;go_enter func34,ntmps34;go_upto_region 2 with(first
  | (go_at_call 62;refine V.a.mono ?_;rintro e o ⟨A,ok,rfl,i,K,G,E,C⟩)
  | (refine ZC o.heap.size A Zv i K ?_))
 generalize l:(o.alloc (Z zeroCells70 70)).setRow o.heap.size A=a0;have D:Gr o a0:=by rw[<-l];exact ZN.setRow _ Zy _
 have a:=Gr.trans C D;have F:Pp w o.heap.size A a0:=⟨by rw[Zz a u.a];exact B.a,by rw[<-l];exact Zt (Z7 o _),by rw[<-l,Xa,Z3];omega,qN u.a (ZR a),Gr.trans n.a a,z.a.gr a,y.a.gr a⟩;generalize o.heap.size=bp at F |-;clear l D a C V B u n z y;cases ok
 .have b:Y (zA s (Zd (Ze #[Zc zeroCells70,I L 1]))):=X (Zj (Zj ⟨E R,R⟩));clear E G;go_wp2_with(refine ZC w.heap.size zeroCells70 (Pp.res (bp:=bp) (A:=A) ‹_›) xF xH ?_);exact ZS (v:=Ze #[Zc zeroCells70,I L 1]) (qj results34 _ _ w.heap.size 70 _ (0,0) _ R (Zt F.res) underlying70 rfl Vz) R ⟨b.a,F.gr.setRow _ Zy _⟩
 .obtain⟨p,f,k⟩:=G R;have d:Y (∀W:I6,jF W->vJ W->ZL 63 #[Zc A] W (Za (xP p))):=X λW t h=>by rw[k];exact CX (jo f) W t h
  clear G E;obtain⟨q,x⟩:=Zo (xP p);cases q
  .have b:Y (zA s (Zd (Ze #[Zc zeroCells70,I L 2]))):=X (Zj (Zi ⟨p,f,x,R⟩));rw[x]at d;clear f k x;go_wp2_with(first|(refine ZC w.heap.size zeroCells70 (Pp.res (bp:=bp) (A:=A) ‹_›) xF xH ?_)|(refine ZD bp A (Pp.p (w:=w) ‹_›) i ?_)|(go_at_call 63;refine Z0 (d.a _ (Pp.tab (w:=w) (bp:=bp) (A:=A) ‹_›) (Pp.homes (w:=w) (bp:=bp) (A:=A) ‹_›)) λT r=>?_;have g:=Pp.next ‹_› r));exact ZS (v:=Ze #[Zc zeroCells70,I L 2]) (qj results34 _ _ w.heap.size 70 _ (0,0) _ R (Zt g.res) underlying70 rfl Vz) R ⟨b.a,g.gr.setRow _ Zy _⟩
  .have b:Y (zA s (Zd (Ze #[Zc A,I L 0]))):=X (Zi ⟨p,f,x,by rw[k]⟩);rw[x]at d;clear f k x;go_wp2_with(first|(refine ZC w.heap.size A (Pp.res (bp:=bp) (A:=A) ‹_›) i K ?_)|(refine ZD bp A (Pp.p (w:=w) ‹_›) i ?_)|(go_at_call 63;refine Z0 (d.a _ (Pp.tab (w:=w) (bp:=bp) (A:=A) ‹_›) (Pp.homes (w:=w) (bp:=bp) (A:=A) ‹_›)) λT r=>?_;have g:=Pp.next ‹_› r));exact ZS (v:=Ze #[Zc A,I L 0]) (qj results34 _ _ w.heap.size 70 _ (0,0) _ R (Zt g.res) underlying70 rfl (by rw[i];exact q9)) R ⟨b.a,g.gr.setRow _ Zy _⟩
theorem Eu(h:xX z wh b=Zk):b=-1\/(0<=b/\b<64):=by unfold xX at h;cases wh<;>simp at h<;>omega
theorem tZ{g:Int}(k:zP h g=Zk):(0<=h/\h<=65535)/\(1<=g/\g<=65535):=by unfold zP at k;simp at k;omega
theorem BP:∀c:UInt8,ew c=Zk->wj c=Zk:=by have:∀n:Fin 256,ew (UInt8.ofNat n.val)=Zk->wj (UInt8.ofNat n.val)=Zk:=WS;intro c;have:=this ⟨c.toNat,c.toNat_lt⟩;exact OY
theorem nG{f:I5}{g:Int}(k:k6 z wh f b h g=Zk):(∀i,i<64->wj (z i)=Zk)/\(b=-1\/(0<=b/\b<64))/\(0<=h/\h<=65535)/\(1<=g/\g<=65535):=by unfold k6 cK at k;simp only[qH]at k;obtain⟨a,⟨⟨⟨⟨⟨_,_⟩,_⟩,j⟩,d⟩,_⟩⟩:=k;refine⟨λi e=>?_,Eu j,(tZ d).1,(tZ d).2⟩;unfold xO at a;exact BP _ (qW.1 a i (qK.2 e))
theorem Aj{f:I5}{g:Int}(r:jE z wh f b h g PA):∃A,A.size=64/\(∀i,i<64->A[i]?=S (I Zg (z i).toNat))/\PA=kU A wh (f 0) (f 1) (f 2) (f 3) b h g:=by
 have j:(PA.extract 0 64).size=64:=by rw[Array.size_extract,r.size];rfl
 have e:∀i,i<64->(PA.extract 0 64)[i]?=S (I Zg (z i).toNat):=λi k=>UY;refine⟨PA.extract 0 64,j,e,?_⟩;have a:=qkb z _ j e wh f b h g;apply YV;intro i;by_cases d:i<64
 .rw[r.sq i d,a.sq i d]
 .by_cases l:i<72
  .have:i=64\/i=65+0\/i=65+1\/i=65+2\/i=65+3\/i=69\/i=70\/i=71:=O;obtain rfl|rfl|rfl|rfl|rfl|rfl|rfl|rfl:=this
   .rw[r.wh,a.wh]
   .rw[r.c 0 O,a.c 0 O]
   .rw[r.c 1 O,a.c 1 O]
   .rw[r.c 2 O,a.c 2 O]
   .rw[r.c 3 O,a.c 3 O]
   .rw[r.b,a.b]
   .rw[r.h,a.h]
   .rw[r.g,a.g]
  .rw[Z6 Vw,Z6 (by rw[a.size];omega)]
theorem qy{b:Nat}{t:TypeId}(h:w.heap[b]?=S (Z A t)):zJ b A w :=
 ⟨(qB.1 h).1,λj v a=>by rw[Zs h,Z2,<-qO];exact a⟩
theorem cG(z:I2){f a:I5}(h:∀i,i<4->f i=a i):jH z f=jH z a:=by
 have e:∀f:I5,jH z f=(zX z f 0&&(zX z f 1&&(zX z f 2&&zX z f 3))):=λf=>by show([0,1,2,3]:List Nat).all (zX z f)=_;simp[Wc]
 rw[e,e];simp only[zX,xN,h 0 O,h 1 O,h 2 O,h 3 O]
theorem fx(z:I2)(wh:Bool){f a:I5}(b h g:Int)(k:∀i,i<4->f i=a i):k6 z wh f b h g=k6 z wh a b h g:=by unfold k6 cK;rw[cG z k]
theorem qx{f:I5}{g:Int}(r:jE z wh f b h g PA):PA.all (·.oneCell')=Zk:=by obtain⟨A,a,d,rfl⟩:=Aj r;refine(qzd ⟨a,?_⟩ wh (f 0) (f 1) (f 2) (f 3) b h g).2;rw[Array.all_eq_true];intro i e;have:=d i O;rw[qQ e]at this;simp only[Xh]at this;rw[this];rfl
theorem sx:∀{l:I1}{c:UInt8}{k:Nat},(∀j,j<k->l[j]?≠S c)->l[k]?=S c->Lib.indexByte l c=(k:Int)
 | [],_,_,_,h=>by simp at h
 | b :: l,c,0,_,h=>by
  have:b=c:=Vq
  unfold Lib.indexByte;simp[this]
 | b :: l,c,k+1,hn,h=>by
  have a:(b==c)=Zl:=by have:=hn 0 O;simpa using this
  have d:=sx (l:=l) (c:=c) (k:=k) (λj e=>by have:=hn (j+1) O;simpa using this) Vq;unfold Lib.indexByte;rw[a,d];have:((k:Int)==-1)=Zl:=WU
  simp[this]
theorem sw:∀{l:I1}{c:UInt8},(∀j,j<l.length->l[j]?≠S c)->Lib.indexByte l c=-1
 | [],_,_=>rfl
 | b :: l,c,hn=>by
  have a:(b==c)=Zl:=by have:=hn 0 WU;simpa using this
  have d:=sw (l:=l) (c:=c) (λj e=>by have:=hn (j+1) WX;simpa using this);unfold Lib.indexByte;rw[a,d];rfl
def yP(k:Nat)(b:Bool):UInt8:=xU.getD (if b then k else k+6) 0
def xY(i:Nat):Int:=if 2<=i then 60 else 4
def vN(i:Nat):Int:=(if 2<=i then 56 else 0)+(if i%2=0 then 6 else 2)
def zD(i:Nat):Int:=(if 2<=i then 56 else 0)+(if i%2=0 then 7 else 0)
theorem CE{p:I5}(h:∀j,j<k->p j=Zl)(d:p k=Zk)(a:k<64):(List.range 64).find? p=S k:=by simp_all
theorem CD{p:I5}(h:∀j,j<64->p j=Zl):(List.range 64).find? p=N:=by rw[List.find?_eq_none];intro j a;rw[h j (qK.1 a)];decide
theorem qkm{b:Bool}(h:∀j,j<k->(z j==vk b)=Zl)(d:(z k==vk b)=Zk)(a:k<64):xR z b=(k:Int):=by unfold xR;rw[CE h d a]
theorem aC{b:Bool}(h:∀j,j<64->(z j==vk b)=Zl):xR z b=-1:=by unfold xR;rw[CD h]
section
open Go.Sort
section
def W3(w:I6)(PA:I0)(k0 k1 m0 m1:Nat):I6:=((w.alloc (Z PA 70)).alloc (Z #[I L k0,I L k1] 281)).alloc (Z #[I L m0,I L m1] 281)
theorem zJ.at'{b:Nat}(h:zJ b A w)(a:A[i]?=S v):w.cell? ⟨b,i,N⟩=S v:=by have:=h.2 i v (by rw[qO];exact a);rwa[Z2]at this
def fC(b:Bool)(j:Int):Int:=if j=5 then(if b then 75 else 107)else if j=3 then(if b then 82 else 114)else(if b then 80 else 112)
theorem i8:fC Zk 5=75:=R
theorem lA:fC Zk 3=82:=R
theorem lB:fC Zl 5=107:=R
theorem lC:fC Zl 3=114:=R
attribute [local go_sem] i8 lA lB lC
end
theorem vg{p:UInt8->Prop}(h:∀n:Fin 256,p (UInt8.ofNat n.val))(c:UInt8):p c:=by have:=h ⟨c.toNat,c.toNat_lt⟩;exact OY
section
variable {z:I2}{wh:Bool}{f:I5}{b h g:Int}{PA:I0}
end
structure Wd(gw:Nat)(xs:I3)(cur:I6):Prop where
 lt:gw<cur.heap.size
 at':∀(j:Nat)(h:j<xs.length),cur.cell? ⟨gw,j,N⟩=S (Zb xs[j])
theorem Wd.next{b:Nat}{d:I3}{cur:I6}(h:Wd b d cur)(g:Gr cur a):Wd b d a :=
 ⟨qN h.lt (ZR g),λj e=>(ZW g (p:=⟨b,j,N⟩) h.lt).trans (h.at' j e)⟩
theorem Wd.far{a bp:Nat}{d:I3}{cur:I6}(h:Wd a d cur)(b:a≠bp):Wd a d (cur.setCell ⟨bp,i,N⟩ v):=by refine⟨by rw[World.size_setCell];exact h.lt,λj e=>?_⟩;rw[X9 (w:=cur) (Yg cur ⟨bp,i,N⟩ v a b)];exact h.at' j e
theorem jE.congr{e:I2}{f d:I5}{g:Int}(r:jE z wh f b h g PA)(k:∀i,i<64->z i=e i)(j:∀i,i<4->f i=d i):jE e wh d b h g PA :=
 ⟨r.size,λi a=>by rw[<-k i a];exact r.sq i a,r.wh,λi a=>by rw[<-j i a];exact r.c i a,r.b,r.h,r.g⟩
theorem zy{d:Array Oper}{op:Oper}{a:Act}(j:PA.size=72){S:I6->Prop}(g:Region.wanted op (yielded d a.tmps)=Zk)(x:Operand)(f:op.op=.load 70 x)(b:Nat)(i:a.eval x=ZI b)(e:∀w,S w->zJ b PA w):YieldsIf prog d S op (Zc PA) a:=by have:=XW (P:=prog) g 70 x f b 0 i PA.toList _ (λw h=>(e w h).2) underlying70 rfl (by rw[q9];simp[j]);rwa[Yb]at this
def uY(f t:Nat)(u:UInt8):I1:=xQ f++xQ t++(if u=0 then[]else[u])
def xJ(l:I1):I4:=⟨l.toArray⟩
theorem F6(a b:I1):xJ a++xJ b=xJ (a++b):=by unfold xJ;apply ByteArray.ext;simp
theorem sO{f t u:Int}{ty:TypeId}(g:Gr (w.alloc (Z #[I L f,I L t,I Zg u] ty)) w'):Gr (w.alloc (Z #[I L f,I L t,I Zg u] ty)) w'/\w'.cell? ⟨w.heap.size,0,N⟩=S (I L f)/\w'.cell? ⟨w.heap.size,1,N⟩=S (I L t)/\w'.cell? ⟨w.heap.size,2,N⟩=S (I Zg u):=by have a:w'.heap[w.heap.size]?=S (Z #[I L f,I L t,I Zg u] ty (0,0)):=(Zz g (by rw[Z3];exact Nat.lt_succ_self _)).trans (ZQ w _);refine⟨g,?_,?_,?_⟩<;>(simp only[World.cell?];rw[a];rfl)
structure Gd(w w':I6):Prop where
 gr:Gr w w'
 dr:w.drawn<=w'.drawn
theorem s4{q:Prop}(h:Gd w1 a/\q):Gd w1 a:=h.1
theorem Gd.refl(w:I6):Gd w w:=⟨Gr.refl w,Zy⟩
theorem Gd.trans{b c:I6}(h:Gd a b)(k:Gd b c):Gd a c:=⟨Gr.trans h.1 k.1,q7 h.2 k.2⟩
theorem Gd.alloc{b:I6}(h:Gd a b)(c:I0)(t:TypeId):Gd a (b.alloc (Z c t)):=⟨h.1.alloc c t,h.2⟩
theorem Gd.drew{b:I6}(h:Gd a b):Gd a b.drew:=⟨h.1.drew,q7 h.2 (Nat.le_succ _)⟩
theorem D9{f t u:Int}{ty:TypeId}(g:Gd (w.alloc (Z #[I L f,I L t,I Zg u] ty)) w'):Gd (w.alloc (Z #[I L f,I L t,I Zg u] ty)) w'/\w'.cell? ⟨w.heap.size,0,N⟩=S (I L f)/\w'.cell? ⟨w.heap.size,1,N⟩=S (I L t)/\w'.cell? ⟨w.heap.size,2,N⟩=S (I Zg u) :=
 ⟨g,(sO g.1).2⟩
theorem gI(n:Nat)(h:n<64)(w:I6):Calls prog 69 #[I L n] w λe w'=>e=Zd (Zb ⟨(xQ n).toArray⟩)/\Gd w w':=by
 have b:((UInt8.ofNat (97+n%8)).toNat:Int)=97+(n:Int)%8:=WX;have d:((UInt8.ofNat (49+n/8)).toNat:Int)=49+(n:Int)/8:=WX;have a:=qq4 (w.alloc (Z #[I Zg (97+(n:Int)%8),I Zg (49+(n:Int)/8)] 5)) ⟨w.heap.size,0,N⟩ 2 (xQ n) (by
  intro i g;rw[X2,Z2,Z8 _ _ _ _ R];have:i=0\/i=1:=by simp[xQ]at g;omega
  obtain rfl|rfl:=this
  .show S (Value.int Zg (97+(n:Int)%8))=S (I Zg ((UInt8.ofNat (97+n%8)).toNat:Int));rw[b]
  .show S (Value.int Zg (49+(n:Int)/8))=S (I Zg ((UInt8.ofNat (49+n/8)).toNat:Int));rw[d])
 have f:(convert 145 9 (Zq (S ⟨w.heap.size,0,N⟩) 2 2)).run prog (w.alloc (Z #[I Zg (97+(n:Int)%8),I Zg (49+(n:Int)/8)] 5))=.ok (Zb ⟨(xQ n).toArray⟩) (w.alloc (Z #[I Zg (97+(n:Int)%8),I Zg (49+(n:Int)/8)] 5)):=a;clear a b d;go_enter func69,ntmps69;go_wp2;go_ret;exact⟨R,(Gd.refl _).alloc _ _⟩
theorem gL(f t:Nat)(H:f<64)(J:t<64)(u:UInt8)(w:I6):Calls prog 38 #[Zc (ZJ f t u)] w λe w'=>e=Zd (Zb (xJ (uY f t u)))/\Gd w w':=by
 obtain⟨v,b⟩:∃v:Nat->I4,Y (∀n,v n=xJ (xQ n)):=⟨λn=>xJ (xQ n),X (λ_=>R)⟩;have hN:Y (∀n:Nat,n<64->∀W,Calls prog 69 #[I L n] W λe w'=>e=Zd (Zb (v n))/\Gd W w'):=X (λn h W=>by rw[b.a];exact gI n h W);go_enter func38,ntmps38;have a:Y (xJ (uY f t u)=xJ (xQ f++xQ t)++xJ (if u=0 then[]else[u])):=X (by rw[F6];rfl);have r:(xJ (xQ f++xQ t)).size=4:=R;obtain⟨k,l⟩:∃x,Y (x=xJ (xQ f++xQ t)):=⟨_,X R⟩;have D:∀W:I6,(Op.stringOp .add (v f) (v t)).run prog W=.ok (Zb k) W:=λW=>UH;rw[<-l.a]at r a;clear l b;go_wp2_with fail;have j:Y (∀w',Gd (w.alloc (Z (ZJ f t u) 87)) w'->_):=X (λw' g=>D9 g);have o:Gd w (w.alloc (Z (ZJ f t u) 87)):=(Gd.refl w).alloc _ _;have d:=X o;clear o;generalize w.alloc (Z (ZJ f t u) 87)=w1 at j d |-;go_region_held3 (λw'=>Gd w1 w'/\w'.cell? ⟨w.heap.size,0,N⟩=S (I L f)/\w'.cell? ⟨w.heap.size,1,N⟩=S (I L t)/\w'.cell? ⟨w.heap.size,2,N⟩=S (I Zg u.toNat)) (first|exact j.a _ (Gd.refl _).drew|exact j.a _ ‹_›) (first|(go_at_call 69;refine Z0 (hN.a _ O _) λw' C=>?_;have A:=Gd.trans (s4 ‹_›) C));rename_i E;obtain⟨p,c0,c1,c2⟩:=E;have q:Y (Gd w w'):=X (Gd.trans d.a p);clear j d p C A D hN;by_cases y:u=0
 .exact Ia
 .have K:((u.toNat:Int) != 0)=Zk:=qU.2 (λe=>y (q6.1 VI));have z:Y (xJ (uY f t u)=k++(⟨#[u]⟩:I4)):=X (by rw[a.a,qF y];rfl);have G:∀W:I6,(Op.stringOp .add k (⟨#[u]⟩:I4)).run prog W=.ok (Zb (k++(⟨#[u]⟩:I4))) W:=λW=>Xy W k _ (by show k.size+1<=_;rw[r];decide);have m:=qq4 (w'.alloc (Z #[I Zg u.toNat] 5)) ⟨w'.heap.size,0,N⟩ 1 [u] (by
   intro i F;rw[X2,Z2,Z8 _ _ _ _ R];have:i=0:=by simp at F;omega
   subst this;rfl)
  have B:(convert 145 9 (Zq (S ⟨w'.heap.size,0,N⟩) 1 1)).run prog (w'.alloc (Z #[I Zg u.toNat] 5))=.ok (Zb ⟨#[u]⟩) (w'.alloc (Z #[I Zg u.toNat] 5)):=m;clear a y m;go_wp2_with fail;go_ret;exact⟨by rw[z.a];rfl,Gd.alloc q.a _ _⟩
theorem gK(f t:Nat)(a:f<64)(b:t<64)(u:UInt8)(w:I6):ZL 38 #[Zc (ZJ f t u)] w (Zb (xJ (uY f t u))) :=
 (gL f t a b u w).mono λ_ _ h=>⟨h.1,h.2.1⟩
def TM(o:Obj):Prop:=∃c fr,o=Z c 87 fr
theorem TM.cells{o:Obj}(h:TM o):o.isCells=Zk:=by obtain⟨c,fr,rfl⟩:=h;rfl
def vO(xs:List Mv):List I7:=xs.flatMap λx=>(pU x).toList
theorem pt(a:List Mv)(x:Mv):vO (a++[x])=vO a++(pU x).toList:=by simp[vO]
theorem bU(a:List Mv):(vO a).length=a.length*3:=by
 induction a with
 | nil=>rfl
 | cons x r ih=>rw[vO,List.flatMap_cons,qZ,Yq];have:=ih;rw[vO]at this;rw[this];simp[pU];omega
theorem BK{b:I6}{d:List I7}(h:W.ownsRow base 87 3 v n d)(f:Fr Q W b)(l:∀k o,TM o->Q k o):b.ownsRow base 87 3 v n d:=by
 refine⟨h.1,?_⟩;obtain e|⟨g,cap,cur,m,i,j,a⟩:=h.2
 .exact Zi e
 .exact Zj ⟨g,cap,cur,m,i,f.same _ _ j (l _ _ ⟨_,_,R⟩),a⟩
theorem Ea:(prog.info? 87).map (λi=>(i.zero,i.size,i.bytes))=S (S (Zc #[I L 0,I L 0,I Zg 0]),3,24):=WR
theorem qk0{lb:I0}{C:Nat->Prop}{H:List Mv}(P:It prog g lb vr TM C H w)(M:∀args w,(callFunc g args).run prog w=.ok (.enter g args) w)(x:∀k,C k->k<w.heap.size)(a6:H.length<=1000000) :
 Calls prog 296 #[Zq N 0 0,.func (.func g) #[] lb] w λe w'=>∃v,e=Zd v/\w'.ownsRow w.heap.size 87 3 v H.length (vO H)/\Gr w w':=by
 obtain⟨i0,a1,a4,b6,a0⟩:=We Ea;refine(ZY (n:=9)).1 ?_;refine callsIn_of_wp_marks func296 rfl trivial ?_ R;simp only[ntmps296,Nat.reduceAdd,Nat.reduceSub,Zr];refine Z9.2 ?_;go_wp2_with fail;have h1:=ZQ w (Z #[Zq N 0 0] 122);have y:Gr w (w.alloc (Z #[Zq N 0 0] 122)):=ZN;have W:(w.alloc (Z #[Zq N 0 0] 122)).heap.size=w.heap.size+1:=Z3 _ _;have F:(w.alloc (Z #[Zq N 0 0] 122)).ownsRow w.heap.size 87 3 (Zq N 0 0) 0 (vO []):=⟨R,Zi ⟨R,R⟩⟩;generalize (w.alloc (Z #[Zq N 0 0] 122))=w1 at h1 y W F |-;refine Z9.1 (xj (n:=9) (gf:=g) (lb:=lb) R M P (λ_ h=>h.cells) (λk hk=>by have:=x k hk;omega) (Fr.of_gr y) (λ_=>R)
  (λm V=>(∃v,V.heap[w.heap.size]?=S (Z #[v] 122)/\V.ownsRow w.heap.size 87 3 v m.length (vO m))/\Gr w V/\w1.heap.size<=V.heap.size)
  (λ_ _ _=>False)
  ?sI (λ_ _ _ _ h _=>h) ⟨⟨_,h1,F⟩,y,Zy⟩ ?rnd ?done (λ_ _ _ _ _ _ h _=>h.elim))
 case sI =>rintro s A A' ⟨⟨v,p,i⟩,d,B⟩ f;exact⟨⟨v,f.same _ _ p (Zi O),BK i f (λk o h=>Zj h)⟩,Below.trans d (f.below (n:=w.heap.size) (ZR d) (λk o hk=>Zi O)),q7 B f.size⟩
 case done =>rintro D V hD ⟨⟨v,p,i⟩,d,B⟩ hK;have c1:=(qi p).1;go_wp2_with fail;refine⟨WU,Zi ⟨_,_,R,YU hK,?_⟩⟩;exact⟨_,Wh R _ _ _,v,R,ownsRow_putObj i _ hK R,Below.trans d (XZ (w:=w1) (n₀:=w.heap.size) O _ D _ _ hD hK R R)⟩
 case rnd=>
  rintro l1 m ⟨fr,n,u⟩ V a7 hx ⟨⟨v,p,i⟩,d,B⟩ hl;have b0:l1<V.heap.size:=hl.elim λr hr=>(qB.1 hr).1;simp only[vr,gJ];gi_wp2;refine⟨ZP.alloc _,?_⟩;intro z f2 J b1;clear p i d B;obtain⟨⟨v,p,i⟩,d,B⟩:=J;have kx:z.heap[V.heap.size]?=S (Z (ZJ fr n u) 87):=f2.same _ _ (ZQ V _) O;generalize V.heap.size=Bx at kx |-;obtain⟨x0,x1,x2⟩:=qm kx;have c1:=(qi p).1;have b2:m.length+1<=H.length:=by have:=hx.length_le;simpa using this
  have K:Boxed z w.heap.size 122 v:=p;have b3:∀j u',[Value.int L (fr:Int),I L n,I Zg u.toNat][j]?=S u'->(z.alloc (Z (ZJ fr n u) 87)).cell? ((⟨z.heap.size,0,N⟩:Addr).add j)=S u':=λj u' hu=>by rw[X2,Z2,Z8 _ _ _ _ R,<-qO];exact hu
  gi_wp2_with (gi_at_builtin;refine wpListIn_append_own _ R _ _ 122 rfl w.heap.size 87 i0 (Zc #[I L 0,I L 0,I Zg 0]) 3 24 underlying122 a1 a4 b6 a0 R WW _ _ _ R (i.alloc _) ⟨z.heap.size,0,N⟩ 1 1 [I L fr,I L n,I Zg u.toNat] R R b3 Vi Vk O (by have:=ZR d;simp;omega) ?_;intro v' w5 b a _;obtain⟨g',a5,rfl⟩:=ownsRow_succ b;obtain⟨G,a3,T,E,l⟩:=K.appended WW i (ZR d) Zy b a;have a8:=G.cell;have a9:=G.frozen);refine⟨⟨l.os,l.tape,l.output,E.size,λk o e q=>?_⟩,⟨_,a3,?_⟩,Below.trans d l,q7 B E.size⟩
  .have b4:k<z.heap.size:=(qB.1 e).1;have Q:k≠w.heap.size:=by
    rintro rfl;obtain q|q:=q
    .have:=x _ q;omega
    .omega
   have a2:¬ S k=v.ownBlock:=λeb=>by
    obtain⟨rfl,_⟩|⟨g2,cap,cur,rfl,hb,b5,_⟩:=i.2
    .simp[Value.ownBlock]at eb
    .obtain rfl:k=g2:=by simpa[Value.ownBlock]using eb
     rw[b5]at e;cases e;obtain q|q:=q
     .have:=x _ q;omega
     .exact q.2 ⟨_,_,R⟩
   rw[Yg _ _ _ _ Q,a.block k Vj a2,YP _ _ _ b4];exact e
  .rw[pt,qZ];exact T
theorem aN{lb:I0}{C:Nat->Prop}{b:List Mv}(i:It prog g lb vr TM C b w)(h:∀args w,(callFunc g args).run prog w=.ok (.enter g args) w)(d:∀k,C k->k<w.heap.size)(a:b.length<=1000000) :
 Calls prog 244 #[.func (.func g) #[] lb] w λe w'=>∃v,e=Zd v/\w'.ownsRow w.heap.size 87 3 v b.length (vO b)/\Gr w w':=by have f:=X (qk0 i h d a);go_enter func244,ntmps244;go_wp2_with(go_at_call 296;refine f.a.mono ?_;rintro e w' ⟨v,rfl,l,j⟩);go_ret;exact⟨v,R,l,j⟩
theorem Gd.grown(h:Gd w w'):∃q os,w'=grow (w.drewN q) os:=by
 refine⟨w'.drawn-w.drawn,w'.heap.extract w.heap.size w'.heap.size,?_⟩;have a:=h.gr;have j:w'.heap=w.heap++w'.heap.extract w.heap.size w'.heap.size:=by
  apply YV;intro i;by_cases d:i<w.heap.size
  .rw[Xx d];exact YG a i d
  .rw[Yw O,Array.getElem?_extract];by_cases b:i<w'.heap.size
   .rw[qI O,Nat.add_sub_cancel' O]
   .rw[qF O];exact Z6 O
 have e:=Below.os a;have b:=Below.tape a;have f:=Below.output a;have k:=h.dr;have g:(w.drewN (w'.drawn-w.drawn)).drawn=w'.drawn:=by show w.drawn+(w'.drawn-w.drawn)=_;omega
 unfold grow;show w'={ heap:=w.heap++_,tape:=w.tape,drawn:=(w.drewN (w'.drawn-w.drawn)).drawn,os:=w.os,output:=w.output };rw[g,<-e,<-b,<-f,<-j]
def nA(x y:I4):Int:=if Op.bytesLess x.toList y.toList then -1 else if !(Op.bytesLess x.toList y.toList||x.toList==y.toList)then 1 else 0
theorem B9(x y:I4)(W:I6):(Op.stringOp .gtr x y).run prog W=.ok (Za !(Op.bytesLess x.toList y.toList||x.toList==y.toList)) W:=R
theorem i6(x:I4)(W:I6):(Op.stringOp .neq x x).run prog W=.ok (Za Zl) W:=by have h:(x.toList==x.toList)=Zk:=WU;show(pure (Value.bool !(x.toList==x.toList)):Sem I7).run prog W=_;rw[h];rfl
theorem mu(x:I4)(w:I6):Calls prog 246 #[Zb x] w λe w'=>e=Zd (Za Zl)/\w'=w:=by have a:=i6 x;go_enter func246,ntmps246;exact Wz
theorem aM(x y:I4)(w:I6):Calls prog 188 #[Zb x,Zb y] w λe w'=>e=Zd (I L (nA x y))/\w'=w:=by
 have a:=B9 x y;go_enter func188,ntmps188;go_wp2_with(go_at_call 246;refine Z1 (mu _ _) ?_);all_goals
  go_ret;refine⟨?_,R⟩;unfold nA;simp_all
def mo:I7:=.func (.func 38) #[] #[]
theorem te{x y:I0}{ty:TypeId}(h:x.size=3)(i:y.size=3)(b:w.cell? ⟨B,0,N⟩=S v)(g:Gd ((w.alloc (Z x ty)).alloc (Z y ty)) w') :
 Gd ((w.alloc (Z x ty)).alloc (Z y ty)) w'/\w'.cell? ⟨B,0,N⟩=S v/\w'.cell? ⟨w.heap.size,0,N⟩=S x[0]/\w'.cell? ⟨w.heap.size,1,N⟩=S x[1]/\w'.cell? ⟨w.heap.size,2,N⟩=S x[2]/\w'.cell? ⟨w.heap.size+1,0,N⟩=S y[0]/\w'.cell? ⟨w.heap.size+1,1,N⟩=S y[1]/\w'.cell? ⟨w.heap.size+1,2,N⟩=S y[2]:=by
 have a:=Zx b;have a:B<w.heap.size:=a;have j:((w.alloc (Z x ty)).alloc (Z y ty)).heap.size=w.heap.size+2:=WU;have d:w'.heap[B]?=w.heap[B]?:=(YG g.gr _ O).trans (by rw[YP _ _ _ Vj,YP _ _ _ a]);have e:w'.heap[w.heap.size]?=S (Z x ty (0,0)):=(YG g.gr _ O).trans (by rw[YP _ _ _ Vj];exact ZQ w _);have f:w'.heap[w.heap.size+1]?=S (Z y ty (0,0)):=(YG g.gr _ O).trans (by have:=ZQ (w.alloc (Z x ty)) (Z y ty);rw[Z3]at this;exact this);refine⟨g,?_,?_,?_,?_,?_,?_,?_⟩
 .rw[<-b];exact X9 d
 all_goals first|(simp only[World.cell?];rw[e];simp[h];done)|(simp only[World.cell?];rw[f];simp[i];done)
theorem dp(f t:Nat)(u:UInt8)(d h:Nat)(i:UInt8)(o:f<64)(p:t<64)(r:d<64)(z:h<64)(B:Nat)(w:I6)(k:w.cell? ⟨B,0,N⟩=S mo) :
 Calls prog 187 #[Zc (ZJ f t u),Zc (ZJ d h i),ZI B] w λe w'=>e=Zd (I L (nA (xJ (uY f t u)) (xJ (uY d h i))))/\Gd w w':=by obtain⟨n,b⟩:∃n:Nat->Nat->UInt8->I4,Y (∀f t u,n f t u=xJ (uY f t u)):=⟨λf t u=>xJ (uY f t u),X (λ_ _ _=>R)⟩;have hN:Y (∀f t u,f<64->t<64->∀W,Calls prog 38 #[Zc #[I L (f:Nat),I L (t:Nat),I Zg (u:UInt8).toNat]] W λe w'=>e=Zd (Zb (n f t u))/\Gd W w'):=X (λf t u o p W=>by rw[b.a];exact gL f t o p u W);rw[<-b.a,<-b.a];clear b;have l:Y (∀x y W,Calls prog 188 #[Zb x,Zb y] W λe w'=>e=Zd (I L (nA x y))/\w'=W):=X aM;go_enter func187,ntmps187;go_wp2_with fail;unfold mo at k;have a:=X (λw' g=>te (w:=w) (w':=w') (x:=(ZJ f t u)) (y:=(ZJ d h i)) (ty:=87) R R k g);have j:Y (Gd w ((w.alloc (Z (ZJ f t u) 87)).alloc (Z (ZJ d h i) 87))):=X (((Gd.refl w).alloc _ _).alloc _ _);simp only[List.getElem_toArray,XJ,X0]at a;generalize ((w.alloc (Z (ZJ f t u) 87)).alloc (Z (ZJ d h i) 87))=w1 at a j |-;clear k;go_region_held3 (λw'=>Gd w1 w'/\w'.cell? ⟨B,0,N⟩=S (.func (.func 38) #[] #[])/\w'.cell? ⟨w.heap.size,0,N⟩=S (I L f)/\w'.cell? ⟨w.heap.size,1,N⟩=S (I L t)/\w'.cell? ⟨w.heap.size,2,N⟩=S (I Zg u.toNat)/\w'.cell? ⟨w.heap.size+1,0,N⟩=S (I L d)/\w'.cell? ⟨w.heap.size+1,1,N⟩=S (I L h)/\w'.cell? ⟨w.heap.size+1,2,N⟩=S (I Zg i.toNat)) (first|exact a.a _ (Gd.refl _).drew|exact a.a _ ‹_›) (first|(go_at_call 38;refine Z0 (hN.a _ _ _ O O _) λw' v=>?_;have m:=Gd.trans (s4 ‹_›) v)|(go_at_call 188;refine Z1 (l.a _ _ _) ?_;have m:=s4 ‹_›));rename_i q;go_wp2_with fail;go_ret;exact⟨R,Gd.trans j.a q.1⟩
def yJ(x:Mv):I1:=uY x.1 x.2.1 x.2.2
def bi(x:Mv):Prop:=x.1<64/\x.2.1<64
abbrev Mo:={x:Mv // bi x}
instance:Inhabited Mo:=⟨⟨(0,0,0),by decide,by decide⟩⟩
def yp(x:Mo):List I7:=(pU x.1).toList
def ww(x y:Mo):Int:=nA (xJ (yJ x.1)) (xJ (yJ y.1))
def n8(x y:Mv):Bool:=Zm (yJ x<yJ y)
theorem bK(l:I1):(xJ l).toList=l:=by rw[Xl];rfl
theorem Fs(x y:Mo):ltOf ww x y=n8 x.1 y.1:=by
 unfold ltOf ww nA n8;rw[bK,bK,bytesLess_eq];by_cases h:yJ x.1<yJ y.1
 .simp[h]
 .by_cases a:yJ x.1=yJ y.1
  .have b:=h;rw[a]at b;rw[a];simp[b]
  .simp[h,a]
theorem swoO:SWO (ltOf ww) where
 irrefl x:=by rw[Fs];simp[n8]
 trans x y z h1 h2:=by rw[Fs]at *;simp only[n8,qG]at *;exact List.lt_trans h1 h2
 ntrans x y z h1 h2:=by rw[Fs]at *;simp only[n8,qX]at *;exact λh=>h2 (List.lt_of_le_of_lt (Wn.1 h1) h)
theorem bo{a b:Nat}(f:a<64)(g:b<64)(h:xQ a=xQ b):a=b:=by unfold xQ at h;simp only[X7,and_true]at h;have d:=Xn UInt8.toNat h.1;have e:=Xn UInt8.toNat h.2;simp at d e;omega
theorem AV{x y:Mv}(g:bi x)(i:bi y)(h:yJ x=yJ y):x=y:=by
 obtain⟨f,t,u⟩:=x;obtain⟨n,o,j⟩:=y;unfold yJ uY at h;simp only[qS]at h;have d:=List.append_inj h R;have e:=List.append_inj d.2 R;have a:=bo g.1 i.1 d.1;have b:=bo g.2 i.2 e.1;have k:u=j:=by have:=e.2;by_cases l:u=0<;>by_cases m:j=0<;>simp[l,m]at this<;>simp_all
 simp only at a b;rw[a,b,k]
theorem totO(x y:Mo)(a:ltOf ww x y=Zl)(b:ltOf ww y x=Zl):x=y:=by grind[Fs,n8,qX,AV]
def jI(xs:List Mv):List Mv:=xs.mergeSort λx y=>!n8 y x
theorem xq(a:List Mv):(jI a).Perm a:=List.mergeSort_perm _ _
theorem qj7(a:List Mv):(jI a).length=a.length:=List.length_mergeSort _
theorem ut(a:List Mv):∀j:Nat,(vO a)[j]?=(a[j/3]?).bind λx=>(pU x).toList[j%3]?:=by
 induction a with
 | nil=>intro j;simp[vO]
 | cons x r ih =>
  intro j;have e:vO (x :: r)=(pU x).toList++vO r:=by simp[vO]
  have b:(pU x).toList.length=3:=R;rw[e];by_cases h:j<3
  .rw[List.getElem?_append_left O,Nat.div_eq_of_lt h,Nat.mod_eq_of_lt h];rfl
  .obtain⟨k,rfl⟩:∃k,j=k+3:=⟨j-3,O⟩;rw[List.getElem?_append_right O,b,Nat.add_sub_cancel,ih k,Nat.add_div_right k WW,Nat.add_mod_right];rfl
theorem aH(d:Array Mo)(j:Nat)(h:j<d.size*3):(vO (d.toList.map (·.1)))[j]?=S ((flatK yp 3 d)[j]!):=by have a:j/3<d.size:=Nat.div_lt_of_lt_mul O;have b:j%3<3:=Nat.mod_lt _ WW;rw[ut,get_flatK yp 3 d j h,YN,qO,qQ a,getElem!_pos d (j/3) a];show(yp d[j/3])[j%3]?=_;rw[getElem!_pos (yp d[j/3]) (j%3) (show j%3<3 from b)];exact Yf _
theorem Bj:∀w,(isAgg 87).run prog w=.ok Zk w:=Tryz.isAgg87
theorem Dd:∀w,(Go.sizeOf 87).run prog w=.ok 3 w:=Tryz.sizeOf87
theorem eg1:∀args w,(callFunc 187 args).run prog w=.ok (.enter 187 args) w:=YC func187 WR R
theorem tX(B a b n:Nat)(w:I6)(i:w.cell? ⟨B,0,N⟩=S mo)(g:B≠a):CmpLays prog 187 #[ZI B] yp 3 ww a b n w:=by intro m os h _ x y;have o:B<w.heap.size:=Zx i;have d:(sortWorldK yp 3 w a b m h os).cell? ⟨B,0,N⟩=S mo:=(cell?_sortWorldK_other yp 3 w a b m h os ⟨B,0,N⟩ g o).trans i;obtain⟨⟨f,t,u⟩,j⟩:=x;obtain⟨⟨l,q,r⟩,k⟩:=y;refine Z0 (dp f t u l q r j.1 j.2 k.1 k.2 B _ d) λw' p=>?_;exact⟨R,p.grown⟩
theorem rA{cur:I0}{d d':Array Mo}{e:TypeId}{os:Array Obj}(f:w.heap[g]?=S (Z cur e (0,0)))(k:d'.size=d.size)(i:d.size*3<=cur.size) :
 ∃a:I0,(sortWorldK yp 3 w g 0 n d' os).heap[g]?=S (Z a e (0,0))/\a.size=cur.size/\a.toList.take (d.size*3)=vO (d'.toList.map (·.1)):=by
 have b:g<w.heap.size:=(qB.1 f).1;refine⟨putCells id 0 (flatK yp 3 d') cur,?_,by simp[putCells],?_⟩
 .unfold sortWorldK putRowK putRow mapBlock grow;show((w.heap.modify g _)++os)[g]?=_;rw[Xx VE,Array.getElem?_modify,qI R,f];rfl
 .apply List.ext_getElem?;intro j;by_cases h:j<d.size*3
  .rw[Xi h,aH d' j O,qO];unfold putCells;rw[Array.getElem?_mapIdx,qQ O];show S (if 0<=j/\j<0+(flatK yp 3 d').size then _ else _)=_;rw[qI WX];rfl
  .rw[Y9 (by rw[Xt];omega),Y9];rw[bU];simp;omega
theorem eN{d':Array Mo}{os:Array Obj}(b:base<=g)(a:g<w.heap.size):Below base w (sortWorldK yp 3 w g 0 n d' os):=by
 refine⟨R,R,R,?_,λk d=>?_⟩
 .exact size_sortWorldK_c _ _ _ _ _ _ _ _
 .unfold sortWorldK putRowK putRow mapBlock grow;show((w.heap.modify g _)++os)[k]?=_;rw[Xx WX,Array.getElem?_modify,qF O]
theorem dK{f:List Mv}(Q:∀x∈f,bi x)(S:f.length<=1000000)(F:w.ownsRow base 87 3 v f.length (vO f))(K:w.cell? ⟨B,0,N⟩=some mo)(L:B<base) :
 Calls prog 245 #[v,.func (.func 187) #[] #[ZI B]] w λe w'=>e=Zd (Ze #[])/\w'.ownsRow base 87 3 v f.length (vO (jI f))/\Below base w w':=by
 obtain⟨rfl,J⟩|⟨g,cap,cur,rfl,E,o,A,P,p,C⟩:=F.2
 .have W:f=[]:=List.eq_nil_of_length_eq_zero J;subst W;refine Calls.mono (AnyF.slices_SortFunc_none { Tryz.sortL with } N 0 _ w) ?_;rintro e w' ⟨rfl,rfl⟩;exact⟨R,by rw[show jI []=[] by simp[jI]];exact F,XL _ _⟩
 .have l:g<w.heap.size:=(qB.1 o).1;obtain⟨d,q⟩:∃d:Array Mo,d.toList.map (·.1)=f:=⟨(f.attach.map λx=>(⟨x.1,Q x.1 x.2⟩:Mo)).toArray,by simp only[List.map_map,Function.comp_def];exact List.attach_map_subtype_val f⟩;have i:d.size=f.length:=by rw[<-q];simp
  have M:HoldsK yp 3 w g 0 d:=by
   intro j a0;have r:j<d.size*3:=by simpa using a0
   have u:j<f.length*3:=O;have a1:j<cur.size:=by have:=XT 3 A;omega
   have h:cur[j]?=some ((flatK yp 3 d)[j]!):=by rw[<-aH d j r,q,<-C,Xi u,qO]
   constructor
   .simp only[World.cell?,Z2];rw[o];exact h
   .simp only[World.frozen?,Z2];rw[o];simp
  have D:=AnyQ.slices_SortFunc_total Tryz.sortL 3 Bj Dd yp (λ_=>R) (λx v G=>by
   simp[yp,pU]at G;rcases G with rfl|rfl|rfl<;>rfl) ww swoO 187 #[ZI B] g 0 cap d w eg1 (tX B g 0 d.size w K O) M l O totO
  rw[i]at D;refine Calls.mono D ?_;rintro e w' ⟨rfl,n,os,rfl⟩;have z:((d.toList.mergeSort λx y=>!(ltOf ww) y x).toArray).size=d.size:=by simp[List.length_mergeSort]
  obtain⟨k,V,T,H⟩:=rA (n:=n) (os:=os) (d:=d) (d':=(d.toList.mergeSort λx y=>!(ltOf ww) y x).toArray) o z (by rw[i,p];exact XT 3 A);have m:(((d.toList.mergeSort λx y=>!(ltOf ww) y x).toArray).toList.map (·.1))=jI f:=by rw[<-q];exact List.map_mergeSort (λa _ b _=>by rw[Fs])
  rw[m]at H;refine⟨R,⟨by rw[bU,qj7],Zj ⟨g,cap,k,R,E,V,A,P,O,by rw[<-i];exact H⟩⟩,eN E l⟩
theorem It.gr{α:Type}{P:Program}{lb:I0}{a:α->I0}{T:Obj->Prop}{C:Nat->Prop}{b:List α}(h:It P g lb a T C b w)(k:Gr w w'):It P g lb a T C b w' :=
 λl B J d W f=>h l B J d W ((Fr.of_gr k).trans f)
theorem qxn{a s:Nat}{e:TypeId}{d:List I7}(h:w.ownsRow base e s v n d)(j:a<=base):w.ownsRow a e s v n d:=by
 refine⟨h.1,?_⟩;obtain f|⟨g,cap,cur,k,i,b⟩:=h.2
 .exact Zi f
 .exact Zj ⟨g,cap,cur,k,q7 j i,b⟩
theorem qz2{lb:I0}{C:Nat->Prop}{b:List Mv}(h:It prog g lb vr TM C b w)(f:∀args w,(callFunc g args).run prog w=.ok (.enter g args) w)(d:∀k,C k->k<w.heap.size)(o:∀x∈b,bi x)(a:b.length<=1000000)(B:Nat)(j:w.cell? ⟨B,0,N⟩=S mo) :
 Calls prog 186 #[.func (.func g) #[] lb,.func (.func 187) #[] #[ZI B]] w λe w'=>∃v,e=Zd v/\w'.ownsRow w.heap.size 87 3 v b.length (vO (jI b))/\Gr w w':=by have p:=X (aN h f d a);have n:B<w.heap.size:=Zx j;have r:Y (∀v W,W.ownsRow w.heap.size 87 3 v b.length (vO b)->Gr w W->Calls prog 245 #[v,.func (.func 187) #[] #[ZI B]] W λe w'=>e=Zd (Ze #[])/\w'.ownsRow w.heap.size 87 3 v b.length (vO (jI b))/\Below w.heap.size W w'):=X (λv W q i=>dK o a q ((ZW i n).trans j) n);clear h f d o a j;go_enter func186,ntmps186;go_wp2_with(first|(go_at_call 244;refine p.a.mono ?_;rintro e w' ⟨v,rfl,u,i⟩)|(go_at_call 245;refine Z0 (r.a _ _ u i) λy⟨m,l⟩=>?_));go_ret;exact⟨v,R,m,Below.trans i l⟩
theorem aE{lb:I0}{C:Nat->Prop}{b:List Mv}(i:It prog g lb vr TM C b w)(f:∀args w,(callFunc g args).run prog w=.ok (.enter g args) w)(d:∀k,C k->k<w.heap.size)(l:∀x∈b,bi x)(a:b.length<=1000000) :
 Calls prog 97 #[.func (.func g) #[] lb,.func (.func 38) #[] #[]] w λe w'=>∃v,e=Zd v/\w'.ownsRow w.heap.size 87 3 v b.length (vO (jI b))/\Gr w w':=by have q:∀(j:Fn)(first cap:I0)(w:I6),(Instr.makeFunc j first cap).run prog w=.ok (.func j first cap) w:=λ_ _ _ _=>R;have h:∀t,Gr w (w.alloc (Z #[.func (.func 38) #[] #[]] t)):=λt=>ZN;have r:Y (∀t,Calls prog 186 #[.func (.func g) #[] lb,.func (.func 187) #[] #[ZI w.heap.size]] (w.alloc (Z #[.func (.func 38) #[] #[]] t)) λe w'=>∃v,e=Zd v/\w'.ownsRow w.heap.size 87 3 v b.length (vO (jI b))/\Gr w w'):=X (λt=>by refine(qz2 (i.gr (h t)) f (λk p=>by have:=d k p;rw[Z3];omega) l a w.heap.size Ug).mono ?_;rintro e w' ⟨v,rfl,m,n⟩;exact⟨v,R,qxn m Vj,Gr.trans (h t) n⟩);clear i f d l a;go_enter func97,ntmps97;go_wp2_with(go_at_call 186;refine(r.a _).mono ?_;rintro e w' ⟨v,rfl,u,o⟩);go_ret;exact⟨v,R,u,o⟩
structure iM(gm gi:Nat)(PA:I0)(xs:List Mv)(w:I6):Prop where
 em:∀args w,(callFunc gm args).run prog w=.ok (.enter gm args) w
 ei:∀args w,(callFunc gi args).run prog w=.ok (.enter gi args) w
 go:∀T:Obj->Prop,(∀o,T o->∃c fr,o=Z c 87 fr)->∀W,Gr w W->Calls prog gm #[Zc PA] W λe w'=>∃lb C,e=Zd (.func (.func gi) #[] lb)/\Gr W w'/\(∀k,C k->k<w'.heap.size)/\It prog gi lb vr T C xs w'
 ok:∀x∈xs,bi x
 len:xs.length<=1000000
theorem iM.gr{b a:Nat}{d:List Mv}(h:iM b a PA d w)(g:Gr w w'):iM b a PA d w' :=
 ⟨h.em,h.ei,λT e W f=>h.go T e W (Gr.trans g f),h.ok,h.len⟩
structure Ig(w:I6)(gm:Nat)(PA:I0)(W:I6):Prop where
 q:W.cell? ⟨w.heap.size,1,N⟩=S (.func (.func gm) #[] #[])
 pa:W.heap[w.heap.size+1]?=S (Z PA 70)
 gr:Gr w W
theorem Ig.next{b:Nat}(h:Ig w b PA W)(g:Gr W a):Ig w b PA a :=
 ⟨(ZW g (Ye W _ h.q)).trans h.q,(ZE g h.pa),Gr.trans h.gr g⟩
def zG(ga gm:Nat):I0:=#[.func (.func ga) #[] #[],.func (.func gm) #[] #[]]
theorem qko{b:Nat}{d:List Mv}(n:PA.size=72)(m:iM b g PA d w) :
 Calls prog 49 #[Zc (zG f b),Zc PA] w λe w'=>∃v,e=Zd v/\w'.ownsRow w.heap.size 87 3 v d.length (vO (jI d))/\Gr w w':=by
 have A:(prog.info? 70).map (·.size)=S PA.toList.length:=by rw[ZX,n];exact jJ
 have l:=X m;have em:=m.em;clear m;simp only[zG]at |-;have a:Ig w b PA ((w.alloc (Z (zG f b) 74)).alloc (Z PA 70)):=by obtain⟨B,D⟩:=x6 w (Z (zG f b) 74) (Z PA 70);exact⟨by rw[Zs B];rfl,D,ZN.al⟩
 go_enter func49,ntmps49;go_upto_region 1 with fail;show Code.wp _ _ _ _ ((w.alloc (Z (zG f b) 74)).alloc (Z PA 70));generalize ((w.alloc (Z (zG f b) 74)).alloc (Z PA 70))=z at a |-;have c1:=a.q;have y:=a.pa;have i:=X a.gr;have r:Y (Calls prog b #[Zc PA] z λe w'=>∃lb C,e=Zd (.func (.func g) #[] lb)/\Gr z w'/\(∀k,C k->k<w'.heap.size)/\It prog g lb vr TM C d w'):=X (l.a.go TM (λ_ h=>h) z a.gr);have u:Y (∀lb C W,(∀k,C k->k<W.heap.size)->It prog g lb vr TM C d W->Calls prog 97 #[.func (.func g) #[] lb,.func (.func 38) #[] #[]] W λe w'=>∃v,e=Zd v/\w'.ownsRow W.heap.size 87 3 v d.length (vO (jI d))/\Gr W w'):=X (λlb C W E F=>aE F l.a.ei E l.a.ok l.a.len);clear a l;go_wp2_with(first
  | (refine ZD (w.heap.size+1) PA y n ?_)
  | (go_at_fn b;refine r.a.mono ?_;rintro e w' ⟨lb,C,rfl,j,o,x⟩)
  | (go_at_call 97;refine(u.a _ _ _ o x).mono ?_;rintro e H ⟨v,rfl,G,p⟩))
 go_ret;exact⟨v,R,qxn G (q7 (ZR i.a) (ZR j)),Gr.trans i.a (Gr.trans j p)⟩
theorem rJ{a:List Mv}(h:w.ownsRow base 87 3 v n (vO a)):∃p cap,v=Zq p n cap/\n<=cap/\∀i,i<n->∀(f:i<a.length),∃g,p=S ⟨g,0,N⟩/\w.cell? ⟨g,i*3,N⟩=S (I L (a[i].1:Int))/\w.cell? ⟨g,i*3+1,N⟩=S (I L (a[i].2.1:Int))/\w.cell? ⟨g,i*3+2,N⟩=S (I Zg (a[i].2.2.toNat:Int)):=by
 obtain⟨rfl,rfl⟩|⟨g,cap,cur,rfl,o,l,m,r,k,d⟩:=h.2
 .exact⟨N,0,R,Zy,λi e=>absurd e (Yy i)⟩
 .refine⟨_,_,R,m,λi e f=>⟨g,R,?_⟩⟩;have b:∀c,c<3->w.cell? ⟨g,i*3+c,N⟩=(pU a[i]).toList[c]?:=λc q=>by have j:i*3+c<n*3:=O;simp only[World.cell?];rw[l];show cur[i*3+c]?=_;rw[<-qO,<-Xi j,d,ut,show(i*3+c)/3=i from O,show(i*3+c)%3=c from O,Yf f];rfl
  exact⟨b 0 WW,b 1 WW,b 2 WW⟩
theorem jz{α β:Type}{l:List α}{f:α->List β}(d:l.length<=n)(h:∀x∈l,(f x).length<=k):(l.flatMap f).length<=n*k:=by
 have b:∀l:List α,(∀x∈l,(f x).length<=k)->(l.flatMap f).length<=l.length*k:=by
  intro l;induction l with
  | nil=>intro _;simp
  | cons a r ih =>
   intro h;rw[List.flatMap_cons,qZ,Yq,Nat.add_mul,Nat.one_mul];have:=ih (λx e=>h x (Xg _ e));have:=h a (XE ..);omega
 exact q7 (b l h) (XT k d)
theorem pf(p:Bool)(f t:Nat):(xT p f t).length<=4:=by unfold xT;split<;>simp
theorem bB{p:Bool}{t:Nat}{x:Mv}(a:f<64)(b:t<64)(h:x∈xT p f t):bi x:=by
 unfold xT at h;split at h
 .simp only[Yj,XC,or_false]at h;rcases h with rfl|rfl|rfl|rfl<;>exact⟨a,b⟩
 .rw[qT.1 h];exact⟨a,b⟩
theorem zg(z:I2)(wh:Bool)(fc:I5)(b:Int):∀x∈xC z wh fc b,bi x:=by
 intro x a;unfold xC zH yN kF bE at a;simp only[YX]at a;obtain⟨k,_,f,d,t,e,h⟩:=a;split at h
 .exact bB (ui d) (ui e) h
 .cases h
theorem bu(z:I2)(wh:Bool)(fc:I5)(b:Int):(xC z wh fc b).length<=1000000:=by
 have h:(xC z wh fc b).length<=6*(64*(64*4)):=by
  unfold xC zH;refine jz WU λk _=>?_;refine jz (dI _) λf _=>?_;refine jz (dI _) λt _=>?_;unfold bE;split
  .exact pf _ _ _
  .simp
 omega
theorem mkS{g:Int}(r:jE z wh fc b h g PA)(l:xO z=Zk)(i:-1<=b)(j:b<=63)(w:I6)(n:jF w)(m:jQ w) :
 iM 61 128 PA (xC z wh fc b) w where
 em:=YC func61 WR R
 ei:=YC func128 WR R
 ok:=zg z wh fc b
 len:=bu z wh fc b
 go:=by
  intro T f W p;refine Z0 (zk PA W) λw'⟨o,d⟩=>?_;have a:=Gr.trans p d;refine⟨_,_,R,d,?_,qxq r l i j W.heap.size T f w' o (n.gr a) (m.gr a)⟩;rintro k (rfl|rfl|rfl)
  .exact(qB.1 o).1
  .exact(n.gr a).2
  .exact(m.gr a).2
end
end Go.Proofs.YtnfakamfmkhlbabGreatDoor.C
