import Derived.Test.YtnfakamfmkhlbabGreatDoorB22
set_option maxRecDepth 100000
set_option maxHeartbeats 4000000
set_option linter.all false
open Go.Value renaming int->I,bool->Za,string->Zb,agg->Zc,tuple->Ze,slice->Zq
open Go.IntKind renaming i64->L,u8->Zg,u64->Zh
open Go.Obj renaming cells->Z
open Go.Ending renaming returned->Zd
open Or renaming inl->Zi,inr->Zj
open Option renaming some->S,none->N
open Bool renaming true->Zk,false->Zl
open Decidable renaming decide->Zm
open Go.RowKit renaming Hid->Y
open Go renaming World->I6,Value->I7
namespace Go.Proofs.YtnfakamfmkhlbabGreatDoor.C
open Go.ChangeShapes Go.WideShapes Go.ChangeAt Go.RowKit Go.Shelf Go.Proofs.YtnfakamfmkhlbabGreatDoor.P Tryz
attribute [local go_sem] qd qe Oper.semAt_some
variable {z:I2}{wh:Bool}{b h m:Int}{PA A M:I0}{fc:I5}{w W a w' w1 V:I6}{f n i k g base d e l j x B Bp:Nat}{v:I7}{u:UInt8}{Q:Nat->Obj->Prop}{rs:I3}{y:I1}
def sDl:I1:=[32,59,68]
def spl(s:I1):List (I1):=Lib.splitK sDl 0 (Lib.count s sDl) s
theorem LW{s:I1}(h:Lib.index s sDl=-1):spl s=[s]:=by unfold spl;rw[Lib.count_miss h];rfl
theorem KQ{s:I1}(h:Lib.index s sDl=i):spl s=s.take i :: spl (s.drop (i+3)):=by
 have a:¬ (Lib.index s sDl==-1)=Zk:=by rw[h,YF];omega
 unfold spl;rw[Lib.count_hit WW h,Nat.add_comm,Lib.splitK,qF a,h];rfl
theorem SH(L:I1):spl (32 :: 59 :: 68 :: L)=[] :: spl L:=by
 have:Lib.index (32 :: 59 :: 68 :: L) sDl=(0:Nat):=by unfold Lib.index;simp[sDl]
 exact KQ this
theorem N8(L:I1):∃h t,spl L=h :: t:=by
 by_cases b:Lib.index L sDl=-1
 .exact⟨_,_,LW b⟩
 .have:=Lib.index_ge L sDl;obtain⟨i,a⟩:=Yt (show 0<=Lib.index L sDl from O);exact⟨_,_,KQ a⟩
theorem Qu{b:UInt8}{L:I1}(g:sDl.isPrefixOf (b :: L)=Zl):∃h t,spl L=h :: t/\spl (b :: L)=(b :: h) :: t:=by
 have e:Lib.index (b :: L) sDl=if Lib.index L sDl==-1 then -1 else Lib.index L sDl+1:=by
  conv=>lhs;unfold Lib.index
  rw[g];rfl
 by_cases d:Lib.index L sDl=-1
 .exact⟨L,[],LW d,LW (by rw[e,d];rfl)⟩
 .have:=Lib.index_ge L sDl;obtain⟨i,a⟩:=Yt (show 0<=Lib.index L sDl from O);have f:Lib.index (b :: L) sDl=(i+1:Nat):=by rw[e,qF (by rw[YF];exact d),a];rfl
  exact⟨_,_,KQ a,by rw[KQ f];rfl⟩
theorem M7(l:I1):∀{x:I1},(32:UInt8)∉x->∃h t,spl l=h :: t/\spl (x++l)=(x++h) :: t
 | [],_=>by obtain⟨h,t,e⟩:=N8 l;exact⟨h,t,e,e⟩
 | b :: x,hx=>by
  obtain⟨h,t,d,f⟩:=M7 l (x:=x) (λh=>hx UW);have i:b≠32:=λh=>hx UW;obtain⟨j,k,a,g⟩:=Qu (b:=b) (L:=x++l) (by simp[sDl,List.isPrefixOf];intro h;exact absurd h.symm i);rw[f]at a;injection a with a e5
  subst a e5;exact⟨h,t,d,g⟩
theorem Hu{x:I1}(d:(32:UInt8)∉x):spl x=[x]:=by obtain⟨h,t,a,b⟩:=M7 [] d;have:spl []=[[]]:=WS;rw[this]at a;injection a with a e3;rw[Yh]at b;rw[b,<-a,<-e3,Yh]
def isD(y:I1):Prop:=y.take 2=[59,68]
instance (y : List UInt8) : Decidable (isD y) := inferInstanceAs (Decidable (_ = _))
theorem Hp(h:isD y):y=59 :: 68 :: y.drop 2:=by have:=XQ 2 y;rw[h]at this;exact this.symm
theorem jo2(x y:I1)(r:List (I1)):Lib.join (x :: y :: r) [32]=x++32 :: Lib.join (y :: r) [32]:=by rw[Lib.join_cons,Lib.join_cons];simp[Lib.joinTail]
theorem RU(x y:I1)(r:List (I1)):Lib.join ((x++y) :: r) [32]=x++Lib.join (y :: r) [32]:=by rw[Lib.join_cons,Lib.join_cons];simp
theorem LV{x:I1}{r:List (I1)}(e:(32:UInt8)∉x)(f:isD y):spl (Lib.join (x :: y :: r) [32])=x :: spl (Lib.join (y.drop 2 :: r) [32]):=by
 obtain⟨h,t,a,b⟩:=M7 (32 :: Lib.join (y :: r) [32]) e;rw[jo2,b];have d:Lib.join (y :: r) [32]=59 :: 68 :: Lib.join (y.drop 2 :: r) [32]:=by
  conv=>lhs;rw[Hp f]
  exact RU [59,68] _ _
 rw[d,SH]at a;injection a with a e4;rw[<-a,<-e4,Yh]
theorem KO{x:I1}{r:List (I1)}(m:(32:UInt8)∉x)(e:¬ isD y)(a:(32:UInt8)∉y):∃h t,spl (Lib.join (y :: r) [32])=h :: t/\spl (Lib.join (x :: y :: r) [32])=(x++32 :: h) :: t:=by
 have l:sDl.isPrefixOf (32 :: Lib.join (y :: r) [32])=Zl:=by
  rw[Lib.join_cons];match y,e,a with
  | [],_,_ =>
   cases r with
   | nil=>simp[sDl,Lib.joinTail,List.isPrefixOf]
   | cons z r=>simp[sDl,Lib.joinTail,List.isPrefixOf]
  | [c],_,a =>
   cases r with
   | nil=>simp[sDl,Lib.joinTail,List.isPrefixOf]
   | cons z r=>simp[sDl,Lib.joinTail,List.isPrefixOf]
  | c :: d :: y',e,_ =>
   simp[sDl,List.isPrefixOf];intro j k;exact e (by simp[isD,<-j,<-k])
 obtain⟨h,t,f,g⟩:=Qu l;obtain⟨n,o,b,i⟩:=M7 (32 :: Lib.join (y :: r) [32]) m;rw[g]at b;injection b with b e5;subst b e5;exact⟨h,t,f,by rw[jo2,i]⟩
theorem RV:∀{x:I1},(32:UInt8)∉x->Lib.index x [32]=-1
 | [],_=>rfl
 | b :: x,h=>by
  have a:b≠32:=λe=>h Tf;unfold Lib.index;rw[qF Om,RV (λe=>h Tf)];rfl
theorem RW(u:I1):∀{x:I1},(32:UInt8)∉x->Lib.index (x++32 :: u) [32]=(x.length:Nat)
 | [],_=>by simp[Lib.index,List.isPrefixOf]
 | b :: x,h=>by
  have a:b≠32:=λe=>h Tf;rw[YA,Lib.index,qF Om,RW u (λe=>h Tf)];have:(((x.length:Nat):Int)==-1)=Zl:=Vp
  rw[this];simp
theorem Rl{x:I1}(h:(32:UInt8)∉x):Lib.cut x [32]=(x,[],Zl):=by unfold Lib.cut;rw[RV h];rfl
theorem Rn{x u:I1}(h:(32:UInt8)∉x):Lib.cut (x++32 :: u) [32]=(x,u,Zk):=by unfold Lib.cut;rw[RW u h,qI O];simp
def e8(t:I1):Option (Nat × Nat):=match df 1 (Lib.cut t [32]).1,kZ 9 (Lib.cut t [32]).2.1 with|some d,S n=>S (d,n)|_,_=>N
theorem KW{l:I1}{c:UInt8}(a:c∈l)(b:dg c=Zl)(k:Nat):kZ k l=N:=by unfold kZ;rw[qF];rintro⟨_,_,_,h⟩;have:=qW.1 h c a;rw[b]at this;cases this
theorem Jw{x:I1}(h:(32:UInt8)∉x):e8 x=N:=by unfold e8;rw[Rl h];have:kZ 9 []=N:=WW;show(match df 1 x,kZ 9 []with|some d,S n=>S (d,n)|_,_=>N)=N;rw[this];cases df 1 x<;>rfl
theorem Jy{x u:I1}(h:(32:UInt8)∉x):e8 (x++32 :: u)=match df 1 x,kZ 9 u with|some d,S n=>S (d,n)|_,_=>N:=by unfold e8;rw[Rn h]
def pL:List (I1)->Option (List (Nat × Nat))
 | []=>S []
 | p :: ps=>match e8 p with|some t=>(pL ps).map (t :: ·)|none=>N
def prs:List (I1)->Option (List (Nat × Nat))
 | []=>S []
 | [_]=>N
 | x :: y :: r=>if x.length=3/\isD x then(match df 1 (x.drop 2),kZ 9 y with|some d,S n=>(prs r).map ((d,n) :: ·)|_,_=>N)else N
theorem MM{a:Nat}{x:I1}(h:df a x=S d):x.length=1:=by
 unfold df at h;have:=(X5.1 h).1;unfold kZ at this;split at this
 .rename_i h;omega
 .cases this
theorem Ph:∀(n:Nat)(x:I1) (r:List (I1)),r.length<=n->isD x->(∀y∈x :: r,(32:UInt8)∉y)->pL (spl (Lib.join (x.drop 2 :: r) [32]))=prs (x :: r):=by
 intro n;induction n with
 | zero =>
  intro x r u hD i;have:r=[]:=Yz.1 O;subst this;have b:(32:UInt8)∉x.drop 2:=λh=>i x WU (List.mem_of_mem_drop h);rw[Lib.join_one,Hu b,pL,Jw b];rfl
 | succ n ih =>
  intro x r u hD i;have b:(32:UInt8)∉x.drop 2:=λh=>i x WU (List.mem_of_mem_drop h);cases r with
  | nil =>
   rw[Lib.join_one,Hu b,pL,Jw b];rfl
  | cons y r =>
   have k:(32:UInt8)∉y:=i y WU
   have g:x.length=3↔(x.drop 2).length=1:=by
    have:=Xn List.length (Hp hD);simp only[Yq]at this;omega
   by_cases e:isD y
   .rw[LV b e,pL,Jw b];have:kZ 9 y=N:=KW (c:=59) (by rw[Hp e];simp) WW 9;rw[prs,this];show N=_;by_cases j:x.length=3/\isD x
    .rw[qI j];cases df 1 (x.drop 2)<;>rfl
    .rw[qF j]
   .cases r with
    | nil =>
     obtain⟨h,t,a,l⟩:=KO (r:=[]) b e k;rw[Lib.join_one,Hu k]at a;injection a with a m
     subst a m;rw[l,pL,Jy b,prs];cases o:df 1 (x.drop 2)with
     | none=>simp
     | some d =>
      have:=g.2 (MM o);rw[qI ⟨this,hD⟩];cases kZ 9 y<;>rfl
    | cons z r =>
     have A:(32:UInt8)∉z:=i z WU;obtain⟨h,t,a,l⟩:=KO (r:=z :: r) b e k;by_cases f:isD z
     .rw[LV k f]at a;injection a with a m
      subst a m;rw[l,pL,Jy b,prs,ih z r (by simp at u;omega) f (λq p=>i q (by simp at p |-;right;right;exact p))];cases o:df 1 (x.drop 2)with
      | none=>simp
      | some d =>
       have:=g.2 (MM o);rw[qI ⟨this,hD⟩];cases kZ 9 y<;>rfl
     .obtain⟨B,C,m,v⟩:=KO (r:=r) k f A;rw[v]at a;injection a with a e5
      subst a e5;rw[l,pL,Jy b,KW (c:=32) WU WW 9,prs]
      have w:prs (z :: r)=N:=by
       cases r with
       | nil=>rfl
       | cons q r=>rw[prs,qF (λh=>f h.2)]
      rw[w];by_cases j:x.length=3/\isD x
      .rw[qI j];cases df 1 (x.drop 2)<;>cases kZ 9 y<;>rfl
      .rw[qF j];cases df 1 (x.drop 2)<;>rfl
theorem KF(s a:I1):(Lib.cut s a).1.length<=s.length/\(Lib.cut s a).2.1.length<=s.length:=by
 unfold Lib.cut;split
 .exact⟨WX,WU⟩
 .simp
theorem Kf(s:I4)(b:s.size<4294967281)(m:Int)(w:I6)(a:w.cell? ⟨4,0,N⟩=S (I L m)):ZL 228 #[Zb s,Zb ⟨#[32]⟩] w (Ze #[Zb ⟨(Lib.cut s.data.toList [32]).1.toArray⟩,Zb ⟨(Lib.cut s.data.toList [32]).2.1.toArray⟩,Za (Lib.cut s.data.toList [32]).2.2]):=by refine(Tryz.strings_Cut s ⟨#[32]⟩ m w b a).mono ?_;rintro e w' ⟨rfl,k,rfl⟩;exact⟨R,(Gr.refl w).drewN k⟩
def KJ(q:Option (Nat × Nat))(e:Ending):Prop:=∃a b:Nat,(∀d n,q=S (d,n)->a=d/\b=n)/\e=Zd (Ze #[Zc #[I L a,I Zh b],Za q.isSome])
theorem JR(t:I4)(T:t.size<4294967281)(m:Int)(w:I6)(a1:w.cell? ⟨4,0,N⟩=S (I L m))(P:4<w.heap.size) :
 Calls prog 322 #[Zb t] w λe w'=>KJ (e8 t.data.toList) e/\Gr w w':=by
 obtain⟨a0,J⟩:=KF t.data.toList [32];have j:Y (∀W,W.cell? ⟨4,0,N⟩=S (I L m)->ZL 228 #[Zb t,Zb ⟨#[32]⟩] W (Ze #[Zb ⟨(Lib.cut t.data.toList [32]).1.toArray⟩,Zb ⟨(Lib.cut t.data.toList [32]).2.1.toArray⟩,Za (Lib.cut t.data.toList [32]).2.2])):=X λW h=>Kf t T m W h;have p:e8 t.data.toList=match df 1 (Lib.cut t.data.toList [32]).1,kZ 9 (Lib.cut t.data.toList [32]).2.1 with|some d,S n=>S (d,n)|_,_=>N:=rfl;generalize e8 t.data.toList=q at p |-;generalize Lib.cut t.data.toList [32]=cu at j a0 J p;obtain⟨x,y,ok⟩:=cu;simp only at a0 J j;have p:q=match df 1 x,kZ 9 y with|some d,S n=>S (d,n)|_,_=>N:=p;simp only[ZX,YY]at a0 J;have H:=X (λW=>Ae ⟨x.toArray⟩ (by show x.toArray.size<=maxLen;rw[Ya];unfold maxLen;omega) 1 O W);have r:=X (λW=>ey 9 O ⟨y.toArray⟩ (by show y.toArray.size<=maxLen;rw[Ya];unfold maxLen;omega) W);unfold vv at r;have z:(⟨x.toArray⟩:I4).data.toList=x:=R;have D:(⟨y.toArray⟩:I4).data.toList=y:=R;rw[z]at H;rw[D]at r;have A:=BR 9 O y;have b:Y (∀a:Nat,(∀d,df 1 x=S d->a=d)->KJ q (Zd (Ze #[Zc #[I L a,I Zh ((kZ 9 y).getD 0:Nat)],Za ((df 1 x).isSome&&(kZ 9 y).isSome)]))):=X λa G=>by
  refine⟨a,(kZ 9 y).getD 0,λd n h=>?_,?_⟩
  .rw[p]at h;cases F:df 1 x with
   | none=>rw[F]at h;cases h
   | some d' =>
    cases M:kZ 9 y with
    | none=>rw[F,M]at h;cases h
    | some n' =>
     rw[F,M]at h;injection h with h
     injection h with e1 e2
     exact⟨by rw[G d' F,e1],by rw[<-e2];rfl⟩
  .rw[p];cases df 1 x<;>cases kZ 9 y<;>rfl
 clear p;generalize (kZ 9 y).getD 0=v at r A b;generalize (kZ 9 y).isSome=a3 at r b;generalize (df 1 x).isSome=Q at H b;have V:IntKind.u64.wrap (v:Int)=v:=Vh;have C:(w.alloc (Z #[I L 0,I Zh 0] 335)).cell? ⟨4,0,N⟩=S (I L m):=by rw[YZ _ _ _ P];exact a1
 have l:Y (Gr w (w.alloc (Z #[I L 0,I Zh 0] 335))):=X ZN;have i:Y ((w.alloc (Z #[I L 0,I Zh 0] 335)).heap[w.heap.size]?=S (Z #[I L 0,I Zh 0] 335)):=X Zv;have g:=X (j.a _ C);clear a1 C j a0 J z D P;go_enter func322,ntmps322;go_upto_region 1 with fail;generalize w.alloc (Z #[I L 0,I Zh 0] 335)=a8 at l g i |-;obtain⟨B,a2⟩:∃B,B=w.heap.size:=⟨_,R⟩;have u:w.heap.size<=B:=O;rw[<-a2]at i |-;clear a2;go_upto_region 4 with(first
  | (go_at_call 228;refine Z0 g.a λw1 o=>?_)
  | (go_at_call 280;refine(H.a _).mono ?_;rintro e w2 ⟨⟨a,G,a7,rfl⟩,rfl⟩)
  | (go_at_call 217;refine(r.a _).mono ?_;rintro e E ⟨rfl,rfl⟩))
 have f:E.heap[B]?=S (Z #[I L 0,I Zh 0] 335):=(ZE o i.a);have c0:E.cell? ⟨B,0,N⟩=S (I L 0):=by rw[Zs f];rfl
 have c1:E.cell? ⟨B,1,N⟩=S (I Zh 0):=by rw[Zs f];rfl
 have a5:E.frozen? ⟨B,0,N⟩=Zl:=HV f;have a6:E.frozen? ⟨B,1,N⟩=Zl:=HV f;have K:=X (Gr.trans l.a o);have k:=X (b.a a G);have a4:=X f;clear o l i f G g H r A b;cases Q<;>cases a3;all_goals
  go_wp2_with fail;exact ZS (qj results322 _ _ B 335 _ (0,0) _ R (qv (qv a4.a)) underlying335 rfl WR) R ⟨k.a,((K.a.setCell u _).setCell u _)⟩
def ly(s:I4)(e:Ending):Prop :=
 (∃p,xG s=S p/\xP p=Zk/\e=Zd (Ze #[Zc (jV p),Za Zk])) ∨
 ((∀p,xG s=S p->xP p=Zl)/\∃A:I0,A.size=72/\A.all (·.oneCell')=Zk/\e=Zd (Ze #[Zc A,Za Zl]))
structure Pq(w:I6)(bp:Nat)(A:I0)(W:I6):Prop where
 res:∃R:I0,R.size=72/\W.heap[w.heap.size]?=S (Z R 70)
 p:W.heap[bp]?=S (Z A 70)
 ne:bp≠w.heap.size
 gr:Gr w W
 tab:jF W
 homes:vJ W
theorem Pq.next{bp:Nat}(h:Pq w bp A W)(g:Gr W a):Pq w bp A a:=by obtain⟨e,d,b⟩:=h.res;exact⟨⟨e,d,(ZE g b)⟩,(ZE g h.p),h.ne,Gr.trans h.gr g,h.tab.gr g,h.homes.gr g⟩
theorem Pq.put{bp:Nat}(h:Pq w bp A W)(d:A.size=72)(f:2<w.heap.size):Pq w bp A (W.setRow w.heap.size A):=by obtain⟨i,g,e⟩:=h.res;exact⟨⟨A,d,Zt e⟩,by rw[Zu h.ne];exact h.p,h.ne,h.gr.setRow _ Zy _,⟨λj a=>by rw[cell_setRow_other _ _ _ _ (show _≠w.heap.size by dsimp only;omega)];exact h.tab.1 j a,by rw[Xa];exact h.tab.2⟩,⟨λj v b=>by rw[cell_setRow_other _ _ _ _ (show _≠w.heap.size by dsimp only;omega)];exact h.homes.1 j v b,by rw[Xa];exact h.homes.2⟩⟩
theorem HX(s:I4)(a5:s.size<4294967281)(m:Int)(w:I6)(T:w.cell? ⟨4,0,N⟩=S (I .i64 m))(f:4<w.heap.size)(L:jF w)(Q:vJ w):Calls prog 278 #[Zb s] w λe w'=>ly s e/\Gr w w':=by
 have j:Gr w (w.alloc (Z zeroCells70 70)):=ZN;have G:=L.2;have B:=X (L.gr j);have z:=X (Q.gr j);have a4:Y (Calls prog 62 #[Zb s] (w.alloc (Z zeroCells70 70)) λe w'=>∃A ok,e=Zd (Ze #[Zc A,Za ok])/\A.size=72/\A.all (·.oneCell')=Zk/\(ok=Zk->∃p,xG s=S p/\A=jV p)/\(ok=Zl->xG s=N)/\Gr (w.alloc (Z zeroCells70 70)) w'):=X ((rY s a5 m _ (by rw[YZ _ _ _ f];exact T) Vj).mono λe w' h=>by
  obtain⟨A,ok,a6,h2,h3,h4,h5⟩:=h.1.plain;exact⟨A,ok,a6,h2,h3,h4,h5,h.2⟩)
 have D:Y ((w.alloc (Z zeroCells70 70)).heap[w.heap.size]?=S (Z zeroCells70 70)):=X Zv;have v:Y (w.heap.size<(w.alloc (Z zeroCells70 70)).heap.size):=X Vj;have r:=X j;clear j L Q T f a5;go_enter func278,ntmps278;go_upto_region 2 with(first
  | (go_at_call 62;refine a4.a.mono ?_;rintro e n ⟨A,ok,rfl,f,H,a3,M,u⟩)
  | (refine ZC n.heap.size A Zv f H ?_))
 generalize l:(n.alloc (Z zeroCells70 70)).setRow n.heap.size A=P;have E:Gr n P:=by rw[<-l];exact ZN.setRow _ Zy _
 have b:=Gr.trans u E;have y:Pp w n.heap.size A P:=⟨by rw[Zz b v.a];exact D.a,by rw[<-l];exact Zt (Z7 n _),by rw[<-l,Xa,Z3];omega,qN v.a (ZR b),Gr.trans r.a b,B.a.gr b,z.a.gr b⟩;have J:Pq w n.heap.size A P:=⟨⟨_,xF,y.res⟩,y.p,(by have:=ZR u;rw[Z3]at this;omega),y.gr,y.tab,y.homes⟩;generalize n.heap.size=bp at J |-;clear y;clear l E b u a4 D v r B z;have i:(prog.info? 70).map (·.size)=S A.toList.length:=by rw[ZX,f];exact jJ
 refine ZT (S:=Pq w bp A) WR (J.next ZO.drew) (λd=>?_);refine ty 0 (Zc A) R (wY i Vb _ R bp R (λ_ h=>h.p)) d ?_;cases ok
 .have g:Y (ly s (Zd (Ze #[Zc A,Za Zl]))):=X (Zj ⟨λp h=>(by rw[M R]at h;cases h),A,f,H,R⟩);clear M a3;refine tq 1 (Za Zl) d ?_;refine tq 2 (Za Zl) d ?_;refine ZA 3 d ?_;refine ZA 4 d ?_;refine tq 5 (Za Zl) d ?_;refine rd 6 λK hK=>?_;rw[qI Vb];obtain⟨a2,a1,a0⟩:=d.res;refine YQ 70 _ _ R w.heap.size A R R 70 a2 a0 T8 (by rw[f,a1]) H ?_;refine hK.out _ _ (d.put f G) λa=>?_;clear hK K;try simp only[py]
  refine tq 7 (Za Zl) a ?_;exact OX
 .obtain⟨p,k,x⟩:=a3 R;have o:Y (∀W:I6,jF W->vJ W->ZL 63 #[Zc A] W (Za (xP p))):=X λW t h=>by rw[x];exact CX (jo k) W t h
  have g:Y (ly s (Zd (Ze #[Zc A,Za (xP p)]))):=X (by
   cases V:xP p with
   | true=>exact Zi ⟨p,k,V,by rw[x]⟩
   | false=>exact Zj ⟨λp' h=>by rw[k]at h;rw[<-qP h];exact V,A,f,H,R⟩)
  clear a3 M k x;generalize xP p=q at o g;refine tq 1 (Za Zk) d ?_;refine tq 2 (Za Zk) d ?_;refine ty 3 (Zc A) R (wY i Vb _ R bp R (λ_ h=>h.p)) d ?_;refine rd 4 λK hK=>?_;go_simp;refine Z0 (o.a _ d.tab d.homes) λwc F=>?_;refine hK.out _ _ (d.next F) λd=>?_;clear hK K F;try simp only[py]
  refine tq 5 (Za q) d ?_;refine rd 6 λK hK=>?_;rw[qI Vb];obtain⟨a2,a1,a0⟩:=d.res;refine YQ 70 _ _ R w.heap.size A R R 70 a2 a0 T8 (by rw[f,a1]) H ?_;refine hK.out _ _ (d.put f G) λa=>?_;clear hK K;try simp only[py]
  refine tq 7 (Za q) a ?_;exact OX
theorem KP:∀(ws:List (I1)),ws≠[]->(∀y∈ws,(32:UInt8)∉y)->∃a t,a≠[]/\spl (Lib.join ws [32])=Lib.join a [32] :: t/\(∀y∈a.tail,¬ isD y)/\((t=[]/\a=ws)\/∃x r,ws=a++x :: r/\isD x/\t=spl (Lib.join (x.drop 2 :: r) [32]))
 | [],h,_=>absurd R h
 | [x],_,hw=>⟨[x],[],WU,by rw[Lib.join_one,Hu (hw x WU)],WU,Zi ⟨R,R⟩⟩
 | x :: y :: r,_,hw=>by
  have l:=hw x WU;by_cases d:isD y
  .exact⟨[x],_,WU,by rw[LV l d,Lib.join_one],WU,Zj ⟨y,r,R,d,R⟩⟩
  .obtain⟨a,t,o,p,u,k⟩:=KP (y :: r) WU (λq i=>hw q (Xg _ i));obtain⟨h,v,b,n⟩:=KO (r:=r) l d (hw y WU);rw[p]at b;injection b with b e3
   subst b e3;obtain⟨q,a,rfl⟩:=XI o
   have i:q=y:=by
    obtain⟨_,e⟩|⟨z,m,e,_⟩:=k
    .injection e
    .injection e with e _;exact e.symm
   refine⟨x :: q :: a,t,WU,by rw[n,jo2],λz j=>?_,?_⟩
   .obtain rfl|j:=Yj.1 j
    .rw[i];exact d
    .exact u z j
   .obtain⟨e,f⟩|⟨z,m,e,f,g⟩:=k
    .exact Zi ⟨e,by rw[f]⟩
    .exact Zj ⟨z,m,Tg,f,g⟩
def zoT:I1:=[32,48,32,49]
def recP{α:Type}(f:List UInt8->Option α)(s:I1):Option (α × List (Nat × Nat)):=match spl s with
 | h :: t=>(match f (h++zoT)with|some a=>(pL t).map (a,·)|none=>N)
 | []=>N
def Pz{α:Type}(f:List UInt8->Option α):List (I1)->Option (α × List (Nat × Nat))
 | a :: b :: c :: d :: r=>(match f (Lib.join [a,b,c,d] [32]++zoT)with|some x=>(prs r).map (x,·)|none=>N)
 | _=>N
theorem Q6{e:I1}{r:List (I1)}(h:¬ isD e):prs (e :: r)=N:=by
 cases r with
 | nil=>rfl
 | cons q r=>rw[prs,qF (λk=>h k.2)]
theorem ND{α:Type}(f:List UInt8->Option α)(u:∀g:List (I1),g≠[]->(∀y∈g,(32:UInt8)∉y)->g.length≠4->f (Lib.join g [32]++zoT)=N)
 (v:∀a b c d:I1,(∀y∈[a,b,c,d],(32:UInt8)∉y)->isD b\/isD c\/isD d->f (Lib.join [a,b,c,d] [32]++zoT)=N)
 (ws:List (I1)) (o:ws≠[]) (k:∀y∈ws,(32:UInt8)∉y):recP f (Lib.join ws [32])=Pz f ws:=by
 obtain⟨g,t,z,A,p,j⟩:=KP ws o k;have n:∀y∈g,(32:UInt8)∉y:=λy i=>by
  obtain⟨_,rfl⟩|⟨x,r,rfl,_⟩:=j
  .exact k y i
  .exact k y (List.mem_append_left _ i)
 unfold recP;rw[A];show(match f (Lib.join g [32]++zoT)with|some a=>(pL t).map (a,·)|none=>N)=_;by_cases w:g.length=4
 .match g,w with
  | [a,b,c,d],_ =>
   obtain⟨rfl,rfl⟩|⟨x,r,rfl,hD,rfl⟩:=j
   .rfl
   .show _=(match f (Lib.join [a,b,c,d] [32]++zoT)with|some y=>(prs (x :: r)).map (y,·)|none=>N);rw[Ph r.length x r Zy hD (λy i=>k y (by simp at i |-;right;right;right;right;exact i))]
 .rw[u g z n w];show N=_;match ws,o,k,j with
  | [],o,_,_=>exact absurd R o
  | [a],_,_,_=>rfl
  | [a,b],_,_,_=>rfl
  | [a,b,c],_,_,_=>rfl
  | a :: b :: c :: d :: r,_,k,j =>
   have m:(isD b\/isD c\/isD d)\/∃e l,r=e :: l/\¬ isD e:=by
    match g,z,w,p,j with
    | [],h,_,_,_=>exact absurd R h
    | [_],_,_,_,Zj ⟨x,l,e,hD,_⟩=>injection e with _ e;injection e with e _;left;left;rw[e];exact hD
    | [_,_],_,_,_,Zj ⟨x,l,e,hD,_⟩=>injection e with _ e;injection e with _ e;injection e with e _;left;right;left;rw[e];exact hD
    | [_,_,_],_,_,_,Zj ⟨x,l,e,hD,_⟩=>injection e with _ e;injection e with _ e;injection e with _ e;injection e with e _;left;right;right;rw[e];exact hD
    | [_,_,_,_],_,h,_,_=>exact absurd R h
    | _ :: _ :: _ :: _ :: e :: g,_,_,p,j =>
     right;obtain⟨_,q⟩|⟨x,l,q,_⟩:=j
     .injection q with _ q;injection q with _ q;injection q with _ q;injection q with _ q
      exact⟨e,g,q.symm,p e WU⟩
     .injection q with _ q;injection q with _ q;injection q with _ q;injection q with _ q
      exact⟨e,_,q,p e WU⟩
    | [_],_,_,_,Zi ⟨_,q⟩=>injection q with _ q;cases q
    | [_,_],_,_,_,Zi ⟨_,q⟩=>injection q with _ q;injection q with _ q;cases q
    | [_,_,_],_,_,_,Zi ⟨_,q⟩=>injection q with _ q;injection q with _ q;injection q with _ q;cases q
   show N=(match f (Lib.join [a,b,c,d] [32]++zoT)with|some y=>(prs r).map (y,·)|none=>N);obtain B|⟨e,l,rfl,C⟩:=m
   .rw[v a b c d (λy i=>k y (by simp at i |-;rcases i with h|h|h|h<;>simp[h])) B]
   .rw[Q6 C];cases f (Lib.join [a,b,c,d] [32]++zoT)<;>rfl
theorem PM(l:List (I1)):l.map ((λx:I4=>x.data.toList) ∘ λl:I1=>(⟨l.toArray⟩:I4))=l:=by have:((λx:I4=>x.data.toList) ∘ λl:I1=>(⟨l.toArray⟩:I4))=id:=R;rw[this,List.map_id]
theorem Kt(a:List (I1))(f:a≠[])(g:∀y∈a,(32:UInt8)∉y)(j:a.length≠4):xG ⟨(Lib.join a [32]++zoT).toArray⟩=N:=by
 have e:Lib.join a [32]++zoT=Lib.join (a++[[48],[49]]) [32]:=by obtain⟨x,r,rfl⟩:=XI f;rw[YA,Lib.join_cons,Lib.join_cons];simp[Lib.joinTail,zoT]
 have d:=(qvk 32 7 O ⟨(Lib.join a [32]++zoT).toArray⟩ ((a++[[48],[49]]).map λl:I1=>(⟨l.toArray⟩:I4)) (λx i=>by
  obtain⟨y,b,rfl⟩:=YL.1 i;obtain b|b:=Yi.1 b
  .exact g y b
  .obtain rfl|b:=Yj.1 b
   .decide
   .rw[qT.1 b];decide) WU (by rw[List.map_map,PM];exact e.symm) 6 O).2 WX
 unfold xG;split
 .rename_i h;rw[h]at d;exact absurd R d
 .rfl
theorem Jr(l:I1):(⟨l.toArray⟩:I4).data.toList=l:=R
theorem LM(l:I1):(⟨l.toArray⟩:I4).toList=l:=by rw[Xl]
theorem Qw(h:isD y):kO ⟨y.toArray⟩=N:=by unfold kO;rw[LM,Hp h,qF WU,qF WU]
theorem Ru(h:isD y):vS y=N:=by
 rw[Hp h];generalize y.drop 2=r;unfold vS;rw[qF WU];have tp:∀c:UInt8,c≠59->Lib.trimPrefix (59 :: 68 :: r) [c]=59 :: 68 :: r:=λc b=>by simp[Lib.trimPrefix,Lib.hasPrefix,List.isPrefixOf,b]
 have a:jN (59 :: 68 :: r) 4=59 :: 68 :: r:=by simp only[jN];rw[tp (vn 0) WW,tp (vn 1) WW,tp (vn 2) WW,tp (vn 3) WW]
 rw[a];simp
theorem Sm(h:isD y):v8 ⟨y.toArray⟩=N:=by
 unfold v8;rw[LM,Hp h,qF WU];generalize y.drop 2=r;unfold uX;split
 .rename_i b;rw[qF]
  .rfl
  .rintro⟨a,_⟩;have:((⟨(59 :: 68 :: r).toArray⟩:I4)[0]' O)=59:=R;rw[this]at a;exact absurd a WW
 .rfl
theorem Q3(a b c d:I1)(j:∀y∈[a,b,c,d],(32:UInt8)∉y)(g:isD b\/isD c\/isD d):xG ⟨(Lib.join [a,b,c,d] [32]++zoT).toArray⟩=N:=by
 have e:Lib.join [a,b,c,d] [32]++zoT=Lib.join ([a,b,c,d]++[[48],[49]]) [32]:=by rw[YA,Lib.join_cons,Lib.join_cons];simp[Lib.joinTail,zoT]
 have i:=(qvk 32 7 O ⟨(Lib.join [a,b,c,d] [32]++zoT).toArray⟩ (([a,b,c,d]++[[48],[49]]).map λl:I1=>(⟨l.toArray⟩:I4)) (λx k=>by
  obtain⟨y,f,rfl⟩:=YL.1 k;obtain f|f:=Yi.1 f
  .exact j y f
  .obtain rfl|f:=Yj.1 f
   .decide
   .rw[qT.1 f];decide) WU (by rw[List.map_map,PM];exact e.symm) 6 O).1 WU
 unfold xG;rw[i];show Ac ⟨a.toArray⟩ ⟨b.toArray⟩ ⟨c.toArray⟩ ⟨d.toArray⟩ _ _=N;unfold Ac;obtain h|h|h:=g
 .rw[Qw h];cases j7 ⟨a.toArray⟩<;>rfl
 .rw[Jr,Ru h];cases j7 ⟨a.toArray⟩<;>cases kO ⟨b.toArray⟩<;>rfl
 .rw[Sm h];cases j7 ⟨a.toArray⟩<;>cases kO ⟨b.toArray⟩<;>cases vS (⟨c.toArray⟩:I4).data.toList<;>rfl
def JW(D M:Nat)(l:I1):Int:=match (kZ D l).filter (λn=>Zm (n<=M))with|some n=>(n:Int)|none=>-1
theorem JV(D M:Nat)(s:I4)(j:s.size<=maxLen)(h:s.size<1\/D<s.size\/(1<s.size/\s.data.toList.head?=S 48))(w:I6):Calls prog 199 #[Zb s,I L D,I L M] w λe w'=>e=Zd (I L (JW D M s.data.toList))/\w'=w:=by
 have a:JW D M s.data.toList=-1:=by
  have:kZ D s.data.toList=N:=by
   unfold kZ;rw[qF];rintro⟨g,i,f,_⟩;simp only[ZX,YY]at g i f;obtain h|h|h:=h
   .omega
   .omega
   .exact f h.1 h.2
  unfold JW;rw[this];rfl
 rw[a];clear a;unfold maxLen at j;by_cases c1:s.size=0
 .exact IW
 .by_cases c2:D<s.size
  .have b:(D:Int)<(s.size:Int):=O;exact IW
  .have b:¬ (D:Int)<(s.size:Int):=O;have c3:1<s.size:=O;have d:s[0]=48:=by exact OV
   have k:s[0].toNat=48:=by rw[d];rfl
   clear h d;exact IW
theorem JU(D M:Nat)(T:D<=9)(s:I4)(C:1<=s.size)(R:s.size<=D)(q:s.size<=1\/s.data.toList.head?≠S 48)(w:I6):Calls prog 199 #[Zb s,I L D,I L M] w λe w'=>e=Zd (I L (JW D M s.data.toList))/\w'=w:=by
 have m:Y (∀k (h:k<s.size),dg s[k]=Zl->JW D M s.data.toList=-1):=by
  intro k h p;have:kZ D s.data.toList=N:=by unfold kZ;rw[qF];rintro⟨_,_,_,g⟩;rw[iy s k h p]at g;exact absurd g WW
  unfold JW;rw[this];rfl
 have l:Y (s.data.toList.all dg=Zk->JW D M s.data.toList=if dv s.data.toList<=M then(dv s.data.toList:Int)else -1):=by
  intro f;have r:1<=s.data.toList.length/\s.data.toList.length<=D/\(1<s.data.toList.length->s.data.toList.head?≠S 48):=by simp only[ZX,YY];exact⟨C,R,λh=>q.resolve_left O⟩
  unfold JW kZ;rw[qI ⟨r.1,r.2.1,r.2.2,f⟩];by_cases p:dv s.data.toList<=M
  .rw[qI p];simp[Option.filter,p]
  .rw[qF p];simp[Option.filter,p]
 have r:s.size<=1\/((s[0].toNat:Int)==48)=Zl:=by exact OW
 clear q;generalize JW D M s.data.toList=V at m l |-;by_cases a4:s.size<=1;all_goals
  have A:1<s.size->((s[0].toNat:Int)==48)=Zl:=λh=>r.resolve_left O;clear r;try have a7:=A O
  clear A;have P:¬ (D:Int)<(s.size:Int):=O
  have a5:((s.size:Int)==0)=Zl:=Vp
  have a6:¬ s.size=0:=O
  have a2:¬ s=ByteArray.empty:=λe=>by rw[e]at C;exact absurd C WW
  go_enter func199,ntmps199;go_wp2;go_loopg [7,8] s.size (λg n i wr=>∃k:Nat,k+g=s.size/\i=I L k/\n=I L (dv (s.data.toList.take k))/\(s.data.toList.take k).all dg=Zk/\wr=w)
  case atStart=>exact⟨0,O,rfl,rfl,rfl,rfl⟩
  case round =>
   obtain⟨k,k1,rfl,rfl,f,rfl⟩:=hrel;have B:=tP k (s.data.toList.take k) WX f;have b:=X f;clear f;by_cases y:k<s.size
   .have E:10 ^ k<=10 ^ 8:=X8 O O;have F:dv (s.data.toList.take k)<=99999999:=O
    clear B E;have z:=X (xi s k y);generalize p:dv (s.data.toList.take k)=d at F;have G:=X p;clear p;have u:=EY s[k];obtain⟨x,a0⟩:=Zn (Lib.indexByte (ByteArray.mk #[48,49,50,51,52,53,54,55,56,57]).data.toList s[k]);rw[show ixd s[k]=x from a0.a]at u;cases j:dg s[k]with
    | false =>
     rw[j,qF WW]at u;have a:=X (m.a k y j);subst u;clear j;go_wp2_with(go_at_call 111;refine(xa _ WW _ _).mono ?_;rintro e w' ⟨rfl,rfl⟩;rw[a0.a]);go_ret;exact⟨xo a.a.symm,rfl⟩
    | true =>
     rw[j,qI rfl]at u;have J:48<=s[k].toNat/\s[k].toNat<=57:=by unfold dg at j;simpa using j
     have a3:0<=x/\x<=9:=O
     have H:Y (((10*d+(s[k].toNat-48):Nat):Int)=10*(d:Int)+x):=X O;have v:=X j;clear j u J;go_wp2_with(go_at_call 111;refine Z1 (xa _ WW _ _) ?_;rw[a0.a]);go_roundg (gk-1)
     case measure=>omega
     case rel =>
      refine⟨k+1,O,Vg,?_,?_,rfl⟩
      .rw[z.a,yz,G.a,H.a]
      .rw[z.a,Xf,b.a];simp[v.a]
   .have Q:k=s.size:=O
    subst Q;have o:s.data.toList.take s.size=s.data.toList:=Yk WU;rw[o]at b B |-;clear o;have a:=X (l.a b.a);clear l b m;generalize dv s.data.toList=d at a B |-;have W:d<1000000000:=Tv
    clear B;by_cases K:d<=M
    .rw[qI K]at a;have a1:¬ (M:Int)<d:=O
     go_wp2;go_ret;exact⟨xo a.a.symm,rfl⟩
    .rw[qF K]at a;have a1:(M:Int)<d:=O
     go_wp2;go_ret;exact⟨xo a.a.symm,rfl⟩
theorem ry(D M:Nat)(a:D<=9)(s:I4)(b:s.size<=maxLen)(w:I6):Calls prog 199 #[Zb s,I L D,I L M] w λe w'=>e=Zd (I L (JW D M s.data.toList))/\w'=w:=by
 by_cases h:s.size<1\/D<s.size\/(1<s.size/\s.data.toList.head?=S 48)
 .exact JV D M s b h w
 .exact JU D M a s O O (by
   by_cases g:s.size<=1
   .exact Or.inl g
   .exact Or.inr λe=>h (Or.inr (Or.inr ⟨O,e⟩))) w
def depI(lo:Nat)(l:I1):Int:=match df lo l with|some d=>(d:Int)|none=>-1
theorem TV(a:Nat)(l:I1):depI a l=if JW 1 3 l<(a:Int)then -1 else JW 1 3 l:=by
 unfold depI df JW;cases kZ 1 l with
 | none=>simp[Option.filter]
 | some d =>
  by_cases b:a<=d<;>by_cases e:d<=3<;>simp[Option.filter,b,e]<;>omega
theorem pn(s:I4)(d:s.size<=maxLen)(b:Nat)(w:I6):Calls prog 162 #[Zb s,I L b] w λe w'=>e=Zd (I L (depI b s.data.toList))/\w'=w:=by
 have a:=X (ry 1 3 O s d w);rw[TV];generalize JW 1 3 s.data.toList=v at a;go_enter func162,ntmps162;by_cases h:v<(b:Int)
 .rw[qI h];go_wp2_with(go_at_call 199;refine a.a.mono ?_;rintro e w' ⟨rfl,rfl⟩);exact WB
 .rw[qF h];go_wp2_with(go_at_call 199;refine Z1 a.a ?_);exact WB
theorem H8:∀(l:I1),Lib.index l [32]=Lib.indexByte l 32
 | []=>rfl
 | b :: l=>by
  unfold Lib.index Lib.indexByte;rw[H8 l];by_cases h:b=32
  .simp[h,List.isPrefixOf]
  .have a:(b==32)=Zl:=by rw[qM];exact h
   rw[a,qF (by simp[List.isPrefixOf];exact λe=>h e.symm)];rfl
theorem Nv(s:I4)(q:s.size<4294967281)(w:I6):ZL 72 #[Zb s] w (Ze #[Zb ⟨(Lib.cut s.data.toList [32]).1.toArray⟩,Zb ⟨(Lib.cut s.data.toList [32]).2.1.toArray⟩,Za (Lib.cut s.data.toList [32]).2.2]):=by
 have g:=X (xa s Vk 32 w);have f:s.data.toList.length=s.size:=WU;unfold Lib.cut;rw[H8];obtain d|d:=Int.lt_or_le (Lib.indexByte s.data.toList 32) 0
 .rw[qF O];generalize Lib.indexByte s.data.toList 32=v at g d;have b:Y ((⟨s.data.toList.toArray⟩:I4)=s):=X R;show Calls _ _ _ _ λe w'=>e=Zd (Ze #[Zb ⟨s.data.toList.toArray⟩,Zb ⟨#[]⟩,Za Zl])/\Gr w w';rw[b.a];clear b;go_enter func72,ntmps72;go_wp2_with(go_at_call 111;refine g.a.mono ?_;rintro e w' ⟨rfl,rfl⟩);refine ZS (results_tmp3 R _ _ _) R ?_;exact⟨R,ZO⟩
 .rw[qI d];obtain⟨i,h⟩:=Yt d;have a:=Lib.index_room s.data.toList [32] (by rw[H8];exact d);rw[H8,h,f]at a;rw[h]at g |-;have m:i+1<=s.size:=by have p:(i:Int)+1<=s.size:=VS;omega
  have o:IntKind.i64.wrap ((i:Int)+1)=((i+1:Nat):Int):=Vc;have l:¬ (i:Int)<0:=O;have j:(⟨(s.data.toList.take i).toArray⟩:I4)=s.extract 0 i:=eu (by rw[Lib.extract_from_zero]);have k:(⟨(s.data.toList.drop (i+1)).toArray⟩:I4)=s.extract (i+1) s.size:=eu (by rw[Lib.extract_to_end]);show Calls _ _ _ _ λe w'=>e=Zd (Ze #[Zb ⟨(s.data.toList.take i).toArray⟩,Zb ⟨(s.data.toList.drop (i+1)).toArray⟩,Za Zk])/\Gr w w';rw[j,k];have n:∀W,(Instr.slice 9 (Zb s) N (S (I L i)) N).run prog W=.ok (Zb (s.extract 0 i)) W:=λW=>run_slice_string_h W 9 s underlying9 L (i:Int) O O;generalize s.extract 0 i=r at n;clear j k a f d h;go_enter func72,ntmps72;go_upto_region 4 with(go_at_call 111;refine Z1 g.a ?_);go_quiet(fail);go_wp2_with fail;go_ret3;exact⟨R,ZO.drewN _⟩
structure LSt where
 z:I2
 wh:Bool
 fc:I5
 b:Int
 h:Int
 g:Int
def LSt.ok(s:LSt):Prop:=Ok s.z s.wh s.fc s.b s.h s.g
def LSt.row(s:LSt)(PA:I0):Prop:=jE s.z s.wh s.fc s.b s.h s.g PA
def LSt.mov(s:LSt):List Mv:=xC s.z s.wh s.fc s.b
def LSt.aft(s:LSt)(x:Mv):LSt:=⟨zE s.z s.b x,!s.wh,kB s.fc x.1 x.2.1 4,vK s.z x.1 x.2.1,kK s.z x.1 x.2.1 s.h,kj s.wh s.g⟩
def LSt.text(s:LSt):I1:=oI s.z s.wh s.fc s.b s.h s.g
def LSt.of(p:pH):LSt:=⟨xM p,p.white,yC p.castle,p.behind,p.half,p.full⟩
def LSt.paths(s:LSt)(d:Nat):Nat:=pathsN d s.z s.wh s.fc s.b
theorem LSt.ok_of{x:I4}{p:pH}(b:xG x=S p)(a:xP p=Zk):(LSt.of p).ok:=Ok.of b a
theorem LSt.row_of{x:I4}{p:pH}(a:xG x=S p):(LSt.of p).row (jV p):=F5 (jo a)
theorem LSt.ok_aft{s:LSt}(o:s.ok){x:Mv}(a:x∈s.mov):(s.aft x).ok:=Ok.next o a
theorem LSt.short{s:LSt}(o:s.ok):(xJ s.text).size<4294967281:=tN o.can
theorem fV{s:LSt}(o:s.ok):∃p,xG (xJ s.text)=S p/\xP p=Zk/\LSt.of p=s:=by
 obtain⟨z,wh,fc,b,h,g⟩:=s;have l:z=zB ((List.range 64).map z):=Qn o.nz;have e:((List.range 64).map z).length=64:=WU;have k:k6 (zB ((List.range 64).map z)) wh fc b h g=Zk:=by rw[<-l];exact o.can
 obtain⟨p,q,u,v,w,x,y⟩:=JQ e k;have d:jE (zB ((List.range 64).map z)) wh fc b h g (kU ((List.range 64).map λn=>Value.int Zg ((z n).toNat:Int)).toArray wh (fc 0) (fc 1) (fc 2) (fc 3) b h g):=by rw[<-l];exact qkb z ((List.range 64).map λn=>Value.int Zg ((z n).toNat:Int)).toArray WU (λi B=>by simp[B]) wh fc b h g
 have a:=A2 e d k (Zi ⟨p,q,u,R⟩);injection a with a;injection a with a;have a:[Value.agg (jV p),I L 0]=[Zc (kU ((List.range 64).map λn=>Value.int Zg ((z n).toNat:Int)).toArray wh (fc 0) (fc 1) (fc 2) (fc 3) b h g),I L 0]:=Xn Array.toList a;injection a with a _;injection a with a;have r:=jo q;rw[a]at r;have f:=(r.h).symm.trans d.h;have j:=(r.g).symm.trans d.g;injection f with f;injection f with _ f;injection j with j;injection j with _ j;refine⟨p,by show xG ⟨(oI z wh fc b h g).toArray⟩=_;rw[l];exact q,u,?_⟩;have A:yC p.castle=fc:=by
  funext n;by_cases m:n<4
  .rw[fU _ m,x n m]
  .have:=o.nf n O;show(Zm (n<4)&&_)=_;rw[qE m];exact this.symm
 unfold LSt.of;rw[v,w,y,A,f,j,<-l]
def kt(n:Nat):I4:=xJ (Lib.decDigits n)
def KY(s:LSt):I4:=if s.mov=[]then xJ [110,111,110,101]else xJ (Lib.join ((jI s.mov).map yJ) [32])
def rx(n:Int):I1:=if n=0 then[111,112,101,110]else if n=1 then[109,97,116,101]else if n=2 then[115,116,97,108,101,109,97,116,101]else[100,101,97,100]
def HD(s:LSt):I4:=xJ (rx (yO s.z (kz s.z s.wh) (s.mov.length:Int))++if kz s.z s.wh=Zk then[32,99,104,101,99,107]else[])
def ex(s:LSt):I4:=xJ ([111,107,32]++s.text)
def fk(s:LSt):List (Nat × Nat)->I4
 | []=>xJ [112,97,115,115]
 | (d,n) :: l=>if s.paths d=n then fk s l else xJ ([102,97,105,108,32,68]++Lib.decDigits d++[32]++Lib.decDigits (s.paths d))
def Hq(d:Nat)(s:LSt):I3:=(HQ d s.z s.wh s.fc s.b (jI s.mov)).map (λc=>c.1++xJ [32]++kt c.2)++[xJ ([115,117,109,32]++Lib.decDigits (s.paths (d+1)))]
def posP(l:I1):Option pH:=match xG ⟨l.toArray⟩with|some p=>if xP p=Zk then S p else N|none=>N
theorem H3{l:I1}{p:pH}(h:posP l=S p):xG ⟨l.toArray⟩=S p/\xP p=Zk:=by grind[posP]
theorem La{l:I1}{p:pH}(h:posP l=S p){e:Ending}(d:ly ⟨l.toArray⟩ e):e=Zd (Ze #[Zc (jV p),Za Zk]):=by
 obtain⟨a,b⟩:=H3 h;obtain⟨q,c,_,rfl⟩|⟨c,_⟩:=d
 .rw[a]at c;rw[qP c]
 .rw[c p a]at b;cases b
theorem NB{l:I1}(h:posP l=N){e:Ending}(f:ly ⟨l.toArray⟩ e):∃A:I0,A.size=72/\A.all (·.oneCell')=Zk/\e=Zd (Ze #[Zc A,Za Zl]):=by
 obtain⟨q,a,b,rfl⟩|⟨_,d⟩:=f
 .unfold posP at h;rw[a]at h;have d:(if xP q=Zk then S q else N)=N:=h;rw[qI b]at d;cases d
 .exact d
theorem Li{α:Type}(f:List UInt8->Option α){s h:I1}{t:List (I1)}(e:spl s=h :: t)(b:f (h++zoT)=N):recP f s=N:=by exact Is
theorem JP{α:Type}(f:List UInt8->Option α){s h:I1}{t:List (I1)}{a:α}(e:spl s=h :: t)(b:f (h++zoT)=S a):recP f s=(pL t).map λq=>(a,q):=by exact Is
def eK(PA:I0)(v:I7):I0:=PA++#[v]
def S7(c:Nat × Nat):List I7:=[I L (c.1:Int),I Zh (c.2:Int)]
def Hy(l:List (Nat × Nat)):List I7:=l.flatMap S7
def Tls(base:Nat)(v:I7)(l:List (Nat × Nat))(w:I6):Prop:=w.ownsRow base 335 2 v l.length (Hy l)
def Ma(base:Nat)(r:Option (pH × List (Nat × Nat)))(e:Ending)(w':I6):Prop:=match r with
 | some (p,tl)=>∃v,e=Zd (Ze #[Zc (eK (jV p) v),Za Zk])/\Tls base v tl w'
 | none=>∃A:I0,A.size=73/\A.all (·.oneCell')=Zk/\e=Zd (Ze #[Zc A,Za Zl])
theorem LX(a:I4):∀(k:Nat)(s:I4),∀x∈Lib.splitB a 0 k s,x.size<=s.size
 | 0,s,x,h=>by rw[Lib.splitB_zero,qT]at h;rw[h];exact Zy
 | k+1,s,x,h=>by
  rw[Lib.splitB]at h;split at h
  .rw[qT]at h;rw[h];exact Zy
  .obtain rfl|h:=Yj.1 h
   .rw[Wu];omega
   .have:=LX a k _ x h;rw[Wu]at this;omega
theorem Hi:∀{a:List (I1)} {l:List (Nat × Nat)} {p:I1} {t:Nat × Nat},pL a=S l->e8 p=S t->pL (a++[p])=S (l++[t])
 | [],l,p,t,h,h2=>by
  have:=qP (show S []=S l from h);rw[<-this];show pL [p]=_;rw[pL,h2];rfl
 | q :: a,l,p,t,h,h2=>by
  rw[YA,pL];rw[pL]at h;cases d:e8 q with
  | none=>rw[d]at h;cases h
  | some c =>
   rw[d]at h;cases b:pL a with
   | none=>rw[b]at h;cases h
   | some l' =>
    rw[b]at h;have:=qP (show S (c :: l')=S l from h);show Option.map _ _=_;rw[Hi b h2,<-this];rfl
theorem Hj:∀{a:List (I1)} {p:I1},p∈a->e8 p=N->pL a=N
 | [],_,h,_=>by cases h
 | q :: a,p,h,h2=>by
  rw[pL];obtain rfl|h:=Yj.1 h
  .rw[h2]
  .rw[Hj h h2];cases e8 q<;>rfl
theorem Hg:(prog.info? 331).map (·.size)=S 73:=WR
theorem RX:(prog.info? 335).map (λi=>(i.zero,i.size,i.bytes))=S (S (Zc #[I L 0,I Zh 0]),2,16):=WR
theorem HR:prog.built 331 []=S (eK zeroCells70 (Zq N 0 0)):=WR
theorem br(h:PA.all (·.oneCell')=Zk){a:Option Addr}{b c:Nat}:(eK PA (Zq a b c)).all (·.oneCell')=Zk:=by unfold eK;rw[Wo,h];simp[Value.oneCell']
theorem Mi:(Obj.cells zeroCells331 331)=Z (eK zeroCells70 (Zq N 0 0)) 331:=Vb
theorem Ry(a:List (Nat × I7)):prog.built 331 a=Instr.fill (λi=>(#[(0,72),(72,1)]:Array (Nat × Nat))[i]?) zeroCells331 a:=WR
theorem Mm:zeroCells331.size=73:=WR
theorem Pc:zeroCells331[72]?=S (Zq N 0 0):=WR
theorem MR(a:I0)(d:a.size=72):prog.built 331 [(0,Zc a)]=S (eK a (Zq N 0 0)):=by
 rw[Ry];have f:=zo 0 a zeroCells331;have z:=Mm;rw[xv _ _ 0 0 72 _ _ R (by simpa[Value.cells]using d) O];simp only[Instr.fill,Value.cells,Xh];apply YV;intro i;rw[f.2 i O];unfold eK;rw[Y7,d];by_cases b:i<72
 .rw[qI ⟨O,O⟩,qI b];simp
 .rw[qF O,qF b];by_cases e:i=72
  .rw[e,Pc];rfl
  .rw[Z6 O,Z6 WX]
theorem J2(a:PA.size=72)(v:I7):(eK PA v)[72]?=S v:=by unfold eK;rw[Y7,a,qF O];rfl
theorem NG(a:PA.size=72)(v v':I7):(eK PA v).setIfInBounds 72 v'=eK PA v':=by unfold eK;rw[Array.setIfInBounds_append_right O,a];rfl
theorem vl(a:PA.size=72)(v:I7):(eK PA v).size=73:=by unfold eK;simp[a]
theorem K7(w:I6)(a b:Nat):∀j d,[Value.int L (a:Int),I Zh b][j]?=S d->(w.alloc (Z #[I L a,I Zh b] 335)).cell? ((⟨w.heap.size,0,N⟩:Addr).add j)=S d:=λj d e=>by
 rw[X2,Z2,Z8 _ _ _ _ R,<-qO];exact e
theorem N5{l:List (Nat × Nat)}(h:Tls base v l W):∃a b c,v=Zq a b c:=by
 obtain⟨rfl,_⟩|⟨d,cap,cur,rfl,_⟩:=h.2
 .exact⟨_,_,_,R⟩
 .exact⟨_,_,_,R⟩
theorem N6{l:List (Nat × Nat)}{q:Nat}{c:I0}{t:TypeId}{fr:Nat × Nat}(h:Tls base v l W)(a:W.heap[q]?=S (Z c t fr))(f:335≠t):S q≠v.ownBlock:=λd=>by
 obtain⟨rfl,_⟩|⟨e,cap,cur,rfl,_,b,_⟩:=h.2
 .simp[Value.ownBlock]at d
 .obtain rfl:q=e:=by simpa[Value.ownBlock]using d
  rw[b]at a;injection a with a
  injection a with _ a _
  exact f a
theorem Pi{l:List (Nat × Nat)}(h:Tls base v l W):∀q,v.ownBlock=S q->base<=q:=by exact O9
theorem KL{l:List (Nat × Nat)}{d:I6}{c:I0}{t:TypeId}(h:Tls base v l W)(i:W.heap[B]?=S (Z c t))(k:335≠t)(f:∀q o,q≠B->W.heap[q]?=S o->d.heap[q]?=S o):Tls base v l d:=by
 refine⟨h.1,?_⟩;obtain g|⟨q,cap,cur,m,j,a,b⟩:=h.2
 .exact Zi g
 .exact Zj ⟨q,cap,cur,m,j,f _ _ (λe=>by rw[e,i]at a;injection a with a;injection a with _ a _;exact k a.symm) a,b⟩
structure Rw(B0 B1 B7 base:Nat)(PB:I0)(ps:I3)(v:I7)(l:List (Nat × Nat))(w W:I6):Prop where
 r0:W.heap[B0]?=S (Z (eK zeroCells70 (Zq N 0 0)) 331)
 r1:W.heap[B1]?=S (Z (ps.map Value.string).toArray 9)
 r7:W.heap[B7]?=S (Z (eK PB v) 331)
 own:Tls base v l W
 gr:Gr w W
theorem Tls.gr{l:List (Nat × Nat)}{b:I6}(h:Tls base v l W)(k:Gr W b):Tls base v l b:=by
 refine⟨h.1,?_⟩;obtain e|⟨q,cap,cur,g,f,d,a⟩:=h.2
 .exact Zi e
 .exact Zj ⟨q,cap,cur,g,f,(ZE k d),a⟩
theorem Rw.next{B0 a b:Nat}{d:I0}{f:I3}{l:List (Nat × Nat)}{e:I6}(h:Rw B0 a b base d f v l w W)(k:Gr W e):Rw B0 a b base d f v l w e :=
 ⟨(ZE k h.r0),(ZE k h.r1),(ZE k h.r7),Tls.gr h.own k,Gr.trans h.gr k⟩
theorem HW(t:I4)(hs:t.size<=2000000000)(m:Int)(w:I6)(hm:w.cell? ⟨4,0,N⟩=S (I L m))(a4:4<w.heap.size)(hT:jF w)(hH:vJ w) :
 Calls prog 285 #[Zb t] w λe w'=>Ma w.heap.size (recP posP t.data.toList) e w'/\Gr w w':=by
 have J:=Lib.splitB_all ⟨#[32,59,68]⟩ WW 0 _ t R;have d3:=Lib.countB_le ⟨#[32,59,68]⟩ WW t.size t Zy;have b3:=LX ⟨#[32,59,68]⟩ (Lib.countB t ⟨#[32,59,68]⟩) t;have j:(Lib.splitB ⟨#[32,59,68]⟩ 0 (Lib.countB t ⟨#[32,59,68]⟩) t).map (·.data.toList)=spl t.data.toList:=Lib.splitB_data ⟨#[32,59,68]⟩ 0 _ t;have a7:Y (∀W,W.cell? ⟨4,0,N⟩=S (I L m)->Calls prog 321 #[Zb t,Zb ⟨#[32,59,68]⟩] W λe w'=>e=Zd (Zq (S ⟨W.heap.size,0,N⟩) (Lib.countB t ⟨#[32,59,68]⟩+1) (Lib.countB t ⟨#[32,59,68]⟩+1))/\w'=W.alloc (Z ((Lib.splitB ⟨#[32,59,68]⟩ 0 (Lib.countB t ⟨#[32,59,68]⟩) t).map Value.string).toArray 9)):=X λW h=>Tryz.strings_Split t ⟨#[32,59,68]⟩ m W O h WW;generalize Lib.splitB ⟨#[32,59,68]⟩ 0 (Lib.countB t ⟨#[32,59,68]⟩) t=ps at J b3 j a7;generalize Lib.countB t ⟨#[32,59,68]⟩=k8 at J d3 a7;obtain⟨C,r,rfl⟩:∃C r,ps=C :: r:=by
  cases ps with
  | nil=>simp at J
  | cons a b=>exact⟨a,b,R⟩
 rw[YM]at j;have f7:k8=r.length:=by simp at J;omega
 subst f7;clear J;have h3:=b3 C WU;have f0:(w.alloc (Z zeroCells331 331)).cell? ⟨4,0,N⟩=S (I L m):=by rw[YZ _ _ _ a4];exact hm
 have B:=X (a7.a _ f0);rw[YM]at B;have h6:Gr w ((w.alloc (Z zeroCells331 331)).alloc (Z (Value.string C :: r.map Value.string).toArray 9)):=ZN.al;obtain⟨G,x1⟩:=s6 w (Z zeroCells331 331) (Z (Value.string C :: r.map Value.string).toArray 9);have G:=G.trans (Xn S Mi);have f4:(w.alloc (Z zeroCells331 331)).heap.size=w.heap.size+1:=WU;rw[f4]at B;have P:Y (C++⟨#[32,48,32,49]⟩=(⟨(C.data.toList++zoT).toArray⟩:I4)):=X (eu (by simp[zoT]));have b5:Y (∀W,Gr w W->Calls prog 278 #[Zb ⟨(C.data.toList++zoT).toArray⟩] W λe w'=>ly ⟨(C.data.toList++zoT).toArray⟩ e/\Gr W w'):=X λW g=>HX _ (by show(C.data.toList++zoT).toArray.size<_;simp[zoT];omega) m W ((ZW g a4).trans hm) (qN a4 (ZR g)) (hT.gr g) (hH.gr g);cases h7:posP (C.data.toList++zoT)with
 | none =>
  have z:Y (∀W,Gr w W->Calls prog 278 #[Zb (C++⟨#[32,48,32,49]⟩)] W λe w'=>(∃A:I0,A.size=72/\A.all (·.oneCell')=Zk/\e=Zd (Ze #[Zc A,Za Zl]))/\Gr W w'):=X λW g=>by
   rw[P.a];exact(b5.a W g).mono λe w' k=>⟨NB h7 k.1,k.2⟩
  rw[Li posP j.symm h7];clear b5 P h7 j;go_enter func285,ntmps285;go_upto_region 2 with(go_at_call 321;refine B.a.mono ?_;rintro e w' ⟨rfl,b0⟩;rw[b0];clear b0);generalize (w.alloc (Z zeroCells331 331)).alloc (Z (Value.string C :: r.map Value.string).toArray 9)=w1 at h6 G x1 |-;have c0:w1.cell? ⟨w.heap.size+1,0,N⟩=S (Zb C):=by rw[Zs x1];rfl
  have K:=X (z.a _ h6);have g5:(0:Int)<((r.length+1:Nat):Int):=O
  clear z B a7
  go_upto_region 3 with(first
   | (go_at_call 278;refine K.a.mono ?_;rintro e D ⟨⟨A,hz,ho,rfl⟩,V⟩)
   | (refine ZC D.heap.size A Zv hz ho ?_))
  have x2:=(ZE V G);have h8:Gr D ((D.alloc (Z zeroCells70 70)).setRow D.heap.size A):=ZN.setRow _ Zy _;have x3:=(ZE h8 x2);have k0:=X (Gr.trans h6 (Gr.trans V h8));generalize (D.alloc (Z zeroCells70 70)).setRow D.heap.size A=T at h8 x3 k0 |-;clear G x1 x2 h6 V h8 c0 K
  go_wp2_with(first
   | (refine qqq R 331 #[] R (eK zeroCells70 (Zq N 0 0)) ?_ ?_;focus (first|(go_simp;exact HR)|(simp;exact HR)))
   | (refine ZU R 331 _ _ R w.heap.size (eK zeroCells70 (Zq N 0 0)) R R 331 _ x3 U9 R (br xH) ?_))
  exact ZS (qj results285 _ _ w.heap.size 331 _ (0,0) _ R (Zt x3) underlying331 rfl U9) R ⟨⟨_,vl xF _,br xH,R⟩,k0.a.setRow _ Zy _⟩
 | some p =>
  obtain⟨f3,d2⟩:=H3 h7;have a6:=jo f3
  have z:Y (∀W,Gr w W->ZL 278 #[Zb (C++⟨#[32,48,32,49]⟩)] W (Ze #[Zc (jV p),Za Zk])):=X λW g=>by
   rw[P.a];exact(b5.a W g).mono λe w' k=>⟨La h7 k.1,k.2⟩
  have hz:(jV p).size=72:=jE.size a6;have ho:(jV p).all (·.oneCell')=Zk:=qx a6;have f5:Y (∀(k:Nat)(hk:k<r.length),∀W,Gr w W->Calls prog 322 #[Zb r[k]] W λe w'=>KJ (e8 (r[k]).data.toList) e/\Gr W w'):=X λk hk W g=>JR _ (by have:=b3 r[k] (Xg _ (Xs hk));omega) m W ((ZW g a4).trans hm) (qN a4 (ZR g));have Q:Y (∀v l W',pL (r.map λx:I4=>x.data.toList)=S l->Tls w.heap.size v l W'->Ma w.heap.size ((pL (r.map λx:I4=>x.data.toList)).map λq=>(p,q)) (Zd (Ze #[Zc (eK (jV p) v),Za Zk])) W'):=X λv l W' e k=>by rw[e];exact⟨v,R,k⟩
  have a0:Y (∀W',pL (r.map λx:I4=>x.data.toList)=N->Ma w.heap.size ((pL (r.map λx:I4=>x.data.toList)).map λq=>(p,q)) (Zd (Ze #[Zc (eK zeroCells70 (Zq N 0 0)),Za Zl])) W'):=X λW' e=>by rw[e];exact⟨_,vl xF _,br xH,R⟩
  rw[JP posP j.symm h7];generalize (pL (r.map λx:I4=>x.data.toList)).map (λq=>(p,q))=h5 at Q a0 |-;generalize jV p=H at z hz ho Q;have b7:=X (MR H hz);clear j b5 P h7 f3 d2 a6 f0 a7 b3;go_enter func285,ntmps285;go_upto_region 2 with(go_at_call 321;refine B.a.mono ?_;rintro e w' ⟨rfl,b0⟩;rw[b0];clear b0);generalize (w.alloc (Z zeroCells331 331)).alloc (Z (Value.string C :: r.map Value.string).toArray 9)=w1 at h6 G x1 |-;have c0:w1.cell? ⟨w.heap.size+1,0,N⟩=S (Zb C):=by rw[Zs x1];rfl
  have K:=X (z.a _ h6);have g5:(0:Int)<((r.length+1:Nat):Int):=O
  clear z B
  go_upto_region 3 with(first
   | (go_at_call 278;refine K.a.mono ?_;rintro e D ⟨rfl,V⟩)
   | (refine ZC D.heap.size H Zv hz ho ?_))
  have h8:Gr D ((D.alloc (Z zeroCells70 70)).setRow D.heap.size H):=ZN.setRow _ Zy _;have b4:((D.alloc (Z zeroCells70 70)).setRow D.heap.size H).heap[D.heap.size]?=S (Z H 70):=Zt (Z7 D _);have u:=Gr.trans V h8;generalize (D.alloc (Z zeroCells70 70)).setRow D.heap.size H=T at b4 u |-;generalize D.heap.size=B5 at b4 |-;clear h8 V c0 K;go_upto_region 5 with fail
  go_upto_region 6 with(first
   | (refine ZD B5 H b4 hz ?_)
   | (refine qqq R 331 #[(0,.tmp 25)] R (eK H (Zq N 0 0)) ?_ ?_;focus (first|(go_simp;exact b7.a)|(simp;exact b7.a)))
   | (refine ZU R 331 _ _ R T.heap.size (eK H (Zq N 0 0)) R R 331 _ Zv Uy (by rw[vl hz];exact Mm.symm) (br ho) ?_))
  have b2:Gr T ((T.alloc (Z zeroCells331 331)).setRow T.heap.size (eK H (Zq N 0 0))):=ZN.setRow _ Zy _;have d5:=Gr.trans h6 (Gr.trans u b2)
  have hR:Rw w.heap.size (w.heap.size+1) T.heap.size w.heap.size H (C :: r) (Zq N 0 0) [] w ((T.alloc (Z zeroCells331 331)).setRow T.heap.size (eK H (Zq N 0 0))) :=
   ⟨(ZE (Gr.trans u b2) G),(ZE (Gr.trans u b2) x1),Zt (Z7 T _),⟨R,Zi ⟨R,R⟩⟩,d5⟩
  have c6:w.heap.size<T.heap.size:=qN (qB.1 G).1 (ZR u);generalize (T.alloc (Z zeroCells331 331)).setRow T.heap.size (eK H (Zq N 0 0))=w4 at hR |-;generalize T.heap.size=B7 at hR c6 |-;clear b2 d5 u h6 b4 G x1 b7;have h1:(1:Int)<=((r.length+1:Nat):Int):=O
  have h2:r.length<4294967296:=O
  go_wp2_with fail
  all_goals
   go_loopg [30] r.length (λgk i wr=>∃(k:Nat)(v:I7) (l:List (Nat × Nat)),k+gk=r.length/\i=I L k/\pL ((r.take k).map λx:I4=>x.data.toList)=S l/\l.length=k/\Rw w.heap.size (w.heap.size+1) B7 w.heap.size H (C :: r) v l w wr)
   case atStart=>exact⟨0,_,[],O,R,R,R,hR⟩
   case round =>
    clear hR;obtain⟨k,v,l,k1,rfl,f6,g4,hR⟩:=hrel;have E:=X hR;have a8:=X f6;clear hR f6;by_cases k2:k<r.length
    .first
      | (exfalso;rw[h]at k2;exact absurd k2 (Yy _))
      | (
       have g3:(k:Int)<(r.length:Int):=O
       have g0:wr.cell? ⟨w.heap.size+1,1+k,N⟩=S (Zb r[k]):=by rw[Zs E.a.r1,Xu,YM,Nat.add_comm,List.getElem?_cons_succ,YN,Yf k2];rfl
       have hc:=X (f5.a k k2);have k4:Y ((r[k]).data.toList∈r.map λx:I4=>x.data.toList):=X (List.mem_map_of_mem (Xs k2));have c4:Y ((r.take (k+1)).map (λx:I4=>x.data.toList)=(r.take k).map (λx:I4=>x.data.toList)++[(r[k]).data.toList]):=X (by rw[Yd k2,Ys];rfl);generalize r[k]=y at g0 hc k4 c4;cases k3:e8 y.data.toList with
       | none =>
        have f8:=X (λW'=>a0.a W' (Hj k4.a k3));rw[k3]at hc;have a1:Y (Calls prog 322 #[Zb y] wr λe w'=>(∃a b:Nat,e=Zd (Ze #[Zc #[I L a,I Zh b],Za Zl]))/\Gr wr w'):=X ((hc.a wr E.a.gr).mono λe w' q=>⟨by obtain⟨a,b,_,e1⟩:=q.1;exact⟨a,b,e1⟩,q.2⟩);clear hc k3 k4 c4;go_upto_region 10 with(go_at_call 322;refine a1.a.mono ?_;rintro e w5 ⟨⟨a,b,rfl⟩,a2⟩);have x6:=(E.a.next (Gr.trans a2 ((Gr.refl w5).alloc #[I L a,I Zh b] 335)));generalize w5.alloc (Z #[I L a,I Zh b] 335)=w6 at x6 |-;have G:=x6.r0;have k0:=X x6.gr;clear a1 a2 x6 E
        go_wp2_with(first
         | (refine qqq R 331 #[] R (eK zeroCells70 (Zq N 0 0)) ?_ ?_;focus (first|(go_simp;exact HR)|(simp;exact HR)))
         | (refine ZU R 331 _ _ R w.heap.size (eK zeroCells70 (Zq N 0 0)) R R 331 _ G U9 R (br xH) ?_))
        exact ZS (qj results285 _ _ w.heap.size 331 _ (0,0) _ R (Zt G) underlying331 rfl U9) R ⟨f8.a _,k0.a.setRow _ Zy _⟩
       | some dn =>
        obtain⟨d,n⟩:=dn;rw[k3]at hc;have g6:=X (Hi a8.a k3);have a1:Y (ZL 322 #[Zb y] wr (Ze #[Zc #[I L d,I Zh n],Za Zk])):=X ((hc.a wr E.a.gr).mono λe w' q=>⟨by obtain⟨a,b,e0,e1⟩:=q.1;obtain⟨rfl,rfl⟩:=e0 d n R;exact e1,q.2⟩);clear hc k3 k4;go_upto_region 10 with(go_at_call 322;refine a1.a.mono ?_;rintro e w5 ⟨rfl,a2⟩);have x6:=(E.a.next (Gr.trans a2 ((Gr.refl w5).alloc #[I L d,I Zh n] 335)));have y6:(w5.alloc (Z #[I L d,I Zh n] 335)).heap[w5.heap.size]?=S (Z #[I L d,I Zh n] 335):=Z7 w5 _;generalize w5.alloc (Z #[I L d,I Zh n] 335)=w6 at x6 y6 |-;generalize w5.heap.size=c5 at y6 |-;have h0:=X x6;have c7:w6.cell? ⟨B7,72,N⟩=S v:=by rw[Zs x6.r7,J2 hz]
        have d0:w6.cell? ⟨c5,0,N⟩=S (I L d):=by rw[Zs y6];rfl
        have d1:w6.cell? ⟨c5,1,N⟩=S (I Zh n):=by rw[Zs y6];rfl
        obtain⟨i0,hi,g7,g8,g9⟩:=We RX;have g2:=X hi;have f9:=K7 w6 d n;have h4:=ZR x6.gr;have a3:Gr w6 (w6.alloc (Z #[I L d,I Zh n] 335)):=ZN;have b1:=X (x6.next a3);have f:=X (x6.next a3).own;clear hi a1 a2 x6 y6 E a3;go_upto_region 13 with(at_builtin;refine Xv _ R (.tmp 43) (.tmp 45) 329 rfl w.heap.size 335 i0 (Zc #[I L 0,I Zh 0]) 2 16 underlying329 g2.a g7 g8 g9 R WW v l.length (Hy l) R f.a ⟨w6.heap.size,0,N⟩ 1 1 [I L d,I Zh n] R R f9 Vi Vk O WX ?_;intro v' w8 M F f1;obtain⟨sa,sb,sc,rfl⟩:∃a b c,v'=Zq a b c:=(N5 (l:=l++[(d,n)]) (base:=w.heap.size) (W:=w8) (by unfold Tls Hy;rw[Xj,qZ];exact M));have hw8:=(F.block _ (qB.1 b1.a.r7).1 (N6 f.a b1.a.r7 WW)).trans b1.a.r7;have z5:w8.cell? ⟨B7,72,N⟩=S v:=by { rw[Zs hw8,J2 hz] };have zf:w8.frozen? ⟨B7,72,N⟩=Zl:=HV hw8;have a9:=X hw8;have a5:=X M;have k5:=X F;clear hw8 M F f1)
        have d4:Y (Rw w.heap.size (w.heap.size+1) B7 w.heap.size H (C :: r) (Zq sa sb sc) (l++[(d,n)]) w (w8.setCell ⟨B7,72,N⟩ (Zq sa sb sc))):=X (by
         have hk:=k5.a;have x7:=b1.a;have keep:∀q c t,(w6.alloc (Z #[I L d,I Zh n] 335)).heap[q]?=S (Z c t)->335≠t->q≠B7->(w8.setCell ⟨B7,72,N⟩ (Zq sa sb sc)).heap[q]?=S (Z c t):=λq c t e hn hq=>(Yg w8 _ _ _ hq).trans ((hk.block _ (qB.1 e).1 (N6 f.a e hn)).trans e);refine⟨keep _ _ _ x7.r0 WW O,keep _ _ _ x7.r1 WW (λe=>by have:=x7.r1;rw[e,x7.r7]at this;injection this with this;injection this with _ this _;exact absurd this WW),?_,?_,?_⟩
         .have:=qv (i:=72) (v:=Zq sa sb sc) a9.a
          rwa[NG hz]at this
         .have h9:Tls w.heap.size (Zq sa sb sc) (l++[(d,n)]) w8:=by unfold Tls Hy;rw[Xj,qZ];exact a5.a
          exact KL h9 a9.a WW λq o hq e=>(Yg w8 _ _ _ hq).trans e
         .exact(Below.grown x7.gr hk (ZR x7.gr) (Pi f.a)).setCell (p:=⟨B7,72,N⟩) (Nat.le_of_lt c6) _)
        clear a5 k5 a9 b1 f h0;go_wp2_with fail;go_roundg (gk-1)
        case measure=>omega
        case rel=>exact⟨k+1,Zq sa sb sc,l++[(d,n)],O,Vg,by rw[c4.a];exact g6.a,by simp[g4],d4.a⟩)
    .have ek:k=r.length:=O
     have b6:pL (r.map λx:I4=>x.data.toList)=S l:=by have:=a8.a;rwa[ek,XA]at this
     have hR:=E.a;have g1:=X (λW'=>Q.a v l W' b6);have x7:=hR.r7;have G:=hR.r0;obtain⟨sa,sb,sc,rfl⟩:=N5 hR.own;have f2:=X hR.own;have k0:=X hR.gr;have g3:¬ (k:Int)<(r.length:Int):=O
     clear hR E a8 b6 Q a0 f5
     go_wp2_with(first
      | (refine ZV R 331 _ R B7 R 331 (eK H (Zq sa sb sc)) (0,0) _ x7 underlying331 rfl Uy ?_)
      | (refine ZU R 331 _ _ R w.heap.size (eK H (Zq sa sb sc)) R R 331 _ G Uy (by rw[vl hz,vl xF]) (br ho) ?_))
     exact ZS (qj results285 _ _ w.heap.size 331 _ (0,0) _ R (Zt G) underlying331 rfl Uy) R ⟨g1.a _ (KL f2.a G WW λq o hq e=>by rw[Zu hq];exact e),k0.a.setRow _ Zy _⟩
def Qf(w:I6):Prop:=w.cell? ⟨5,0,N⟩=S (Zb (xJ (rx 0)))/\w.cell? ⟨5,1,N⟩=S (Zb (xJ (rx 1)))/\w.cell? ⟨5,2,N⟩=S (Zb (xJ (rx 2)))/\w.cell? ⟨5,3,N⟩=S (Zb (xJ (rx 3)))
structure LbK(m:Int)(W:I6):Prop where
 ct:Ct m W
 tb:uV W
 pw:HG W
 ow:Qf W
structure N2(n:Nat):Prop where
 a:LD n
 t5:n≠4
 t6:n≠8
 t7:n≠5
theorem HG.fr(h:HG w)(f:Fr Q w w')(b:∀o,Q 8 o):HG w':=by
 have a : prog.globalNamed "internal/strconv.uint64pow10" = S 8 := WR;unfold HG Lib.TabIs World.var? at h |-;rw[a]at h |-;simp only[Option.bind_some]at h |-;cases e:w.heap[8]? with
 | none=>rw[e]at h;cases h
 | some o=>rw[e]at h;rw[f.same _ _ e (b o)];exact h
theorem LbK.fr(h:LbK m w)(f:Fr Q w w')(b:∀k o,¬ N2 k->Q k o):LbK m w':=by have d:∀o,Q 2 o:=λo=>b _ o λk=>k.a.t1 R;have e:∀o,Q 3 o:=λo=>b _ o λk=>k.a.t2 R;have g:∀o,Q 0 o:=λo=>b _ o λk=>k.a.t3 R;have i:∀o,Q 1 o:=λo=>b _ o λk=>k.a.t4 R;have j:∀o,Q 4 o:=λo=>b _ o λk=>k.t5 R;have q6:∀o,Q 8 o:=λo=>b _ o λk=>k.t6 R;have q7:∀o,Q 5 o:=λo=>b _ o λk=>k.t7 R;exact⟨⟨f.cell h.ct.mx (λo _=>j o),qN h.ct.ml f.size,h.ct.tab.fr f d,h.ct.homes.fr f i⟩,⟨h.tb.cas.fr f e,h.tb.st.fr f g⟩,h.pw.fr f q6,f.cell h.ow.1 (λo _=>q7 o),f.cell h.ow.2.1 (λo _=>q7 o),f.cell h.ow.2.2.1 (λo _=>q7 o),f.cell h.ow.2.2.2 (λo _=>q7 o)⟩
theorem LbK.gr(h:LbK m w)(g:Gr w w'):LbK m w':=h.fr (Q:=λ_ _=>True) (Fr.of_gr g) (λ_ _ _=>trivial)
theorem LbK.wt(h:LbK m w):Wt w:=Po h.ct h.tb
structure oj(bl g n base:Nat):Prop where
 b1:bl<base
 b2:g<base
 ne:bl≠g
 le:n<=4096
 a1:N2 bl
 a2:N2 g
 lo:∀k,¬ N2 k->k<base
theorem oj.lc{bl:Nat}(x:oj bl g n base):Sv bl g n base (LC g n):=⟨x.b1,x.b2,x.ne,(Mc g n x.le).st,(Mc g n x.le).ob⟩
structure ux(m:Int)(bl g n base:Nat)(s:LSt)(rs:I3)(W:I6):Prop where
 w:∃PA,s.row PA/\PZ bl g n base (LC g n) PA rs W
 ok:s.ok
 k:LbK m W
 hb:base<=W.heap.size
theorem oj.fr{bl:Nat}(x:oj bl g n base){b:I6}(h:LbK m W)(f:FrL bl g base W b):LbK m b :=
 h.fr f λk _ a=>⟨λe=>a (e▸x.a1),λe=>a (e▸x.a2),Zi (x.lo k a)⟩
theorem ux.gr{bl:Nat}{s:LSt}(h:ux m bl g n base s rs W)(x:oj bl g n base)(k:Gr W a):ux m bl g n base s rs a:=by obtain⟨PA,b,d⟩:=h.w;exact⟨⟨PA,b,d.gr x.lc k⟩,h.ok,h.k.gr k,q7 h.hb (ZR k)⟩
theorem ux.fx{bl:Nat}{s:LSt}(h:ux m bl g n base s rs W)(x:oj bl g n base)(k:zm g W a)(l:LC g n a):ux m bl g n base s rs a/\FrL bl g base W a:=by obtain⟨PA,d,b⟩:=h.w;obtain⟨v,i,j⟩:=b.c;have f:FrL bl g base W a:=Fr.mono k λk o _ q=>q.2.1;exact⟨⟨⟨PA,d,⟨v,k.at i x.ne,uy j λq c fr e p=>k.at e UU⟩,l,b.pz⟩,h.ok,x.fr h.k f,q7 h.hb k.size⟩,f⟩
theorem LP{bl:Nat}{s:LSt}(x:oj bl g n base)(t:I4)(a:rs.length<=2000000000000)(W:I6)(h:ux m bl g n base s rs W) :
 Calls prog 159 #[ZI bl,Zb t] W λe b=>e=Zd (Ze #[])/\ux m bl g n base s (rs++[t]) b/\FrL bl g base W b:=by obtain⟨PA,d,i⟩:=h.w;refine Z0 (Ht x.lc t a W i h.hb) λb⟨j,f⟩=>?_;exact⟨R,⟨⟨PA,d,j⟩,h.ok,x.fr h.k f,q7 h.hb f.size⟩,f⟩
theorem Kb{b:I0}(e:PA.size=72)(a:b.size=72)(g n:Nat)(v:I7):Hw (CQ PA g n v) 0 b.toList=CQ b g n v:=by
 have f:(CQ PA g n v).size=81:=by unfold CQ;simp[e]
 apply YV;intro i;rw[AH _ _ _ (by rw[f];simp[a])];simp only[ZX,a,Nat.zero_le,true_and,Z2,Nat.sub_zero];by_cases d:i<72
 .rw[qI d,H7 a g n v d,qO]
 .rw[qF d];obtain⟨k,rfl⟩:∃k,i=72+k:=⟨i-72,O⟩;rw[ny e,ny a]
theorem ux.put{bl:Nat}{s j:LSt}(h:ux m bl g n base s rs W)(x:oj bl g n base){a:I0}(d:j.row a)(u:j.ok):ux m bl g n base j rs (W.setCells bl 0 a.toList)/\FrL bl g base W (W.setCells bl 0 a.toList):=by obtain⟨PA,y,b⟩:=h.w;obtain⟨v,p,r⟩:=b.c;have k:zm bl W (W.setCells bl 0 a.toList):=ba bl a.toList 0 W;have f:FrL bl g base W (W.setCells bl 0 a.toList):=Fr.mono k λk o _ q=>q.1;have l:=bP bl 233 a.toList 0 W _ p;rw[Kb b.pz (jE.size d)]at l;exact⟨⟨⟨a,d,⟨v,l,uy r λq c fr e z=>k.at e UV⟩,x.lc.st _ _ b.i (Fr.mono k λq o _ e=>by rw[e];exact x.ne.symm),jE.size d⟩,u,x.fr h.k f,q7 h.hb k.size⟩,f⟩
theorem L2(b:PA.size=72){bl:Nat}(h:W.heap[bl]?=S (Z (CQ PA g n v) 233)):W.there bl 0 72:=λj a=>by
 refine⟨?_,HV h⟩;rw[Zs h,Z2,H7 b g n v a,qQ O];rfl
theorem L3(b:PA.size=72){bl:Nat}(h:W.heap[bl]?=S (Z (CQ PA g n v) 233)):W.rangeAt bl 0 PA.toList:=λj v' a=>by
 have d:j<72:=by rw[<-b,<-ZX];exact(Z5.1 a).1
 rw[Zs h,Z2,H7 b g n v d,<-qO];exact a
theorem L4(a:PA.size=72){bl:Nat}(h:W.heap[bl]?=S (Z (CQ PA g n v) 233))(i:Nat):W.cell? ⟨bl,72+i,N⟩=(#[.func (.func 64) #[] #[],.func (.func 65) #[] #[],I L 1,svL g n,.func (.func 60) #[] #[],.func (.func 61) #[] #[],I L 2,svL g n,v]:I0)[i]?:=by rw[Zs h,ny a]
structure cv(m:Int)(bl g n base:Nat)(PA:I0)(rs:I3)(W0 W:I6):Prop where
 w:PZ bl g n base (LC g n) PA rs W
 k:LbK m W
 hb:base<=W.heap.size
 f:FrL bl g base W0 W
theorem cv.next{bl:Nat}{b:I6}(h:cv m bl g n base PA rs b W)(x:oj bl g n base)(k:Gr W a):cv m bl g n base PA rs b a :=
 ⟨h.w.gr x.lc k,h.k.gr k,q7 h.hb (ZR k),FrL.trans h.f (FrL.of k)⟩
theorem cv.rng{bl:Nat}(h:cv m bl g n base PA rs a W):W.rangeAt bl 0 PA.toList:=by obtain⟨v,b,_⟩:=h.w.c;exact L3 h.w.pz b
theorem cv.s{bl:Nat}{s:LSt}(h:cv m bl g n base PA rs a W)(d:s.row PA)(b:s.ok):ux m bl g n base s rs W:=⟨⟨PA,d,h.w⟩,b,h.k,h.hb⟩
theorem ux.t{bl:Nat}{s:LSt}(h:ux m bl g n base s rs W):∃PA,s.row PA/\cv m bl g n base PA rs W W:=by obtain⟨PA,a,b⟩:=h.w;exact⟨PA,a,b,h.k,h.hb,FrL.refl _ _ _ _⟩
theorem ux.there{bl:Nat}{s:LSt}(h:ux m bl g n base s rs W):W.there bl 0 72:=by obtain⟨PA,d,a⟩:=h.w;obtain⟨v,b,_⟩:=a.c;exact L2 a.pz b
def Md(t:I4):Option LSt:=match xG t with|some p=>if xP p=Zk then S (.of p)else N|none=>N
theorem NA{t:I4}{g:LSt}(h:Md t=S g):∃i,g.row i/\g.ok/\∀e,ly t e->e=Zd (Ze #[Zc i,Za Zk]):=by
 unfold Md at h;cases b:xG t with
 | none=>rw[b]at h;cases h
 | some p =>
  rw[b]at h;by_cases f:xP p=Zk
  .have d:(if xP p=Zk then S (LSt.of p)else N)=S g:=h;rw[qI f]at d;have j:=qP d;subst j;refine⟨jV p,LSt.row_of b,LSt.ok_of b f,λe k=>?_⟩;obtain⟨q,a,_,rfl⟩|⟨a,_⟩:=k
   .rw[b]at a;rw[qP a]
   .rw[a p b]at f;cases f
  .have d:(if xP p=Zk then S (LSt.of p)else N)=S g:=h;rw[qF f]at d;cases d
theorem Py{t:I4}(h:Md t=N){e:Ending}(f:ly t e):∃A:I0,A.size=72/\A.all (·.oneCell')=Zk/\e=Zd (Ze #[Zc A,Za Zl]):=by
 obtain⟨q,a,b,rfl⟩|⟨_,d⟩:=f
 .unfold Md at h;rw[a]at h;have d:(if xP q=Zk then S (LSt.of q)else N)=N:=h;rw[qI b]at d;cases d
 .exact d
def vs(m:Int)(bl g n base:Nat)(s:LSt)(rs:I3)(r:Option (LSt × I3))(e:Ending)(W':I6):Prop:=match r with
 | some (s',l)=>e=Zd (Za Zk)/\ux m bl g n base s' (rs++l) W'
 | none=>e=Zd (Za Zl)/\ux m bl g n base s rs W'
theorem QS{bl:Nat}{s:LSt}(x:oj bl g n base)(t:I4)(a1:t.size<4294967281)(M:rs.length<=1900000000000)(W:I6)(h:ux m bl g n base s rs W) :
 Calls prog 230 #[ZI bl,Zb t] W λe a=>vs m bl g n base s rs ((Md t).map λv=>(v,[xJ [111,107]])) e a/\FrL bl g base W a:=by
 have H:=X (HX t a1 m W h.k.ct.mx h.k.ct.ml h.k.ct.tab h.k.ct.homes);cases F:Md t with
 | none =>
  have j:Y (Calls prog 278 #[Zb t] W λe w'=>(∃A:I0,A.size=72/\A.all (·.oneCell')=Zk/\e=Zd (Ze #[Zc A,Za Zl]))/\Gr W w'):=X (H.a.mono λe w' k=>⟨Py F k.1,k.2⟩);have f:Y (∀a,Gr W a->vs m bl g n base s rs N (Zd (Za Zl)) a/\FrL bl g base W a):=X λa k=>⟨⟨R,h.gr x k⟩,FrL.of k⟩;show Calls _ _ _ _ λe a=>vs m bl g n base s rs N e a/\FrL bl g base W a;clear H F h;go_enter func230,ntmps230
  go_upto_region 2 with(first
   | (go_at_call 278;refine j.a.mono ?_;rintro e w1 ⟨⟨A,r,G,rfl⟩,i⟩)
   | (refine ZC w1.heap.size A Zv r G ?_))
  have d:=X (Gr.trans i (((Gr.refl w1).alloc zeroCells70 70).setRow _ Zy A));generalize (w1.alloc (Z zeroCells70 70)).setRow w1.heap.size A=a0 at d |-;clear i j;go_wp2_with fail;go_ret;exact f.a _ d.a
 | some v =>
  obtain⟨b,o,D,p⟩:=NA F;have j:Y (ZL 278 #[Zb t] W (Ze #[Zc b,Za Zk])):=X (H.a.mono λe w' k=>⟨p e k.1,k.2⟩);have r:b.size=72:=jE.size o;have G:b.all (·.oneCell')=Zk:=qx o
  have q:Y (∀a,Gr W a->a.there bl 0 b.size/\ux m bl g n base v rs (a.setCells bl 0 b.toList)/\FrL bl g base W (a.setCells bl 0 b.toList)):=X λa k=>by
   have J:=(h.gr x k).put x o D;exact⟨by rw[r];exact(h.gr x k).there,J.1,FrL.trans (FrL.of k) J.2⟩
  have u:Y (∀a,ux m bl g n base v rs a->Calls prog 159 #[ZI bl,Zb ⟨#[111,107]⟩] a λe T=>e=Zd (Ze #[])/\ux m bl g n base v (rs++[xJ [111,107]]) T/\FrL bl g base a T):=X λa k=>LP x (xJ [111,107]) O a k;show Calls _ _ _ _ λe a=>vs m bl g n base s rs (S (v,[xJ [111,107]])) e a/\FrL bl g base W a;clear H F h o D p;go_enter func230,ntmps230
  go_upto_region 2 with(first
   | (go_at_call 278;refine Z0 j.a λw1 i=>?_)
   | (refine ZC w1.heap.size b Zv r G ?_))
  have d:=Gr.trans i (((Gr.refl w1).alloc zeroCells70 70).setRow _ Zy b);have l:((w1.alloc (Z zeroCells70 70)).setRow w1.heap.size b).heap[w1.heap.size]?=S (Z b 70):=Zt (Z7 w1 _);generalize (w1.alloc (Z zeroCells70 70)).setRow w1.heap.size b=a0 at d l |-;generalize w1.heap.size=B at l |-;obtain⟨E,V,K⟩:=q.a _ d;have z:=X V;have w:=X K;clear i j q d V K
  go_upto_region 5 with(first
   | (refine ZD B b l r ?_)
   | (refine wpList_store_mid R 70 _ _ R bl 0 b R R E (by rw[r];exact q9) G ?_))
  generalize a0.setCells bl 0 b.toList=Q at z w |-;clear l E;go_wp2_with(go_at_call 159;refine Z0 (u.a _ z.a) λP⟨C,y⟩=>?_;have f:=X (YB (show vs m bl g n base s rs (S (v,[xJ [111,107]])) (Zd (Za Zk)) P from⟨R,C⟩) (FrL.trans w.a y));clear C y);go_ret;exact f.a
def mvB(f t:Nat)(u:UInt8):I0:=(ZJ f t u)
def TZ(m:Int)(bl g n base:Nat)(rs:I3)(B:Nat)(M:I0)(W0 W:I6):Prop:=(∃PA,cv m bl g n base PA rs W0 W)/\W.heap[B]?=S (Z M 87)
theorem KT{bl:Nat}{s:LSt}(x:oj bl g n base)(f t:Nat)(u:UInt8)(hx:(f,t,u)∈s.mov)(a6:rs.length<=1900000000000)(W:I6)(h:ux m bl g n base s rs W) :
 Calls prog 279 #[ZI bl,Zc (ZJ f t u)] W λe d=>e=Zd (Za Zk)/\ux m bl g n base (s.aft (f,t,u)) (rs++[ex (s.aft (f,t,u))]) d/\FrL bl g base W d:=by
 obtain⟨PA,E,hT⟩:=h.t;have H:=h.ok;obtain⟨c0,c1,c2,c3⟩:=Ok.clk H;obtain⟨hf,ht,hu,k1,k2⟩:=Ok.mv H hx;have hz:=jE.size E;have l:=LSt.ok_aft H hx;have b3:Y (∀W,vJ W->Calls prog 50 #[Zc PA,Zc (ZJ f t u)] W λe w'=>∃Q,e=Zd (Zc Q)/\(s.aft (f,t,u)).row Q/\Gr W w'):=X λW hH=>iJ E f t u hf ht k1 k2 c0 c1 c2 c3 W hH;have a2:Y (∀Q,(s.aft (f,t,u)).row Q->∀W,HG W->ZL 239 #[Zc Q] W (Zb (xJ (s.aft (f,t,u)).text))):=X λQ D W hW=>by obtain⟨d0,d1,d2,d3⟩:=Ok.clk l;exact Kl D (by have:=l.b0;have:=l.b1;omega) d0 d1 d2 d3 W hW
 have a5:(xJ (s.aft (f,t,u)).text).size<4294967281:=LSt.short l;have a8:=ZQ W (Z (ZJ f t u) 87);have a9:Gr W (W.alloc (Z (ZJ f t u) 87)):=ZN;have J:=hT.next x a9;have F:Y (∀d,ux m bl g n base (s.aft (f,t,u)) rs d->Calls prog 159 #[ZI bl,Zb (ex (s.aft (f,t,u)))] d λe a7=>e=Zd (Ze #[])/\ux m bl g n base (s.aft (f,t,u)) (rs++[ex (s.aft (f,t,u))]) a7/\FrL bl g base d a7):=X λd k=>LP x _ O d k;have b5:Y (ex (s.aft (f,t,u))=⟨#[111,107,32]⟩++xJ (s.aft (f,t,u)).text):=X (by unfold ex;rw[show(⟨#[111,107,32]⟩:I4)=xJ [111,107,32]from R,F6]);have b4:Y (∀d Q,(s.aft (f,t,u)).row Q->cv m bl g n base PA rs W d->d.there bl 0 Q.size/\cv m bl g n base Q rs W (d.setCells bl 0 Q.toList)):=X λd Q D k=>by have hS:=k.s E H;have r:=jE.size D;have h2:=hS.put x D l;obtain⟨v,e3,e4⟩:=k.w.c;have hh:=bP bl 233 Q.toList 0 d _ e3;rw[Kb k.w.pz r]at hh;have kk:zm bl d (d.setCells bl 0 Q.toList):=ba bl Q.toList 0 d;exact⟨by rw[r];exact hS.there,⟨⟨⟨v,hh,uy e4 λq c fr e D=>kk.at e UV⟩,x.lc.st _ _ k.w.i (Fr.mono kk λq o _ e=>by rw[e];exact x.ne.symm),r⟩,h2.1.k,h2.1.hb,FrL.trans k.f h2.2⟩⟩
 clear h hT c0 c1 c2 c3 hf ht hu k1 k2 hx;go_enter func279,ntmps279;go_upto_region 1 with fail;generalize (W.alloc (Z (ZJ f t u) 87))=w0 at a8 J a9 |-;generalize W.heap.size=B at a8 |-;have z:=J.next x (Gr.refl w0).drew;refine ZT (S:=TZ m bl g n base rs B (ZJ f t u) W) WR ⟨⟨PA,z⟩,a8⟩ (λy=>?_);refine tq 0 (ZI bl) y ?_;refine tq 1 (ZI bl) y ?_;refine tq 2 (ZI bl) y ?_;refine tq 3 (ZI bl) y ?_;refine ZB 5 (Zc (ZJ f t u)) R (λw hw=>by obtain⟨m0,m1,m2⟩:=qm hw.2;go_simp) y ?_;refine rd 4 λK hK=>?_;rw[qI Vb];refine wp_load_mid 70 _ R bl 0 R PA.toList _ z.rng underlying70 rfl (by rw[q9];simp[hz]) ?_;rw[Yb];refine hK.out _ _ y λy=>?_;clear hK K;try simp only[py]
 refine rd 6 λK hK=>?_;go_simp;refine(b3.a _ z.k.ct.homes).mono ?_;rintro e w1 ⟨Q,rfl,D,M⟩;have G:=z.next x M;have j:w1.heap[B]?=S (Z (ZJ f t u) 87):=(ZE M a8);refine hK.out _ _ ⟨⟨PA,G⟩,j⟩ (λy=>?_);clear hK K;try simp only[py]
 refine tq 7 (ZI bl) y ?_;refine tq 8 (ZI bl) y ?_;refine rd 9 λK hK=>?_;rw[qI Vb];obtain⟨a0,p⟩:=b4.a _ Q D G;have r:=jE.size D;refine wp_store_mid 70 _ _ R bl 0 Q R R a0 (by rw[r];exact q9) (qx D) ?_;have P:(w1.setCells bl 0 Q.toList).heap[B]?=S (Z (ZJ f t u) 87):=zm.at (ba bl Q.toList 0 w1) j (λe=>by obtain⟨v,e3,_⟩:=G.w.c;rw[e,e3]at j;injection j with j;injection j with _ j _;exact absurd j WW);refine hK.out _ _ ⟨⟨Q,p⟩,P⟩ (λy=>?_);clear hK K;try simp only[py]
 refine ZZ WR ?_ _;generalize w1.setCells bl 0 Q.toList=w2 at p |-;have a4:=p.rng;have a1:=X (a2.a Q D w2 p.k.pw);have V:=X p;have A:Y (∀d,Gr w2 d->Calls prog 159 #[ZI bl,Zb (⟨#[111,107,32]⟩++xJ (s.aft (f,t,u)).text)] d λe a7=>(e=Zd (Ze #[])/\ux m bl g n base (s.aft (f,t,u)) (rs++[ex (s.aft (f,t,u))]) a7/\FrL bl g base W a7)):=X λd k=>by rw[<-b5.a];have hk:=V.a.next x k;refine Z0 (F.a d (hk.s D l)) λa7⟨a,b⟩=>?_;exact⟨R,a,FrL.trans hk.f b⟩
 generalize xJ (s.aft (f,t,u)).text=b7 at a1 A a5;clear P p y a0 G j M z J a8 a9 b3 a2 F b4 b5 l;go_wp2_with(first
  | (refine Yo R 70 _ R bl 0 R Q.toList _ a4 underlying70 rfl (by rw[q9];simp[r]) ?_;rw[Yb])
  | (go_at_call 239;refine Z0 a1.a λw3 a3=>?_)
  | (go_at_call 159;refine Z0 (A.a _ a3) λw4⟨T,b2⟩=>?_;have b6:=X (YB T b2);clear T b2))
 go_ret;exact⟨R,b6.a⟩
theorem cv.box{bl:Nat}{b:I6}(h:cv m bl g n base PA rs a W)(x:oj bl g n base){c:I0}{t:TypeId}(p:W.heap[B]?=S (Z c t))(u:9≠t)(C:base<=a.heap.size)(D:a.heap.size<=B)(f:Fr (λk _=>k≠B) W b):cv m bl g n base PA rs a b:=by obtain⟨v,j,l⟩:=h.w.c;have y:=x.b1;have z:=x.b2;refine⟨⟨⟨v,f.same _ _ j O,uy l λq A fr e E=>f.same _ _ e (λd=>by rw[d,p]at e;injection e with e;injection e with _ e _;exact u e.symm)⟩,x.lc.st _ _ h.w.i (f.mono λk o _ q=>O),h.w.pz⟩,h.k.fr f (λk o r=>by have:=x.lo k r;omega),q7 h.hb f.size,?_⟩;exact⟨f.os.trans h.f.os,f.tape.trans h.f.tape,f.output.trans h.f.output,q7 h.f.size f.size,λk o e q=>f.same _ _ (h.f.same k o e q) UR⟩
theorem JM(W:I6)(B:Nat)(A:I0):Fr (λk _=>k≠B) W (W.setRow B A):=⟨R,R,R,by rw[Xa];exact Zy,λk o e q=>by rw[Zu q];exact e⟩
theorem P9(z:I2)(c:Bool)(n:Int):yO z c n=0\/yO z c n=1\/yO z c n=2\/yO z c n=3:=by unfold yO;repeat' split;all_goals simp
theorem Nb{bl:Nat}{s:LSt}(x:oj bl g n base)(a4:rs.length<=1900000000000)(W:I6)(h:ux m bl g n base s rs W) :
 Calls prog 277 #[ZI bl] W λe F=>e=Zd (Ze #[])/\ux m bl g n base s (rs++[HD s]) F/\FrL bl g base W F:=by
 obtain⟨PA,u,hT⟩:=h.t;have h0:base<=W.heap.size:=h.hb;have A:=h.ok;have hz:=jE.size u;obtain⟨k0,k1⟩:=Ok.king A;have p:Y (∀W,jF W->jQ W->ZL 240 #[Zc jP,Zc PA] W (Zc (bx s.z s.wh s.fc s.b))):=X λW a c=>Lz u A.lay A.b0 A.b1 k0 k1 W a c;have T:=P9 s.z (kz s.z s.wh) (s.mov.length:Int);have y:Y (HD s=xJ (rx (yO s.z (kz s.z s.wh) (s.mov.length:Int))++if kz s.z s.wh=Zk then[32,99,104,101,99,107]else[])):=X R;have c4:bx s.z s.wh s.fc s.b=xB (kz s.z s.wh) (s.mov.length:Int) (yO s.z (kz s.z s.wh) (s.mov.length:Int)):=R;rw[c4]at p;have i:Y (∀F,cv m bl g n base PA rs W F->Calls prog 159 #[ZI bl,Zb (HD s)] F λe b2=>e=Zd (Ze #[])/\ux m bl g n base s (rs++[HD s]) b2/\FrL bl g base W b2):=X λF k=>(LP x _ O F (k.s u A)).mono λe b2 q=>⟨q.1,q.2.1,FrL.trans k.f q.2.2⟩;have b5:=X (λW=>qxk W);obtain⟨l,Q,a8⟩:∃k:Nat,yO s.z (kz s.z s.wh) (s.mov.length:Int)=(k:Int)/\k<4:=by
  obtain e|e|e|e:=T
  .exact⟨0,e,O⟩
  .exact⟨1,e,O⟩
  .exact⟨2,e,O⟩
  .exact⟨3,e,O⟩
 have V:Y (∀w',Qf w'->w'.cell? ⟨5,l,N⟩=S (Zb (xJ (rx (l:Int))))):=X λw' o=>by
  have:l=0\/l=1\/l=2\/l=3:=O;obtain rfl|rfl|rfl|rfl:=this
  .exact o.1
  .exact o.2.1
  .exact o.2.2.1
  .exact o.2.2.2
 have a3:(xJ (rx (l:Int))).size<100:=by have:l=0\/l=1\/l=2\/l=3:=O;rcases this with rfl|rfl|rfl|rfl<;>decide
 rw[Q]at p y;have y:Y (HD s=if kz s.z s.wh=Zk then xJ (rx (l:Int))++⟨#[32,99,104,101,99,107]⟩else xJ (rx (l:Int))):=X (by
  rw[y.a];cases kz s.z s.wh
  .simp
  .rw[qI R,qI R,show(⟨#[32,99,104,101,99,107]⟩:I4)=xJ [32,99,104,101,99,107]from R,F6])
 generalize xJ (rx (l:Int))=b6 at V y a3;have v:Y (∀F,cv m bl g n base PA rs W F->Calls prog 159 #[ZI bl,Zb (if kz s.z s.wh=Zk then b6++⟨#[32,99,104,101,99,107]⟩else b6)] F λe b2=>e=Zd (Ze #[])/\ux m bl g n base s (rs++[HD s]) b2/\FrL bl g base W b2):=X (by rw[<-y.a];exact i.a);have i:=v;clear v y T Q;generalize HD s=LT at i |-;generalize kz s.z s.wh=M at p i;generalize (s.mov.length:Int)=b4 at p;simp only[jP,zG]at p b5;clear h c4 k0 k1 u A;go_enter func277,ntmps277;go_upto_region 0 with fail;refine ZT (S:=cv m bl g n base PA rs W) WR (hT.next x ZO.drew) (λd=>?_);refine tq 1 (ZI bl) d ?_;refine tq 2 (ZI bl) d ?_;refine tq 3 (ZI bl) d ?_;refine ty 4 (Zc PA) R (r8 hz Vb _ R bl R (λ_ h=>h.rng)) d ?_;have a2:=h0;refine Xk (rs:=[0,6]) WR WU ?_;refine Yc R (λK hK=>?a0) (Yc R (λK hK=>?b0) Xb)
 case' a0=>
  go_simp;refine Z0 (b5.a _) λw1 H=>?_;refine hK.out _ _ (d.next x H) λd=>?_;clear hK K;try simp only[py]
  refine Xk (rs:=[5,6]) WR WU ?_;refine Yc R (λK hK=>?a1) (Yc R (λK hK=>?b1) Xb)
  case' a1=>
   go_simp;refine Z0 (p.a _ d.k.ct.tab d.k.tb.cas) λJ r=>?_;refine hK.out _ _ (d.next x r) λd=>?_;clear hK K;try simp only[py]
   refine rd 6 λK hK=>?_;go_simp;have w:=d.f.size;have j:=ZQ J (Z #[Za Zl,I L 0,I L 0] 186);refine hK.out _ _ (d.next x ZN) λd=>?_;clear hK K;try simp only[py]
   generalize (J).heap.size=B at j w |-;generalize (J).alloc (Z #[Za Zl,I L 0,I L 0] 186)=b3 at j d |-
  case' b1=>
   go_simp;have w:=d.f.size;have j:=ZQ w1 (Z #[Za Zl,I L 0,I L 0] 186);refine hK.out _ _ (d.next x ZN) λd=>?_;clear hK K;try simp only[py]
   generalize (w1).heap.size=B at j w |-;generalize (w1).alloc (Z #[Za Zl,I L 0,I L 0] 186)=b3 at j d |-;refine rd 5 λK hK=>?_;go_simp;refine Z0 (p.a _ d.k.ct.tab d.k.tb.cas) λJ r=>?_;have j:=(ZE r j);refine hK.out _ _ (d.next x r) λd=>?_;clear hK K;try simp only[py]
   generalize J=b3 at j d |-
 case' b0=>
  go_simp;have j:(W.alloc (Z #[Za Zl,I L 0,I L 0] 186)).drew.heap[W.heap.size]?=S (Z #[Za Zl,I L 0,I L 0] 186):=ZQ W _;refine hK.out _ _ (hT.next x (((Gr.refl W).alloc #[Za Zl,I L 0,I L 0] 186).drew)) (λd=>?_);clear hK K;try simp only[py]
  obtain⟨B,b7⟩:∃B,B=W.heap.size:=⟨_,R⟩;have w:W.heap.size<=B:=O;rw[<-b7]at j |-;clear b7;generalize (W.alloc (Z #[Za Zl,I L 0,I L 0] 186)).drew=b3 at j d |-;refine rd 0 λK hK=>?_;go_simp;refine Z0 (b5.a _) λw1 H=>?_;have j:=(ZE H j);refine hK.out _ _ (d.next x H) λd=>?_;clear hK K;try simp only[py]
  refine rd 5 λK hK=>?_;go_simp;refine Z0 (p.a _ d.k.ct.tab d.k.tb.cas) λJ r=>?_;have j:=(ZE r j);refine hK.out _ _ (d.next x r) λd=>?_;clear hK K;try simp only[py]
  generalize J=b3 at j d |-
 all_goals
  refine rd 7 λK hK=>?_;rw[qI Vb];refine YQ 186 _ _ R B (xB M b4 (l:Int)) R R 186 _ j WR R (by simp[xB,Value.oneCell']) ?_;have G:(b3.setRow B (xB M b4 (l:Int))).heap[B]?=S (Z (xB M b4 (l:Int)) 186):=Zt j;refine hK.out _ _ (d.box x j WW a2 w (JM _ _ _)) λd=>?_;clear hK K;try simp only[py]
  refine ZZ WR ?_ _;generalize b3.setRow B (xB M b4 (l:Int))=E at G d |-;have c0:E.cell? ⟨B,0,N⟩=S (Za M):=by rw[Zs G];rfl
  have c2:E.cell? ⟨B,2,N⟩=S (I L l):=by rw[Zs G];rfl
  have a5:E.cell? ⟨5,l,N⟩=S (Zb b6):=V.a E d.k.ow;have c5:=X (i.a E d);clear d G j w i b5 p;have a7:(l:Int)<4:=O
  have a6:0<=(l:Int):=O
  cases M
  all_goals
   have D:=c5
   first|rw[qI R]at D|rw[qF WW]at D
   clear c5;go_wp2_with(go_at_call 159;refine Z0 D.a λa9⟨hS,hF⟩=>?_;have P:=X (YB hS hF);clear hS hF);go_end0;exact⟨R,P.a⟩
theorem JI(l:List Mv):(ud l).map (·.data.toList)=l.map yJ:=by unfold ud;rw[List.map_map];rfl
theorem wg(x:Mv):(yJ x).length<=5:=by unfold yJ uY;rw[qZ,qZ,zF,zF];split<;>simp
theorem K4(l:List (I1))(h:∀x∈l,x.length<=5):(Lib.join l [32]).length<=6*l.length:=by
 cases l with
 | nil=>simp[Lib.join_nil]
 | cons a r =>
  rw[Lib.join_cons,qZ]
  have e:∀r:List (I1),(∀x∈r,x.length<=5)->(Lib.joinTail [32] r).length<=6*r.length:=by
   intro r;induction r with
   | nil=>intro _;simp[Lib.joinTail]
   | cons b r ih =>
    intro h;have:=ih λx d=>h x (by simp[d]);have:=h b WU;simp[Lib.joinTail]at *;omega
  have:=e r λx d=>h x (by simp[d]);have:=h a WU;simp;omega
theorem Lv{bl:Nat}{s:LSt}(x:oj bl g n base)(a1:rs.length<=1900000000000)(W:I6)(h:ux m bl g n base s rs W) :
 Calls prog 276 #[ZI bl] W λe d=>e=Zd (Ze #[])/\ux m bl g n base s (rs++[KY s]) d/\FrL bl g base W d:=by
 obtain⟨PA,o,hT⟩:=h.t;have B:=h.ok;have hz:=jE.size o;have D:Y (∀W,jF W->jQ W->Calls prog 36 #[Zc jP,Zc PA] W λe w'=>∃v,e=Zd v/\yt W.heap.size v (ud (jI s.mov)) w'/\Gr W w'):=X λW a c=>qxz hz (mkS o B.lay B.b0 B.b1 W a c);have b:Y (∀t d,cv m bl g n base PA rs W d->t=KY s->Calls prog 159 #[ZI bl,Zb t] d λe G=>e=Zd (Ze #[])/\ux m bl g n base s (rs++[KY s]) G/\FrL bl g base W G):=X λt d k e=>by rw[e];exact(LP x _ O d (k.s o B)).mono λe G q=>⟨q.1,q.2.1,FrL.trans k.f q.2.2⟩
 have a8:s.mov.length<=1000000:=bu _ _ _ _;have l:Y (s.mov=[]->(⟨#[110,111,110,101]⟩:I4)=KY s):=X λe=>by unfold KY;rw[qI e];rfl
 have i:Y (s.mov≠[]->(⟨(Lib.join ((ud (jI s.mov)).map (·.data.toList)) [32]).toArray⟩:I4)=KY s):=X λe=>by unfold KY;rw[qF e,JI];rfl
 have A:Y ((Lib.join ((ud (jI s.mov)).map (·.data.toList)) [32]).length<=6*s.mov.length):=X (by
  rw[JI];refine q7 (K4 _ λx hx=>?_) (by rw[YD,qj7];exact Zy);obtain⟨y,_,rfl⟩:=YL.1 hx;exact wg y)
 have T:(ud (jI s.mov)).length=s.mov.length:=by rw[ud,YD,qj7]
 have p:s.mov=[]↔s.mov.length=0:=Yz.symm;have a4:=X (λW=>qxk W);rw[<-T]at a8 p A;clear T;generalize ud (jI s.mov)=F at D i a8 p A;generalize KY s=MT at b l i |-;simp only[jP,zG]at D a4;clear h o B;go_enter func276,ntmps276;go_upto_region 0 with fail;refine ZT (S:=cv m bl g n base PA rs W) WR (hT.next x ZO.drew) (λr=>?_);refine tq 1 (ZI bl) r ?_;refine tq 2 (ZI bl) r ?_;refine tq 3 (ZI bl) r ?_;refine ty 4 (Zc PA) R (r8 hz Vb _ R bl R (λ_ h=>h.rng)) r ?_;refine rd 0 λK hK=>?_;go_simp;refine Z0 (a4.a _) λw1 Q=>?_;refine hK.out _ _ (r.next x Q) λr=>?_;clear hK K Q;try simp only[py]
 refine rd 5 λK hK=>?_;go_simp;refine(D.a _ r.k.ct.tab r.k.tb.cas).mono ?_;rintro e E ⟨v,rfl,a9,a6⟩;obtain⟨pp,cap,rfl,P,w⟩:=l7 a9;refine hK.out _ _ (r.next x a6) λr=>?_;clear hK K a6 a9;try simp only[py]
 refine tq 6 (Zq pp F.length cap) r ?_;refine ZZ WR ?_ _;have H:=X r;clear r hT;by_cases h0:F.length=0
 .have V:=X (l.a (p.2 h0));have M:Y (Calls prog 291 #[Zq (S ⟨E.heap.size,0,N⟩) 1 1,Zb ⟨#[32]⟩] (E.alloc (Z #[Zb ⟨#[110,111,110,101]⟩] 9)) λe w'=>e=Zd (Zb ⟨#[110,111,110,101]⟩)/\Gr E w'):=X (by
   refine(Tryz.strings_Join E.heap.size 0 1 [⟨#[110,111,110,101]⟩] ⟨#[32]⟩ (E.alloc (Z #[Zb ⟨#[110,111,110,101]⟩] 9)) (λj y hy=>by
    have M:j<1:=by simpa using(Z5.1 hy).1
    have:j=0:=O
    subst this;rw[Z8 _ _ _ _ R];simp at hy;rw[<-hy];rfl) WU WU WU WW).mono ?_
   rintro e w' ⟨rfl,hg⟩;exact⟨R,Gr.trans ZN hg⟩)
  have J:Y (∀d,Gr E d->Calls prog 159 #[ZI bl,Zb ⟨#[110,111,110,101]⟩] d λe G=>e=Zd (Ze #[])/\ux m bl g n base s (rs++[MT]) G/\FrL bl g base W G):=X λd k=>b.a _ d (H.a.next x k) V.a;have a0:((F.length:Int)==0)=Zk:=UP;clear b l i p A w V H D a4;exact ON
 .obtain⟨gg,rfl,_⟩:=w 0 O;have a7:=X (i.a (λe=>h0 (p.1 e)));have M:Y (ZL 291 #[Zq (S ⟨gg,0,N⟩) F.length cap,Zb ⟨#[32]⟩] E (Zb ⟨(Lib.join (F.map (·.data.toList)) [32]).toArray⟩)):=X (Tryz.strings_Join gg 0 cap F ⟨#[32]⟩ E (λj y hy=>by
   obtain⟨M,e⟩:=Z5.1 hy;obtain⟨g2,u,e3⟩:=w j M;injection u with u
   injection u with u _ _
   rw[Z2,u,e3,e]) (by obtain⟨g2,u,e3⟩:=w 0 O;injection u with u;injection u with u _ _;rw[u];exact Zx e3) O P (by have:=A.a;show(Lib.join (F.map (·.data.toList)) [32]).length<=_;omega))
  have J:Y (∀d,Gr E d->Calls prog 159 #[ZI bl,Zb ⟨(Lib.join (F.map (·.data.toList)) [32]).toArray⟩] d λe G=>e=Zd (Ze #[])/\ux m bl g n base s (rs++[MT]) G/\FrL bl g base W G):=X λd k=>b.a _ d (H.a.next x k) a7.a;have a0:((F.length:Int)==0)=Zl:=Vp;generalize (⟨(Lib.join (F.map (·.data.toList)) [32]).toArray⟩:I4)=JJ at M J;clear b l i p A w a7 H D a4;exact ON
end Go.Proofs.YtnfakamfmkhlbabGreatDoor.C
