import Derived.Test.YtnfakamfmkhlbabGreatDoorB3
set_option maxRecDepth 100000
set_option maxHeartbeats 4000000
set_option linter.all false
open Go.Value renaming int->I,bool->Za,string->Zb,agg->Zc,tuple->Ze,slice->Zq
open Go.IntKind renaming i64->L,u8->Zg,u64->Zh
open Go.Obj renaming cells->Z
open Go.Ending renaming returned->Zd
open Or renaming inl->Zi,inr->Zj
open Option renaming some->S,none->N
open Bool renaming true->Zk,false->Zl
open Decidable renaming decide->Zm
open Go.RowKit renaming Hid->Y
open Go renaming World->I6,Value->I7
namespace Go.Proofs.YtnfakamfmkhlbabGreatDoor.C
open Go.ChangeShapes Go.WideShapes Go.ChangeAt Go.RowKit Go.Shelf Go.Proofs.YtnfakamfmkhlbabGreatDoor.P Tryz
attribute [local go_sem] qd qe Oper.semAt_some
variable {z:I2}{wh:Bool}{b h m:Int}{PA A M:I0}{fc:I5}{w W a w' w1 V:I6}{f n i k g base d e l j x B Bp:Nat}{v:I7}{u:UInt8}{Q:Nat->Obj->Prop}{rs:I3}{y:I1}
theorem gX(a:Nat):∀(l:List I7)(k:Nat)(cells:I0),
 ((l.zipIdx k).foldl (λcs (p:I7 × Nat)=>cs.setIfInBounds (a+p.2) p.1) cells).size=cells.size ∧
 ∀i,a+k+l.length<=cells.size->((l.zipIdx k).foldl (λcs (p:I7 × Nat)=>cs.setIfInBounds (a+p.2) p.1) cells)[i]?=if a+k<=i/\i<a+k+l.length then l[i-(a+k)]? else cells[i]?
 | [],k,cells=>⟨R,λi _=>WX⟩
 | v :: l,k,cells=>by
  obtain⟨d,f⟩:=gX a l (k+1) (cells.setIfInBounds (a+k) v);rw[List.zipIdx_cons,List.foldl_cons];refine⟨Oi,λi b=>?_⟩;rw[f i (by simp at b |-;omega)];by_cases e:i=a+k
  .subst e;rw[qF O,qI ⟨O,WU⟩,Yu,qI R,qI (by simp at b;omega)];simp
  .by_cases g:a+k<=i/\i<a+k+(v :: l).length
   .rw[qI (by simp at g |-;omega),qI g,show i-(a+k)=(i-(a+(k+1)))+1 from O];simp
   .rw[qF (by simp at g |-;omega),qF g,Yu,qF O]
def put(off:Nat)(v cells:I0):I0:=v.zipIdx.foldl (λcs (p:I7 × Nat)=>cs.setIfInBounds (off+p.2) p.1) cells
theorem zo(a:Nat)(v cells:I0):(put a v cells).size=cells.size/\∀i,a+v.size<=cells.size->(put a v cells)[i]?=if a<=i/\i<a+v.size then v[i-a]? else cells[i]?:=by
 have h:=gX a v.toList 0 cells;have e:put a v cells=(v.toList.zipIdx 0).foldl (λcs (p:I7 × Nat)=>cs.setIfInBounds (a+p.2) p.1) cells:=by unfold put;rw[<-Array.foldl_toList,Array.toList_zipIdx]
 rw[e];refine⟨h.1,λi b=>?_⟩;rw[h.2 i VE];simp
theorem xv(a:Nat->Option (Nat × Nat))(cells:I0)(i d size:Nat)(v:I7)(b:List (Nat × I7))(e:a i=S (d,size))(f:v.cells.size=size)(g:d+size<=cells.size) :
 Instr.fill a cells ((i,v) :: b)=Instr.fill a (put d v.cells cells) b:=by
 conv=>lhs;unfold Instr.fill
 rw[e];simp only[f];rw[qF WX];rfl
theorem wD(a:List (Nat × I7)):prog.built 70 a=Instr.fill (λi=>(#[(0,64),(64,1),(65,4),(69,1),(70,1),(71,1)]:Array (Nat × Nat))[i]?) zeroCells70 a:=WR
theorem xF:zeroCells70.size=72:=WR
def kU(A:I0)(wh c0 c1 c2 c3:Bool)(b h f:Int):I0:=A++#[Za wh,Za c0,Za c1,Za c2,Za c3,I L b,I L h,I L f]
theorem gj(A:I0)(d:A.size=64)(wh c0 c1 c2 c3:Bool)(b h f:Int) :
 prog.built 70 [(0,Zc A),(1,Za wh),(2,Zc #[Za c0,Za c1,Za c2,Za c3]),(3,I L b),(4,I L h),(5,I L f)]=S (kU A wh c0 c1 c2 c3 b h f):=by
 rw[wD];have e:=zo 0 A zeroCells70;have p1:=zo 64 #[Za wh] (put 0 A zeroCells70);have p2:=zo 65 #[Za c0,Za c1,Za c2,Za c3] (put 64 #[Za wh] (put 0 A zeroCells70));have p3:=zo 69 #[I L b] (put 65 #[Za c0,Za c1,Za c2,Za c3] (put 64 #[Za wh] (put 0 A zeroCells70)));have p4:=zo 70 #[I L h] (put 69 #[I L b] (put 65 #[Za c0,Za c1,Za c2,Za c3] (put 64 #[Za wh] (put 0 A zeroCells70))));have p5:=zo 71 #[I L f] (put 70 #[I L h] (put 69 #[I L b] (put 65 #[Za c0,Za c1,Za c2,Za c3] (put 64 #[Za wh] (put 0 A zeroCells70)))));have z:=xF;rw[xv _ _ 0 0 64 _ _ R (by simpa[Value.cells]using d) O,
  xv _ _ 1 64 1 _ _ R R Vl,xv _ _ 2 65 4 _ _ R R Vl,
  xv _ _ 3 69 1 _ _ R R Vl,xv _ _ 4 70 1 _ _ R R Vl,xv _ _ 5 71 1 _ _ R R Vl]
 simp only[Instr.fill,Value.cells,Xh];apply YV;intro i;rw[p5.2 i WX,p4.2 i WX,p3.2 i WX,p2.2 i WX,p1.2 i WX,e.2 i O];unfold kU;rw[Y7,d];by_cases a:i<64
 .rw[qF O,qF O,qF O,qF O,qF O,qI ⟨O,O⟩,qI a];simp
 .by_cases g:i<72
  .have:i=64\/i=65\/i=66\/i=67\/i=68\/i=69\/i=70\/i=71:=O;rcases this with rfl|rfl|rfl|rfl|rfl|rfl|rfl|rfl<;>simp
  .rw[qF a,qF WX,qF WX,qF WX,qF WX,qF WX,qF O,Z6 O,Z6 WX]
theorem qqq{P:Program}{e:Array Oper}{d:List Oper}{o:Oper}{a:Act}{Q:Exit->Act->I6->Prop}(g:o.guard=N)(t:TypeId)(b:Array (Nat × Operand))(j:o.op=.build t b)(cells:I0)
 (f:P.built t (b.map λ(i,x)=>(i,a.eval x)).toList=S cells)
 (h:wpList P e Q d (a.put o.dst (Zc cells)) w):wpList P e Q (o :: d) a w :=
 wpList_build g t b j T1 (by rw[f];exact h)
theorem iZ(s:I4)(b:s.size<4294967281)(m:Int)(w:I6)(a:w.cell? ⟨4,0,N⟩=S (I L m)) :
 Calls prog 136 #[Zb s,Zb ⟨#[32]⟩,I L 7] w λe w'=>e=Zd (Zq (S ⟨w.heap.size,0,N⟩) (xL 32 7 s).length (min 7 (s.size+1)))/\w'=w.alloc (Z (Lib.cellsOf (xL 32 7 s) (min 7 (s.size+1))) 9) :=
 Tryz.strings_SplitN s ⟨#[32]⟩ 7 m w b a WW O O
structure pH where
 board:List Int
 white:Bool
 castle:I5
 behind:Int
 half:Int
 full:Int
def jV(p:pH):I0:=kU (p.board.map (Value.int Zg)).toArray p.white (p.castle 0) (p.castle 1) (p.castle 2) (p.castle 3) p.behind p.half p.full
def kO(s:I4):Option Bool:=if s.toList=[119]then S Zk else if s.toList=[98]then S Zl else N
def Ac(x0 x1 x2 x3 x4 x5:I4):Option pH :=
 match j7 x0,kO x1,vS x2.data.toList,v8 x3,vR x4.data.toList,vR x5.data.toList with
 | some b,S w,S c,S e,S h,S f=>S ⟨b,w,c,e,h,f⟩
 | _,_,_,_,_,_=>N
def xG(s:I4):Option pH :=
 match xL 32 7 s with
 | [x0,x1,x2,x3,x4,x5]=>Ac x0 x1 x2 x3 x4 x5
 | _=>N
def kS(s:I4)(e:Ending):Prop :=
 (∃p,xG s=S p/\p.board.length=64/\e=Zd (Ze #[Zc (jV p),Za Zk]))\/(xG s=N/\e=Zd (Ze #[Zc zeroCells70,Za Zl]))
theorem xH:zeroCells70.all (·.oneCell')=Zk:=WS
theorem q9:(prog.info? 70).map (·.size)=S 72:=WR
theorem s6(w:I6)(a b:Obj):((w.alloc a).alloc b).heap[w.heap.size]?=S a/\((w.alloc a).alloc b).heap[w.heap.size+1]?=S b:=⟨heap_alloc2_old w a b,heap_alloc2_new w a b⟩
theorem rX(s:I4)(n:s.size<4294967281)(m:Int)(w:I6)(j:w.cell? ⟨4,0,N⟩=S (I L m))(o:4<w.heap.size)(f:(xL 32 7 s).length≠6):Calls prog 62 #[Zb s] w λe w'=>kS s e/\Gr w w':=by
 have i:=X j;clear j;have l:(((xL 32 7 s).length:Int)==6)=Zl:=WX;have d:Y (kS s (Zd (Ze #[Zc zeroCells70,Za Zl]))):=X (Zj ⟨by
  unfold xG;split
  .rename_i h;rw[h]at f;simp at f
  .rfl,R⟩)
 clear f;go_enter func62,ntmps62;go_wp2_with fail;refine(iZ s n m _ ?_).mono ?_
 .rw[YZ _ _ _ o];exact i.a
 rintro e k ⟨rfl,a⟩;have g:Gr w k:=by rw[a];exact ZN.alloc _ _
 have b:Y (k.heap[w.heap.size]?=S (Z zeroCells70 70)):=X (by rw[a];exact(s6 w _ _).1);clear a;go_wp2_with(refine ZC w.heap.size zeroCells70 b.a xF xH ?_);exact ZS (v:=Ze #[Zc zeroCells70,Za Zl]) (qj results62 _ _ w.heap.size 70 _ (0,0) _ R (Zt b.a) underlying70 rfl Vz) R ⟨d.a,g.setRow _ Zy _⟩
theorem vm.plain{s:I4}{e:Ending}(h:vm s e):∃A:I0,iL A/\e=Zd (Ze #[Zc A,Za (j7 s).isSome])/\∀b,j7 s=S b->b.length=64/\A=(b.map (Value.int Zg)).toArray:=by
 obtain⟨b,d,f,rfl⟩|⟨d,A,g,rfl⟩:=h
 .refine⟨(b.map (Value.int Zg)).toArray,⟨Uq,?_⟩,by rw[d];rfl,λj a=>by rw[d]at a;simp at a;subst a;exact⟨f,R⟩⟩;rw[List.all_toArray,qW];intro v i;obtain⟨z,_,rfl⟩:=YL.mp i;rfl
 .exact⟨A,g,by rw[d];rfl,λb a=>by rw[d]at a;exact absurd a WU⟩
theorem Fu(s:I4):(s.toList==[119]||s.toList==[98])=(kO s).isSome/\∀b,kO s=S b->(s.toList==[119])=b:=by grind[kO]
theorem jr{a b d e f g:I4}(h:(j7 a).isSome=Zl\/(kO b).isSome=Zl\/(vS d.data.toList).isSome=Zl\/(v8 e).isSome=Zl\/(vR f.data.toList).isSome=Zl\/(vR g.data.toList).isSome=Zl):Ac a b d e f g=N:=by grind[Ac,j7,kO,vS,v8,vR]
def Made(s:I4)(A:I0)(ok0:Bool)(wh ok1:Bool)(f:I5)(ok2:Bool)(b:Int)(ok3:Bool)(h:Int)(ok4:Bool)(g:Int)(ok5:Bool):Prop :=
 ((ok0=Zl\/ok1=Zl\/ok2=Zl\/ok3=Zl\/ok4=Zl\/ok5=Zl)->kS s (Zd (Ze #[Zc zeroCells70,Za Zl]))) ∧
 (ok0=Zk->ok1=Zk->ok2=Zk->ok3=Zk->ok4=Zk->ok5=Zk->kS s (Zd (Ze #[Zc (kU A wh (f 0) (f 1) (f 2) (f 3) b h g),Za Zk])))
theorem BV{s d a e i j k:I4}(Q:xL 32 7 s=[d,a,e,i,j,k])(B:∀b,j7 d=S b->b.length=64/\A=(b.map (Value.int Zg)).toArray)
 {f:I5} (E:∀g,vS e.data.toList=S g->f=g) (D:∀n,v8 i=S n->b=n) (G:∀n,vR j.data.toList=S n->h=(n:Int)) {g:Int} (F:∀n,vR k.data.toList=S n->g=(n:Int)) :
 Made s A (j7 d).isSome (a.toList==[119]) (kO a).isSome f (vS e.data.toList).isSome b (v8 i).isSome h (vR j.data.toList).isSome g (vR k.data.toList).isSome:=by
 have C:xG s=Ac d a e i j k:=by unfold xG;rw[Q]
 refine⟨λH=>Zj ⟨by rw[C];exact jr H,R⟩,?_⟩;intro J K T M V P;obtain⟨l,m⟩:=Xr.mp J;obtain⟨o,v⟩:=Xr.mp K;obtain⟨p,w⟩:=Xr.mp T;obtain⟨q,x⟩:=Xr.mp M;obtain⟨r,y⟩:=Xr.mp V;obtain⟨u,z⟩:=Xr.mp P;refine Zi ⟨⟨l,o,p,q,r,u⟩,?_,(B l m).1,?_⟩
 .rw[C];unfold Ac;rw[m,v,w,x,y,z]
 .rw[(B l m).2,(Fu a).2 o v,E p w,D q x,G r y,F u z];rfl
def DP(w:I6)(xs:I3)(bq:Nat)(A:I0)(wr:I6):Prop :=
 (∀(j:Nat)(h:j<xs.length),wr.cell? ⟨w.heap.size+1,j,N⟩=S (Zb xs[j]))/\wr.heap[w.heap.size]?=S (Z zeroCells70 70)/\wr.heap[bq]?=S (Z A 67)/\w.heap.size+1<bq/\bq<wr.heap.size/\Gr w wr
theorem DP.gr{wr:I6}{e:I3}{b:Nat}(h:DP w e b A wr)(g:Gr wr a):DP w e b A a:=by
 obtain⟨f,i,k,l,d,m⟩:=h;exact⟨λj n=>by rw[ZW g (p:=⟨w.heap.size+1,j,N⟩) (by show w.heap.size+1<wr.heap.size;omega)];exact f j n,
  by rw[Zz g O];exact i,by rw[Zz g d];exact k,l,qN d (ZR g),m.trans g⟩
def E3(bc:Nat)(f:I5)(wr:I6):Prop:=wr.heap[bc]?=S (Z #[Za (f 0),Za (f 1),Za (f 2),Za (f 3)] 68)/\bc<wr.heap.size
theorem E3.gr{wr:I6}{b:Nat}{f:I5}(h:E3 b f wr)(g:Gr wr a):E3 b f a:=⟨by rw[Zz g h.2];exact h.1,qN h.2 (ZR g)⟩
theorem G3:(prog.info? 68).map (·.size)=S 4:=WR
theorem qzd(a:iL A)(wh c0 c1 c2 c3:Bool)(b h f:Int):(kU A wh c0 c1 c2 c3 b h f).size=72/\(kU A wh c0 c1 c2 c3 b h f).all (·.oneCell')=Zk:=by unfold kU;refine⟨by rw[Array.size_append,a.1];rfl,?_⟩;rw[Wo,a.2];simp[Value.oneCell']
theorem rU(s q n B C r u:I4)(hs:s.size<4294967281)(m:Int)(w:I6)(hm:w.cell? ⟨4,0,N⟩=S (I L m))(hz:4<w.heap.size)(hx:xL 32 7 s=[q,n,B,C,r,u]):Calls prog 62 #[Zb s] w λe w'=>kS s e/\Gr w w':=by
 have a8:=X hm;clear hm;have k:∀x∈xL 32 7 s,x.size<=s.size:=λx hx=>zc _ _ _ _ hx;rw[hx]at k;have z0:=k q WU;have z4:=k r WU;have z5:=k u WU;clear k;have b1:=X hx;go_enter func62,ntmps62;go_wp2_with fail;refine(iZ s hs m _ ?_).mono ?_
 .rw[YZ _ _ _ hz];exact a8.a
 rintro e M ⟨rfl,z⟩;have v:Gr w M:=by rw[z];exact ZN.alloc _ _
 have b7:w.heap.size+2<=M.heap.size:=by rw[z];exact Nat.le_of_eq (by rw[Z3,Z3])
 have a0:Y (M.heap[w.heap.size]?=S (Z zeroCells70 70)):=X (by rw[z];exact(s6 w _ _).1);have D:Y (M.heap[w.heap.size+1]?=S (Z (Lib.cellsOf [q,n,B,C,r,u] (min 7 (s.size+1))) 9)):=X (by rw[z,<-hx];exact(s6 w _ _).2);clear z;rw[hx];clear hx;generalize min 7 (s.size+1)=f4 at D |-;have b2:M.cell? ⟨w.heap.size+1,0,N⟩=S (Zb q):=by rw[Zs D.a];exact qjn _ f4 0 WU
 have E:M.cell? ⟨4,0,N⟩=S (I L m):=(ZW v (p:=⟨4,0,N⟩) hz).trans a8.a;go_wp2_with fail;refine(nQ q O m _ E O).mono ?_;rintro e l ⟨he,y⟩;obtain⟨A,a2,rfl,a1⟩:=he.plain;clear he b2 E;have d3:M.heap.size<=l.heap.size:=ZR y;have a4:∀(j:Nat)(h:j<6),l.cell? ⟨w.heap.size+1,j,N⟩=S (Zb ([q,n,B,C,r,u][j])):=by intro j h;rw[ZW y (p:=⟨w.heap.size+1,j,N⟩) (by show w.heap.size+1<M.heap.size;omega),Zs D.a];exact qjn _ f4 j Vq
 have T:∀o,Y (DP w [q,n,B,C,r,u] l.heap.size A ((l.alloc (Z o 67)).setRow l.heap.size A)):=λo=>X (by
  have Q:Gr l ((l.alloc (Z o 67)).setRow l.heap.size A):=ZN.setRow _ Zy _;refine⟨λj hj=>?_,?_,Zt Zv,O,by rw[Xa,Z3];omega,(v.trans y).trans Q⟩
  .rw[ZW Q (p:=⟨w.heap.size+1,j,N⟩) (by show w.heap.size+1<l.heap.size;omega)];exact a4 j hj
  .rw[Zz Q O,Zz y O];exact a0.a)
 have G:=X a1;have i:=X a2;clear a4 a0 D v y a1 a2 b7;have b3:∀o,((l.alloc (Z o 67)).setRow l.heap.size A).cell? ⟨w.heap.size+1,1,N⟩=S (Zb n):=λo=>(qa (T o)).1 1 WU;go_wp2_with(refine ZU R 67 _ _ R l.heap.size A R R 67 _ Zv (by rw[i.a.1];exact x7) (by rw[i.a.1];rfl) i.a.2 ?_);refine Z0 (rD n _) λw5 b0=>?_;have F:DP w [q,n,B,C,r,u] l.heap.size A w5:=by rw[b0];exact qa (T _)
 clear b0 b3 T;rw[(Fu n).1];generalize l.heap.size=bq at F |-;have E:w5.cell? ⟨w.heap.size+1,2,N⟩=S (Zb B):=F.1 2 WU;have J:=X F;clear F;go_wp2_with fail;refine(fq B _).mono ?_;rintro e w6 ⟨⟨f,rfl,hf⟩,a6⟩;have a5:=X hf;have V:∀o,Y (DP w [q,n,B,C,r,u] bq A (w6.alloc (Z o 68))):=λo=>X (J.a.gr (Gr.alloc a6 _ _));clear E J a6 hf;have b4:∀o,(w6.alloc (Z o 68)).cell? ⟨w.heap.size+1,3,N⟩=S (Zb C):=λo=>(qa (V o)).1 3 WU;go_wp2_with fail;refine(hO C _).mono ?_;rintro e w7 ⟨⟨b,rfl,hb⟩,P⟩;have a3:=X hb;have W:=(qa (V _)).gr P;have f0:E3 w6.heap.size f w7:=E3.gr ⟨Zv,Vj⟩ P;clear b4 V P hb;generalize w6.heap.size=bc at f0 |-;have b5:w7.cell? ⟨w.heap.size+1,4,N⟩=S (Zb r):=W.1 4 WU;have K:=X W;have H:=X f0;clear W f0;go_wp2_with fail;refine(gc r Vk _).mono ?_;rintro e w8 ⟨⟨h,rfl,hh⟩,d5⟩;have a7:=X hh;have d4:DP w [q,n,B,C,r,u] bq A w8:=by rw[d5];exact K.a
 have a9:E3 bc f w8:=by rw[d5];exact H.a
 have b6:w8.cell? ⟨w.heap.size+1,5,N⟩=S (Zb u):=d4.1 5 WU;have f3:=X d4;have f2:=X a9;clear d4 a9 K H d5 b5 hh;go_wp2_with fail;refine(gc u Vk _).mono ?_;rintro e w9 ⟨⟨g,rfl,hg⟩,f1⟩;have hR:Y (DP w [q,n,B,C,r,u] bq A w9):=X (by rw[f1];exact f3.a);have p:Y (E3 bc f w9):=X (by rw[f1];exact f2.a);have a:=X (BV b1.a G.a a5.a a3.a a7.a hg);clear f3 f2 f1 b6 hg b1 G a5 a3 a7;generalize (j7 q).isSome=c4 at a |-;generalize (n.toList==[119])=wh at a |-;generalize (kO n).isSome=c5 at a |-;generalize (vS B.data.toList).isSome=c6 at a |-;generalize (v8 C).isSome=d0 at a |-;generalize (vR r.data.toList).isSome=d1 at a |-;generalize (vR u.data.toList).isSome=d2 at a |-;cases c4
 .exact ZK
 .cases c5
  .exact ZK
  .cases c6
   .exact ZK
   .cases d0
    .exact ZK
    .cases d1
     .exact ZK
     .cases d2
      .exact ZK
      .have d:=X (a.a.2 R R R R R R);have hP:=X (qzd i.a wh (f 0) (f 1) (f 2) (f 3) b h g);clear a;go_wp2_with(first|(refine ZV R 67 _ R bq R 67 A (0,0) _ hR.a.2.2.1 underlying67 rfl (by rw[i.a.1];exact x7) ?_)|(refine ZV R 68 _ R bc R 68 #[Za (f 0),Za (f 1),Za (f 2),Za (f 3)] (0,0) _ p.a.1 underlying68 rfl G3 ?_)|(refine qqq R 70 #[(0,.tmp 88),(1,.tmp 89),(2,.tmp 90),(3,.tmp 91),(4,.tmp 92),(5,.tmp 93)] R (kU A wh (f 0) (f 1) (f 2) (f 3) b h g) ?_ ?_;focus (simp[Act.eval];exact gj A i.a.1 wh (f 0) (f 1) (f 2) (f 3) b h g))|(refine ZU R 70 _ _ R w.heap.size (kU A wh (f 0) (f 1) (f 2) (f 3) b h g) R R 70 zeroCells70 hR.a.2.1 (by rw[hP.a.1];exact q9) (by rw[hP.a.1,xF]) hP.a.2 ?_));exact ZS (v:=Ze #[Zc (kU A wh (f 0) (f 1) (f 2) (f 3) b h g),Za Zk]) (qj results62 _ _ w.heap.size 70 _ (0,0) _ R (Zt hR.a.2.1) underlying70 rfl (by rw[hP.a.1];exact q9)) R ⟨d.a,hR.a.2.2.2.2.2.setRow _ Zy _⟩
theorem rY(s:I4)(d:s.size<4294967281)(m:Int)(w:I6)(b:w.cell? ⟨4,0,N⟩=S (I L m))(f:4<w.heap.size):Calls prog 62 #[Zb s] w λe w'=>kS s e/\Gr w w':=by
 by_cases a:(xL 32 7 s).length=6
 .match hx:xL 32 7 s,a with
  | [x0,x1,x2,x3,x4,x5],_=>exact rU s x0 x1 x2 x3 x4 x5 d m w b f hx
 .exact rX s d m w b f a
theorem qq4(w:I6)(a:Addr)(cap:Nat)(l:I1)(b:∀i (h:i<l.length),w.cell? (a.add i)=S (I Zg (l[i]).toNat)) :
 (convert 145 9 (Zq (S a) l.length cap)).run prog w=.ok (Zb ⟨l.toArray⟩) w :=
 run_convert_bytes_back w 145 9 5 a cap l underlying145 underlying5 underlying9 b
def xQ(n:Nat):I1:=[UInt8.ofNat (97+n%8),UInt8.ofNat (49+n/8)]
def oO(n:Int):I1:=if n=-1 then[45]else xQ n.toNat
def E5(f:Nat->Bool):Nat->I1
 | 0=>[]
 | i+1=>E5 f i++(if f i then[vn i]else[])
def eE(f:I5):I1:=if(E5 f 4).isEmpty then[45]else E5 f 4
theorem oN(f:I5)(i:Nat):E5 f (i+1)=E5 f i++(if f i then[vn i]else[]):=R
def ur(g:Nat):I1:=if g=0 then[]else[UInt8.ofNat (48+g)]
def DV(z:Nat->UInt8):Nat->I1 × Nat
 | 0=>([],0)
 | k+1=>if z k=46 then((DV z k).1,(DV z k).2+1)else((DV z k).1++ur (DV z k).2++[z k],0)
def oJ(z:I2):I1:=(DV z 8).1++ur (DV z 8).2
def oH(z:I2)(i:Nat):I1:=oJ (λf=>z (8*(7-i)+f))
def eB(z:I2):I3:=(List.range 8).map (λi=>⟨(oH z i).toArray⟩)
def dA(z:I2):I1:=Lib.join ((eB z).map (·.data.toList)) [47]
theorem Gr.setCell{b:I6}(h:Gr a b){p:Addr}(d:a.heap.size<=p.block)(v:I7):Gr a (b.setCell p v):=Yr h d v
def HG (w : I6) : Prop := Lib.TabIs prog w "internal/strconv.uint64pow10" Zh Lib.pow10Tab
theorem bX : ∃ g, prog.globalNamed "internal/strconv.uint64pow10" = S g := ⟨8, WR⟩
theorem HG.gr(h:HG w)(g:Gr w w'):HG w':=by
 obtain⟨i,d⟩:=bX;unfold HG Lib.TabIs World.var? at h |-;rw[d]at h |-;simp only[Option.bind_some]at h |-;have b:i<w.heap.size:=by
  obtain a|a:=Nat.lt_or_ge i w.heap.size
  .exact a
  .rw[Z6 a]at h;cases h
 rw[YG g i b];exact h
theorem Gr.grow(w:I6)(k:Nat)(os:Array Obj):Gr w (Go.Sort.grow (w.drewN k) os):=by
 refine⟨R,R,R,?_,λi a=>?_⟩
 .show w.heap.size<=(w.heap++os).size;simp
 .show(w.heap++os)[i]?=_;rw[Y7,qI a]
def PS(w:I6)(A:List I7)(wh c0 c1 c2 c3:Bool)(b h f:Int)(w':I6):Prop :=
 w'.rangeAt w.heap.size 0 A/\w'.cell? ⟨w.heap.size,64,N⟩=S (Za wh)/\w'.cell? ⟨w.heap.size,65,N⟩=S (Za c0)/\w'.cell? ⟨w.heap.size,66,N⟩=S (Za c1)/\w'.cell? ⟨w.heap.size,67,N⟩=S (Za c2)/\w'.cell? ⟨w.heap.size,68,N⟩=S (Za c3)/\w'.cell? ⟨w.heap.size,69,N⟩=S (I L b)/\w'.cell? ⟨w.heap.size,70,N⟩=S (I L h)/\w'.cell? ⟨w.heap.size,71,N⟩=S (I L f)/\(w.heap.size<w'.heap.size/\Gr w w'/\HG w')
theorem PS.gr{A:List I7}{c0 c1 c2 c3:Bool}{f:Int}(p:PS w A wh c0 c1 c2 c3 b h f w1)(g:Gr w1 a):PS w A wh c0 c1 c2 c3 b h f a:=by obtain⟨m,p1,p2,p3,p4,p5,p6,n,q,d,e,i⟩:=p;have k:∀o,a.cell? ⟨w.heap.size,o,N⟩=w1.cell? ⟨w.heap.size,o,N⟩:=λo=>ZW g (p:=⟨w.heap.size,o,N⟩) d;exact⟨λj v l=>(k _).trans (m j v l),(k _).trans p1,(k _).trans p2,(k _).trans p3,(k _).trans p4,(k _).trans p5,(k _).trans p6,(k _).trans n,(k _).trans q,qN d (ZR g),e.trans g,i.gr g⟩
def oI(z:I2)(wh:Bool)(f:I5)(b h g:Int):I1 :=
 Lib.join [dA z,[if wh then 119 else 98],eE f,oO b,Lib.itoa h,Lib.itoa g] [32]
theorem vy{q:Prop}(h:Gr w1 a/\q):Gr w1 a:=h.1
theorem held{A:List I7}{c0 c1 c2 c3:Bool}{f:Int}(p:PS w A wh c0 c1 c2 c3 b h f w1)(g:Gr w1 w') :
 Gr w1 w'/\w'.rangeAt w.heap.size 0 A/\w'.cell? ⟨w.heap.size,64,N⟩=S (Za wh)/\w'.cell? ⟨w.heap.size,65,N⟩=S (Za c0)/\w'.cell? ⟨w.heap.size,66,N⟩=S (Za c1)/\w'.cell? ⟨w.heap.size,67,N⟩=S (Za c2)/\w'.cell? ⟨w.heap.size,68,N⟩=S (Za c3)/\w'.cell? ⟨w.heap.size,69,N⟩=S (I L b)/\w'.cell? ⟨w.heap.size,70,N⟩=S (I L h)/\w'.cell? ⟨w.heap.size,71,N⟩=S (I L f):=by obtain⟨a,p1,p2,p3,p4,p5,p6,d,e,_⟩:=p.gr g;exact⟨g,a,p1,p2,p3,p4,p5,p6,d,e⟩
def kL(w:I6):Prop:=TabAt 2 Lib.deBruijn64tab w
theorem kL.gr(h:kL w)(g:Gr w w'):kL w':=λj b=>by
 have a:=h j b;exact(ZW g (Ye w _ a)).trans a
theorem kL.below{n₀:Nat}(h:kL w)(g:Below n₀ w w')(b:2<n₀):kL w':=λj a=>(g.cell (p:=⟨_,j,N⟩) b).trans (h j a)
theorem eI(s:BitVec 64)(t:Nat)(a:s.getLsbD t=Zk)(b:∀j,j<t->s.getLsbD j=Zl)(w:I6)(d:kL w):Calls prog 208 #[I Zh (U s)] w λe w'=>e=Zd (I L t)/\w'=w:=by have:=Any7.bits_TrailingZeros64 Tryz.lays7x29 s.toNat s.isLt w (λ_=>d);rw[Em s t a b]at this;exact this
theorem Dc(n:Nat)(Q:1<=n)(l Bn n₀:Nat)(F:Bn<n₀)(y:2<n₀)(s:BitVec 64)(J C:List Nat->I6->Prop)
 (K:∀a x W,J a W->a.length<(vD s).length->YieldAt Fence.wide (n-1) prog l #[I L (x:Nat)] W λe h =>(e=Zd (Za Zk)/\J (a++[x]) h/\Below n₀ W h)\/(e=Zd (Za Zl)/\C (a++[x]) h))
 (W:I6) (H:W.cell? ⟨Bn,0,N⟩=S (I Zh (U s))) (T:kL W) (G:J [] W) :
 CallsIn Fence.wide n prog 207 #[.func (.yield l) #[] #[],ZI Bn] W λe h=>(∃v,e=Zd v) ∧
  ((∃E,E=vD s/\J E h)\/(∃a,a <+: vD s/\C a h)):=by
 refine callsIn_of_wp func207 rfl trivial ?_ R;simp only[ntmps207,Nat.reduceAdd,Nat.reduceSub,Zr];gi_wp2;gi_loopw [3] (λp wr=>∃(a:List Nat)(r:BitVec 64),p=I Zh (U r)/\vD s=a++vD r/\kL wr/\J a wr) (λp _=>(vD (BitVec.ofInt 64 (intOf p))).length)
 case atStart=>exact⟨[],s,R,R,T,G⟩
 case round=>
  obtain⟨a,r,rfl,i,m,j⟩:=hrel;by_cases q:r=0#64
  .subst q;have a2:(U 0#64 != 0)=Zl:=WS;rw[qv8,Yh]at i;have d:=X i;clear i;gi_wp2;go_end0;exact⟨⟨_,R⟩,Zi ⟨a,d.a.symm,j⟩⟩
  .obtain⟨t,M,A,B⟩:=qji r q;have g:=qv9 r t M A B;have a1:(U r != 0)=Zk:=VN;have z:=X (eI r t A B);obtain⟨P,tmps,o,D,a0,hR⟩:=K a t wr j (by rw[i,g];simp);have d:=X i;have b:=X g;have f:=X m;clear i g m q A B;gi_wp2_with (refine⟨trivial,?_⟩;gi_at_call 208;refine(ZY.2 (z.a _ f.a)).mono ?_;rintro e w' ⟨rfl,rfl⟩);refine hR.mono ?_;rintro e W3 (⟨rfl,u,w⟩|⟨rfl,k⟩)
   .have a3:IntKind.u64.wrap (U r-1)=U (r-1#64):=VP;have V:bits .and Zh (U r) (U (r-1#64))=U (r &&& (r-1#64)):=im _ _;gi_wp2;go_roundw
    case rel=>exact⟨a++[t],r &&& (r-1#64),R,Ui,f.a.below w y,u⟩
    case measure=>simp only[intOf];rw[jh,jh,b.a];simp
   .gi_wp2;refine ZS (XS R _ _ _) R ?_;exact⟨⟨_,R⟩,Zj ⟨a++[t],⟨vD (r &&& (r-1#64)),Ui⟩,k⟩⟩
theorem oz(n:Nat)(k:1<=n)(Bn n₀:Nat)(d:Bn<n₀)(a:2<n₀)(s:BitVec 64)(w:I6)(hn₀:n₀<=w.heap.size)(j:w.cell? ⟨Bn,0,N⟩=S (I Zh (U s)))(h:kL w) :
 SeqStopsK Fence.wide n prog 207 #[ZI Bn] (λx:Nat=>#[Value.int L (x:Int)]) (Below n₀) (λm=>m=vD s) (λb=>b <+: vD s) (vD s).length w:=λl J f W e _ _ i g =>
 Dc n k l Bn n₀ d a s J f i W ((e.cell (p:=⟨Bn,0,N⟩) (qN d hn₀)).trans j) (h.below e (qN a hn₀)) g
theorem qi{t:TypeId}(h:W.heap[B]?=S (Z #[v] t (0,0))):W.cell? ⟨B,0,N⟩=S v/\W.frozen? ⟨B,0,N⟩=Zl:=by constructor<;>simp[World.cell?,World.frozen?,h]
theorem qq5(W:I6)(v:I7)(t:TypeId):(W.alloc (Z #[v] t)).cell? ⟨W.heap.size,0,N⟩=S v/\(W.alloc (Z #[v] t)).frozen? ⟨W.heap.size,0,N⟩=Zl :=
 qi (ZQ W _)
theorem dI(s:BitVec 64):(vD s).length<=64:=by have:=Y8 (λi=>s.getLsbD i) (List.range 64);unfold vD;exact OY
theorem xn(s:BitVec 64)(w:I6):Calls prog 132 #[I Zh (U s)] w λe w'=>e=Zd (.func (.func 207) #[] #[ZI w.heap.size])/\w'=w.alloc (Z #[I Zh (U s)] 195):=by have b:∀(a:Fn)(first cap:I0)(w:I6),(Instr.makeFunc a first cap).run prog w=.ok (.func a first cap) w:=λ_ _ _ _=>R;go_enter func132,ntmps132;exact Wz
theorem mT(x:Int)(w:I6):Calls prog 264 #[I L x] w λe w'=>e=Zd (I L 1)/\w'=w:=by go_enter func264,ntmps264;exact Wz
theorem l6{a:List Nat}(i:W.cell? ⟨w.heap.size+1,0,N⟩=S (I L (a.length:Nat)))(j:W.frozen? ⟨w.heap.size+1,0,N⟩=Zl)(d:W.cell? ⟨w.heap.size,0,N⟩=S v)(h:Below w.heap.size w W) :
 let b:=(W.setCell ⟨w.heap.size+1,0,N⟩ (I L ((a.length:Int)+1))).drew
 KeepsOthers W b/\Below w.heap.size W b/\(b.cell? ⟨w.heap.size+1,0,N⟩=S (I L ((a++[x]).length:Nat))/\b.frozen? ⟨w.heap.size+1,0,N⟩=Zl/\b.cell? ⟨w.heap.size,0,N⟩=S v)/\Below w.heap.size w b:=by
 intro b;have e:b.cell? ⟨w.heap.size+1,0,N⟩=S (I L ((a.length:Int)+1)):=World.cell?_setCell_same' W _ _ (by rw[i];rfl);have f:b.frozen? ⟨w.heap.size+1,0,N⟩=Zl:=by show(W.setCell ⟨w.heap.size+1,0,N⟩ (I L ((a.length:Int)+1))).frozen? ⟨w.heap.size+1,0,N⟩=Zl;rw[World.frozen?_setCell];exact j
 have g:b.cell? ⟨w.heap.size,0,N⟩=S v:=by show(W.setCell ⟨w.heap.size+1,0,N⟩ (I L ((a.length:Int)+1))).cell? ⟨w.heap.size,0,N⟩=S v;rw[X9 (w:=W) (Yg W ⟨w.heap.size+1,0,N⟩ _ w.heap.size WU)];exact d
 refine⟨(KeepsOthers.setCell W _ _).trans (KeepsOthers.drew _),((XL w.heap.size W).setCell (p:=⟨w.heap.size+1,0,N⟩) WU _).drew,⟨?_,f,g⟩,(h.setCell (p:=⟨w.heap.size+1,0,N⟩) WU _).drew⟩;rw[e];simp
theorem Aa(s:BitVec 64)(f:Nat)(w:I6)(i:f<w.heap.size)(k:2<w.heap.size)(j:w.cell? ⟨f,0,N⟩=S (I Zh (U s)))(y:kL w) :
 ZL 263 #[.func (.func 207) #[] #[ZI f],.func (.func 264) #[] #[]] w (I L (vD s).length):=by
 refine(ZY (n:=3)).1 ?_;refine callsIn_of_wp_marks func263 rfl trivial ?_ R;simp only[ntmps263,Nat.reduceAdd,Nat.reduceSub,Zr];gi_wp2;have b:=qq5 (w.alloc (Z #[.func (.func 264) #[] #[]] 276)) (I L 0) 3;have d:=(qq5 w (.func (.func 264) #[] #[]) 276).1;have g:Below w.heap.size w ((w.alloc (Z #[.func (.func 264) #[] #[]] 276)).alloc (Z #[I L 0] 3)):=((XL _ w).alloc Zy _).alloc WU _;have m:((w.alloc (Z #[.func (.func 264) #[] #[]] 276)).alloc (Z #[I L 0] 3)).cell? ⟨w.heap.size,0,N⟩=S (.func (.func 264) #[] #[]) :=
  (ZW (p:=⟨w.heap.size,0,N⟩) ((XL (w.heap.size+1) _).alloc WU _) (Nat.lt_succ_self _)).trans d
 rw[Z3]at b;refine wpIn_rangeFunc_ownF R O (gf:=207) (lb:=#[ZI f]) R trivial (YC func207 WR R)
  (oz _ O f w.heap.size i k s _ WX ((g.cell (p:=⟨f,0,N⟩) i).trans j) (y.below g k)) belowK_t (XZ WX) (XL _ _) (λ_=>R)
  (λa W=>(W.cell? ⟨w.heap.size+1,0,N⟩=S (I L (a.length:Nat))/\W.frozen? ⟨w.heap.size+1,0,N⟩=Zl/\W.cell? ⟨w.heap.size,0,N⟩=S (.func (.func 264) #[] #[]))/\Below w.heap.size w W)
  (λ_ _ _=>False)
  (OwnFrom.and (Own.from (λs A B row b o r=>⟨cell_kept b.1 o r,(frozen_kept b.1 o r).trans b.2.1,cell_kept b.2.2 o r⟩) _) (ownFrom_below Zy WX))
  (λ_ _ _ _ _ b _ _=>b)
  ⟨⟨b.1,b.2,m⟩,g⟩
  (λx=>{ tmps:=#[.func (.func 207) #[] #[ZI f],.func (.func 264) #[] #[],undef,ZI w.heap.size,I L 0,ZI (w.heap.size+1),I L (x:Nat),.func (.func 207) #[] #[ZI f],I L (x:Nat),undef,undef,undef,undef,undef,undef],defers:=[] }) ?assign ?body ?done ?stop
 case assign =>intro l x W K hK;gi_wp2;simpa using hK
 case body=>
  rintro l a x W ⟨⟨j,u,d⟩,i⟩ q;have v:a.length<64:=qN q (dI s);gi_wp2;have z:W.drew.cell? ⟨w.heap.size+1,0,N⟩=S (I L (a.length:Nat)):=j;have C:W.drew.frozen? ⟨w.heap.size+1,0,N⟩=Zl:=u;have E:W.drew.cell? ⟨w.heap.size,0,N⟩=S (.func (.func 264) #[] #[]):=d;gi_region_with (refine⟨trivial,?_⟩;gi_at_call 264;refine((ZY.2 (mT _ _)).inRound l).mono ?_;rintro e w' ⟨rfl,rfl⟩);all_goals
   gi_wp2;rw[show IntKind.i64.wrap ((a.length:Int)+1)=(a.length:Int)+1 from Vc];exact l6 j u d i
 case done =>rintro D F W hD rfl ⟨⟨j,_,_⟩,i⟩ hK;gi_wp2;refine⟨WU,Zi ⟨_,_,R,YU hK,?_⟩⟩;exact⟨_,Wh R _ _ _,R,i.trans (XZ (w:=w) Zy W D _ _ (by simp at hD;omega) hK R R)⟩
 case stop =>rintro D c a W _ _ h _;exact h.elim
theorem m9(s:BitVec 64)(a:Nat)(w:I6)(d:a<w.heap.size)(b:2<w.heap.size)(g:w.cell? ⟨a,0,N⟩=S (I Zh (U s)))(f:kL w) :
 ZL 218 #[.func (.func 207) #[] #[ZI a]] w (I L (vD s).length):=by go_enter func218,ntmps218;go_wp2_with(go_at_call 263;refine Z0 (Aa s a w d b g f) λw' h=>?_);go_ret;exact⟨R,h⟩
def jS(m:I8)(M:I0):Prop:=M.size=12/\∀i,i<12->M[i]?=S (I Zh (U (m i)))
def bg(b:Bool):Nat:=if b then 0 else 6
theorem FJ(b:Bool)(w:I6):Calls prog 131 #[Za b] w λe w'=>e=Zd (I L (bg b))/\w'=w:=by
 cases b
 .go_enter func131,ntmps131;exact Wz
 .go_enter func131,ntmps131;exact Wz
theorem io(b:Bool):bg b<=6:=by cases b<;>decide
theorem FL(m:I8)(M:I0)(d:jS m M)(b:Bool)(w:I6):ZL 213 #[Zc M,Za b] w (I Zh (U (m (bg b+5)))):=by
 have f:=io b;have g:(w.alloc (Z M 197)).cell? ⟨w.heap.size,bg b+5,N⟩=S (I Zh (U (m (bg b+5)))):=by rw[Z8 _ _ _ _ R];exact d.2 _ O
 clear d;have a:=X (FJ b);generalize bg b=k at f g a |-;go_enter func213,ntmps213;go_wp2_with(go_at_call 131;refine Z1 (a.a _) ?_);exact WM
theorem qxm(m:I8)(M:I0)(d:jS m M)(b:Bool)(w:I6):ZL 219 #[Zc M,Za b] w (I Zh (U (m (bg b)))):=by
 have f:=io b;have g:(w.alloc (Z M 197)).cell? ⟨w.heap.size,bg b,N⟩=S (I Zh (U (m (bg b)))):=by rw[Z8 _ _ _ _ R];exact d.2 _ O
 clear d;have a:=X (FJ b);generalize bg b=k at f g a |-;go_enter func219,ntmps219;go_wp2_with(go_at_call 131;refine Z1 (a.a _) ?_);exact WM
def wZ(m:Nat->BitVec 64)(base:Nat):Nat->BitVec 64
 | 0=>0#64
 | k+1=>wZ m base k ||| m (base+k)
def xZ(m:I8)(b:Bool):BitVec 64:=wZ m (bg b) 6
theorem jp(m:I8)(M:I0)(j:jS m M)(b:Bool)(w:I6):ZL 205 #[Zc M,Za b] w (I Zh (U (xZ m b))):=by
 have o:=io b;unfold xZ;have d:=X (FJ b);generalize bg b=q at o d |-;have f:=X j;clear j;have h:U 0#64=0:=WS;go_enter func205,ntmps205;go_wp2;go_loopg [5,7] 6 (λg a n wr=>∃k:Nat,k+g=6/\n=I L k/\a=I Zh (U (wZ m q k))/\wr=w.alloc (Z M 197))
 case atStart=>exact⟨0,R,R,by rw[show wZ m q 0=0#64 from R,h],R⟩
 case round=>
  obtain⟨k,u,rfl,rfl,rfl⟩:=hrel;by_cases p:k<6
  .have r:(w.alloc (Z M 197)).cell? ⟨w.heap.size,q+k,N⟩=S (I Zh (U (m (q+k)))):=by rw[Z8 _ _ _ _ R];exact f.a.2 _ O
   have i:bits .or Zh (U (wZ m q k)) (U (m (q+k)))=U (wZ m q (k+1)):=uQ _ _;go_wp2_with(go_at_call 131;refine Z1 (d.a _) ?_);go_roundg (gk-1)
   case measure=>omega
   case rel=>exact⟨k+1,O,Vg,by first|rfl|rw[i],R⟩
  .have l:k=6:=O;subst l;go_wp2;exact WM
def j0(m:I8):BitVec 64:=xZ m Zk ||| xZ m Zl
def vA(bw:Bool)(i:Nat):Int:=if i=0 then(if bw then 2 else 1)else(i:Int)+2
def uk(m:I8)(sq:Int)(bw:Bool)(i:Nat):Bool:=bits .and Zh (yL (vA bw i) sq (U (j0 m))) (U (m (bg bw+i))) != 0
def xV(m:I8)(sq:Int)(bw:Bool):Bool:=(List.range 6).any (uk m sq bw)
theorem uF:(prog.info? 197).map (·.size)=S 12:=WR
theorem BX(a:Bool)(k:Nat)(h:k<6):1<=vA a k/\vA a k<=7:=by
 unfold vA;by_cases b:k=0
 .rw[qI b];cases a<;>decide
 .rw[qF b];omega
def zR(bw:Bool):I0:=#[I L (vA bw 0),I L 3,I L 4,I L 5,I L 6,I L 7]
theorem DI:(prog.info? 204).map (·.size)=S 6:=WR
theorem gQ(a:Bool)(w:I6):ZL 130 #[Za (!a)] w (Zc (zR a)):=by
 cases a
 .go_enter func130,ntmps130;go_wp2;exact ZS (v:=Zc (zR Zl)) (Yp results130 _ _ w.heap.size 204 _ (0,0) _ R Zv underlying204 rfl DI) R ⟨R,ZN⟩
 .go_enter func130,ntmps130;go_wp2;exact ZS (v:=Zc (zR Zk)) (Yp results130 _ _ w.heap.size 204 _ (0,0) _ R Zv underlying204 rfl DI) R ⟨R,ZN⟩
theorem Gt(w:I6):(Instr.index 204 (Zc (zR Zk)) (I L 0)).run prog w=.ok (I L (vA Zk 0)) w:=WR
theorem Gs(w:I6):(Instr.index 204 (Zc (zR Zk)) (I L 1)).run prog w=.ok (I L (vA Zk 1)) w:=WR
theorem Gq(w:I6):(Instr.index 204 (Zc (zR Zk)) (I L 2)).run prog w=.ok (I L (vA Zk 2)) w:=WR
theorem Gp(w:I6):(Instr.index 204 (Zc (zR Zk)) (I L 3)).run prog w=.ok (I L (vA Zk 3)) w:=WR
theorem Gn(w:I6):(Instr.index 204 (Zc (zR Zk)) (I L 4)).run prog w=.ok (I L (vA Zk 4)) w:=WR
theorem Gm(w:I6):(Instr.index 204 (Zc (zR Zk)) (I L 5)).run prog w=.ok (I L (vA Zk 5)) w:=WR
theorem Gz(w:I6):(Instr.index 204 (Zc (zR Zl)) (I L 0)).run prog w=.ok (I L (vA Zl 0)) w:=WR
theorem Gy(w:I6):(Instr.index 204 (Zc (zR Zl)) (I L 1)).run prog w=.ok (I L (vA Zl 1)) w:=WR
theorem Gx(w:I6):(Instr.index 204 (Zc (zR Zl)) (I L 2)).run prog w=.ok (I L (vA Zl 2)) w:=WR
theorem Gw(w:I6):(Instr.index 204 (Zc (zR Zl)) (I L 3)).run prog w=.ok (I L (vA Zl 3)) w:=WR
theorem Gv(w:I6):(Instr.index 204 (Zc (zR Zl)) (I L 4)).run prog w=.ok (I L (vA Zl 4)) w:=WR
theorem Gu(w:I6):(Instr.index 204 (Zc (zR Zl)) (I L 5)).run prog w=.ok (I L (vA Zl 5)) w:=WR
theorem sn(a:Bool):∀k:Nat,k<6->∀w:I6,(Instr.index 204 (Zc (zR a)) (I L (k:Nat))).run prog w=.ok (I L (vA a k)) w:=by
 intro k b w;have:k=0\/k=1\/k=2\/k=3\/k=4\/k=5:=O;cases a
 .obtain rfl|rfl|rfl|rfl|rfl|rfl:=this
  .exact Gz w
  .exact Gy w
  .exact Gx w
  .exact Gw w
  .exact Gv w
  .exact Gu w
 .obtain rfl|rfl|rfl|rfl|rfl|rfl:=this
  .exact Gt w
  .exact Gs w
  .exact Gq w
  .exact Gp w
  .exact Gn w
  .exact Gm w
def vh(b:Nat)(M:I0)(w:I6):Prop:=b<w.heap.size/\w.rangeAt b 0 M.toList/\M.size=12
theorem vh.gr{b:Nat}(h:vh b M w)(g:Gr w w'):vh b M w' :=
 ⟨qN h.1 (ZR g),λj v a=>(ZW g (p:=⟨b,0+j,N⟩) h.1).trans (h.2.1 j v a),h.2.2⟩
def St(w1:I6)(b:Nat)(M:I0)(w:I6):Prop:=vh b M w/\Gr w1 w
theorem St.gr{b:Nat}(h:St w1 b M w)(g:Gr w w'):St w1 b M w':=⟨h.1.gr g,Gr.trans h.2 g⟩
theorem pd{d:Array Oper}{op:Oper}{a:Act}(j:M.size=12){S:I6->Prop}(g:Region.wanted op (yielded d a.tmps)=Zk)(x:Operand)(f:op.op=.load 197 x)(b:Nat)(i:a.eval x=ZI b)(e:∀w,S w->vh b M w):YieldsIf prog d S op (Zc M) a:=by have:=XW (P:=prog) g 197 x f b 0 i M.toList _ (λw h=>(e w h).2.1) underlying197 rfl (by rw[uF];simp[j]);rwa[Yb]at this
theorem Co{f:I5}(a:k<6)(h:f k=Zk):(List.range 6).any f=Zk:=qY.2 ⟨k,qK.2 a,h⟩
theorem wP{f:I5}(h:∀j,j<6->f j=Zl):(List.range 6).any f=Zl:=by rw[XD];intro j a;rw[h j (qK.1 a)];decide
theorem St.cell{b:Nat}{m:I8}(h:St w1 b M w)(d:jS m M)(k:Nat)(e:k<12):w.cell? ⟨b,k,N⟩=S (I Zh (U (m k))):=by have a:=h.1.2.1 k _ (by rw[qO];exact d.2 k e);rwa[Z2]at a
theorem qq0(m:I8)(M:I0)(T:jS m M)(z:Int)(h0:0<=z)(h1:z<=63)(b:Bool)(w:I6):ZL 127 #[Zc M,I L z,Za b] w (Za (xV m z b)):=by
 have A:=X T;have hz:=X T.1;have a4:vh w.heap.size M (w.alloc (Z M 197)):=⟨Vj,(by intro j v hv;rw[Z8 _ _ _ _ R,Z2,<-qO];exact hv),T.1⟩;have G:Y (Gr w (w.alloc (Z M 197))):=X ZN;have F:=X (FJ b);have a5:=X (gQ b);have B:=X (sn b);have hq:=io b;obtain⟨f,p⟩:∃f,Y (f=uk m z b):=⟨_,X R⟩;have u:Y (∀k,f k=(bits .and Zh (yL (vA b k) z (U (j0 m))) (U (m (bg b+k))) != 0)):=X (by rw[p.a];intro k;rfl);have o:xV m z b=(List.range 6).any f:=by rw[p.a];rfl
 rw[o];clear o p;generalize bg b=q at F hq u;generalize zR b=KA at a5 B;clear T;go_enter func127,ntmps127;go_wp2;generalize w.alloc (Z M 197)=w1 at a4 G |-;have Q:St w1 w.heap.size M w1.drew:=⟨a4.gr ZO.drew,ZO.drew⟩;clear a4;refine ZT (S:=St w1 w.heap.size M) WR Q (λd=>?_);refine C.ty 0 (Zc M) R (pd hz.a Vb _ R w.heap.size R (λ_ h=>h.1)) d ?_;refine C.ty 2 (Zc M) R (pd hz.a Vb _ R w.heap.size R (λ_ h=>h.1)) d ?_;refine C.rd 1 λK hK=>?_;go_simp;refine Z0 (jp m M A.a Zk _) λwa a8=>?_;refine hK.out _ _ (d.gr a8) λd=>?_;clear hK K Q a8;refine C.rd 3 λK hK=>?_;go_simp;refine Z0 (jp m M A.a Zl _) λwb a=>?_;refine hK.out _ _ (d.gr a) λd=>?_;clear hK K a;have a1:∀x y:BitVec 64,bits .or Zh (U x) (U y)=U (x ||| y):=uQ;refine C.ty 4 (I Zh (U (j0 m))) R (Or.inl ⟨Vb,λw _=>?_⟩) d ?_
 .go_simp;rfl
 refine C.rd 5 λK hK=>?_;go_simp;refine hK.out _ _ d λd=>?_;clear hK K a1;refine ZZ WR ?_ _;have V:=X (λk W=>St.cell d A.a k W);have a:Y (Gr w wb):=X (Gr.trans G.a d.2);clear d G hz A;generalize U (j0 m)=tk at u |-;go_wp2_with(go_at_call 130;refine Z0 (a5.a _) λwk H=>?_);replace V:Y (∀k,k<12->wk.cell? ⟨w.heap.size,k,N⟩=S (I Zh (U (m k)))):=X λk W=>(ZW H (p:=⟨w.heap.size,k,N⟩) (Ye wb _ (V.a k W))).trans (V.a k W);replace a:Y (Gr w wk):=X (Gr.trans a.a H);clear H;go_loopg [18] 6 (λg n wr=>∃k:Nat,k+g=6/\n=I L k/\(∀j,j<k->f j=Zl)/\wr=wk)
 case atStart=>exact⟨0,R,R,λj hj=>absurd hj (Yy j),R⟩
 case round=>
  obtain⟨k,k1,rfl,k3,rfl⟩:=hrel;have a6:=X k3;clear k3;by_cases J:k<6
  .have b0:=V.a (q+k) O;have a9:=B.a k J;have P:=BX b k J;have r:=u.a k;generalize vA b k=kd at a9 P r;have a2:0<=(k:Int):=O;have a3:(k:Int)<6:=O;obtain⟨D,E⟩:=P;by_cases a7:bits .and Zh (yL kd z tk) (U (m (q+k)))=0
   .have i:f k=Zl:=by rw[r,a7];rfl
    clear r;have l:=X i;clear i;go_wp2_with(first|(go_at_call 131;refine(F.a _).mono ?_;rintro e w' ⟨rfl,rfl⟩)|(go_at_call 206;refine(qjg kd z tk D E h0 h1 _).mono ?_;rintro e w' ⟨rfl,rfl⟩));go_roundg (gk-1)
    case measure=>omega
    case rel=>exact⟨k+1,O,Vg,(by
     intro j hj;by_cases a0:j=k
     .subst a0;exact l.a
     .exact a6.a j O),R⟩
   .have i:f k=Zk:=by rw[r];exact qU.2 a7
    clear r;have l:=X i;clear i;go_wp2_with(first|(go_at_call 131;refine(F.a _).mono ?_;rintro e w' ⟨rfl,rfl⟩)|(go_at_call 206;refine Z1 (qjg kd z tk D E h0 h1 _) ?_));go_ret;exact⟨by rw[Co J l.a];rfl,a.a⟩
  .have ek:k=6:=O;subst ek;go_wp2;go_ret;exact⟨by rw[wP a6.a];rfl,a.a⟩
theorem G1(B:I0)(k:Nat)(e:k<64)(v:Int)(b:B[k]?=S (I Zg v))(w:I6):(Instr.index 67 (Zc B) (I L (k:Nat))).run prog w=.ok (I Zg v) w:=by have a:0<=(k:Int)/\(k:Int)<64:=O;have d:=underlying67;simp[Instr.index,run_underlying d,asIntOf,a,go_sem,b];intro h;omega
def xD(z:Nat->UInt8):Nat->Nat->BitVec 64
 | 0,_=>0#64
 | k+1,p=>xD z k p ||| (if Lib.indexByte xU (z k)=(p:Int)then 1#64 <<< k else 0#64)
def ew(c:UInt8):Bool:=c==46||decide (0<=Lib.indexByte xU c)
def xO(z:I2):Bool:=(List.range 64).all λi=>ew (z i)
def yI:I0:=#[I Zh 0,I Zh 0,I Zh 0,I Zh 0,I Zh 0,I Zh 0,I Zh 0,I Zh 0,I Zh 0,I Zh 0,I Zh 0,I Zh 0]
theorem gM{p:Nat}(h:Lib.indexByte xU (z k)≠(p:Int)):xD z (k+1) p=xD z k p:=by show xD z k p ||| (if _ then _ else _)=_;rw[qF h];simp
theorem sc{p:Nat}(h:Lib.indexByte xU (z k)=(p:Int)):xD z (k+1) p=xD z k p ||| 1#64 <<< k:=by show xD z k p ||| (if _ then _ else _)=_;rw[qI h]
theorem fM(h:Lib.indexByte xU (z k)<0)(a:jS (xD z k) M):jS (xD z (k+1)) M :=
 ⟨a.1,λi b=>by rw[gM O];exact a.2 i b⟩
theorem mw{p:Nat}(d:p<12)(h:Lib.indexByte xU (z k)=(p:Int))(a:jS (xD z k) M):jS (xD z (k+1)) (M.setIfInBounds p (I Zh (U (xD z (k+1) p)))):=by
 refine⟨by simpa using a.1,λi b=>?_⟩;rw[Yu];by_cases e:p=i
 .subst e;rw[qI R,qI (by rw[a.1];exact d)]
 .rw[qF e,gM O];exact a.2 i b
theorem uo:Lib.indexByte xU 46=-1:=WS
theorem G4:∀c:UInt8,Lib.indexByte xU c<12:=by intro c;have:∀n,n<256->Lib.indexByte xU (UInt8.ofNat n)<12:=WS;have h:=this c.toNat c.toNat_lt;simpa using h
theorem dj(z:I2):jS (xD z 0) yI:=by refine⟨R,λi a=>?_⟩;have:i=0\/i=1\/i=2\/i=3\/i=4\/i=5\/i=6\/i=7\/i=8\/i=9\/i=10\/i=11:=O;rcases this with rfl|rfl|rfl|rfl|rfl|rfl|rfl|rfl|rfl|rfl|rfl|rfl<;>rfl
theorem jS.ones{m:I8}(h:jS m M):M.all (·.oneCell')=Zk:=by rw[Array.all_eq_true];intro i b;have a:=h.2 i (by rw[<-h.1];exact b);rw[qQ b]at a;rw[qP a];simp[Value.oneCell']
theorem jS.info{m:I8}(h:jS m M):(prog.info? 197).map (·.size)=S M.size:=by rw[uF,h.1]
def E2(z:I2)(e:Ending):Prop:=∃M,e=Zd (Ze #[Zc M,Za (xO z)])/\(∃m,jS m M)/\(xO z=Zk->jS (xD z 64) M)
theorem mg(a:k<64)(h:ew (z k)=Zl):xO z=Zl:=by unfold xO;rw[Wv];exact⟨k,qK.2 a,by rw[h];decide⟩
theorem Fy(h:∀j,j<64->ew (z j)=Zk):xO z=Zk:=by unfold xO;rw[qW];intro j a;exact h j (qK.1 a)
theorem lE(z:I2)(B:I0)(W:B.size=64)(Q:∀i,i<64->B[i]?=S (I Zg (z i).toNat))(w:I6):Calls prog 126 #[Zc B] w λe w'=>E2 z e/\Gr w w':=by
 have P:=X W;have G:=X Q;clear W Q;have u:Y (∀o1 o2 o3,_):=X (lM w);go_enter func126,ntmps126;go_wp2_with(refine ZV R 67 _ R w.heap.size R 67 B (0,0) _ (u.a _ _ _).1 underlying67 rfl (by rw[P.a];exact x7) ?_);go_loopg [9] 64 (λg n wr=>∃k:Nat,k+g=64/\n=I L k/\(∀j,j<k->ew (z j)=Zk)/\∃(M:I0)(d:Nat),jS (xD z k) M/\wr=(((w.alloc (Z B 67)).alloc (Z yI 197)).alloc (Z M 197)).drewN d)
 case atStart=>exact⟨0,R,R,λj v=>absurd v (Yy j),yI,0,dj z,R⟩
 case round=>
  obtain⟨k,k1,rfl,a2,M,d,H,rfl⟩:=hrel;have A:=X a2;have b:=X H;have a5:=H.1;clear a2 H;by_cases l:k<64
  .have a6:=G1 B k l _ (G.a k l);have a3:0<=(k:Int):=O;have a9:(k:Int)<64:=O;by_cases a:z k=46
   .have q:((z k).toNat:Int)=46:=by rw[a];rfl
    rw[q]at a6;go_wp2;go_roundg (gk-1)
    case measure=>omega
    case rel=>exact⟨k+1,O,Vg,(by
     intro j v;by_cases x:j=k
     .subst x;unfold ew;rw[a];rfl
     .exact A.a j O),M,d,fM (by rw[a,uo];decide) b.a,R⟩
   .have q:(((z k).toNat:Int)==46)=Zl:=by rw[qM];intro h;apply a;apply q6.1;have:(z k).toNat=46:=O;rw[this];rfl
    have r:=X a;clear a;have hu:((z k).toNat:Int).toNat.toUInt8=z k:=WU;have y:Y (ew (z k)=Zm (0<=Lib.indexByte xU (z k))):=X (by unfold ew;rw[qM.2 r.a,Xo]);have F:=G4 (z k);have K:Y (Lib.indexByte xU (z k)=Lib.indexByte xU (z k)):=X R;generalize f:Lib.indexByte xU (z k)=E at y F;have o:=X f;have a7:Lib.indexByte [80,78,66,82,81,75,112,110,98,114,113,107] (z k)=E:=f;clear f K;by_cases a8:E<0
    .have m:Y (xO z=Zl):=X (mg l (by rw[y.a];exact qE O));go_wp2_with(first|(go_at_call 200;refine(Tryz.strings_IndexByte _ _ _).mono ?_;rintro e w' ⟨rfl,rfl⟩)|(refine ZU R 197 _ _ R (w.heap.size+1) yI R R 197 yI (u.a _ _ _).2.1 uF R (dj z).ones ?_));exact ZS (v:=Ze #[Zc yI,Za Zl]) (qj results126 _ _ (w.heap.size+1) 197 yI (0,0) _ R (Zt (u.a _ _ _).2.1) underlying197 rfl uF) R ⟨⟨yI,by rw[m.a],⟨_,dj z⟩,λh=>by rw[m.a]at h;cases h⟩,(Gr.drewN ZN.al.al _).setRow _ O _⟩
    .obtain⟨p,rfl⟩:∃p:Nat,E=p:=⟨E.toNat,O⟩;have T:p<12:=O;have a1:0<=(p:Int):=O;have V:(p:Int)<12:=O;have J:(((w.alloc (Z B 67)).alloc (Z yI 197)).alloc (Z M 197)).cell? ⟨w.heap.size+1+1,p,N⟩=S (I Zh (U (xD z k p))):=by rw[Zs (u.a _ _ _).2.2];exact b.a.2 p T
     have a0:bits .or Zh (U (xD z k p)) (v6 (k:Int))=U (xD z (k+1) p):=by rw[rp k l,uQ,sc o.a]
     go_wp2_with(go_at_call 200;refine(Tryz.strings_IndexByte _ _ _).mono ?_;rintro e w' ⟨rfl,rfl⟩);have D:=X (A9 (k:Int) a3 O);go_region_with (go_at_call 204;refine Z1 (D.a _) ?_);all_goals
      go_wp2;go_roundg (gk-1)
      case measure=>omega
      case rel=>exact⟨k+1,O,Vg,(by
       intro j v;by_cases x:j=k
       .subst x;rw[y.a];exact qJ O
       .exact A.a j O),_,_,mw T o.a b.a,R⟩
  .have a4:k=64:=O;subst a4;have C:=X (Fy A.a);go_wp2_with(first|(refine ZV R 197 _ R (w.heap.size+2) R 197 M (0,0) _ (u.a _ _ _).2.2 underlying197 rfl b.a.info ?_)|(refine ZU R 197 _ _ R (w.heap.size+1) M R R 197 yI (u.a _ _ _).2.1 b.a.info a5.symm b.a.ones ?_));exact ZS (v:=Ze #[Zc M,Za Zk]) (qj results126 _ _ (w.heap.size+1) 197 M (0,0) _ R (Zt (u.a _ _ _).2.1) underlying197 rfl b.a.info) R ⟨⟨M,by rw[C.a],⟨_,b.a⟩,λ_=>b.a⟩,(Gr.drewN ZN.al.al _).setRow _ O _⟩
structure jE(z:I2)(wh:Bool)(f:I5)(b h g:Int)(PA:I0):Prop where
 size:PA.size=72
 sq:∀i,i<64->PA[i]?=S (I Zg (z i).toNat)
 wh:PA[64]?=S (Za wh)
 c:∀i,i<4->PA[65+i]?=S (Za (f i))
 b:PA[69]?=S (I L b)
 h:PA[70]?=S (I L h)
 g:PA[71]?=S (I L g)
def zP(h g:Int):Bool:=Zm (0<=h)&&Zm (h<=65535)&&Zm (1<=g)&&Zm (g<=65535)
theorem fh{f:I5}{g:Int}(r:jE z wh f b h g PA)(w:I6):ZL 145 #[Zc PA] w (Za (zP h g)):=by
 have l:(w.alloc (Z PA 70)).cell? ⟨w.heap.size,70,N⟩=S (I L h):=by rw[Z8 _ _ _ _ R];exact r.h
 have m:(w.alloc (Z PA 70)).cell? ⟨w.heap.size,71,N⟩=S (I L g):=by rw[Z8 _ _ _ _ R];exact r.g
 clear r;obtain⟨v,a⟩:=Zn (zP h g);rw[a.a];by_cases j:0<=h;by_cases k:h<=65535;by_cases d:1<=g;by_cases i:g<=65535;have e:Zk=v:=by rw[<-a.a];simp[zP,j,k,d,i]
 rotate_left;have e:Zl=v:=by rw[<-a.a];simp[zP,i]
 rotate_left;have e:Zl=v:=by rw[<-a.a];simp[zP,d]
 rotate_left;have e:Zl=v:=by rw[<-a.a];simp[zP,k]
 rotate_left;have e:Zl=v:=by rw[<-a.a];simp[zP,j]
 all_goals
  subst e;clear a;go_enter func145,ntmps145;go_wp2;go_ret;exact⟨R,ZN⟩
def xX(z:I2)(wh:Bool)(b:Int):Bool :=
 Zm (b=-1)||(if wh then Zm (40<=b)&&Zm (b<48)&&Zm (((z b.toNat).toNat:Int)=46)&&Zm (((z (b+8).toNat).toNat:Int)=46)&&Zm (((z (b-8).toNat).toNat:Int)=112)
  else Zm (16<=b)&&Zm (b<24)&&Zm (((z b.toNat).toNat:Int)=46)&&Zm (((z (b-8).toNat).toNat:Int)=46)&&Zm (((z (b+8).toNat).toNat:Int)=80))
theorem Ci{f:I5}{g:Int}(r:jE z Zk f b h g PA)(i:b≠-1)(w:I6):ZL 144 #[Zc PA] w (Za (xX z Zk b)):=by
 have d:∀o,(w.alloc (Z PA 70)).cell? ⟨w.heap.size,o,N⟩=PA[o]?:=λo=>Z8 _ _ _ _ R;have q:(w.alloc (Z PA 70)).cell? ⟨w.heap.size,64,N⟩=S (Za Zk):=by rw[d];exact r.wh
 have u:(w.alloc (Z PA 70)).cell? ⟨w.heap.size,69,N⟩=S (I L b):=by rw[d];exact r.b
 by_cases K:40<=b
 .by_cases Q:b<48
  .obtain⟨n,rfl⟩:∃n:Nat,b=n:=⟨b.toNat,O⟩;have M:40<=n:=O;have P:((n:Int)+-8).toNat=n-8:=O;have T:n<48:=O;have k:(w.alloc (Z PA 70)).cell? ⟨w.heap.size,n,N⟩=S (I Zg (z n).toNat):=by rw[d];exact r.sq n O
   have l:(w.alloc (Z PA 70)).cell? ⟨w.heap.size,n+8,N⟩=S (I Zg ((z (n+8)).toNat:Int)):=Ut;have m:(w.alloc (Z PA 70)).cell? ⟨w.heap.size,n-8,N⟩=S (I Zg ((z (n-8)).toNat:Int)):=Ut;have j:xX z Zk (n:Int)=(Zm (((z n).toNat:Int)=46)&&Zm (((z (n+8)).toNat:Int)=46)&&Zm (((z (n-8)).toNat:Int)=112)):=by have G:((n:Int)+8).toNat=n+8:=O;have H:((n:Int)-8).toNat=n-8:=O;have D:Zm ((n:Int)=-1)=Zl:=qE O;have E:Zm ((40:Int)<=n)=Zk:=qJ O;have F:Zm ((n:Int)<48)=Zk:=qJ O;unfold xX;rw[D,E,F,G,H,YE];simp only[Xo,Xc,YS,YH,qR]
   rw[j];clear j r d;generalize ((z n).toNat:Int)=A at k |-;generalize ((z (n+8)).toNat:Int)=B at l |-;generalize ((z (n-8)).toNat:Int)=C at m |-;obtain⟨v,a⟩:=Zn (Zm (A=46)&&Zm (B=46)&&Zm (C=112));rw[a.a];by_cases x:A=46
   .by_cases y:B=46
    .by_cases p:C=112
     .have e:Zk=v:=by rw[<-a.a];simp[x,y,p]
      exact WF
     .have e:Zl=v:=by rw[<-a.a];simp[p]
      subst e;clear a;have J:=qM.2 p;exact WG
    .have e:Zl=v:=by rw[<-a.a];simp[y]
     exact WF
   .have e:Zl=v:=by rw[<-a.a];simp[x]
    exact WF
  .obtain⟨v,a⟩:=Zn (xX z Zk b);exact IP
 .obtain⟨v,a⟩:=Zn (xX z Zk b);exact IP
theorem Cl{f:I5}{g:Int}(r:jE z Zl f b h g PA)(i:b≠-1)(w:I6):ZL 144 #[Zc PA] w (Za (xX z Zl b)):=by
 have d:∀o,(w.alloc (Z PA 70)).cell? ⟨w.heap.size,o,N⟩=PA[o]?:=λo=>Z8 _ _ _ _ R;have q:(w.alloc (Z PA 70)).cell? ⟨w.heap.size,64,N⟩=S (Za Zl):=by rw[d];exact r.wh
 have u:(w.alloc (Z PA 70)).cell? ⟨w.heap.size,69,N⟩=S (I L b):=by rw[d];exact r.b
 by_cases J:16<=b
 .by_cases K:b<24
  .obtain⟨n,rfl⟩:∃n:Nat,b=n:=⟨b.toNat,O⟩;have Q:16<=n:=O;have M:n<24:=O;have k:(w.alloc (Z PA 70)).cell? ⟨w.heap.size,n,N⟩=S (I Zg (z n).toNat):=by rw[d];exact r.sq n O
   have l:(w.alloc (Z PA 70)).cell? ⟨w.heap.size,n-8,N⟩=S (I Zg ((z (n-8)).toNat:Int)):=Ut;have m:(w.alloc (Z PA 70)).cell? ⟨w.heap.size,n+8,N⟩=S (I Zg ((z (n+8)).toNat:Int)):=Ut;have j:xX z Zl (n:Int)=(Zm (((z n).toNat:Int)=46)&&Zm (((z (n-8)).toNat:Int)=46)&&Zm (((z (n+8)).toNat:Int)=80)):=by have G:((n:Int)+8).toNat=n+8:=O;have H:((n:Int)-8).toNat=n-8:=O;have D:Zm ((n:Int)=-1)=Zl:=qE O;have E:Zm ((16:Int)<=n)=Zk:=qJ O;have F:Zm ((n:Int)<24)=Zk:=qJ O;unfold xX;rw[D,E,F,G,H,YE];simp only[Xo,Xc,YS,YH,qR]
   rw[j];clear j r d;generalize ((z n).toNat:Int)=A at k |-;generalize ((z (n-8)).toNat:Int)=B at l |-;generalize ((z (n+8)).toNat:Int)=C at m |-;obtain⟨v,a⟩:=Zn (Zm (A=46)&&Zm (B=46)&&Zm (C=80));rw[a.a];by_cases x:A=46
   .by_cases y:B=46
    .by_cases p:C=80
     .have e:Zk=v:=by rw[<-a.a];simp[x,y,p]
      exact WF
     .have e:Zl=v:=by rw[<-a.a];simp[p]
      subst e;clear a;have P:=qM.2 p;exact WG
    .have e:Zl=v:=by rw[<-a.a];simp[y]
     exact WF
   .have e:Zl=v:=by rw[<-a.a];simp[x]
    exact WF
  .obtain⟨v,a⟩:=Zn (xX z Zl b);exact IP
 .obtain⟨v,a⟩:=Zn (xX z Zl b);exact IP
theorem Cj{f:I5}{g:Int}(r:jE z wh f (-1) h g PA)(w:I6):ZL 144 #[Zc PA] w (Za (xX z wh (-1))):=by
 have a:(w.alloc (Z PA 70)).cell? ⟨w.heap.size,69,N⟩=S (I L (-1)):=by rw[Z8 _ _ _ _ R];exact r.b
 clear r;have e:xX z wh (-1)=Zk:=by simp[xX]
 rw[e];clear e;exact WG
theorem nS{f:I5}{g:Int}(r:jE z wh f b h g PA)(w:I6):ZL 144 #[Zc PA] w (Za (xX z wh b)):=by
 by_cases a:b=-1
 .subst a;exact Cj r w
 .cases wh
  .exact Cl r a w
  .exact Ci r a w
def jF(w:I6):Prop:=kL w/\2<w.heap.size
theorem jF.gr(h:jF w)(g:Gr w w'):jF w':=⟨h.1.below g.below h.2,qN h.2 (ZR g)⟩
def Sx(w1:I6)(b:Nat)(M:I0)(w:I6):Prop:=St w1 b M w/\jF w
theorem Sx.gr{b:Nat}(h:Sx w1 b M w)(g:Gr w w'):Sx w1 b M w':=⟨h.1.gr g,h.2.gr g⟩
theorem Sx.held{b:Nat}(h:Sx w1 b M w):vh b M w:=h.1.1
theorem Sx.tab{b:Nat}(h:Sx w1 b M w):jF w:=h.2
theorem Sx.grow{b:Nat}(h:Sx w1 b M w):Gr w1 w:=h.1.2
theorem qp{e:Array Oper}{d:List Oper}{o:Oper}{a:Act}{Q:Exit->Act->I6->Prop}(i:Region.wanted o (yielded e a.tmps)=Zk)(x:Operand)(g:o.op=.load 197 x)(b:Nat)(j:a.eval x=ZI b)(f:vh b M w)
 (h:wpList prog e Q d (a.put o.dst (Zc M)) w):wpList prog e Q (o :: d) a w :=
 wpList_step λK hK=>by rw[qI i];refine wp_load_mid (P:=prog) 197 x g b 0 j M.toList _ f.2.1 underlying197 rfl (by rw[uF];simp[f.2.2]) ?_;rw[Yb];exact hK _ _ h
theorem qx2(s:BitVec 64)(w:I6)(a:jF w) :
 Calls prog 218 #[.func (.func 207) #[] #[ZI w.heap.size]] (w.alloc (Z #[I Zh (U s)] 195)) λe w'=>e=Zd (I L (vD s).length)/\Gr w w':=by have g:Gr w (w.alloc (Z #[I Zh (U s)] 195)):=ZN;refine(m9 s w.heap.size _ Vj (a.gr g).2 Ug (a.gr g).1).mono ?_;rintro e w' ⟨b,d⟩;exact⟨b,Gr.trans g d⟩
def vM(m:I8)(b:Bool):Bool:=Zm (((vD (m (bg b+5))).length:Int)=1)&&Zm (((vD (xZ m b)).length:Int)<=16)&&Zm (bits .and Zh (U (m (bg b))) 18374686479671623935=0)
theorem bO(m:I8)(M:I0)(l:jS m M)(b:Bool)(w:I6)(o:jF w):ZL 142 #[Zc M,Za b] w (Za (vM m b)):=by
 have f:=X l;have h:Y (Gr w (w.alloc (Z M 197))):=X ZN;have a:Sx w w.heap.size M (w.alloc (Z M 197)):=⟨⟨⟨Vj,(by intro j v g;rw[Z8 _ _ _ _ R,Z2,<-qO];exact g),l.1⟩,h.a⟩,o.gr h.a⟩;clear l o;obtain⟨v,g⟩:=Zn (vM m b);rw[g.a];by_cases i:((vD (m (bg b+5))).length:Int)=1;by_cases n:((vD (xZ m b)).length:Int)<=16;by_cases k:bits .and Zh (U (m (bg b))) 18374686479671623935=0;have e:Zk=v:=by rw[<-g.a];simp only[vM,qJ i,qJ n,qJ k];rfl
 subst e;clear g;rotate_left;have e:Zl=v:=by rw[<-g.a];simp only[vM,qE k,XU]
 subst e;clear g;have q:=qM.2 k;rotate_left;have e:Zl=v:=by rw[<-g.a];simp only[vM,qE n,XU,XK]
 subst e;clear g;rotate_left;have e:Zl=v:=by rw[<-g.a];simp only[vM,qE i,XK]
 subst e;clear g;have p:=qM.2 i;all_goals
  go_enter func142,ntmps142;go_wp2_with(first
   | (refine qp Vb _ R w.heap.size R (Sx.held (w1:=w) ‹_›) ?_)
   | (go_at_call 213;refine Z0 (FL m M f.a _ _) λw' d=>?_;have a:=Sx.gr ‹_› d)
   | (go_at_call 205;refine Z0 (jp m M f.a _ _) λw' d=>?_;have a:=Sx.gr ‹_› d)
   | (go_at_call 219;refine Z0 (qxm m M f.a _ _) λw' d=>?_;have a:=Sx.gr ‹_› d)
   | (go_at_call 132;refine(xn _ _).mono ?_;rintro e w' ⟨rfl,rfl⟩)
   | (go_at_call 218;refine Z0 (qx2 _ _ (Sx.tab (w1:=w) (b:=w.heap.size) (M:=M) ‹_›)) λw' d=>?_;have a:=Sx.gr ‹_› d))
  go_ret;exact⟨R,a.grow⟩
def vp:List I7:=[I L 4,I Zg 75,I L 7,I Zg 82,I L 4,I Zg 75,I L 0,I Zg 82,I L 60,I Zg 107,I L 63,I Zg 114,I L 60,I Zg 107,I L 56,I Zg 114]
def vJ(w:I6):Prop:=w.rangeAt 1 0 vp/\1<w.heap.size
theorem vJ.gr(h:vJ w)(g:Gr w w'):vJ w' :=
 ⟨λj v a=>(ZW g (p:=⟨_,0+j,N⟩) h.2).trans (h.1 j v a),qN h.2 (ZR g)⟩
theorem ss:(prog.info? 269).map (·.size)=S vp.length:=WR
def xN(z:I2)(f:I5)(ks:Nat)(kl:Int)(rs:Nat)(rl:Int)(k:Nat):Bool:=!(f k)||(Zm (((z ks).toNat:Int)=kl)&&Zm (((z rs).toNat:Int)=rl))
def zX(z:Nat->UInt8)(f:Nat->Bool):Nat->Bool
 | 0=>xN z f 4 75 7 82 0
 | 1=>xN z f 4 75 0 82 1
 | 2=>xN z f 60 107 63 114 2
 | 3=>xN z f 60 107 56 114 3
 | _=>Zk
def jH(z:I2)(f:I5):Bool:=(List.range 4).all (zX z f)
theorem xt{f:I5}(a:k<4)(h:zX z f k=Zl):jH z f=Zl:=by unfold jH;rw[Wv];exact⟨k,qK.2 a,by rw[h];decide⟩
theorem qvw{f:I5}(h:∀j,j<4->zX z f j=Zk):jH z f=Zk:=by unfold jH;rw[qW];intro j a;exact h j (qK.1 a)
theorem Gl(w:I6):(Instr.index 269 (Zc vp.toArray) (I L 0)).run prog w=.ok (Zc #[I L 4,I Zg 75,I L 7,I Zg 82]) w:=WR
theorem Gk(w:I6):(Instr.index 269 (Zc vp.toArray) (I L 1)).run prog w=.ok (Zc #[I L 4,I Zg 75,I L 0,I Zg 82]) w:=WR
theorem Gj(w:I6):(Instr.index 269 (Zc vp.toArray) (I L 2)).run prog w=.ok (Zc #[I L 60,I Zg 107,I L 63,I Zg 114]) w:=WR
theorem Gi(w:I6):(Instr.index 269 (Zc vp.toArray) (I L 3)).run prog w=.ok (Zc #[I L 60,I Zg 107,I L 56,I Zg 114]) w:=WR
theorem tj{f:I5}{g:Int}(r:jE z wh f b h g PA)(w:I6)(R:vJ w):ZL 143 #[Zc PA] w (Za (jH z f)):=by
 have G:=X r;clear r;have Q:=X R;clear R;have W:Y (∀o,(w.alloc (Z PA 70)).cell? ⟨w.heap.size,o,N⟩=PA[o]?):=X (λo=>Z8 _ _ _ _ rfl);have u:Y (Gr w (w.alloc (Z PA 70))):=X ZN;have a2:Y (w.heap.size<(w.alloc (Z PA 70)).heap.size):=X Vj;generalize P:vp.toArray=a6;go_enter func143,ntmps143;go_wp2_with(refine Yo rfl 269 _ rfl 1 0 rfl vp _ (Q.a.gr u.a).1 underlying269 rfl ss ?_);go_loopg [6] 4 (λV n wr=>∃k:Nat,k+V=4/\n=I L k/\(∀j,j<k->zX z f j=Zk)/\Gr (w.alloc (Z PA 70)) wr)
 case atStart=>exact⟨0,rfl,rfl,λj p=>absurd p (Yy j),ZO⟩
 case round=>
  obtain⟨k,k1,rfl,a3,H⟩:=hrel;have B:=X a3;have a:=X H;clear a3;have i:∀o v,PA[o]?=S v->wr.cell? ⟨w.heap.size,o,N⟩=S v:=λo v J=>(ZW H (p:=⟨w.heap.size,o,N⟩) a2.a).trans ((W.a o).trans J);have K:w.heap.size<wr.heap.size:=qN a2.a (ZR H);clear H;by_cases a5:k<4
  .have a4:k=0\/k=1\/k=2\/k=3:=O;obtain rfl|rfl|rfl|rfl:=a4
   .have D:=Gl;rw[P]at D;have A:∀o v,PA[o]?=S v->(wr.alloc (Z #[I L 4,I Zg 75,I L 7,I Zg 82] 268)).cell? ⟨w.heap.size,o,N⟩=S v:=λo v J=>(ZW ZN (p:=⟨w.heap.size,o,N⟩) K).trans (i o v J);have a0:(wr.alloc (Z #[I L 4,I Zg 75,I L 7,I Zg 82] 268)).cell? ⟨w.heap.size,65,N⟩=S (Za (f 0)):=A _ _ (G.a.c 0 WW);have hK:(wr.alloc (Z #[I L 4,I Zg 75,I L 7,I Zg 82] 268)).cell? ⟨w.heap.size,4,N⟩=S (I Zg (z 4).toNat):=A _ _ (G.a.sq 4 WW);have hR:(wr.alloc (Z #[I L 4,I Zg 75,I L 7,I Zg 82] 268)).cell? ⟨w.heap.size,7,N⟩=S (I Zg (z 7).toNat):=A _ _ (G.a.sq 7 WW);clear A i;obtain⟨C,d⟩:=Zn (f 0);obtain⟨x,E⟩:=Zn ((z 4).toNat:Int);obtain⟨y,F⟩:=Zn ((z 7).toNat:Int);rw[d.a]at a0;rw[E.a]at hK;rw[F.a]at hR;cases C
    .skip;go_wp2;go_quiet(fail);go_wp2;go_roundg (gk-1)
     case measure=>omega
     case rel=>exact⟨0+1,O,Vg,(by
      intro j p;by_cases l:j=0
      .subst l;show xN z f 4 75 7 82 0=Zk;unfold xN;rw[d.a];rfl
      .exact B.a j O),Gr.drewN (a.a.alloc _ _) _⟩
    .by_cases m:x=75
     .subst m;by_cases q:y=82
      .subst q;go_wp2;go_quiet(fail);go_wp2;go_roundg (gk-1)
       case measure=>omega
       case rel=>exact⟨0+1,O,Vg,(by
        intro j p;by_cases l:j=0
        .subst l;show xN z f 4 75 7 82 0=Zk;unfold xN;rw[d.a,E.a,F.a];rfl
        .exact B.a j O),Gr.drewN (a.a.alloc _ _) _⟩
      .have a1:(y != 82)=Zk:=qU.2 q;have e:=X (show jH z f=Zl from xt (k:=0) WW (show xN z f 4 75 7 82 0=Zl from VY));exact WE
     .have M:(x != 75)=Zk:=qU.2 m;have e:=X (show jH z f=Zl from xt (k:=0) WW (show xN z f 4 75 7 82 0=Zl from VZ));exact WE
   .have D:=Gk;rw[P]at D;have A:∀o v,PA[o]?=S v->(wr.alloc (Z #[I L 4,I Zg 75,I L 0,I Zg 82] 268)).cell? ⟨w.heap.size,o,N⟩=S v:=λo v J=>(ZW ZN (p:=⟨w.heap.size,o,N⟩) K).trans (i o v J);have a0:(wr.alloc (Z #[I L 4,I Zg 75,I L 0,I Zg 82] 268)).cell? ⟨w.heap.size,66,N⟩=S (Za (f 1)):=A _ _ (G.a.c 1 WW);have hK:(wr.alloc (Z #[I L 4,I Zg 75,I L 0,I Zg 82] 268)).cell? ⟨w.heap.size,4,N⟩=S (I Zg (z 4).toNat):=A _ _ (G.a.sq 4 WW);have hR:(wr.alloc (Z #[I L 4,I Zg 75,I L 0,I Zg 82] 268)).cell? ⟨w.heap.size,0,N⟩=S (I Zg (z 0).toNat):=A _ _ (G.a.sq 0 WW);clear A i;obtain⟨C,d⟩:=Zn (f 1);obtain⟨x,E⟩:=Zn ((z 4).toNat:Int);obtain⟨y,F⟩:=Zn ((z 0).toNat:Int);rw[d.a]at a0;rw[E.a]at hK;rw[F.a]at hR;cases C
    .skip;go_wp2;go_quiet(fail);go_wp2;go_roundg (gk-1)
     case measure=>omega
     case rel=>exact⟨1+1,O,Vg,(by
      intro j p;by_cases l:j=1
      .subst l;show xN z f 4 75 0 82 1=Zk;unfold xN;rw[d.a];rfl
      .exact B.a j O),Gr.drewN (a.a.alloc _ _) _⟩
    .by_cases m:x=75
     .subst m;by_cases q:y=82
      .subst q;go_wp2;go_quiet(fail);go_wp2;go_roundg (gk-1)
       case measure=>omega
       case rel=>exact⟨1+1,O,Vg,(by
        intro j p;by_cases l:j=1
        .subst l;show xN z f 4 75 0 82 1=Zk;unfold xN;rw[d.a,E.a,F.a];rfl
        .exact B.a j O),Gr.drewN (a.a.alloc _ _) _⟩
      .have a1:(y != 82)=Zk:=qU.2 q;have e:=X (show jH z f=Zl from xt (k:=1) WW (show xN z f 4 75 0 82 1=Zl from VY));exact WE
     .have M:(x != 75)=Zk:=qU.2 m;have e:=X (show jH z f=Zl from xt (k:=1) WW (show xN z f 4 75 0 82 1=Zl from VZ));exact WE
   .have D:=Gj;rw[P]at D;have A:∀o v,PA[o]?=S v->(wr.alloc (Z #[I L 60,I Zg 107,I L 63,I Zg 114] 268)).cell? ⟨w.heap.size,o,N⟩=S v:=λo v J=>(ZW ZN (p:=⟨w.heap.size,o,N⟩) K).trans (i o v J);have a0:(wr.alloc (Z #[I L 60,I Zg 107,I L 63,I Zg 114] 268)).cell? ⟨w.heap.size,67,N⟩=S (Za (f 2)):=A _ _ (G.a.c 2 WW);have hK:(wr.alloc (Z #[I L 60,I Zg 107,I L 63,I Zg 114] 268)).cell? ⟨w.heap.size,60,N⟩=S (I Zg (z 60).toNat):=A _ _ (G.a.sq 60 WW);have hR:(wr.alloc (Z #[I L 60,I Zg 107,I L 63,I Zg 114] 268)).cell? ⟨w.heap.size,63,N⟩=S (I Zg (z 63).toNat):=A _ _ (G.a.sq 63 WW);clear A i;obtain⟨C,d⟩:=Zn (f 2);obtain⟨x,E⟩:=Zn ((z 60).toNat:Int);obtain⟨y,F⟩:=Zn ((z 63).toNat:Int);rw[d.a]at a0;rw[E.a]at hK;rw[F.a]at hR;cases C
    .skip;go_wp2;go_quiet(fail);go_wp2;go_roundg (gk-1)
     case measure=>omega
     case rel=>exact⟨2+1,O,Vg,(by
      intro j p;by_cases l:j=2
      .subst l;show xN z f 60 107 63 114 2=Zk;unfold xN;rw[d.a];rfl
      .exact B.a j O),Gr.drewN (a.a.alloc _ _) _⟩
    .by_cases m:x=107
     .subst m;by_cases q:y=114
      .subst q;go_wp2;go_quiet(fail);go_wp2;go_roundg (gk-1)
       case measure=>omega
       case rel=>exact⟨2+1,O,Vg,(by
        intro j p;by_cases l:j=2
        .subst l;show xN z f 60 107 63 114 2=Zk;unfold xN;rw[d.a,E.a,F.a];rfl
        .exact B.a j O),Gr.drewN (a.a.alloc _ _) _⟩
      .have a1:(y != 114)=Zk:=qU.2 q;have e:=X (show jH z f=Zl from xt (k:=2) WW (show xN z f 60 107 63 114 2=Zl from VY));exact WE
     .have M:(x != 107)=Zk:=qU.2 m;have e:=X (show jH z f=Zl from xt (k:=2) WW (show xN z f 60 107 63 114 2=Zl from VZ));exact WE
   .have D:=Gi;rw[P]at D;have A:∀o v,PA[o]?=S v->(wr.alloc (Z #[I L 60,I Zg 107,I L 56,I Zg 114] 268)).cell? ⟨w.heap.size,o,N⟩=S v:=λo v J=>(ZW ZN (p:=⟨w.heap.size,o,N⟩) K).trans (i o v J);have a0:(wr.alloc (Z #[I L 60,I Zg 107,I L 56,I Zg 114] 268)).cell? ⟨w.heap.size,68,N⟩=S (Za (f 3)):=A _ _ (G.a.c 3 WW);have hK:(wr.alloc (Z #[I L 60,I Zg 107,I L 56,I Zg 114] 268)).cell? ⟨w.heap.size,60,N⟩=S (I Zg (z 60).toNat):=A _ _ (G.a.sq 60 WW);have hR:(wr.alloc (Z #[I L 60,I Zg 107,I L 56,I Zg 114] 268)).cell? ⟨w.heap.size,56,N⟩=S (I Zg (z 56).toNat):=A _ _ (G.a.sq 56 WW);clear A i;obtain⟨C,d⟩:=Zn (f 3);obtain⟨x,E⟩:=Zn ((z 60).toNat:Int);obtain⟨y,F⟩:=Zn ((z 56).toNat:Int);rw[d.a]at a0;rw[E.a]at hK;rw[F.a]at hR;cases C
    .skip;go_wp2;go_quiet(fail);go_wp2;go_roundg (gk-1)
     case measure=>omega
     case rel=>exact⟨3+1,O,Vg,(by
      intro j p;by_cases l:j=3
      .subst l;show xN z f 60 107 56 114 3=Zk;unfold xN;rw[d.a];rfl
      .exact B.a j O),Gr.drewN (a.a.alloc _ _) _⟩
    .by_cases m:x=107
     .subst m;by_cases q:y=114
      .subst q;go_wp2;go_quiet(fail);go_wp2;go_roundg (gk-1)
       case measure=>omega
       case rel=>exact⟨3+1,O,Vg,(by
        intro j p;by_cases l:j=3
        .subst l;show xN z f 60 107 56 114 3=Zk;unfold xN;rw[d.a,E.a,F.a];rfl
        .exact B.a j O),Gr.drewN (a.a.alloc _ _) _⟩
      .have a1:(y != 114)=Zk:=qU.2 q;have e:=X (show jH z f=Zl from xt (k:=3) WW (show xN z f 60 107 56 114 3=Zl from VY));exact WE
     .have M:(x != 107)=Zk:=qU.2 m;have e:=X (show jH z f=Zl from xt (k:=3) WW (show xN z f 60 107 56 114 3=Zl from VZ));exact WE
  .have T:k=4:=O;subst T;go_wp2;go_ret;exact⟨by rw[qvw B.a];rfl,Gr.trans u.a a.a⟩
theorem Db(n:Nat)(Q:1<=n)(l Bn n₀:Nat)(G:Bn<n₀)(z:2<n₀)(s:BitVec 64)(J D:List (Fin 64)->I6->Prop)
 (L:∀a x W,J a W->a.length<(vD s).length->YieldAt Fence.wide (n-1) prog l #[I .i64 (x.val:Nat)] W λe h =>(e=Zd (Za Zk)/\J (a++[x]) h/\Below n₀ W h)\/(e=Zd (Za Zl)/\D (a++[x]) h))
 (W:I6) (a0:W.cell? ⟨Bn,0,N⟩=S (I Zh (U s))) (K:kL W) (H:J [] W) :
 CallsIn Fence.wide n prog 207 #[.func (.yield l) #[] #[],ZI Bn] W λe h=>(∃v,e=Zd v) ∧
  ((∃F:List (Fin 64),F.map (·.val)=vD s/\J F h)\/(∃a:List (Fin 64),a.map (·.val) <+: vD s/\D a h)):=by
 refine callsIn_of_wp func207 rfl trivial ?_ R;simp only[ntmps207,Nat.reduceAdd,Nat.reduceSub,Zr];gi_wp2;gi_loopw [3] (λp wr=>∃(a:List (Fin 64)) (r:BitVec 64),p=I Zh (U r)/\vD s=a.map (·.val)++vD r/\kL wr/\J a wr) (λp _=>(vD (BitVec.ofInt 64 (intOf p))).length)
 case atStart=>exact⟨[],s,R,R,K,H⟩
 case round=>
  obtain⟨a,r,rfl,i,m,j⟩:=hrel;by_cases q:r=0#64
  .subst q;have a1:(U 0#64 != 0)=Zl:=WS;rw[qv8,Yh]at i;have d:=X i;clear i;gi_wp2;go_end0;exact⟨⟨_,R⟩,Zi ⟨a,d.a.symm,j⟩⟩
  .obtain⟨t,u,B,C⟩:=qji r q;have g:=qv9 r t u B C;have M:(U r != 0)=Zk:=VN;have A:=X (eI r t B C);obtain⟨P,tmps,o,E,V,hR⟩:=L a ⟨t,u⟩ wr j (by rw[i,g];simp);have d:=X i;have b:=X g;have f:=X m;clear i g m q B C;gi_wp2_with (refine⟨trivial,?_⟩;gi_at_call 208;refine(ZY.2 (A.a _ f.a)).mono ?_;rintro e w' ⟨rfl,rfl⟩);refine hR.mono ?_;rintro e W3 (⟨rfl,w,y⟩|⟨rfl,k⟩)
   .have a2:IntKind.u64.wrap (U r-1)=U (r-1#64):=VP;have T:bits .and Zh (U r) (U (r-1#64))=U (r &&& (r-1#64)):=im _ _;gi_wp2;go_roundw
    case rel=>exact⟨a++[⟨t,u⟩],r &&& (r-1#64),R,Ui,f.a.below y z,w⟩
    case measure=>simp only[intOf];rw[jh,jh,b.a];simp
   .gi_wp2;refine ZS (XS R _ _ _) R ?_;exact⟨⟨_,R⟩,Zj ⟨a++[⟨t,u⟩],⟨vD (r &&& (r-1#64)),Ui⟩,k⟩⟩
theorem l8(n:Nat)(k:1<=n)(Bn n₀:Nat)(d:Bn<n₀)(a:2<n₀)(s:BitVec 64)(w:I6)(hn₀:n₀<=w.heap.size)(j:w.cell? ⟨Bn,0,N⟩=S (I Zh (U s)))(h:kL w) :
 SeqStopsK Fence.wide n prog 207 #[ZI Bn] (λx:Fin 64=>#[Value.int L ((x.val:Nat):Int)]) (Below n₀) (λm=>m.map (·.val)=vD s) (λb=>b.map (·.val) <+: vD s) (vD s).length w:=λl J f W e _ _ i g =>
 Db n k l Bn n₀ d a s J f i W ((e.cell (p:=⟨Bn,0,N⟩) (qN d hn₀)).trans j) (h.below e (qN a hn₀)) g
theorem Gr.others(g:Gr W a):KeepsOthers W a:=⟨ZR g,λk _ b _=>(YG g k (qB.1 b).1).trans b⟩
theorem xf{F:Fence}{g:Array Oper}{d:List Oper}{o:Oper}{a:Act}{Q:Exit->Act->I6->Prop}(l:o.guard=N)(x:Operand)(i:o.op=.load 197 x)(b:Nat)(p:a.eval x=ZI b)(j:vh b M w)
 (h:wpListIn F n prog g Q d (a.put o.dst (Zc M)) w):wpListIn F n prog g Q (o :: d) a w :=
 wpListIn_plain l λK hK=>by
  refine⟨λf k=>?_,?_⟩
  .simp[Oper.about,i]at k
  .rw[Oper.semAt_eq _ _ _ (by rw[i];intro c e;cases e)];have m:(execOp a.eval o).run prog w=.ok (.value (Zc M)) w:=by have:=run_loadVar_mid (P:=prog) w b 0 197 M.toList _ j.2.1 underlying197 rfl (by rw[uF];simp[j.2.2]);rw[Yb]at this;unfold execOp;simp only[i,p,Instr.loadAt,Instr.sureAddr,Sem.run_bind,Sem.run_pure,XV,this]
   rw[m,Oper.uponIn_value];exact hK _ _ h
theorem jt{b:Nat}(h:W.heap[b]?=S (Z M 197))(d:M.size=12):vh b M W :=
 ⟨(qB.1 h).1,λj v a=>by rw[Zs h,Z2,<-qO];exact a,d⟩
theorem jm{b:Nat}{u:I7}{t:TypeId}(h:W.heap[b]?=S (Z #[u] t)):(W.setCell ⟨b,0,N⟩ v).heap[b]?=S (Z #[v] t):=by have d:=(qB.1 h).1;have a:W.heap[b]=Z #[u] t:=(qB.1 h).2;exact Iy
theorem DA{b D:Nat}{o o':Obj}(h:W.heap[b]?=S o)(a:b≠D):(W.putObj D o').heap[b]?=S o:=(Xw a).trans h
theorem ie(tmps:I0)(w:I6)(b:Nat)(v:I7)(e:tmps.getD 4 undef=ZI b)(d:w.cell? ⟨b,0,N⟩=S v):(results Tryz.f146 tmps).run prog w=.ok v w:=by have a:tmps[4]?.getD undef=ZI b:=VI;simp[results,results146,a,asAddr,go_sem,d]
def kD(m:I8)(wh:Bool):Bool:=(vD (m (bg (!wh)+5))).any λy=>xV m (y:Int) wh
theorem mS(m:I8)(M:I0)(hM:jS m M)(wh:Bool)(w:I6)(hT:jF w):ZL 146 #[Zc M,Za wh] w (Za (kD m wh)):=by
 have z:=X hM;have c5:=X hT;clear hM hT;have hh:Y (∀o1 o2 o3,_):=X (lM w);have d:=jt (hh.a (Z M 197) (Z #[Za wh] 4) (Z #[Za Zl] 4)).1 z.a.1;refine(ZY (n:=3)).1 ?_;refine callsIn_of_wp_marks func146 rfl trivial ?_ R;simp only[ntmps146,Nat.reduceAdd,Nat.reduceSub,Zr];gi_wp2_with (first
  | (refine xf R _ R w.heap.size R d ?_)
  | (refine⟨trivial,?_⟩;gi_at_call 213;refine(ZY.2 (FL m M z.a _ _)).mono ?_;rintro e V ⟨rfl,g⟩)
  | (refine⟨trivial,?_⟩;gi_at_call 132;refine(ZY.2 (xn _ _)).mono ?_;rintro e b ⟨rfl,rfl⟩))
 clear d;obtain⟨h1,h2,h3⟩:=hh.a (Z M 197) (Z #[Za wh] 4) (Z #[Za Zl] 4);obtain⟨s,j⟩:=Zn (m (bg (!wh)+5));rw[j.a];obtain⟨b,q⟩:∃b,b=V.alloc (Z #[I Zh (U s)] 195):=⟨_,R⟩;rw[<-q];have i:Gr (((w.alloc (Z M 197)).alloc (Z #[Za wh] 4)).alloc (Z #[Za Zl] 4)) b:=by rw[q];exact g.alloc _ _
 have r:(((w.alloc (Z M 197)).alloc (Z #[Za wh] 4)).alloc (Z #[Za Zl] 4)).heap.size=w.heap.size+3:=WU;have b0:=(YG i w.heap.size Tx).trans h1;have T:=(YG i (w.heap.size+1) Tx).trans h2;have J:=(YG i (w.heap.size+2) Tx).trans h3;have b4:w.heap.size+3<=b.heap.size:=by rw[<-r];exact ZR i
 have B:Gr w b:=Gr.trans ZN.al.al i;have b2:=c5.a.gr B;have b6:V.heap.size<b.heap.size:=by rw[q,Z3];omega
 have E:b.cell? ⟨V.heap.size,0,N⟩=S (I Zh (U s)):=by rw[q,Z8 _ _ _ _ R];rfl
 clear i q g h1 h2 h3 r hh;generalize V.heap.size=b1 at b6 E |-;refine wpIn_rangeFunc_ownF R O (gf:=207) (lb:=#[ZI b1]) R trivial (YC func207 WR R)
  (l8 _ O b1 b.heap.size b6 b2.2 s _ Zy E b2.1) belowK_t (XZ Zy) (XL _ _) (λ_=>R)
  (λu W=>(∀y∈u,xV m ((y:Fin 64).val:Int) wh=Zl)/\Below b.heap.size b W)
  (λc u W=>c=.ret/\(∃y∈u,xV m ((y:Fin 64).val:Int) wh=Zk)/\∃n:I6,(n.heap[w.heap.size+2]?=S (Z #[Za Zk] 4)/\Gr w n/\b.heap.size<=n.heap.size)/\Below b.heap.size n W)
  (OwnFrom.and (λ_ _ _ _ j _ _=>j) (ownFrom_below Zy Zy))
  (λ_ _ _ _ _ j g hr=>⟨j.1,j.2.1,j.2.2.choose,j.2.2.choose_spec.1,ownFrom_below (β:=List (Fin 64)) j.2.2.choose_spec.1.2.2 Zy [] _ _ _ j.2.2.choose_spec.2 g hr⟩)
  ⟨λy Q=>absurd Q (XC),XL _ _⟩
  (λx=>{ tmps:=#[Zc M,Za wh,ZI w.heap.size,ZI (w.heap.size+1),ZI (w.heap.size+1+1),I L ((x:Fin 64).val:Nat),Zc M,Za wh,Za !wh,I Zh (U s),.func (.func 207) #[] #[ZI b1],I L ((x:Fin 64).val:Nat),undef,undef,undef,undef],defers:=[] }) ?assign ?body ?done ?stop
 case assign =>intro l x W K hK;gi_wp2;simpa using hK
 case body=>
  rintro l u x W ⟨a,f⟩ a0;have a1:0<=(x.val:Int):=O;have a2:(x.val:Int)<=63:=by have:=x.isLt;omega
  have d0:=(YG f w.heap.size O).trans b0;have d1:=qi ((YG f (w.heap.size+1) O).trans T);have A:=(YG f (w.heap.size+2) O).trans J;have o:=jt d0 z.a.1;obtain⟨a5,a6⟩:=d1;obtain⟨v,H⟩:=Zn (xV m (x.val:Int) wh);have C:=X (qq0 m M z.a (x.val:Int) a1 a2 wh W);rw[H.a]at C;have G:=X a;have k:=X f;have c4:=X A;have b':=X (YB b0 (YB T J));have P:w.heap.size+1+1<W.heap.size:=by have:=ZR f;omega
  clear a f d0 A b0 T J E a0;cases v
  .gi_wp2_with (first
    | (refine xf R _ R w.heap.size R o ?_)
    | (refine⟨trivial,?_⟩;gi_at_call 127;refine(Xe l (ZY.2 C.a)).mono ?_;rintro e w' ⟨rfl,g⟩))
   refine⟨g.others,Below.mono g (ZR k.a),λy Q=>?_,k.a.trans (Below.mono g (ZR k.a))⟩;obtain h|h:=Yi.1 Q
   .exact G.a y h
   .rw[qT]at h;subst h;exact H.a
  .gi_wp2_with (first
    | (refine xf R _ R w.heap.size R o ?_)
    | (refine⟨trivial,?_⟩;gi_at_call 127;refine(Xe l (ZY.2 C.a)).mono ?_;rintro e w' ⟨rfl,g⟩;have d3:=(YG g (w.heap.size+1+1) P).trans c4.a;have d4:=qi d3;obtain⟨a9,b3⟩:=d4))
   exact⟨g.others.trans (KeepsOthers.setCell _ _ _),R,⟨x,Yi.2 (Zj (qT.2 R)),H.a⟩,_,⟨jm d3,Yr (Gr.trans (Gr.trans B k.a) g) (show w.heap.size<=w.heap.size+1+1 from O) _,by have e1:=ZR k.a;have e2:=ZR g;simp[World.setCell];omega⟩,XL _ _⟩
 case done=>rintro D ys W hD b5 ⟨a,f⟩ hK;have A:=(YG f (w.heap.size+1+1) O).trans J;obtain⟨a7,a8⟩:=qi A;have b7:=X ((KeepsOthers.setCell W ⟨w.heap.size+1+1,0,N⟩ (Za Zl)).same D _ hK R);have H:Y (kD m wh=Zl):=X (by unfold kD;rw[j.a,<-b5,XD];intro y Q;obtain⟨x,hx,rfl⟩:=YL.1 Q;rw[a x hx];decide);have p:=X (qi (DA (D:=D) (o':=.deferred N) (jm (v:=Za Zl) A) O)).1;have F:Y (Gr w ((W.setCell ⟨w.heap.size+1+1,0,N⟩ (Za Zl)).putObj D (.deferred N))):=X ((Yr (Gr.trans B f) (show w.heap.size<=w.heap.size+1+1 from O) _).trans (XZ (w:=b) (n₀:=w.heap.size) O _ D _ _ hD b7.a R R));clear a b5 f b0 T J A;gi_wp2;refine⟨WU,Zi ⟨_,_,R,YU b7.a,?_⟩⟩;exact⟨_,ie _ _ _ _ R p.a,by rw[H.a],F.a⟩
 case stop=>rintro D c u W hD a ⟨rfl,⟨y,a3,a4⟩,n,⟨c1,c2,c3⟩,f⟩ hK;have A:=(YG f (w.heap.size+2) O).trans c1;have H:Y (kD m wh=Zk):=X (by unfold kD;rw[j.a,qY];exact⟨y.val,a.subset (YL.2 ⟨y,a3,R⟩),a4⟩);have p:=X (qi (DA (D:=D) (o':=.deferred N) A O)).1;have F:Y (Gr w (W.putObj D (.deferred N))):=X ((Below.trans c2 (Below.mono f O)).trans (XZ (w:=b) (n₀:=w.heap.size) O _ D _ _ hD hK R R));gi_wp2;refine⟨WU,Zi ⟨_,_,R,YU hK,?_⟩⟩;exact⟨_,ie _ _ _ _ R p.a,by rw[H.a],F.a⟩
end Go.Proofs.YtnfakamfmkhlbabGreatDoor.C
