import Derived.Test.YtnfakamfmkhlbabGreatDoorB23
set_option maxRecDepth 100000
set_option maxHeartbeats 4000000
set_option linter.all false
open Go.Value renaming int->I,bool->Za,string->Zb,agg->Zc,tuple->Ze,slice->Zq
open Go.IntKind renaming i64->L,u8->Zg,u64->Zh
open Go.Obj renaming cells->Z
open Go.Ending renaming returned->Zd
open Or renaming inl->Zi,inr->Zj
open Option renaming some->S,none->N
open Bool renaming true->Zk,false->Zl
open Decidable renaming decide->Zm
open Go.RowKit renaming Hid->Y
open Go renaming World->I6,Value->I7
namespace Go.Proofs.YtnfakamfmkhlbabGreatDoor.C
open Go.ChangeShapes Go.WideShapes Go.ChangeAt Go.RowKit Go.Shelf Go.Proofs.YtnfakamfmkhlbabGreatDoor.P Tryz
attribute [local go_sem] qd qe Oper.semAt_some
variable {z:I2}{wh:Bool}{b h m:Int}{PA A M:I0}{fc:I5}{w W a w' w1 V:I6}{f n i k g base d e l j x B Bp:Nat}{v:I7}{u:UInt8}{Q:Nat->Obj->Prop}{rs:I3}{y:I1}
def fd(s:LSt)(t:I4):Option (LSt × I3):=match yn t with
 | some y=>if s.mov.any (λz=>z==y)=Zk then S (s.aft y,[ex (s.aft y)])else N
 | none=>N
theorem F8{s:LSt}{y:Mv}(h:(s.mov.any λz=>z==y)=Zk):y∈s.mov:=by obtain⟨z,a,e⟩:=qY.1 h;rw[<-YF.1 e];exact a
theorem Na{bl:Nat}{s:LSt}(x:oj bl g n base)(V:I4)(ht:V.size<4294967281)(a1:rs.length<=1900000000000)(W:I6)(h:ux m bl g n base s rs W) :
 Calls prog 231 #[ZI bl,Zb V] W λe d=>vs m bl g n base s rs (fd s V) e d/\FrL bl g base W d:=by
 have j:=X (mX V ht W);unfold yy at j;unfold fd;cases a2:yn V with
 | none =>
  rw[a2]at j;have i:Y (∀d,Gr W d->vs m bl g n base s rs N (Zd (Za Zl)) d/\FrL bl g base W d):=X λd k=>⟨⟨R,h.gr x k⟩,FrL.of k⟩;simp only[z8]at j;clear h a2;go_enter func231,ntmps231;go_upto_region 2 with(go_at_call 56;refine Z0 j.a λw1 E=>?_);have Q:=Gr.trans E ((Gr.refl w1).alloc #[I L 0,I L 0,I Zg 0] 87);generalize w1.alloc (Z #[I L 0,I L 0,I Zg 0] 87)=w2 at Q |-;generalize w1.heap.size=B;refine ZT (S:=Gr W) WR (Gr.trans Q ZO.drew) (λb=>?_);refine tq 0 (Za Zl) b ?_;refine tq 1 (Za Zl) b ?_;refine ZA 2 b ?_;refine ZA 3 b ?_;refine ZA 4 b ?_;refine ZA 5 b ?_;refine ZA 6 b ?_;refine ZA 7 b ?_;refine ZA 8 b ?_;refine tq 9 (Za Zl) b ?_;refine tq 10 (Za Zl) b ?_;refine ZA 11 b ?_;refine ZA 12 b ?_;refine ZA 13 b ?_;refine tq 14 (Za Zl) b ?_;refine tq 15 (Za Zl) b ?_;refine ZZ WR ?_ _;go_wp2_with fail;go_ret;exact i.a _ b
 | some y =>
  obtain⟨f,t,u⟩:=y;rw[a2]at j;simp only[z8]at j;obtain⟨PA,l,hT⟩:=h.t;have h0:=h.hb;have v:=h.ok;have hz:=jE.size l;have a4:Y (∀W,jF W->jQ W->ZL 57 #[Zc jP,Zc PA,Zc (ZJ f t u)] W (Za (s.mov.any λz=>z==(f,t,u)))):=X λW a c=>dl l v.lay v.b0 v.b1 (f,t,u) W a c;have T:Y ((s.mov.any λz=>z==(f,t,u))=Zk->∀d,cv m bl g n base PA rs W d->Calls prog 279 #[ZI bl,Zc (ZJ f t u)] d λe W2=>e=Zd (Za Zk)/\ux m bl g n base (s.aft (f,t,u)) (rs++[ex (s.aft (f,t,u))]) W2/\FrL bl g base d W2):=X λe d k=>KT x f t u (F8 e) O d (k.s l v);have P:Y (∀d,cv m bl g n base PA rs W d->vs m bl g n base s rs N (Zd (Za Zl)) d/\FrL bl g base W d):=X λd k=>⟨⟨R,k.s l v⟩,k.f⟩;have M:=X (λW=>qxk W);show Calls _ _ _ _ λe d=>vs m bl g n base s rs (if(s.mov.any λz=>z==(f,t,u))=Zk then S (s.aft (f,t,u),[ex (s.aft (f,t,u))])else N) e d/\FrL bl g base W d;generalize (s.mov.any λz=>z==(f,t,u))=q at a4 T |-;simp only[jP,zG]at a4 M;clear h a2 l v;go_enter func231,ntmps231;go_upto_region 2 with(go_at_call 56;refine Z0 j.a λw1 E=>?_);have a3:=(hT.next x E).next x ((Gr.refl w1).alloc (ZJ f t u) 87);have F:(w1.alloc (Z (ZJ f t u) 87)).heap[w1.heap.size]?=S (Z (ZJ f t u) 87):=ZQ w1 _;have a9:=ZR E;generalize w1.alloc (Z (ZJ f t u) 87)=w2 at a3 F |-;generalize w1.heap.size=B at F a9 |-;have J:=a3.next x (Gr.refl w2).drew;have A:w2.drew.heap[B]?=S (Z (ZJ f t u) 87):=F;refine ZT (S:=λd=>d.heap[B]?=S (Z (ZJ f t u) 87)) WR A (λb=>?_);clear a3 F E hT j;refine tq 0 (Za Zk) b ?_;refine tq 1 (Za Zk) b ?_;refine tq 3 (ZI bl) b ?_;refine tq 4 (ZI bl) b ?_;refine tq 5 (ZI bl) b ?_;refine ZB 7 (Zc (ZJ f t u)) R (λw a5=>by obtain⟨m0,m1,m2⟩:=qm a5;go_simp) b ?_;refine Xk (rs:=[2,6]) WR WU ?_;refine Yc R (λK hK=>?a0) (Yc R (λK hK=>?b0) Xb)
  case' a0 =>
   go_simp;refine Z0 (M.a _) λw3 r=>?_;have p:=J.next x r;have o:=(ZE r A);refine hK.out _ _ o λb=>?_;clear hK K;try simp only[py]
   refine rd 6 λK hK=>?_;rw[qI Vb];refine wp_load_mid 70 _ R bl 0 R PA.toList _ p.rng underlying70 rfl (by rw[q9];simp[hz]) ?_;rw[Yb];refine hK.out _ _ b λb=>?_;clear hK K r;try simp only[py]
  case' b0 =>
   rw[qI Vb];refine wp_load_mid 70 _ R bl 0 R PA.toList _ J.rng underlying70 rfl (by rw[q9];simp[hz]) ?_;rw[Yb];refine hK.out _ _ b λb=>?_;clear hK K;try simp only[py]
   refine rd 2 λK hK=>?_;go_simp;refine Z0 (M.a _) λw3 r=>?_;have p:=J.next x r;have o:=(ZE r A);refine hK.out _ _ o λb=>?_;clear hK K r;try simp only[py]
  all_goals
   refine rd 8 λK hK=>?_;go_simp;refine Z0 (a4.a _ p.k.ct.tab p.k.tb.cas) λw4 a7=>?_;have D:=p.next x a7;have G:=(ZE a7 o);refine hK.out _ _ G λb=>?_;clear hK K;try simp only[py]
   cases q
   .refine tq 9 (Za Zl) b ?_;refine tq 10 (Za Zl) b ?_;refine ZA 11 b ?_;refine ZA 12 b ?_;refine ZA 13 b ?_;refine tq 14 (Za Zl) b ?_;refine tq 15 (Za Zl) b ?_;refine ZZ WR ?_ _;have i:=X (P.a _ D);clear b D p G o;go_wp2_with fail;go_ret;exact i.a
   .refine tq 9 (Za Zk) b ?_;refine tq 10 (Za Zk) b ?_;refine tq 11 (ZI bl) b ?_;refine ZB 12 (Zc (ZJ f t u)) R (λw a5=>by obtain⟨m0,m1,m2⟩:=qm a5;go_simp) b ?_;refine rd 13 λK hK=>?_;go_simp;refine Z0 (T.a R _ D) λw5⟨a6,H⟩=>?_;have i:Y (vs m bl g n base s rs (S (s.aft (f,t,u),[ex (s.aft (f,t,u))])) (Zd (Za Zk)) w5/\FrL bl g base W w5):=X ⟨⟨R,a6⟩,FrL.trans D.f H⟩;have a8:w5.heap[B]?=S (Z (ZJ f t u) 87):=H.same _ _ G ⟨UV,UU,Zj λk=>by obtain⟨c,fr,k⟩:=k;injection k with _ k _;exact absurd k WW⟩;refine hK.out _ _ a8 λb=>?_;clear hK K;try simp only[py]
    refine tq 14 (Za Zk) b ?_;refine tq 15 (Za Zk) b ?_;refine ZZ WR ?_ _;clear b D p G o a8 a6 H;go_wp2_with fail;go_ret;exact i.a
def shortS(s:LSt)(t:I4):Option (LSt × I3):=match cU s.z s.wh s.fc s.b t with
 | y :: _=>S (s.aft y,[ex (s.aft y)])
 | []=>N
theorem LZ{bl:Nat}{s:LSt}(x:oj bl g n base)(H:I4)(T:rs.length<=1900000000000)(W:I6)(h:ux m bl g n base s rs W) :
 Calls prog 232 #[ZI bl,Zb H] W λe w=>vs m bl g n base s rs (shortS s H) e w/\FrL bl g base W w:=by
 obtain⟨PA,o,P⟩:=h.t;have V:=h.hb;have E:=h.ok;have hz:=jE.size o;obtain⟨⟨f,t,u⟩,ok,v,F,r⟩:∃(y:Mv)(ok:Bool),Y (∀W,jF W->jQ W->vJ W->ZL 37 #[Zc jP,Zc PA,Zb H] W (Ze #[gJ y,Za ok]))/\Y (ok=Zk->∀w,cv m bl g n base PA rs W w->Calls prog 279 #[ZI bl,gJ y] w λe Q=>e=Zd (Za Zk)/\vs m bl g n base s rs (shortS s H) (Zd (Za Zk)) Q/\FrL bl g base W Q)/\Y (ok=Zl->∀w,cv m bl g n base PA rs W w->vs m bl g n base s rs (shortS s H) (Zd (Za Zl)) w/\FrL bl g base W w):=by
  cases a5:cU s.z s.wh s.fc s.b H with
  | nil =>
   refine⟨(0,0,0),Zl,X λW a c d=>?_,X (λe=>by cases e),X λ_ w k=>?_⟩
   .have:=nM o E H W a c d;rw[a5]at this;exact this
   .unfold shortS;rw[a5];exact⟨⟨R,k.s o E⟩,k.f⟩
  | cons y l =>
   have hy:y∈s.mov:=(qV.1 (show y∈cU s.z s.wh s.fc s.b H by rw[a5];simp)).1;refine⟨y,Zk,X λW a c d=>?_,X λ_ w k=>?_,X (λe=>by cases e)⟩
   .have:=nM o E H W a c d;rw[a5]at this;exact this
   .obtain⟨f,t,u⟩:=y;refine Z0 (KT x f t u hy O w (k.s o E)) λQ⟨a9,a8⟩=>?_;unfold shortS;rw[a5];exact⟨R,⟨R,a9⟩,FrL.trans k.f a8⟩
 have G:=X (λW=>qxk W);generalize shortS s H=b3 at F r |-;simp only[jP,zG,gJ]at v G F;clear h o E;go_enter func232,ntmps232;go_upto_region 1 with fail;refine ZT (S:=cv m bl g n base PA rs W) WR (P.next x ZO.drew) (λi=>?_);refine tq 1 (ZI bl) i ?_;refine tq 2 (ZI bl) i ?_;refine tq 3 (ZI bl) i ?_;refine ty 4 (Zc PA) R (r8 hz Vb _ R bl R (λ_ h=>h.rng)) i ?_;refine tq 5 (Zb H) i ?_;refine Xk (rs:=[0,10]) WR WU ?_;refine Yc R (λK hK=>?a0) (Yc R (λK hK=>?b0) Xb)
 case' a0=>
  go_simp;refine Z0 (G.a _) λw1 J=>?_;refine hK.out _ _ (i.next x J) λi=>?_;clear hK K;try simp only[py]
  refine Xk (rs:=[6,10]) WR WU ?_;refine Yc R (λK hK=>?a1) (Yc R (λK hK=>?b1) Xb)
  case' a1=>
   go_simp;refine Z0 (v.a _ i.k.ct.tab i.k.tb.cas i.k.ct.homes) λa4 q=>?_;refine hK.out _ _ (i.next x q) λi=>?_;clear hK K;try simp only[py]
   refine tq 7 (Ze #[Zc (ZJ f t u),Za ok]) i ?_;refine tq 8 (Zc (ZJ f t u)) i ?_;refine tq 9 (Za ok) i ?_;refine rd 10 λK hK=>?_;go_simp;have p:=i.f.size;have j:=ZQ a4 (Z #[I L 0,I L 0,I Zg 0] 87);refine hK.out _ _ (i.next x ZN) λi=>?_;clear hK K;try simp only[py]
   generalize (a4).heap.size=B at j p |-;generalize (a4).alloc (Z #[I L 0,I L 0,I Zg 0] 87)=M at j i |-
  case' b1=>
   go_simp;have p:=i.f.size;have j:=ZQ w1 (Z #[I L 0,I L 0,I Zg 0] 87);refine hK.out _ _ (i.next x ZN) λi=>?_;clear hK K;try simp only[py]
   generalize (w1).heap.size=B at j p |-;generalize (w1).alloc (Z #[I L 0,I L 0,I Zg 0] 87)=M at j i |-;refine rd 6 λK hK=>?_;go_simp;refine Z0 (v.a _ i.k.ct.tab i.k.tb.cas i.k.ct.homes) λa4 q=>?_;have j:=(ZE q j);refine hK.out _ _ (i.next x q) λi=>?_;clear hK K;try simp only[py]
   refine tq 7 (Ze #[Zc (ZJ f t u),Za ok]) i ?_;refine tq 8 (Zc (ZJ f t u)) i ?_;refine tq 9 (Za ok) i ?_;generalize a4=M at j i |-
 case' b0=>
  go_simp;have j:(W.alloc (Z #[I L 0,I L 0,I Zg 0] 87)).drew.heap[W.heap.size]?=S (Z #[I L 0,I L 0,I Zg 0] 87):=ZQ W _;refine hK.out _ _ (P.next x (((Gr.refl W).alloc #[I L 0,I L 0,I Zg 0] 87).drew)) (λi=>?_);clear hK K;try simp only[py]
  obtain⟨B,a7⟩:∃B,B=W.heap.size:=⟨_,R⟩;have p:W.heap.size<=B:=O;rw[<-a7]at j |-;clear a7;generalize (W.alloc (Z #[I L 0,I L 0,I Zg 0] 87)).drew=M at j i |-;refine rd 0 λK hK=>?_;go_simp;refine Z0 (G.a _) λw1 J=>?_;have j:=(ZE J j);refine hK.out _ _ (i.next x J) λi=>?_;clear hK K;try simp only[py]
  refine rd 6 λK hK=>?_;go_simp;refine Z0 (v.a _ i.k.ct.tab i.k.tb.cas i.k.ct.homes) λa4 q=>?_;have j:=(ZE q j);refine hK.out _ _ (i.next x q) λi=>?_;clear hK K;try simp only[py]
  refine tq 7 (Ze #[Zc (ZJ f t u),Za ok]) i ?_;refine tq 8 (Zc (ZJ f t u)) i ?_;refine tq 9 (Za ok) i ?_;generalize a4=M at j i |-
 all_goals
  refine rd 11 λK hK=>?_;rw[qI Vb];refine YQ 87 _ _ R B (ZJ f t u) R R 87 _ j xW R Vi ?_;have a6:(M.setRow B (ZJ f t u)).heap[B]?=S (Z (ZJ f t u) 87):=Zt j;refine hK.out _ _ (i.box x j WW V p (JM _ _ _)) λi=>?_;clear hK K;try simp only[py]
  refine tq 12 (Za ok) i ?_;refine ZZ WR ?_ _;generalize M.setRow B (ZJ f t u)=a2 at a6 i |-;obtain⟨m0,m1,m2⟩:=qm a6;cases ok
  .have A:=X (r.a R _ i);clear i a6 j p G v F r P;go_wp2_with fail;go_ret;exact A.a
  .have b2:=X (F.a R _ i);clear i a6 j p G v F r P;go_wp2_with(go_at_call 279;refine Z0 b2.a λa3 D=>?_;have A:=X D;clear D);go_ret;exact A.a
def N3(m:Int)(bl g n base:Nat)(PA:I0)(W0 W:I6):Prop:=∃rs,cv m bl g n base PA rs W0 W
theorem N3.rng{bl:Nat}(h:N3 m bl g n base PA a W):W.rangeAt bl 0 PA.toList:=h.elim λ_ h=>h.rng
theorem N3.ctr{bl:Nat}(h:N3 m bl g n base PA a W):(W.cell? ⟨bl,72,N⟩=S (.func (.func 64) #[] #[])/\W.cell? ⟨bl,73,N⟩=S (.func (.func 65) #[] #[])/\W.cell? ⟨bl,74,N⟩=S (I L 1)/\W.cell? ⟨bl,75,N⟩=S (svL g n))/\(W.cell? ⟨bl,76,N⟩=S (.func (.func 60) #[] #[])/\W.cell? ⟨bl,77,N⟩=S (.func (.func 61) #[] #[])/\W.cell? ⟨bl,78,N⟩=S (I L 2)/\W.cell? ⟨bl,79,N⟩=S (svL g n)):=by obtain⟨rs,h⟩:=h;obtain⟨v,b,_⟩:=h.w.c;have c:=λi=>L4 h.w.pz b i;exact⟨⟨c 0,c 1,c 2,c 3⟩,c 4,c 5,c 6,c 7⟩
theorem cv.fx{bl:Nat}{b:I6}(h:cv m bl g n base PA rs b W)(x:oj bl g n base)(k:zm g W a)(j:LC g n a):cv m bl g n base PA rs b a:=by obtain⟨v,d,i⟩:=h.w.c;have f:FrL bl g base W a:=Fr.mono k λk o _ q=>q.2.1;exact⟨⟨⟨v,k.at d x.ne,uy i λq c fr e l=>k.at e UU⟩,j,h.w.pz⟩,x.fr h.k f,q7 h.hb k.size,FrL.trans h.f f⟩
theorem Ka:LB 2 60 61 128:=⟨Zj ⟨R,R,R,R⟩⟩
theorem RO:LB 1 64 65 155:=⟨Zi ⟨R,R,R,R⟩⟩
theorem Lp{bl:Nat}{j:I0}{s:LSt}(x:oj bl g n base)(b:s.row j)(f:s.ok){p q r:Nat}{wn:Int}(y:LB wn p q r)(d:Nat)(u:d<=3){o:I6}(h:cv m bl g n base PA rs o W) :
 Calls prog 25 #[Zc #[.func (.func p) #[] #[],.func (.func q) #[] #[],I L wn,svL g n],Zc j,I L d] W λe l=>e=Zd (I Zh (s.paths d:Nat))/\cv m bl g n base PA rs o l:=by refine Z0 (HZ (Mc g n x.le) x.a2.a y d u f b W h.w.i h.k.wt) λl⟨k,v⟩=>?_;exact⟨R,h.fx x k v⟩
theorem Pn{bl:Nat}(x:oj bl g n base)(t:I4)(a:rs.length<=2000000000000){d:I6}(h:cv m bl g n base PA rs d W) :
 Calls prog 159 #[ZI bl,Zb t] W λe b=>e=Zd (Ze #[])/\cv m bl g n base PA (rs++[t]) d b:=by refine Z0 (Ht x.lc t a W h.w h.hb) λb⟨i,f⟩=>?_;exact⟨R,i,x.fr h.k f,q7 h.hb f.size,FrL.trans h.f f⟩
theorem Lo{bl:Nat}{s:LSt}(x:oj bl g n base)(d:Nat)(G:d<=3)(H:rs.length<=1900000000000)(W:I6)(h:ux m bl g n base s rs W) :
 Calls prog 234 #[ZI bl,I L d] W λe a=>e=Zd (Za Zk)/\ux m bl g n base s (rs++[kt (s.paths d)]) a/\FrL bl g base W a:=by
 obtain⟨PA,i,F⟩:=h.t;have v:=h.ok;have J:=jE.size i;have y:Y (∀rs' a,cv m bl g n base PA rs' W a->Calls prog 25 #[Zc #[.func (.func 60) #[] #[],.func (.func 61) #[] #[],I L 2,svL g n],Zc PA,I L d] a λe A=>e=Zd (I Zh (s.paths d:Nat))/\cv m bl g n base PA rs' W A):=X λrs' a k=>Lp x i v Ka d G k;have u:Y (∀a,HG a->ZL 281 #[I Zh (s.paths d:Nat)] a (Zb (kt (s.paths d)))):=X λa k=>ad _ (by have:=pb G s.z s.wh s.fc s.b;show pathsN d s.z s.wh s.fc s.b<_;omega) a k;have o:Y (∀a,cv m bl g n base PA (rs++[kt (s.paths d)]) W a->ux m bl g n base s (rs++[kt (s.paths d)]) a/\FrL bl g base W a):=X λa k=>⟨k.s i v,k.f⟩;generalize ((s.paths d:Nat):Int)=Q at y u;generalize kt (s.paths d)=DB at u o |-;have E:Y (∀a,cv m bl g n base PA rs W a->Calls prog 159 #[ZI bl,Zb DB] a λe A=>e=Zd (Ze #[])/\cv m bl g n base PA (rs++[DB]) W A):=X λa k=>Pn x DB O k;clear h i v;unfold svL at y;go_enter func234,ntmps234;go_upto_region 1 with fail;have r:=F.next x (Gr.refl W).drew;refine ZT (S:=N3 m bl g n base PA W) WR ⟨_,r⟩ (λj=>?_);refine tq 0 (ZI bl) j ?_;refine tq 1 (ZI bl) j ?_;refine tq 2 (ZI bl) j ?_;refine tq 3 (.pointer (S ⟨bl,76,N⟩)) j ?_;refine ZB 4 (Zc #[.func (.func 60) #[] #[],.func (.func 61) #[] #[],I L 2,Zq (S ⟨g,0,N⟩) n n]) R (λw P=>by obtain⟨_,c0,c1,c2,c3⟩:=P.ctr;unfold svL at c3;go_simp) j ?_;refine tq 5 (ZI bl) j ?_;refine tq 6 (ZI bl) j ?_;refine tq 7 (ZI bl) j ?_;refine ty 8 (Zc PA) R (r8 J Vb _ R bl R (λ_ h=>h.rng)) j ?_;refine tq 9 (I L d) j ?_;refine rd 10 λK hK=>?_;go_simp;refine Z0 (y.a _ _ r) λw1 l=>?_;refine hK.out _ _ ⟨_,l⟩ (λj=>?_);clear hK K;try simp only[py]
 refine rd 11 λK hK=>?_;go_simp;refine Z0 (u.a _ l.k.pw) λM D=>?_;have p:=l.next x D;refine hK.out _ _ ⟨_,p⟩ (λj=>?_);clear hK K;try simp only[py]
 refine rd 12 λK hK=>?_;go_simp;refine Z0 (E.a _ p) λT q=>?_;refine hK.out _ _ ⟨_,q⟩ (λj=>?_);clear hK K;try simp only[py]
 refine ZZ WR ?_ _;have B:=X (o.a _ q);clear j q p l r F;go_wp2_with fail;go_ret;exact⟨R,B.a⟩
theorem rL{bl:Nat}{s:LSt}(t:I4)(H:t.size<=maxLen)(o:Nat)(A:o<=1)(a:Nat)(K:∀args w,(callFunc a args).run prog w=.ok (.enter a args) w)(J:Nat->I3)(W:I6)(h:ux m bl g n base s rs W)
 (y:∀d,o<=d->d<=3->Calls prog a #[ZI bl,I L d] W λe B=>e=Zd (Za Zk)/\ux m bl g n base s (rs++J d) B/\FrL bl g base W B) :
 Calls prog 233 #[ZI bl,Zb t,I L o,.func (.func a) #[ZI bl] #[]] W λe l=>vs m bl g n base s rs ((df o t.data.toList).map λd=>(s,J d)) e l/\FrL bl g base W l:=by
 have j:=X (Ae t H o A W);cases r:df o t.data.toList with
 | none =>
  have p:Y (Calls prog 280 #[Zb t,I L o] W λe w'=>(∃v:Nat,e=Zd (Ze #[I L v,Za Zl]))/\w'=W):=X (j.a.mono λe w' k=>by
   obtain⟨⟨v,_,_,q⟩,x⟩:=k;rw[r]at q;exact⟨⟨v,q⟩,x⟩)
  have b:Y (vs m bl g n base s rs N (Zd (Za Zl)) W/\FrL bl g base W W):=X ⟨⟨R,h⟩,FrL.refl _ _ _ _⟩;show Calls _ _ _ _ λe l=>vs m bl g n base s rs N e l/\FrL bl g base W l;clear j r h y;go_enter func233,ntmps233;go_wp2_with(go_at_call 280;refine p.a.mono ?_;rintro e w' ⟨⟨v,rfl⟩,f⟩;have i:=f.symm;subst i;clear f);go_ret;exact b.a
 | some d =>
  obtain⟨E,F⟩:=MN r
  have p:Y (Calls prog 280 #[Zb t,I L o] W λe w'=>e=Zd (Ze #[I L d,Za Zk])/\w'=W):=X (j.a.mono λe w' k=>by
   obtain⟨⟨v,G,_,q⟩,x⟩:=k;rw[r]at q;rw[G d r]at q;exact⟨q,x⟩)
  have z:=X (y d E F);show Calls _ _ _ _ λe l=>vs m bl g n base s rs (S (s,J d)) e l/\FrL bl g base W l;clear j r h y;go_enter func233,ntmps233
  go_wp2_with(first
   | (go_at_call 280;refine Z0 p.a λw' f=>?_;have i:=f.symm;subst i;clear f)
   | (go_at_fn a;refine Z0 z.a λD⟨C,u⟩=>?_;have b:Y (vs m bl g n base s rs (S (s,J d)) (Zd (Za Zk)) D/\FrL bl g base W D):=X ⟨⟨R,C⟩,u⟩;clear C u))
  go_ret;exact b.a
theorem KG{bl:Nat}{s:LSt}(x:oj bl g n base)(d:Nat)(H:d<=3)(a4:rs.length<=1900000000000)(W:I6)(h:ux m bl g n base s rs W) :
 Calls prog 236 #[ZI bl,I L d] W λe i=>e=Zd (Za Zk)/\ux m bl g n base s (rs++[⟨#[115,97,109,101,32]⟩++kt (s.paths d)]) i/\FrL bl g base W i:=by
 obtain⟨PA,j,a0⟩:=h.t;have o:=h.ok;have P:=jE.size j;have A:Y (∀rs' i,cv m bl g n base PA rs' W i->Calls prog 25 #[Zc #[.func (.func 60) #[] #[],.func (.func 61) #[] #[],I L 2,svL g n],Zc PA,I L d] i λe p=>e=Zd (I Zh (s.paths d:Nat))/\cv m bl g n base PA rs' W p):=X λrs' i k=>Lp x j o Ka d H k;have y:Y (∀rs' i,cv m bl g n base PA rs' W i->Calls prog 25 #[Zc #[.func (.func 64) #[] #[],.func (.func 65) #[] #[],I L 1,svL g n],Zc PA,I L d] i λe p=>e=Zd (I Zh (s.paths d:Nat))/\cv m bl g n base PA rs' W p):=X λrs' i k=>Lp x j o RO d H k;have v:Y (∀i,HG i->ZL 281 #[I Zh (s.paths d:Nat)] i (Zb (kt (s.paths d)))):=X λi k=>ad _ (by have:=pb H s.z s.wh s.fc s.b;show pathsN d s.z s.wh s.fc s.b<_;omega) i k;have J:(kt (s.paths d)).size<1000:=by have T:=pb H s.z s.wh s.fc s.b;have V:=dz 18 (s.paths d) (by show pathsN d s.z s.wh s.fc s.b<_;omega);show(Lib.decDigits (s.paths d)).toArray.size<_;rw[Ya];omega
 have F:Y (∀t i,cv m bl g n base PA (rs++[t]) W i->ux m bl g n base s (rs++[t]) i/\FrL bl g base W i):=X λt i k=>⟨k.s j o,k.f⟩;generalize ((s.paths d:Nat):Int)=Q at A y v;generalize kt (s.paths d)=DB at v J |-;have a3:Y (∀t i,cv m bl g n base PA rs W i->Calls prog 159 #[ZI bl,Zb t] i λe p=>e=Zd (Ze #[])/\cv m bl g n base PA (rs++[t]) W p):=X λt i k=>Pn x t O k;clear h j o;unfold svL at A y;go_enter func236,ntmps236;go_upto_region 1 with fail;have r:=a0.next x (Gr.refl W).drew;refine ZT (S:=N3 m bl g n base PA W) WR ⟨_,r⟩ (λa=>?_);refine tq 0 (ZI bl) a ?_;refine tq 1 (ZI bl) a ?_;refine tq 2 (.pointer (S ⟨bl,72,N⟩)) a ?_;refine ZB 3 (Zc #[.func (.func 64) #[] #[],.func (.func 65) #[] #[],I L 1,Zq (S ⟨g,0,N⟩) n n]) R (λw M=>by obtain⟨⟨c0,c1,c2,c3⟩,_⟩:=M.ctr;unfold svL at c3;go_simp) a ?_;refine tq 4 (ZI bl) a ?_;refine tq 5 (ZI bl) a ?_;refine tq 6 (ZI bl) a ?_;refine ty 7 (Zc PA) R (r8 P Vb _ R bl R (λ_ h=>h.rng)) a ?_;refine tq 8 (I L d) a ?_;refine rd 9 λK hK=>?_;go_simp;refine Z0 (y.a _ _ r) λw1 q=>?_;refine hK.out _ _ ⟨_,q⟩ (λa=>?_);clear hK K;try simp only[py]
 refine tq 10 (I Zh Q) a ?_;refine ZZ WR ?_ _;clear a r a0;go_upto_region 2 with fail;have u:=q.next x (Gr.refl w1).drew;refine ZT (S:=N3 m bl g n base PA W) WR ⟨_,u⟩ (λa=>?_);refine tq 0 (ZI bl) a ?_;refine tq 1 (ZI bl) a ?_;refine tq 2 (.pointer (S ⟨bl,76,N⟩)) a ?_;refine ZB 3 (Zc #[.func (.func 60) #[] #[],.func (.func 61) #[] #[],I L 2,Zq (S ⟨g,0,N⟩) n n]) R (λw M=>by obtain⟨_,c0,c1,c2,c3⟩:=M.ctr;unfold svL at c3;go_simp) a ?_;refine tq 4 (ZI bl) a ?_;refine tq 5 (ZI bl) a ?_;refine tq 6 (ZI bl) a ?_;refine ty 7 (Zc PA) R (r8 P Vb _ R bl R (λ_ h=>h.rng)) a ?_;refine tq 8 (I L d) a ?_;refine tq 10 (I Zh Q) a ?_;refine rd 9 λK hK=>?_;go_simp;refine Z0 (A.a _ _ u) λa1 l=>?_;refine hK.out _ _ ⟨_,l⟩ (λa=>?_);clear hK K;try simp only[py]
 refine tq 11 (Za Zl) a ?_;refine ZZ WR ?_ _;have E:=X (v.a a1 l.k.pw);have B:=X l;clear a l u q;go_wp2_with(first
  | (go_at_call 281;refine Z0 E.a λa5 a2=>?_)
  | (go_at_call 159;refine Z0 (a3.a _ _ (B.a.next x a2)) λa6 D=>?_;have G:=X (F.a _ _ D);clear D))
 go_ret;exact⟨R,G.a⟩
def CtC(p:Option Addr)(B:Nat)(k:Nat):Prop:=k=B\/∃q,p=S q/\k=q.block
theorem El2.fr{p:Option Addr}{L:List Ct2}(h:El2 p L w)(f:Fr Q w w')(d:∀k o,CtC p B k->Q k o):El2 p L w':=λi j=>by
 obtain⟨g,e,a,b⟩:=h i j;exact⟨g,e,f.cell a (λo _=>d _ o (Zj ⟨_,e,R⟩)),f.cell b (λo _=>d _ o (Zj ⟨_,e,R⟩))⟩
theorem LN(L:List Ct2)(K:L.length<=1000000)(p:Option Addr)(cap B:Nat)(T:Obj->Prop)(w:I6)(n:w.heap[B]?=S (Z #[Zq p L.length cap] 33))(d:El2 p L w) :
 It prog 320 #[ZI B] (λc:Ct2=>#[Value.agg #[Zb c.1,I Zh (c.2:Int)]]) T (CtC p B) L w:=by
 intro l BB J a4 W z a3 P Q A H;have F:=z.same _ _ n (Zi R);have d:=d.fr (B:=B) z (λ_ _ q=>q);have c1:=(qi F).1;clear z n F;refine(ZY (n:=1)).1 ?_;refine callsIn_of_wp func320 rfl trivial ?_ R;simp only[ntmps320,Nat.reduceAdd,Nat.reduceSub,Zr];refine Z9.2 ?_;go_wp2_with fail;refine(Z9 (n:=1)).1 ?_;gi_loopg [7] L.length (λgk i wr=>∃k:Nat,k+gk=L.length/\i=I .i64 k/\El2 p L wr/\J (L.take k) wr)
 case atStart=>exact⟨0,O,R,d,H⟩
 case round=>
  clear d c1 H;obtain⟨k,k1,rfl,d,v⟩:=hrel;have f:=X d;by_cases x:k<L.length
  .obtain⟨gg,a0,V,a1⟩:=d k x;subst a0;have D:(k:Int)<(L.length:Int):=O;have h:Y (L.take (k+1)=L.take k++[L[k]]):=X (Yd x);have g:L.take k++[L[k]] <+: L:=by rw[<-h.a];exact List.take_prefix _ _
   obtain⟨a,b,r⟩:∃a b,L[k]=(a,b):=⟨_,_,R⟩;rw[r]at V a1 h g;obtain⟨a6,tmps,y,E,a2,hR⟩:=A (L.take k) (a,b) (wr.alloc (Z #[Zb a,I Zh b] 37)) g (P _ _ _ v (ZP.alloc _));simp only at a2 hR;have a5:IntKind.i64.wrap ((k:Int)+1)=(((k+1:Nat)):Int):=Vc;clear v d r A;gi_wp2;refine hR.mono ?_;rintro e W3 ⟨G,⟨rfl,j⟩|⟨rfl,o⟩⟩
   .have u:=X (f.a.fr (B:=B) (((Fr.refl _ wr).alloc (Z #[Zb a,I Zh b] 37)).trans G) (λ_ _ q=>Zi q));have m:=X j;clear G j f hR;gi_wp2;gi_roundg (gk-1)
    case measure=>omega
    case rel=>exact⟨k+1,O,R,u.a,by rw[h.a];exact m.a⟩
   .gi_wp2;refine ZS (XS R _ _ _) R ?_;exact⟨⟨_,R⟩,Zj ⟨_,g,o⟩⟩
  .have M:k=L.length:=O;have D:¬ (k:Int)<(L.length:Int):=O;rw[M,XA]at v;have C:=X v;clear v d f A;gi_wp2;go_end0;exact⟨⟨_,R⟩,Zi C.a⟩
theorem LL(a:I4)(b:Nat)(w:I6):ZL 284 #[Zc #[Zb a,I Zh b]] w (I Zh b):=by go_enter func284,ntmps284;go_wp2_with fail;exact WM
theorem Jv(p:Option Addr)(k cap:Nat)(w:I6):Calls prog 283 #[Zq p k cap] w λe w'=>e=Zd (.func (.func 320) #[] #[ZI w.heap.size])/\w'=w.alloc (Z #[Zq p k cap] 33):=by have b:∀(a:Fn)(first cap:I0)(w:I6),(Instr.makeFunc a first cap).run prog w=.ok (.func a first cap) w:=λ_ _ _ _=>R;go_enter func283,ntmps283;go_wp2_with fail;exact WB
theorem Mx{f:Ct2->Nat}{a L:List Ct2}{x:Ct2}(h:a++[x] <+: L):(a.map f).sum+f x<=(L.map f).sum:=by obtain⟨t,rfl⟩:=h;simp
theorem My(L:List Ct2)(p:Option Addr)(B:Nat)(w:I6)(T:It prog 320 #[ZI B] (λc:Ct2=>#[Value.agg #[Zb c.1,I Zh (c.2:Int)]]) (λ_=>False) (CtC p B) L w)(b0:∀k,CtC p B k->k<w.heap.size)(hb:(L.map (·.2)).sum<=1000000000000000000) :
 ZL 282 #[.func (.func 320) #[] #[ZI B],.func (.func 284) #[] #[]] w (I Zh (((L.map (·.2)).sum:Nat):Int)):=by
 obtain⟨x,i⟩:∃x:I7,x=.func (.func 284) #[] #[]:=⟨_,R⟩;rw[<-i];refine(ZY (n:=9)).1 ?_;refine callsIn_of_wp_marks func282 rfl trivial ?_ R;simp only[ntmps282,Nat.reduceAdd,Nat.reduceSub,Zr];refine Z9.2 ?_;have a4:x.oneCell'=Zk:=by rw[i];rfl
 rw[i];go_wp2_with fail;rw[<-i];obtain⟨h1,h2⟩:=x6 w (Z #[x] 328) (Z #[I Zh 0] 23);have E:Gr w ((w.alloc (Z #[x] 328)).alloc (Z #[I Zh 0] 23)):=ZN.al;have b2:((w.alloc (Z #[x] 328)).alloc (Z #[I Zh 0] 23)).heap.size=w.heap.size+2:=WU;generalize ((w.alloc (Z #[x] 328)).alloc (Z #[I Zh 0] 23))=P at h1 h2 E b2 |-;refine Z9.1 (xj (n:=9) (gf:=320) (lb:=#[ZI B]) R (YC func320 WR R) T (λ_ h=>h.elim) (λk hk=>by have:=b0 k hk;omega) (Fr.of_gr E) (λ_=>R)
  (λu V=>V.heap[w.heap.size]?=S (Z #[x] 328)/\V.heap[w.heap.size+1]?=S (Z #[I Zh (((u.map (·.2)).sum:Nat):Int)] 23)/\Gr w V/\P.heap.size<=V.heap.size)
  (λ_ _ _=>False)
  ?sI (λ_ _ _ _ h _=>h) ⟨h1,h2,E,Zy⟩ ?rnd ?done (λ_ _ _ _ _ _ h _=>h.elim))
 case sI=>exact λs A A' h f=>⟨f.same _ _ h.1 (Zi O),f.same _ _ h.2.1 (Zi O),Below.trans h.2.2.1 (f.below (n:=w.heap.size) (ZR h.2.2.1) (λk o hk=>Zi O)),q7 h.2.2.2 f.size⟩
 case done=>rintro D V hD ⟨G,y,v,K⟩ hK;have c2:=(qi y).1;go_wp2_with fail;refine⟨WU,Zi ⟨_,_,R,YU hK,?_⟩⟩;exact⟨_,Wh R _ _ _,R,Below.trans v (XZ (w:=P) (n₀:=w.heap.size) O _ D _ _ hD hK R R)⟩
 case rnd=>
  rintro l1 u ⟨a,b⟩ V a0 hx ⟨G,y,v,K⟩ hl;have a5:l1<V.heap.size:=hl.elim λr hr=>(qB.1 hr).1;simp only;gi_wp2;refine⟨ZP.alloc _,?_⟩;intro d f2 b4 a6;obtain⟨G,y,v,K⟩:=b4;have a9:d.heap[V.heap.size]?=S (Z #[Zb a,I Zh b] 37):=f2.same _ _ (ZQ V _) O;generalize V.heap.size=M at a9 |-;have F:=Mx (f:=λc:Ct2=>c.2) hx;obtain⟨j,m⟩:∃n,Y (n=(u.map λc:Ct2=>c.2).sum):=⟨_,X R⟩;have b3:Y ((((u++[((a,b):Ct2)]).map λc:Ct2=>c.2).sum:Nat)=j+b):=X (by rw[m.a];simp);have C:=X (λW=>LL a b W);rw[<-m.a]at y F;clear m;have F:j+b<=1000000000000000000:=by simp only at F;omega
  have a7:IntKind.u64.wrap ((j:Int)+b)=(j:Int)+b:=Vh;have d1:d.drew.cell? ⟨w.heap.size,0,N⟩=S x:=(qi G).1;rw[i]at d1;have d2:d.drew.cell? ⟨w.heap.size+1,0,N⟩=S (I Zh j):=(qi y).1;have d3:d.drew.frozen? ⟨w.heap.size+1,0,N⟩=Zl:=(qi y).2;have x0:d.drew.cell? ⟨M,0,N⟩=S (Zb a):=by rw[Zs (show d.drew.heap[M]?=_ from a9)];rfl
  have x1:d.drew.cell? ⟨M,1,N⟩=S (I Zh b):=by rw[Zs (show d.drew.heap[M]?=_ from a9)];rfl
  have H:Y (∀g,Gr d.drew g->(g.cell? ⟨w.heap.size,0,N⟩=S (.func (.func 284) #[] #[])/\g.cell? ⟨w.heap.size+1,0,N⟩=S (I Zh j)/\g.frozen? ⟨w.heap.size+1,0,N⟩=Zl)):=X λg z=>by have Q:=(ZE z (show d.drew.heap[w.heap.size]?=_ from G));have a8:=(ZE z (show d.drew.heap[w.heap.size+1]?=_ from y));exact⟨by rw[<-i];exact(qi Q).1,(qi a8).1,(qi a8).2⟩
  have b1:Y (∀g,Gr d.drew g->Fr (jM P.heap.size (λ_=>False) (CtC p B)) d (g.setCell ⟨w.heap.size+1,0,N⟩ (I Zh ((j:Int)+b)))/\(g.setCell ⟨w.heap.size+1,0,N⟩ (I Zh ((j:Int)+b))).heap[w.heap.size]?=S (Z #[x] 328)/\(g.setCell ⟨w.heap.size+1,0,N⟩ (I Zh ((j:Int)+b))).heap[w.heap.size+1]?=S (Z #[I Zh ((((u++[((a,b):Ct2)]).map λc:Ct2=>c.2).sum:Nat):Int)] 23)/\Gr w (g.setCell ⟨w.heap.size+1,0,N⟩ (I Zh ((j:Int)+b)))/\P.heap.size<=(g.setCell ⟨w.heap.size+1,0,N⟩ (I Zh ((j:Int)+b))).heap.size):=X λg z=>by
   have l:Gr d g:=Gr.trans (Gr.refl d).drew z;have Q:=(ZE l G);have a8:=(ZE l y);have fs:Fr (λk _=>k≠w.heap.size+1) g (g.setCell ⟨w.heap.size+1,0,N⟩ (I Zh ((j:Int)+b))):=ZP.setCell _ (λo _ q=>q R);refine⟨Fr.trans (Fr.of_gr l) (fs.mono λk o _ q=>?_),fs.same _ _ Q O,?_,(Gr.trans v l).setCell (p:=⟨w.heap.size+1,0,N⟩) (by show w.heap.size<=w.heap.size+1;omega) _,?_⟩
   .rintro rfl;obtain q|q:=q
    .have:=b0 _ q;omega
    .omega
   .have:=jm (v:=I Zh ((j:Int)+b)) a8;rw[this,b3.a];simp
   .have:=ZR l;simp[World.setCell];omega
  gi_wp2;gi_region_with (refine⟨trivial,?_⟩;gi_at_call 284;refine((ZY.2 (C.a _)).inRound l1).mono ?_;rintro e wc ⟨rfl,J⟩;obtain⟨a1,a2,a3⟩:=H.a wc J);all_goals
   gi_wp2;exact b1.a _ J
theorem El2.frL{p:Option Addr}{L:List Ct2}{bl:Nat}(x:oj bl g n base)(h:El2 p L w)(j:∀q,p=S q->base<=q.block/\∃c,w.heap[q.block]?=S (Z c 37))(f:FrL bl g base w w'):El2 p L w'/\∀q,p=S q->base<=q.block/\∃c,w'.heap[q.block]?=S (Z c 37):=by
 have u:=x.b1;have v:=x.b2;have m:∀q,p=S q->∀o,w.heap[q.block]?=S o->q.block≠bl/\q.block≠g/\(q.block<base\/¬ TSt o):=λq e o d=>by obtain⟨a,c,k⟩:=j q e;refine⟨O,O,Zj ?_⟩;rintro⟨y,fr',rfl⟩;rw[k]at d;injection d with d;injection d with _ d _;exact absurd d WW
 refine⟨λi r=>?_,λq e=>?_⟩
 .obtain⟨l,e,a,b⟩:=h i r;exact⟨l,e,f.cell a (m ⟨l,0,N⟩ e),f.cell b (m ⟨l,0,N⟩ e)⟩
 .obtain⟨a,c,k⟩:=j q e;exact⟨a,c,f.same _ _ k (m q e _ k)⟩
theorem Ro{p:Option Addr}{cap:Nat}{L:List Ct2}(h:Cts base (Zq p k cap) L w):∀q,p=S q->base<=q.block/\∃c,w.heap[q.block]?=S (Z c 37):=by
 intro q d;obtain⟨e,_⟩|⟨g,b,cur,e,f,a,_⟩:=h.2
 .injection e with e _ _;rw[d]at e;cases e
 .injection e with e _ _;rw[d]at e;injection e with e;rw[e];exact⟨f,cur,a⟩
theorem MJ(d:Nat)(s:LSt):((HQ d s.z s.wh s.fc s.b (jI s.mov)).map (·.2)).sum=s.paths (d+1):=by unfold HQ;rw[List.map_map];show((jI s.mov).map (behN d s.z s.wh s.fc s.b)).sum=_;rw[((xq s.mov).map _).sum_nat];rfl
theorem PT{s:LSt}(e:d+1<=3){c:Ct2}(a:c∈HQ d s.z s.wh s.fc s.b (jI s.mov)):c.2<=1000000000000000000/\c.1.size<=5:=by obtain⟨y,_,rfl⟩:=YL.1 a;refine⟨pb O _ _ _ _,?_⟩;show(yJ y).toArray.size<=5;rw[Ya];exact wg y
theorem cj(a b:I4)(h:a.size+b.size<1000000)(W:I6):(Op.stringOp .add a b).run prog W=.ok (Zb (a++b)) W:=by exact Xy W a b (q7 (Nat.le_of_lt h) WW)
theorem K6{bl:Nat}{s:LSt}(x:oj bl g n base)(d:Nat)(hd:d+1<=3)(g7:rs.length<=1900000000000)(W:I6)(h:ux m bl g n base s rs W) :
 Calls prog 235 #[ZI bl,I L (d+1:Nat)] W λe j=>e=Zd (Za Zk)/\ux m bl g n base s (rs++Hq d s) j/\FrL bl g base W j:=by
 obtain⟨PA,A,hT⟩:=h.t;have h0:=h.hb;have c6:=h.ok;have hz:=jE.size A;have b5:Y (∀j,cv m bl g n base PA rs W j->Calls prog 26 #[Zc #[.func (.func 60) #[] #[],.func (.func 61) #[] #[],I L 2,svL g n],Zc PA,I L (d+1:Nat)] j λe W2=>(∃v,e=Zd v/\Cts j.heap.size v (HQ d s.z s.wh s.fc s.b (jI s.mov)) W2)/\cv m bl g n base PA rs W W2):=X λj k=>by refine(KE (Mc g n x.le) x.a2.a Ka d hd c6 A j k.w.i k.k.wt).mono ?_;rintro e W2 ⟨v,rfl,hc,hf,hm⟩;exact⟨⟨v,R,hc⟩,k.fx x hf hm⟩
 have u:=MJ d s;have c4:Y (∀c∈HQ d s.z s.wh s.fc s.b (jI s.mov),c.2<=1000000000000000000/\c.1.size<=5):=X λc hc=>PT hd hc;have f8:=pb hd s.z s.wh s.fc s.b;have f7:(HQ d s.z s.wh s.fc s.b (jI s.mov)).length<=1000000:=by unfold HQ;rw[YD,qj7];exact bu _ _ _ _
 have F:Y (Hq d s=(HQ d s.z s.wh s.fc s.b (jI s.mov)).map (λc=>c.1++xJ [32]++kt c.2)++[xJ ([115,117,109,32]++Lib.decDigits (s.paths (d+1)))]):=X R;have f3:Y (∀t j,cv m bl g n base PA (rs++t) W j->ux m bl g n base s (rs++t) j/\FrL bl g base W j):=X λt j k=>⟨k.s A c6,k.f⟩;generalize Hq d s=DT at F |-;have a7:s.paths (d+1)<=1000000000000000000:=f8;generalize s.paths (d+1)=pv at u F a7;generalize HQ d s.z s.wh s.fc s.b (jI s.mov)=B at b5 u c4 f7 F;have g0:Y (∀rs' t j,rs'.length<=2000000000000->cv m bl g n base PA rs' W j->Calls prog 159 #[ZI bl,Zb t] j λe W2=>e=Zd (Ze #[])/\cv m bl g n base PA (rs'++[t]) W W2/\FrL bl g base j W2):=X λrs' t j hl k=>(Ht x.lc t hl j k.w k.hb).mono λe W2 q=>⟨q.1,⟨q.2.1,x.fr k.k q.2.2,q7 k.hb q.2.2.size,FrL.trans k.f q.2.2⟩,q.2.2⟩;have g8:((d+1:Nat):Int)=(d:Int)+1:=O;clear h A c6 f8;unfold svL at b5;go_enter func235,ntmps235;go_upto_region 1 with fail;have g9:=hT.next x (Gr.refl W).drew;refine ZT (S:=N3 m bl g n base PA W) WR ⟨_,g9⟩ (λl=>?_);refine tq 0 (ZI bl) l ?_;refine tq 1 (ZI bl) l ?_;refine tq 2 (.pointer (S ⟨bl,76,N⟩)) l ?_;refine ZB 3 (Zc #[.func (.func 60) #[] #[],.func (.func 61) #[] #[],I L 2,Zq (S ⟨g,0,N⟩) n n]) R (λw hw=>by obtain⟨_,c0,c1,c2,c3⟩:=hw.ctr;unfold svL at c3;go_simp) l ?_;refine tq 4 (ZI bl) l ?_;refine tq 5 (ZI bl) l ?_;refine tq 6 (ZI bl) l ?_;refine ty 7 (Zc PA) R (r8 hz Vb _ R bl R (λ_ h=>h.rng)) l ?_;refine tq 8 (I L (d+1:Nat)) l ?_;refine rd 9 λK hK=>?_;go_simp;refine(b5.a _ g9).mono ?_;rintro e w1 ⟨⟨v,rfl,b3⟩,o⟩;obtain⟨Q,cap,rfl,g6,p⟩:=Kg b3;have r:=Ro b3;refine hK.out _ _ ⟨_,o⟩ (λl=>?_);clear hK K;try simp only[py]
 refine tq 10 (Zq Q B.length cap) l ?_;refine ZZ WR ?_ _;have a3:∀q,Q=S q->base<=q.block/\∃c,w1.heap[q.block]?=S (Z c 37):=λq e=>⟨q7 (q7 h0 g9.f.size) (r q e).1,(r q e).2⟩;clear l g9 hT b3 r;go_wp2_with fail;go_loopg [21] B.length (λgk i wr=>∃k:Nat,k+gk=B.length/\i=I L k/\cv m bl g n base PA (rs++(B.take k).map λc=>c.1++xJ [32]++kt c.2) W wr/\El2 Q B wr/\∀q,Q=S q->base<=q.block/\∃c,wr.heap[q.block]?=S (Z c 37))
 case atStart=>exact⟨0,O,R,by simpa using o,p,a3⟩
 case round=>
  clear o p a3;obtain⟨k,k1,rfl,o,p,r⟩:=hrel;by_cases c5:k<B.length
  .obtain⟨gg,hp,x0,x1⟩:=p k c5;have g5:(k:Int)<(B.length:Int):=O;have T:Y ((B.take (k+1)).map (λc=>c.1++xJ [32]++kt c.2)=(B.take k).map (λc=>c.1++xJ [32]++kt c.2)++[(B[k]).1++xJ [32]++kt (B[k]).2]):=X (by rw[Yd c5,Ys];rfl);obtain⟨f1,f0⟩:=c4.a B[k] (Xs c5);generalize B[k]=c at x0 x1 T f1 f0;obtain⟨a,b⟩:=c;simp only at x0 x1 T f1 f0;have E:=X o;have a0:=X p;have a6:=X r;have d0:(rs++(B.take k).map λc=>c.1++xJ [32]++kt c.2).length<=2000000000000:=by rw[qZ,YD,Xt];omega
   have G:Y (∀j,HG j->ZL 281 #[I Zh b] j (Zb (kt b))):=X λj k=>ad b O j k;have b4:(kt b).size<1000:=by have h2:=dz 18 b O;show(Lib.decDigits b).toArray.size<_;rw[Ya];omega
   generalize kt b=D8 at G b4 T;have a1:∀W,(Op.stringOp .add a ⟨#[32]⟩).run prog W=.ok (Zb (a++⟨#[32]⟩)) W:=λW=>cj a ⟨#[32]⟩ (by show a.size+1<_;omega) W;have a2:∀W,(Op.stringOp .add (a++⟨#[32]⟩) (D8)).run prog W=.ok (Zb (a++⟨#[32]⟩++D8)) W:=λW=>cj _ _ (by rw[Yn];show a.size+1+_<_;omega) W;subst hp;clear o p r;go_upto_region 5 with fail;have b6:Gr wr (wr.alloc (Z #[Zb a,I Zh b] 37)):=ZN;have P:(wr.alloc (Z #[Zb a,I Zh b] 37)).heap[wr.heap.size]?=S (Z #[Zb a,I Zh b] 37):=ZQ wr _;have b0:=E.a.next x b6;obtain⟨H,M⟩:=El2.frL x a0.a a6.a (FrL.of b6);have g4:base<=wr.heap.size:=E.a.hb;generalize wr.alloc (Z #[Zb a,I Zh b] 37)=w7 at P b0 H M |-;generalize wr.heap.size=B7 at P g4 |-;have D:=b0.next x (Gr.refl w7).drew;have y:w7.drew.heap[B7]?=S (Z #[Zb a,I Zh b] 37):=P;obtain⟨h4,h5⟩:=El2.frL x H M (FrL.of (Gr.refl w7).drew);refine ZT (S:=λj=>j.heap[B7]?=S (Z #[Zb a,I Zh b] 37)) WR y (λl=>?_);refine tq 0 (ZI bl) l ?_;refine tq 1 (ZI B7) l ?_;refine ZB 2 (Zb a) R (λw hw=>by have e0:w.cell? ⟨B7,0,N⟩=S (Zb a):=(by rw[Zs hw];rfl);go_simp) l ?_;refine tq 3 (Zb (a++⟨#[32]⟩)) l ?_;refine tq 4 (.pointer (S ⟨B7,1,N⟩)) l ?_;refine ZB 5 (I Zh b) R (λw hw=>by have e0:w.cell? ⟨B7,1,N⟩=S (I Zh b):=(by rw[Zs hw];rfl);go_simp) l ?_;refine rd 6 λK hK=>?_;go_simp;refine Z0 (G.a _ D.k.pw) λw8 b7=>?_;have d4:=D.next x b7;have a8:=(ZE b7 y);obtain⟨h1,a4⟩:=El2.frL x h4 h5 (FrL.of b7);refine hK.out _ _ a8 λl=>?_;clear hK K;try simp only[py]
   refine tq 7 (Zb (a++⟨#[32]⟩++D8)) l ?_;refine rd 8 λK hK=>?_;go_simp;refine Z0 (g0.a _ _ _ d0 d4) λw9⟨d5,a9⟩=>?_;have d1:w9.heap[B7]?=S (Z #[Zb a,I Zh b] 37):=a9.same _ _ a8 ⟨UV,UU,Zj λq=>by obtain⟨c,fr,q⟩:=q;injection q with _ q _;exact absurd q WW⟩;obtain⟨h3,a5⟩:=El2.frL x h1 a4 a9;refine hK.out _ _ d1 λl=>?_;clear hK K;try simp only[py]
   refine ZZ WR ?_ _;have J:Y (cv m bl g n base PA (rs++(B.take (k+1)).map λc=>c.1++xJ [32]++kt c.2) W w9/\El2 (S (⟨gg,0,N⟩:Addr)) B w9/\∀q,S (⟨gg,0,N⟩:Addr)=S q->base<=q.block/\∃c,w9.heap[q.block]?=S (Z c 37)):=X ⟨by rw[T.a,<-qS];exact d5,h3,a5⟩;clear l d1 h3 a5 d5 a9 d4 a8 h1 a4 D y h4 h5 b0 P H M E a0 a6 b6;go_wp2_with fail;go_roundg (gk-1)
   case measure=>omega
   case rel=>exact⟨k+1,O,Vg,J.a⟩
  .have ek:k=B.length:=O;have g5:¬ (k:Int)<(B.length:Int):=O;rw[ek,XA]at o;have E:=X o;have d0:(rs++B.map λc=>c.1++xJ [32]++kt c.2).length<=2000000000000:=by rw[qZ,YD];omega
   have g1:=X (Jv Q B.length cap wr);have hB:(wr.alloc (Z #[Zq Q B.length cap] 33)).heap[wr.heap.size]?=S (Z #[Zq Q B.length cap] 33):=ZQ wr _;have f6:Gr wr (wr.alloc (Z #[Zq Q B.length cap] 33)):=ZN;have h6:=p.fr (B:=wr.heap.size) (Q:=λ_ _=>True) (Fr.of_gr f6) (λ_ _ _=>trivial);have f9:=X (My B Q wr.heap.size (wr.alloc (Z #[Zq Q B.length cap] 33)) (LN B f7 Q cap wr.heap.size _ _ hB h6) (λq hq=>by
    obtain rfl|⟨q',e,rfl⟩:=hq
    .simp
    .obtain⟨_,c,hc⟩:=r q' e;have:=(qB.1 hc).1;simp;omega) (by rw[u];exact a7))
   rw[u]at f9;have G:=X (λj=>ad pv O j);have b4:(kt pv).size<1000:=by have h2:=dz 18 pv O;show(Lib.decDigits pv).toArray.size<_;rw[Ya];omega
   have V:Y (rs++DT=(rs++B.map λc=>c.1++xJ [32]++kt c.2)++[⟨#[115,117,109,32]⟩++kt pv]):=X (by rw[F.a,qS,show(⟨#[115,117,109,32]⟩:I4)=xJ [115,117,109,32]from R,kt,F6]);have f2:Y (∀j,HG j->ZL 281 #[I Zh pv] j (Zb (kt pv))):=X λj k=>G.a j k;generalize kt pv=DB at f2 b4 V;clear o p r F u c4 h6 hB G;go_wp2_with(first
    | (go_at_call 283;refine Z0 g1.a λw2 g2=>?_;rw[g2];clear g2)
    | (go_at_call 282;refine Z0 f9.a λw3 f4=>?_;have d2:=X ((E.a.next x f6).next x f4);clear f4)
    | (go_at_call 281;refine Z0 (f2.a _ d2.a.k.pw) λw4 f5=>?_;have g3:=X (d2.a.next x f5);clear f5)
    | (go_at_call 159;refine Z0 (g0.a _ _ _ d0 g3.a) λw5⟨d3,_⟩=>?_;have J:Y (ux m bl g n base s (rs++DT) w5/\FrL bl g base W w5):=X (f3.a DT w5 (by rw[V.a];exact d3));clear d3))
   go_ret;exact⟨R,J.a⟩
theorem JN:∀(d:List (Nat × Nat)) (i:Nat) (a:i<d.length),(Hy d)[i*2]?=S (I L (d[i].1:Int))/\(Hy d)[i*2+1]?=S (I Zh (d[i].2:Int))
 | [],i,a=>absurd a (Yy i)
 | c :: d,0,_=>⟨R,R⟩
 | c :: d,i+1,a=>by
  have:=JN d i VS;have e:Hy (c :: d)=I L (c.1:Int) :: I Zh (c.2:Int) :: Hy d:=R;have b:(i+1)*2=i*2+1+1:=O
  rw[e,b];exact this
def ElT(p:Option Addr)(L:List (Nat × Nat))(W:I6):Prop:=∀i (hi:i<L.length),∃g,p=S ⟨g,0,N⟩/\W.cell? ⟨g,i*2,N⟩=S (I .i64 (L[i].1:Int))/\W.cell? ⟨g,i*2+1,N⟩=S (I Zh (L[i].2:Int))
theorem Mu{L:List (Nat × Nat)}(h:Tls base v L w):∃p cap,v=Zq p L.length cap/\L.length<=maxLen/\ElT p L w/\∀q,p=S q->base<=q.block/\∃c,w.heap[q.block]?=S (Z c 335):=by
 obtain⟨rfl,l⟩|⟨g,cap,cur,rfl,n,j,x,u,o,d⟩:=h.2
 .have f:L.length=0:=l;exact⟨N,0,by rw[f],by rw[f];exact Nat.zero_le _,λi r=>absurd r O,λq e=>by cases e⟩
 .refine⟨_,_,R,q7 x u,λi y=>⟨g,R,?_⟩,λq e=>?_⟩
  .have k:∀c,c<2->w.cell? ⟨g,i*2+c,N⟩=(Hy L)[i*2+c]?:=λc z=>by have m:i*2+c<L.length*2:=O;simp only[World.cell?];rw[j];show cur[i*2+c]?=_;rw[<-qO,<-Xi m,d]
   obtain⟨a,b⟩:=JN L i y;exact⟨(k 0 WW).trans a,(k 1 WW).trans b⟩
  .injection e with e;rw[<-e];exact⟨n,cur,j⟩
structure EpW(B base:Nat)(PB:I0)(p:Option Addr)(cap:Nat)(L:List (Nat × Nat))(w:I6):Prop where
 r:w.heap[B]?=S (Z (eK PB (Zq p L.length cap)) 331)
 b:base<=B
 el:ElT p L w
 ob:∀q,p=S q->base<=q.block/\∃c,w.heap[q.block]?=S (Z c 335)
theorem QM{bl q:Nat}{c:I0}{t:TypeId}(x:oj bl g n base)(d:base<=q)(h:w.heap[q]?=S (Z c t))(a:t≠9)(f:FrL bl g base w w'):w'.heap[q]?=S (Z c t) :=
 f.same _ _ h ⟨UV,UU,Zj λk=>by obtain⟨b,fr,k⟩:=k;injection k with _ k _;exact a k⟩
theorem EpW.frL{bl:Nat}{k:I0}{p:Option Addr}{cap:Nat}{L:List (Nat × Nat)}(x:oj bl g n base)(h:EpW B base k p cap L w)(f:FrL bl g base w w'):EpW B base k p cap L w':=by
 have l:∀q,p=S q->∃c,w.heap[q.block]?=S (Z c 335)/\w'.heap[q.block]?=S (Z c 335):=λq e=>by obtain⟨a,c,d⟩:=h.ob q e;exact⟨c,d,QM x a d WW f⟩
 have d:∀i (q:Nat),p=S ⟨q,0,N⟩->w'.cell? ⟨q,i,N⟩=w.cell? ⟨q,i,N⟩:=λi q e=>by obtain⟨c,o,j⟩:=l _ e;rw[Zs o,Zs j]
 refine⟨QM x h.b h.r WW f,h.b,λi u=>?_,λq e=>?_⟩
 .obtain⟨m,e,a,b⟩:=h.el i u;exact⟨m,e,(d _ _ e).trans a,(d _ _ e).trans b⟩
 .obtain⟨c,_,j⟩:=l q e;exact⟨(h.ob q e).1,c,j⟩
theorem Le{a:I0}(d:a.size=72)(h:W.heap[B]?=S (Z (eK a v) 331)):W.rangeAt B 0 a.toList:=λj v' b=>by
 have e:j<72:=by rw[<-d,<-ZX];exact(Z5.1 b).1
 rw[Zs h,Z2];unfold eK;rw[Y7,d,qI e,<-qO];exact b
theorem Mr{x:I1}{c:Nat × Nat}(h:e8 x=S c):c.1<=3:=by
 unfold e8 at h;cases a:df 1 (Lib.cut x [32]).1 with
 | none=>rw[a]at h;cases h
 | some d =>
  cases b:kZ 9 (Lib.cut x [32]).2.1 with
  | none=>rw[a,b]at h;cases h
  | some k =>
   rw[a,b]at h;have e:=qP (show S (d,k)=S c from h);rw[<-e];exact(MN a).2
theorem KK:∀{a:List (I1)} {l:List (Nat × Nat)},pL a=S l->∀c∈l,c.1<=3
 | [],l,h,c,b=>by
  have:=qP (show S []=S l from h);rw[<-this]at b;cases b
 | q :: a,l,h,c,b=>by
  rw[pL]at h;cases e:e8 q with
  | none=>rw[e]at h;cases h
  | some t =>
   rw[e]at h;cases d:pL a with
   | none=>rw[d]at h;cases h
   | some l' =>
    rw[d]at h;have f:=qP (show S (t :: l')=S l from h);rw[<-f]at b;obtain rfl|b:=Yj.1 b
    .exact Mr e
    .exact KK d c b
theorem Ks{t:I1}{p:pH}{g:List (Nat × Nat)}(h:recP posP t=S (p,g)):(∃x,xG x=S p)/\(LSt.of p).ok/\∀c∈g,c.1<=3:=by
 obtain⟨j,r,e⟩:=N8 t;cases f:posP (j++zoT)with
 | none=>rw[Li posP e f]at h;cases h
 | some q =>
  rw[JP posP e f]at h;obtain⟨l,i,d⟩:=Xp.1 h;injection d with d h3
  subst d h3;obtain⟨a,b⟩:=H3 f;exact⟨⟨_,a⟩,LSt.ok_of a b,KK i⟩
theorem Rh{bl:Nat}{s:LSt}(x:oj bl g n base)(t:I4)(q:t.size<=2000000000)(W:I6)(h:ux m bl g n base s rs W)(j:recP posP t.data.toList=N) :
 Calls prog 237 #[ZI bl,Zb t] W λe a=>vs m bl g n base s rs N e a/\FrL bl g base W a:=by
 have l:=X (HW t q m W h.k.ct.mx h.k.ct.ml h.k.ct.tab h.k.ct.homes);have i:Y (Calls prog 285 #[Zb t] W λe w'=>(∃A:I0,A.size=73/\A.all (·.oneCell')=Zk/\e=Zd (Ze #[Zc A,Za Zl]))/\Gr W w'):=X (l.a.mono λe w' k=>by rw[j]at k;exact k);have b:Y (∀a,Gr W a->vs m bl g n base s rs N (Zd (Za Zl)) a/\FrL bl g base W a):=X λa k=>⟨⟨R,h.gr x k⟩,FrL.of k⟩;show Calls _ _ _ _ λe a=>vs m bl g n base s rs N e a/\FrL bl g base W a;clear l j h;go_enter func237,ntmps237;go_upto_region 2 with(first
  | (go_at_call 285;refine i.a.mono ?_;rintro e w1 ⟨⟨A,o,p,rfl⟩,d⟩)
  | (refine ZU R 331 _ _ R w1.heap.size A R R 331 _ Zv (by rw[o];exact Hg) (by rw[o];exact Mm.symm) p ?_))
 have f:=X (Gr.trans d (((Gr.refl w1).alloc zeroCells331 331).setRow _ Zy A));generalize (w1.alloc (Z zeroCells331 331)).setRow w1.heap.size A=r at f |-;clear d i;go_wp2_with fail;go_ret;exact b.a _ f.a
theorem QT{bl:Nat}{s:LSt}(x:oj bl g n base)(t:I4)(ht:t.size<=2000000000)(k2:rs.length<=1900000000000)(W:I6)(h:ux m bl g n base s rs W)(p:pH)(l:List (Nat × Nat))(hf:recP posP t.data.toList=S (p,l)) :
 Calls prog 237 #[ZI bl,Zb t] W λe j=>vs m bl g n base s rs (S (s,[fk (LSt.of p) l])) e j/\FrL bl g base W j:=by
 have hr:=X (HW t ht m W h.k.ct.mx h.k.ct.ml h.k.ct.tab h.k.ct.homes);obtain⟨⟨xx,g9⟩,l2,g0⟩:=Ks hf;have f3:Y (Calls prog 285 #[Zb t] W λe w'=>(∃E cap,e=Zd (Ze #[Zc (eK (jV p) (Zq E l.length cap)),Za Zk])/\l.length<=maxLen/\ElT E l w'/\∀q,E=S q->W.heap.size<=q.block/\∃c,w'.heap[q.block]?=S (Z c 335))/\Gr W w'):=X (hr.a.mono λe w' k=>by
  rw[hf]at k;obtain⟨⟨v,e1,hT⟩,kg⟩:=k;obtain⟨E,cap,rfl,f1,a4,Q⟩:=Mu hT;exact⟨⟨E,cap,e1,f1,a4,Q⟩,kg⟩)
 have y:=LSt.row_of g9;have hz:(jV p).size=72:=jE.size y;have ho:(jV p).all (·.oneCell')=Zk:=qx y;obtain⟨PA,b1,hT⟩:=h.t;have h0:=h.hb;have g5:=h.ok;generalize LSt.of p=A at l2 y |-;generalize jV p=H at f3 hz ho y;have f2:Y (∀d:Nat,d<=3->∀j,cv m bl g n base PA rs W j->Calls prog 25 #[Zc #[.func (.func 60) #[] #[],.func (.func 61) #[] #[],I L 2,svL g n],Zc H,I L d] j λe W2=>e=Zd (I Zh (A.paths d:Nat))/\cv m bl g n base PA rs W W2/\FrL bl g base j W2):=X λd hd j k=>by refine Z0 (HZ (Mc g n x.le) x.a2.a Ka d hd l2 y j k.w.i k.k.wt) λW2⟨kf,hm⟩=>?_;exact⟨R,k.fx x kf hm,Fr.mono kf λk o _ q=>q.2.1⟩
 have h6:Y (∀d:Nat,d<=3->A.paths d<=1000000000000000000):=X λd hd=>pb hd A.z A.wh A.fc A.b;have h3:Y (∀u j,cv m bl g n base PA rs W j->Calls prog 159 #[ZI bl,Zb u] j λe W2=>e=Zd (Ze #[])/\cv m bl g n base PA (rs++[u]) W W2):=X λu j k=>Pn x u O k;have a8:Y (∀u j,u=fk A l->cv m bl g n base PA (rs++[u]) W j->vs m bl g n base s rs (S (s,[fk A l])) (Zd (Za Zk)) j/\FrL bl g base W j):=X λu j e k=>by rw[e]at k;exact⟨⟨R,k.s b1 g5⟩,k.f⟩
 show Calls _ _ _ _ λe j=>vs m bl g n base s rs (S (s,[fk A l])) e j/\FrL bl g base W j;have g1:=X g0;clear hr hf h b1 g5 y l2 g9 g0;unfold svL at f2;go_enter func237,ntmps237;go_upto_region 2 with(first
  | (go_at_call 285;refine f3.a.mono ?_;rintro e w1 ⟨⟨E,cap,rfl,f1,a4,Q⟩,d2⟩)
  | (refine ZU R 331 _ _ R w1.heap.size (eK H (Zq E l.length cap)) R R 331 _ Zv Uy (by rw[vl hz];exact Mm.symm) (br ho) ?_))
 have d3:Gr w1 ((w1.alloc (Z zeroCells331 331)).setRow w1.heap.size (eK H (Zq E l.length cap))):=ZN.setRow _ Zy _;have g6:((w1.alloc (Z zeroCells331 331)).setRow w1.heap.size (eK H (Zq E l.length cap))).heap[w1.heap.size]?=S (Z (eK H (Zq E l.length cap)) 331):=Zt (Z7 w1 _);have b6:=(hT.next x d2).next x d3;have f7:base<=w1.heap.size:=(hT.next x d2).hb;have k5:EpW w1.heap.size base H E cap l ((w1.alloc (Z zeroCells331 331)).setRow w1.heap.size (eK H (Zq E l.length cap))):=by
  have hk:∀q,E=S q->∃c,w1.heap[q.block]?=S (Z c 335)/\((w1.alloc (Z zeroCells331 331)).setRow w1.heap.size (eK H (Zq E l.length cap))).heap[q.block]?=S (Z c 335):=λq e=>by obtain⟨_,c,hc⟩:=Q q e;exact⟨c,hc,(ZE d3 hc)⟩
  have f9:∀i (q:Nat),E=S ⟨q,0,N⟩->((w1.alloc (Z zeroCells331 331)).setRow w1.heap.size (eK H (Zq E l.length cap))).cell? ⟨q,i,N⟩=w1.cell? ⟨q,i,N⟩:=λi q e=>by obtain⟨c,h1,h2⟩:=hk _ e;rw[Zs h1,Zs h2]
  refine⟨g6,f7,λi hi=>?_,λq e=>?_⟩
  .obtain⟨gg,e,a,b⟩:=a4 i hi;exact⟨gg,e,(f9 _ _ e).trans a,(f9 _ _ e).trans b⟩
  .obtain⟨c,_,h2⟩:=hk q e;exact⟨q7 h0 (Q q e).1,c,h2⟩
 generalize (w1.alloc (Z zeroCells331 331)).setRow w1.heap.size (eK H (Zq E l.length cap))=w2 at b6 k5 |-;generalize w1.heap.size=B at k5 |-;have h4:w2.cell? ⟨B,72,N⟩=S (Zq E l.length cap):=by rw[Zs k5.r,J2 hz]
 unfold maxLen at f1;have a6:=X b6;have a5:=X k5;clear d2 f3 a4 Q d3 g6 f7 hT b6 k5 h0;go_wp2_with fail;go_loopg [20] l.length (λgk i wr=>∃k:Nat,k+gk=l.length/\i=I L k/\fk A (l.drop k)=fk A l/\cv m bl g n base PA rs W wr/\EpW B base H E cap l wr)
 case atStart=>exact⟨0,O,R,R,a6.a,a5.a⟩
 case round=>
  clear h4 a6 a5;obtain⟨k,k1,rfl,d5,l0,hE⟩:=hrel;have D:=X d5;by_cases f0:k<l.length
  .obtain⟨gg,hp,x0,x1⟩:=hE.el k f0;have h5:(k:Int)<(l.length:Int):=O;have G:Y (l.drop k=l[k] :: l.drop (k+1)):=X (XP f0);have a0:=g1.a l[k] (Xs f0);generalize l[k]=c at x0 x1 G a0;obtain⟨d,nn⟩:=c;simp only at x0 x1 G a0;have g7:=X (f2.a d a0);have b0:=h6.a d a0;have c5:=X l0;have f5:=X hE;subst hp;clear l0 hE d5;go_upto_region 7 with fail;have d4:Gr wr (wr.alloc (Z #[I L d,I Zh nn] 335)):=ZN;have k8:(wr.alloc (Z #[I L d,I Zh nn] 335)).heap[wr.heap.size]?=S (Z #[I L d,I Zh nn] 335):=ZQ wr _;have b7:=c5.a.next x d4;have b2:=f5.a.frL x (FrL.of d4);have f8:base<=wr.heap.size:=c5.a.hb;generalize wr.alloc (Z #[I L d,I Zh nn] 335)=w7 at k8 b7 b2 |-;generalize wr.heap.size=B7 at k8 f8 |-;have l3:=b7.next x (Gr.refl w7).drew;have M:=b2.frL x (FrL.of (Gr.refl w7).drew);have J:w7.drew.heap[B7]?=S (Z #[I L d,I Zh nn] 335):=k8;refine ZT (S:=λj=>N3 m bl g n base PA W j/\j.heap[B]?=S (Z (eK H (Zq (S ⟨gg,0,N⟩) l.length cap)) 331)/\j.heap[B7]?=S (Z #[I L d,I Zh nn] 335)) WR ⟨⟨_,l3⟩,M.r,J⟩ (λV=>?_);refine tq 0 (ZI bl) V ?_;refine tq 1 (ZI bl) V ?_;refine tq 2 (.pointer (S ⟨bl,76,N⟩)) V ?_;refine ZB 3 (Zc #[.func (.func 60) #[] #[],.func (.func 61) #[] #[],I L 2,Zq (S ⟨g,0,N⟩) n n]) R (λw hw=>by obtain⟨_,c0,c1,c2,c3⟩:=hw.1.ctr;unfold svL at c3;go_simp) V ?_;refine tq 4 (ZI B) V ?_;refine ty 5 (Zc H) R (r8 hz Vb _ R B R (λ_ h=>Le hz h.2.1)) V ?_;refine tq 6 (ZI B7) V ?_;refine ZB 7 (I L d) R (λw hw=>by have e0:w.cell? ⟨B7,0,N⟩=S (I L d):=(by rw[Zs hw.2.2];rfl);go_simp) V ?_;refine rd 8 λK hK=>?_;go_simp;refine Z0 (g7.a _ l3) λw8⟨c4,b4⟩=>?_;have b3:=M.frL x b4;have k9:=QM x f8 J WW b4;refine hK.out _ _ ⟨⟨_,c4⟩,b3.r,k9⟩ (λV=>?_);clear hK K;try simp only[py]
   refine tq 9 (I Zh (A.paths d:Nat)) V ?_;refine ZZ WR ?_ _;have d0:w8.cell? ⟨B7,0,N⟩=S (I L d):=by rw[Zs k9];rfl
   have d1:w8.cell? ⟨B7,1,N⟩=S (I Zh nn):=by rw[Zs k9];rfl
   have l1:=X c4;have f4:=X b3;clear V b7 b2 l3 M k8 J c4 b3 k9 b4 d4 c5 f5 g7 f2;by_cases k4:A.paths d=nn
   .have h9:Y (fk A (l.drop (k+1))=fk A l):=X (by rw[<-D.a,G.a,fk,qI k4]);subst k4;generalize A.paths d=pv at d1 b0 G |-;clear G D d0;go_wp2_with fail;go_roundg (gk-1)
    case measure=>omega
    case rel=>exact⟨k+1,O,Vg,h9.a,l1.a,f4.a⟩
   .have T:Y (((⟨#[102,97,105,108,32,68]⟩:I4)++kt d++⟨#[32]⟩)++kt (A.paths d)=fk A l):=X (by rw[<-D.a,G.a,fk,qF k4];exact eu (by simp[xJ,kt]));have g3:Lib.itoa (d:Int)=Lib.decDigits d:=by unfold Lib.itoa;rw[qF O];rfl
    have g4:Y (∀j,HG j->ZL 160 #[I L d] j (Zb (kt d))):=X λj k=>(Kd (d:Int) O O j k).mono λe w' q=>⟨by rw[q.1,g3];rfl,q.2⟩;have c6:Y (∀j,HG j->ZL 281 #[I Zh (A.paths d:Nat)] j (Zb (kt (A.paths d)))):=X λj k=>ad _ O j k;have h7:(kt d).size<1000:=by have h2:=dz 18 d O;show(Lib.decDigits d).toArray.size<_;rw[Ya];omega
    have h8:(kt (A.paths d)).size<1000:=by have h2:=dz 18 (A.paths d) O;show(Lib.decDigits (A.paths d)).toArray.size<_;rw[Ya];omega
    have g8:¬ ((A.paths d:Nat):Int)=(nn:Int):=λe=>k4 O;generalize kt d=D1 at T g4 h7;generalize kt (A.paths d)=D8 at T c6 h8;generalize A.paths d=pv at d1 b0 G c6 g8 k4 |-;have a1:∀W,(Op.stringOp .add ⟨#[102,97,105,108,32,68]⟩ D1).run prog W=.ok (Zb (⟨#[102,97,105,108,32,68]⟩++D1)) W:=λW=>cj _ D1 (by show 6+D1.size<_;omega) W;have a2:∀W,(Op.stringOp .add (⟨#[102,97,105,108,32,68]⟩++D1) ⟨#[32]⟩).run prog W=.ok (Zb (⟨#[102,97,105,108,32,68]⟩++D1++⟨#[32]⟩)) W:=λW=>cj _ _ (by rw[Yn];show 6+D1.size+1<_;omega) W;have a3:∀W,(Op.stringOp .add (⟨#[102,97,105,108,32,68]⟩++D1++⟨#[32]⟩) D8).run prog W=.ok (Zb (⟨#[102,97,105,108,32,68]⟩++D1++⟨#[32]⟩++D8)) W:=λW=>cj _ _ (by rw[Yn,Yn];show 6+D1.size+1+D8.size<_;omega) W;clear G D k4 g3;go_wp2_with(first
     | (go_at_call 160;refine Z0 (g4.a _ l1.a.k.pw) λw9 g2=>?_;have a7:=X (l1.a.next x g2);clear g2)
     | (go_at_call 281;refine Z0 (c6.a _ a7.a.k.pw) λk3 a9=>?_;have b5:=X (a7.a.next x a9);clear a9)
     | (go_at_call 159;refine Z0 (h3.a _ _ b5.a) λk0 F=>?_;have P:=X (a8.a _ _ T.a F);clear F))
    go_ret;exact P.a
  .have h5:¬ (k:Int)<(l.length:Int):=O;have T:Y ((⟨#[112,97,115,115]⟩:I4)=fk A l):=X (by rw[<-D.a,Ws O];rfl);have f6:=X l0;clear l0 hE d5 D;go_wp2_with(go_at_call 159;refine Z0 (h3.a _ _ f6.a) λk0 F=>?_;have P:=X (a8.a _ _ T.a F);clear F);go_ret;exact P.a
theorem QU{bl:Nat}{s:LSt}(x:oj bl g n base)(t:I4)(f:t.size<=2000000000)(a:rs.length<=1900000000000)(W:I6)(h:ux m bl g n base s rs W) :
 Calls prog 237 #[ZI bl,Zb t] W λe b=>vs m bl g n base s rs ((recP posP t.data.toList).map λq=>(s,[fk (LSt.of q.1) q.2])) e b/\FrL bl g base W b:=by
 cases d:recP posP t.data.toList with
 | none=>exact Rh x t f W h d
 | some q=>exact QT x t f a W h q.1 q.2 d
def ox(s:LSt)(c:I1):Option (LSt × I3) :=
 if(c==[109,111,118,101,115])=Zk then S (s,[KY s])else if(c==[108,111,111,107])=Zk then S (s,[HD s])else N
def Mf(s:LSt)(c a:I1):Option (LSt × I3) :=
 if(c==[102,101,110])=Zk then(Md ⟨a.toArray⟩).map λs'=>(s',[xJ [111,107]])
 else if(c==[109,111,118,101])=Zk then fd s ⟨a.toArray⟩
 else if(c==[115,104,111,114,116])=Zk then shortS s ⟨a.toArray⟩
 else if(c==[112,101,114,102,116])=Zk then(df 0 a).map λd=>(s,[kt (s.paths d)])
 else if(c==[100,105,118,105,100,101])=Zk then(df 1 a).map λd=>(s,Hq (d-1) s)
 else if(c==[99,111,109,112,97,114,101])=Zk then(df 0 a).map λd=>(s,[⟨#[115,97,109,101,32]⟩++kt (s.paths d)])
 else if(c==[101,112,100])=Zk then(recP posP a).map λq=>(s,[fk (LSt.of q.1) q.2])
 else N
def doS(s:LSt)(l:I1):Option (LSt × I3):=if(Lib.cut l [32]).2.2=Zk then Mf s (Lib.cut l [32]).1 (Lib.cut l [32]).2.1 else ox s (Lib.cut l [32]).1
theorem vs.ret{bl:Nat}{s:LSt}{r:Option (LSt × I3)}{e:Ending}(h:vs m bl g n base s rs r e W):∃b,e=Zd (Za b)/\vs m bl g n base s rs r (Zd (Za b)) W:=by
 cases r with
 | none=>exact⟨Zl,h.1,R,h.2⟩
 | some q=>exact⟨Zk,h.1,R,h.2⟩
theorem doC{bl:Nat}{s:LSt}(x:oj bl g n base)(h:ux m bl g n base s rs W){F:Nat}{args:I0}{R f:Option (LSt × I3)}(hR:R=f)(p:∀a,ux m bl g n base s rs a->Calls prog F args a λe d=>vs m bl g n base s rs f e d/\FrL bl g base a d) :
 Y (∀a,Gr W a->Calls prog F args a λe d=>∃b,e=Zd (Za b)/\vs m bl g n base s rs R (Zd (Za b)) d/\FrL bl g base W d):=X λa k=>by
 refine(p a (h.gr x k)).mono ?_;rintro e d ⟨l,o⟩;obtain⟨b,i,j⟩:=l.ret;exact⟨b,i,by rw[hR];exact j,FrL.trans (FrL.of k) o⟩
theorem J8{bl:Nat}{s:LSt}(x:oj bl g n base)(c:I1)(d:rs.length<=1900000000000)(W:I6)(h:ux m bl g n base s rs W) :
 Calls prog 229 #[ZI bl,Zb ⟨c.toArray⟩] W λe k=>vs m bl g n base s rs (ox s c) e k/\FrL bl g base W k:=by
 have i:=X (Lv x d W h);have f:=X (Nb x d W h);unfold ox;cases l:c==[109,111,118,101,115]with
 | true =>
  rw[qI R];clear h f;go_enter func229,ntmps229;go_wp2_with(go_at_call 276;refine Z0 i.a λj⟨hD,b⟩=>?_;have a:Y (vs m bl g n base s rs (S (s,[KY s])) (Zd (Za Zk)) j/\FrL bl g base W j):=X ⟨⟨R,hD⟩,b⟩;clear hD b);go_ret;exact a.a
 | false =>
  rw[qF WU];cases o:c==[108,111,111,107]with
  | true =>
   rw[qI R];clear h i;go_enter func229,ntmps229;go_wp2_with(go_at_call 277;refine Z0 f.a λj⟨hD,b⟩=>?_;have a:Y (vs m bl g n base s rs (S (s,[HD s])) (Zd (Za Zk)) j/\FrL bl g base W j):=X ⟨⟨R,hD⟩,b⟩;clear hD b);go_ret;exact a.a
  | false =>
   rw[qF WU];have a:Y (vs m bl g n base s rs N (Zd (Za Zl)) W/\FrL bl g base W W):=X ⟨⟨R,h⟩,FrL.refl _ _ _ _⟩;clear h i f;go_enter func229,ntmps229;go_wp2_with fail;go_ret;exact a.a
theorem Rj{bl:Nat}{s:LSt}(x:oj bl g n base)(t:I4)(a6:t.size<=2000000000)(p:rs.length<=1900000000000)(W:I6)(h:ux m bl g n base s rs W) :
 Calls prog 158 #[ZI bl,Zb t] W λe j=>vs m bl g n base s rs (doS s t.data.toList) e j/\FrL bl g base W j:=by
 obtain⟨Q,a3⟩:=KF t.data.toList [32];have u:=X (Kf t O m W h.k.ct.mx);have f:doS s t.data.toList=if(Lib.cut t.data.toList [32]).2.2=Zk then Mf s (Lib.cut t.data.toList [32]).1 (Lib.cut t.data.toList [32]).2.1 else ox s (Lib.cut t.data.toList [32]).1:=R;generalize doS s t.data.toList=a0 at f |-;generalize Lib.cut t.data.toList [32]=cu at u Q a3 f;obtain⟨c,a,b⟩:=cu;simp only at u f Q a3;have T:t.data.toList.length=t.size:=R;have v:(⟨a.toArray⟩:I4).size=a.length:=Ya;cases b with
 | false =>
  rw[qF WU]at f;have B:Y (∀j,Gr W j->Calls prog 229 #[ZI bl,Zb ⟨c.toArray⟩] j λe r=>∃b,e=Zd (Za b)/\vs m bl g n base s rs a0 (Zd (Za b)) r/\FrL bl g base W r):=doC x h f λj k=>J8 x c p j k;clear f h;go_enter func158,ntmps158
  go_wp2_with(first
   | (go_at_call 228;refine Z0 u.a λw1 o=>?_)
   | (go_at_call 229;refine(B.a _ o).mono ?_;rintro e z ⟨y,rfl,hD,l⟩;have i:=X (YB hD l);clear hD l))
  go_ret;exact i.a
 | true =>
  rw[qI R]at f;unfold Mf at f;cases J:c==[102,101,110]with
  | true =>
   rw[J,qI R]at f;have C:Y (∀j,Gr W j->Calls prog 230 #[ZI bl,Zb ⟨a.toArray⟩] j λe r=>∃b,e=Zd (Za b)/\vs m bl g n base s rs a0 (Zd (Za b)) r/\FrL bl g base W r):=doC x h f (λj k=>QS x _ (by rw[v];omega) p j k);clear f h;go_enter func158,ntmps158
   go_wp2_with(first
    | (go_at_call 228;refine Z0 u.a λw1 o=>?_)
    | (go_at_call 230;refine(C.a _ o).mono ?_;rintro e z ⟨y,rfl,hD,l⟩;have i:=X (YB hD l);clear hD l))
   go_ret;exact i.a
  | false =>
   rw[J,qF WU]at f;cases K:c==[109,111,118,101]with
   | true =>
    rw[K,qI R]at f;have D:Y (∀j,Gr W j->Calls prog 231 #[ZI bl,Zb ⟨a.toArray⟩] j λe r=>∃b,e=Zd (Za b)/\vs m bl g n base s rs a0 (Zd (Za b)) r/\FrL bl g base W r):=doC x h f (λj k=>Na x _ (by rw[v];omega) p j k);clear f h;go_enter func158,ntmps158
    go_wp2_with(first
     | (go_at_call 228;refine Z0 u.a λw1 o=>?_)
     | (go_at_call 231;refine(D.a _ o).mono ?_;rintro e z ⟨y,rfl,hD,l⟩;have i:=X (YB hD l);clear hD l))
    go_ret;exact i.a
   | false =>
    rw[K,qF WU]at f;cases a2:c==[115,104,111,114,116]with
    | true =>
     rw[a2,qI R]at f;have E:Y (∀j,Gr W j->Calls prog 232 #[ZI bl,Zb ⟨a.toArray⟩] j λe r=>∃b,e=Zd (Za b)/\vs m bl g n base s rs a0 (Zd (Za b)) r/\FrL bl g base W r):=doC x h f (λj k=>LZ x _ p j k);clear f h;go_enter func158,ntmps158
     go_wp2_with(first
      | (go_at_call 228;refine Z0 u.a λw1 o=>?_)
      | (go_at_call 232;refine(E.a _ o).mono ?_;rintro e z ⟨y,rfl,hD,l⟩;have i:=X (YB hD l);clear hD l))
     go_ret;exact i.a
    | false =>
     rw[a2,qF WU]at f;cases M:c==[112,101,114,102,116]with
     | true =>
      rw[M,qI R]at f;have F:Y (∀j,Gr W j->Calls prog 233 #[ZI bl,Zb ⟨a.toArray⟩,I L 0,.func (.func 234) #[ZI bl] #[]] j λe r=>∃b,e=Zd (Za b)/\vs m bl g n base s rs a0 (Zd (Za b)) r/\FrL bl g base W r):=doC x h f (λj k=>rL ⟨a.toArray⟩ To 0 O 234 (by intro args w;rfl) (λd=>[kt (s.paths d)]) j k λd _ A=>Lo x d A p j k);clear f h;go_enter func158,ntmps158
      go_wp2_with(first
       | (go_at_call 228;refine Z0 u.a λw1 o=>?_)
       | (go_at_call 233;refine(F.a _ o).mono ?_;rintro e z ⟨y,rfl,hD,l⟩;have i:=X (YB hD l);clear hD l))
      go_ret;exact i.a
     | false =>
      rw[M,qF WU]at f;cases a4:c==[100,105,118,105,100,101]with
      | true =>
       rw[a4,qI R]at f;have G:Y (∀j,Gr W j->Calls prog 233 #[ZI bl,Zb ⟨a.toArray⟩,I L 1,.func (.func 235) #[ZI bl] #[]] j λe r=>∃b,e=Zd (Za b)/\vs m bl g n base s rs a0 (Zd (Za b)) r/\FrL bl g base W r):=doC x h f (λj k=>rL ⟨a.toArray⟩ To 1 O 235 (by intro args w;rfl) (λd=>Hq (d-1) s) j k λd V A=>by obtain⟨q,rfl⟩:∃q,d=q+1:=⟨d-1,O⟩;exact K6 x q A p j k);clear f h;go_enter func158,ntmps158
       go_wp2_with(first
        | (go_at_call 228;refine Z0 u.a λw1 o=>?_)
        | (go_at_call 233;refine(G.a _ o).mono ?_;rintro e z ⟨y,rfl,hD,l⟩;have i:=X (YB hD l);clear hD l))
       go_ret;exact i.a
      | false =>
       rw[a4,qF WU]at f;cases a1:c==[99,111,109,112,97,114,101]with
       | true =>
        rw[a1,qI R]at f;have H:Y (∀j,Gr W j->Calls prog 233 #[ZI bl,Zb ⟨a.toArray⟩,I L 0,.func (.func 236) #[ZI bl] #[]] j λe r=>∃b,e=Zd (Za b)/\vs m bl g n base s rs a0 (Zd (Za b)) r/\FrL bl g base W r):=doC x h f (λj k=>rL ⟨a.toArray⟩ To 0 O 236 (by intro args w;rfl) (λd=>[⟨#[115,97,109,101,32]⟩++kt (s.paths d)]) j k λd _ A=>KG x d A p j k);clear f h;go_enter func158,ntmps158
        go_wp2_with(first
         | (go_at_call 228;refine Z0 u.a λw1 o=>?_)
         | (go_at_call 233;refine(H.a _ o).mono ?_;rintro e z ⟨y,rfl,hD,l⟩;have i:=X (YB hD l);clear hD l))
        go_ret;exact i.a
       | false =>
        rw[a1,qF WU]at f;cases P:c==[101,112,100]with
        | true =>
         rw[P,qI R]at f;have a5:Y (∀j,Gr W j->Calls prog 237 #[ZI bl,Zb ⟨a.toArray⟩] j λe r=>∃b,e=Zd (Za b)/\vs m bl g n base s rs a0 (Zd (Za b)) r/\FrL bl g base W r):=doC x h f (λj k=>QU x _ (by rw[v];omega) p j k);clear f h;go_enter func158,ntmps158
         go_wp2_with(first
          | (go_at_call 228;refine Z0 u.a λw1 o=>?_)
          | (go_at_call 237;refine(a5.a _ o).mono ?_;rintro e z ⟨y,rfl,hD,l⟩;have i:=X (YB hD l);clear hD l))
         go_ret;exact i.a
        | false =>
         rw[P,qF WU]at f;have i:Y (∀j,Gr W j->vs m bl g n base s rs a0 (Zd (Za Zl)) j/\FrL bl g base W j):=X λj k=>⟨by rw[f];exact⟨R,h.gr x k⟩,FrL.of k⟩;clear f h;go_enter func158,ntmps158;go_wp2_with(go_at_call 228;refine Z0 u.a λw1 o=>?_);go_ret;exact i.a _ o
theorem Hc(wn:Int)(b d:Nat)(p:FV wn=Ze #[Zc (zG b d),Za Zk])(g n:Nat)(w:I6):ZL 156 #[I L wn,Zc #[svN g n]] w (Zc (ctrA b d wn g n)):=by
 have h:Y (∀W,ZL 35 #[I L wn] W (Ze #[Zc (zG b d),Za Zk])):=X λW=>by rw[<-p];exact sJ wn W
 have u:=X (Rv b d wn g n);obtain⟨q,r⟩:=s6 w (Z #[svN g n] 56) (Z #[.nilFunc,.nilFunc,I L 0,Zq N 0 0] 78);have i:Gr w ((w.alloc (Z #[svN g n] 56)).alloc (Z #[.nilFunc,.nilFunc,I L 0,Zq N 0 0] 78)):=ZN.al;clear p;go_enter func156,ntmps156;go_upto_region 1 with fail;show Code.wp _ _ _ _ ((w.alloc (Z #[svN g n] 56)).alloc (Z #[.nilFunc,.nilFunc,I L 0,Zq N 0 0] 78));generalize ((w.alloc (Z #[svN g n] 56)).alloc (Z #[.nilFunc,.nilFunc,I L 0,Zq N 0 0] 78))=C at q r i |-;go_upto_region 2 with(first
  | (go_at_call 35;refine Z0 (h.a _) λa k=>?_)
  | (refine ZU R 74 _ _ R a.heap.size (zG b d) R R 74 ku Zv yU R (qxi _ _) ?_))
 have l:Gr a ((a.alloc (Z ku 74)).setRow a.heap.size (zG b d)):=((Gr.refl a).alloc ku 74).setRow a.heap.size Zy (zG b d);have f:=Gr.trans k l;have z:=(ZE f q);have x:=(ZE f r);have y:((a.alloc (Z ku 74)).setRow a.heap.size (zG b d)).heap[a.heap.size]?=S (Z (zG b d) 74):=Zt (Z7 a _);show Code.wp _ _ _ _ ((a.alloc (Z ku 74)).setRow a.heap.size (zG b d));have m:=X (Gr.trans i f);generalize (a.alloc (Z ku 74)).setRow a.heap.size (zG b d)=D at z x y m |-;generalize a.heap.size=B at y |-;clear q r i k l f h;go_wp2_with(first
  | (refine ZV R 74 _ R B R 74 (zG b d) (0,0) _ (by with_reducible exact y) underlying74 rfl yU ?_)
  | (refine ZV R 56 _ R w.heap.size R 56 #[svN g n] (0,0) _ (by with_reducible exact z) underlying56 rfl L8 ?_)
  | (go_at_call 24;refine Z0 (u.a _) λE j=>?_;have A:=(ZE j x);have o:=X (Gr.trans m.a j);clear j)
  | (refine ZU R 78 _ _ R (w.heap.size+1) (ctrA b d wn g n) R R 78 #[.nilFunc,.nilFunc,I L 0,Zq N 0 0] (by with_reducible exact A) Jc R (Kh _ _ _ _ _) ?_))
 exact ZS (v:=Zc (ctrA b d wn g n)) (Yp results156 _ _ (w.heap.size+1) 78 _ (0,0) _ R (Zt A) underlying78 rfl Jc) R ⟨R,o.a.setRow _ O _⟩
theorem JL(s p:I4)(w:I6):Calls prog 157 #[Zb s,Zb p] w λe w'=>e=Zd (.func (.func 273) #[] #[ZI (w.heap.size+1),ZI w.heap.size,ZI (w.heap.size+2)])/\w'=((w.alloc (Z #[Zb s] 9)).alloc (Z #[Zb p] 9)).alloc (Z #[I L 0] 3):=by
 have b:Y (Calls prog 227 #[Zb s,Zb p,I L 0] w λe w'=>e=Zd (.func (.func 273) #[] #[ZI (w.heap.size+1),ZI w.heap.size,ZI (w.heap.size+2)])/\w'=((w.alloc (Z #[Zb s] 9)).alloc (Z #[Zb p] 9)).alloc (Z #[I L 0] 3)):=X (by
  go_enter func227,ntmps227;go_wp2_with fail;go_ret;exact⟨R,R⟩)
 go_enter func157,ntmps157;go_wp2_with(go_at_call 227;refine Z0 b.a λw1 a=>?_;rw[a];clear a);exact WB
def Me(k:Nat):I4:=⟨#[101,114,114,111,114,32]⟩++kt k
def ev(k:Nat)(q:LSt × I3)(x:I4):LSt × I3:=if x.data.toList=[]then q else match doS q.1 x.data.toList with
 | some (s',l)=>(s',q.2++l)
 | none=>(q.1,q.2++[Me k])
def runL:Nat->LSt × List ByteArray->List ByteArray->LSt × I3
 | _,q,[]=>q
 | k,q,x :: r=>runL (k+1) (ev (k+1) q x) r
theorem HU:∀(a:I3)(k:Nat)(q:LSt × I3)(x:I4),runL k q (a++[x])=ev (k+a.length+1) (runL k q a) x
 | [],k,q,x=>rfl
 | y :: a,k,q,x=>by
  show runL (k+1) (ev (k+1) q y) (a++[x])=ev (k+(a.length+1)+1) (runL (k+1) (ev (k+1) q y) a) x;rw[HU a,show k+(a.length+1)+1=k+1+a.length+1 from O]
theorem ux.frq{bl:Nat}{s:LSt}{d:I6}(h:ux m bl g n base s rs W)(x:oj bl g n base)(f:Fr Q W d)(a:∀k o,(k=bl\/k=g\/¬ N2 k\/(base<=k/\TSt o))->Q k o):ux m bl g n base s rs d:=by obtain⟨PA,j,b⟩:=h.w;obtain⟨v,l,p⟩:=b.c;exact⟨⟨PA,j,⟨v,f.same _ _ l (a _ _ (Zi R)),uy p λq c fr e r=>f.same _ _ e (a _ _ (Zj (Zj (Zj ⟨r,c,fr,R⟩))))⟩,x.lc.st _ _ b.i (Fr.mono f λk o _ e=>a _ _ (Zj (Zi e))),b.pz⟩,h.ok,h.k.fr f (λk o u=>a _ _ (Zj (Zj (Zi u)))),q7 h.hb f.size⟩
theorem Hb(c:UInt8):∀a:List (I1),a.length<=(Lib.join a [c]).length+1
 | []=>Nat.zero_le _
 | [x]=>by simp
 | x :: y :: r=>by
  have h:=Hb c (y :: r);have e:Lib.join (x :: y :: r) [c]=x++c :: Lib.join (y :: r) [c]:=V9
  rw[e,qZ];simp only[Yq]at h |-;omega
theorem J6{s:I4}{a:I3}(h:Kk s a):a.length<=s.size+1:=by have b:=Hb 10 (a.map (·.data.toList));rw[h.2.2,YD]at b;simpa using b
theorem L0{s:I4}{d:I3}(h:Kk s d):∀x∈d,x.size<=s.size:=by
 have:∀(b:List (I1)),∀y∈b,y.length<=(Lib.join b [10]).length:=λb=>by
  induction b with
  | nil=>intro y a;cases a
  | cons z r ih =>
   intro y a;cases r with
   | nil=>rw[Lib.join_one];rw[qT]at a;rw[a];exact Zy
   | cons u r =>
    have e:Lib.join (z :: u :: r) [10]=z++10 :: Lib.join (u :: r) [10]:=V9
    rw[e,qZ,Yq];obtain rfl|a:=Yj.1 a
    .omega
    .have:=ih y a;omega
 intro x g;have f:=this (d.map (·.data.toList)) x.data.toList (YL.2 ⟨x,g,R⟩);rw[h.2.2]at f;simpa using f
def atF:I4:=⟨#[114,110,98,113,107,98,110,114,47,112,112,112,112,112,112,112,112,47,56,47,56,47,56,47,56,47,80,80,80,80,80,80,80,80,47,82,78,66,81,75,66,78,82,32,119,32,75,81,107,113,32,45,32,48,32,49]⟩
theorem So:(xG atF).map xP=S Zk:=WS
theorem PR{s g:LSt}{l:I1}{r:I3}(h:doS s l=S (g,r)):r.length<=1000001:=by
 have one:∀{α:Type}{o:Option α}{f:α->LSt × I3},(∀a,(f a).2.length<=1000001)->o.map f=S (g,r)->r.length<=1000001:=λ{α o f} hf e=>by obtain⟨a,_,j⟩:=Xp.1 e;have:=hf a;rw[j]at this;exact this
 have b:∀{q:LSt × I3},q.2.length<=1000001->S q=S (g,r)->r.length<=1000001:=λi e=>by rw[qP e]at i;exact i
 unfold doS at h;generalize Lib.cut l [32]=cu at h;split at h
 .unfold Mf at h;split at h
  .exact one (λa=>WU) h
  split at h
  .unfold fd at h;split at h
   .split at h
    .exact b WU h
    .cases h
   .cases h
  split at h
  .unfold shortS at h;split at h
   .exact b WU h
   .cases h
  split at h
  .exact one (λa=>WU) h
  split at h
  .refine one (λd=>?_) h;show(Hq (d-1) s).length<=_;have k:s.mov.length<=1000000:=bu _ _ _ _;unfold Hq HQ;simp only[qZ,YD,qj7,Yq,XN];omega
  split at h
  .exact one (λa=>WU) h
  split at h
  .exact one (λa=>WU) h
  .cases h
 .unfold ox at h;split at h
  .exact b WU h
  split at h
  .exact b WU h
  .cases h
theorem M4(k:Nat)(q:LSt × I3)(x:I4):(ev k q x).2.length<=q.2.length+1000001:=by grind[ev,PR]
theorem HK:∀(a:I3)(k:Nat)(q:LSt × I3),(runL k q a).2.length<=q.2.length+a.length*1000001
 | [],_,_=>by simp[runL]
 | x :: r,k,q=>by
  have b:=HK r (k+1) (ev (k+1) q x);have d:=M4 (k+1) q x;show(runL (k+1) (ev (k+1) q x) r).2.length<=_;rw[Yq];omega
theorem R4(a:List (Nat × I7)):prog.built 233 a=Instr.fill (λi=>(#[(0,72),(72,4),(76,4),(80,1)]:Array (Nat × Nat))[i]?) zeroCells233 a:=WR
theorem N4:zeroCells233.size=81:=WR
theorem Pe:zeroCells233[80]?=S (Zq N 0 0):=WR
theorem SZ:(prog.info? 233).map (·.size)=S 81:=WR
theorem Ja(a:PA.size=72)(g n:Nat)(v:I7):(CQ PA g n v).size=81:=by unfold CQ;simp[a]
theorem L5(h:PA.all (·.oneCell')=Zk)(g n:Nat):(CQ PA g n (Zq N 0 0)).all (·.oneCell')=Zk:=by unfold CQ;rw[Wo,h];simp[Value.oneCell',svL]
theorem MU(d:I0)(e:d.size=72)(g n:Nat):prog.built 233 [(0,Zc d),(1,Zc (ctrA 64 65 1 g n)),(2,Zc (ctrA 60 61 2 g n))]=S (CQ d g n (Zq N 0 0)):=by
 rw[R4];have z:=N4;have z8:=Pe;obtain⟨C1,a⟩:∃C,C=ctrA 64 65 1 g n:=⟨_,R⟩;obtain⟨C2,b⟩:∃C,C=ctrA 60 61 2 g n:=⟨_,R⟩;have c1:C1.size=4:=by rw[a];rfl
 have c2:C2.size=4:=by rw[b];rfl
 rw[<-a,<-b];generalize zeroCells233=o at z z8 |-;have f:=zo 0 d o;have p1:=zo 72 C1 (put 0 d o);have p2:=zo 76 C2 (put 72 C1 (put 0 d o));rw[xv _ _ 0 0 72 _ _ R (by simpa[Value.cells]using e) O,xv _ _ 1 72 4 _ _ R (by simpa[Value.cells]using c1) Vl,xv _ _ 2 76 4 _ _ R (by simpa[Value.cells]using c2) Vl];simp only[Instr.fill,Value.cells,Xh];apply YV;intro i;rw[p2.2 i O];by_cases h:i<72
 .rw[qF O,p1.2 i O,qF O,f.2 i O,qI O,H7 e g n _ h,Nat.sub_zero]
 .obtain⟨k,rfl⟩:∃k,i=72+k:=⟨i-72,O⟩;rw[ny e];by_cases l:k<4
  .rw[qF O,p1.2 _ O,qI O,Nat.add_sub_cancel_left,a];rcases(by omega:k=0\/k=1\/k=2\/k=3)with rfl|rfl|rfl|rfl<;>rfl
  .by_cases m:k<8
   .rw[qI O,b];rcases(by omega:k=4\/k=5\/k=6\/k=7)with rfl|rfl|rfl|rfl<;>rfl
   .rw[qF O,p1.2 _ O,qF O,f.2 _ O,qF O];by_cases j:k=8
    .rw[j,z8];rfl
    .rw[Z6 O,Z6 WX]
theorem SY(k:Nat)(f:k<=2000000)(w:I6)(b:HG w):ZL 160 #[I L k] w (Zb (kt k)):=by
 have a:Lib.itoa (k:Int)=Lib.decDigits k:=by unfold Lib.itoa;rw[qF O];rfl
 refine(Tryz.strconv_Itoa (k:Int) O O w b).mono ?_;rintro e w' ⟨rfl,d,os,rfl⟩;exact⟨by rw[a];rfl,Gr.grow w d os⟩
theorem Rc(w:I6)(a b c d:Obj):((((w.alloc a).alloc b).alloc c).alloc d).heap[w.heap.size]?=S a/\((((w.alloc a).alloc b).alloc c).alloc d).heap[w.heap.size+1]?=S b/\((((w.alloc a).alloc b).alloc c).alloc d).heap[w.heap.size+1+1]?=S c/\((((w.alloc a).alloc b).alloc c).alloc d).heap[w.heap.size+1+2]?=S d:=by have h:=jG (w.alloc a) b c d;rw[Z3]at h;exact⟨(YP _ _ _ WX).trans ((YP _ _ _ WX).trans ((YP _ _ _ WU).trans (ZQ w a))),h.1,h.2.1,h.2.2.1⟩
theorem Rg(V:I6)(D:Nat)(o':Obj)(h:∀o,V.heap[D]?=S o->¬ Q D o):Fr Q V (V.putObj D o'):=⟨R,R,R,by simp[World.putObj],λk o e q=>by
 have a:D≠k:=λb=>h o (b▸e) (b▸q);simp only[World.putObj];rw[XO a];exact e⟩
end Go.Proofs.YtnfakamfmkhlbabGreatDoor.C
