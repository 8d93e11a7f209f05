import Derived.Test.YtnfakamfmkhlbabGreatDoorB25
set_option maxRecDepth 100000
set_option maxHeartbeats 4000000
set_option linter.all false
open Go.Value renaming int->I,bool->Za,string->Zb,agg->Zc,tuple->Ze,slice->Zq
open Go.IntKind renaming i64->L,u8->Zg,u64->Zh
open Go.Obj renaming cells->Z
open Go.Ending renaming returned->Zd
open Or renaming inl->Zi,inr->Zj
open Option renaming some->S,none->N
open Bool renaming true->Zk,false->Zl
open Decidable renaming decide->Zm
open Go.RowKit renaming Hid->Y
open Go renaming World->I6,Value->I7
namespace Go.Proofs.YtnfakamfmkhlbabGreatDoor.C
open Go.ChangeShapes Go.WideShapes Go.ChangeAt Go.RowKit Go.Shelf Go.Proofs.YtnfakamfmkhlbabGreatDoor.P Tryz
attribute [local go_sem] qd qe Oper.semAt_some
variable {z:I2}{wh:Bool}{b h m:Int}{PA A M:I0}{fc:I5}{w W a w' w1 V:I6}{f n i k g base d e l j x B Bp:Nat}{v:I7}{u:UInt8}{Q:Nat->Obj->Prop}{rs:I3}{y:I1}
theorem PY{r:Option (I3)}(b:r=N)(a:Gr w W):pF base r (Zd (Zq N 0 0)) W/\Gr w W:=by subst b;exact⟨R,a⟩
theorem JC{c k:I1}(h:(c==k)=Zk):c=k:=YF.1 h
theorem QW{a:I1}(h:df 0 a=S d):df 1 a=if 0<d then S d else N:=by
 unfold df at h |-;obtain⟨e,f⟩:=X5.1 h;simp at f;rw[e,Option.filter_some];by_cases b:0<d
 .rw[qI b,qI WX]
 .rw[qF b,qF WX]
theorem Nu{a:I1}(h:df 0 a=N):df 1 a=N:=by simp_all[df]
theorem QZ{s:LSt}(b:s.row PA)(c a:I1)(l:a.length<=1048576)(i:(c==[109,111,118,101,115])=Zl)(j:(c==[108,111,111,107])=Zl)(w:I6) :
 Calls prog 74 #[Zc PA,Zb ⟨c.toArray⟩,Zb ⟨a.toArray⟩,Za Zl] w λe w'=>pF w.heap.size N e w'/\Gr w w':=by
 have d:Y (∀W,Calls prog 162 #[Zb ⟨a.toArray⟩,I L 0] W λe w'=>e=Zd (I L (depI 0 a))/\w'=W):=X λW=>pn _ Vs 0 W;generalize depI 0 a=dI at d;have m:=jE.size b;have g:=qx b;have f:Y (Gr w (w.alloc (Z PA 70))):=X ZN;clear b;go_enter func74,ntmps74;cases k:c==[101,112,100]
 .go_wp2_with(go_at_call 162;refine(d.a _).mono ?_;rintro e h ⟨rfl,rfl⟩);go_ret;exact PY R f.a
 .go_wp2_with(go_at_call 162;refine Z1 (d.a _) ?_);go_ret;exact PY R f.a
theorem K9{s:LSt}(b:s.row PA)(c a:I1)(p:a.length<=1048576)(l:(c==[101,112,100])=Zl)(m:(c==[112,101,114,102,116])=Zl)(n:(c==[99,111,109,112,97,114,101])=Zl)(o:(c==[100,105,118,105,100,101])=Zl)(w:I6) :
 Calls prog 74 #[Zc PA,Zb ⟨c.toArray⟩,Zb ⟨a.toArray⟩,Za Zk] w λe w'=>pF w.heap.size N e w'/\Gr w w':=by
 have g:Y (∀W,Calls prog 162 #[Zb ⟨a.toArray⟩,I L 0] W λe w'=>e=Zd (I L (depI 0 a))/\w'=W):=X λW=>pn _ Vs 0 W;have r:=jE.size b;have i:=qx b;have h:Y (Gr w (w.alloc (Z PA 70))):=X ZN;clear b;obtain⟨dI,f⟩:∃d,d=depI 0 a:=⟨_,R⟩;rw[<-f]at g;clear f;by_cases q:dI<0<;>cases j:c==[109,111,118,101,115]<;>cases k:c==[108,111,111,107];all_goals
  go_enter func74,ntmps74;go_wp2_with(go_at_call 162;refine Z1 (g.a _) ?_);go_ret;exact PY R h.a
theorem N0{s:LSt}(h:s.row PA)(a:I1)(y:a.length<=1048576)(w:I6) :
 Calls prog 74 #[Zc PA,Zb ⟨#[101,112,100]⟩,Zb ⟨a.toArray⟩,Za Zk] w λe w'=>pF w.heap.size ((recP posP a).map λq=>[fk (LSt.of q.1) q.2]) e w'/\Gr w w':=by
 have k:Y (∀W,Calls prog 162 #[Zb ⟨a.toArray⟩,I L 0] W λe w'=>e=Zd (I L (depI 0 a))/\w'=W):=X λW=>pn _ Vs 0 W;have f:Y (∀W,Calls prog 161 #[Zb ⟨a.toArray⟩] W λe w'=>R9 (recP posP a) e/\Gr W w'):=X λW=>TT ⟨a.toArray⟩ (by show a.toArray.size<=_;rw[Ya];omega) W;have A:=jE.size h;have v:=qx h;have l:(w.alloc (Z PA 70)).heap[w.heap.size]?=S (Z PA 70):=ZQ w _;have i:Gr w (w.alloc (Z PA 70)):=ZN;clear h;obtain⟨dI,m⟩:∃d,d=depI 0 a:=⟨_,R⟩;rw[<-m]at k;clear m;cases n:recP posP a with
 | some q =>
  obtain⟨p,u⟩:=q;rw[n]at f;have b:Y (∀W,ZL 161 #[Zb ⟨a.toArray⟩] W (Ze #[Zb (fk (LSt.of p) u),Za Zk])):=f;show Calls _ _ _ _ λe w'=>pF w.heap.size (S [fk (LSt.of p) u]) e w'/\Gr w w';generalize fk (LSt.of p) u=ET at b |-;clear f k n;go_enter func74,ntmps74;go_upto_region 1 with fail;generalize w.alloc (Z PA 70)=w1 at l i |-;go_wp2_with(go_at_call 161;refine Z0 (b.a _) λx g=>?_;have o:=Gr.trans i g;have r:=ZR o;have j:=X o;clear o g);go_ret;exact Qb R r j.a
 | none =>
  rw[n]at f;have b:Y (∀W,ZL 161 #[Zb ⟨a.toArray⟩] W (Ze #[Zb ⟨#[]⟩,Za Zl])):=f;show Calls _ _ _ _ λe w'=>pF w.heap.size N e w'/\Gr w w';clear f n;by_cases z:dI<0
  all_goals
   go_enter func74,ntmps74;go_upto_region 1 with fail;generalize w.alloc (Z PA 70)=w1 at l i |-
   go_wp2_with(first
    | (go_at_call 161;refine Z0 (b.a _) λx g=>?_;have j:=X (Gr.trans i g);clear g)
    | (go_at_call 162;refine Z1 (k.a _) ?_))
   go_ret;exact PY R j.a
theorem K8{s:LSt}(b:s.row PA)(z:s.ok)(a:I1)(G:a.length<=1048576)(w:I6) :
 Calls prog 74 #[Zc PA,Zb ⟨#[112,101,114,102,116]⟩,Zb ⟨a.toArray⟩,Za Zk] w λe w'=>pF w.heap.size ((df 0 a).map λd=>[kt (s.paths d)]) e w'/\Gr w w':=by
 have g:Y (∀W,Calls prog 162 #[Zb ⟨a.toArray⟩,I L 0] W λe w'=>e=Zd (I L (depI 0 a))/\w'=W):=X λW=>pn _ Vs 0 W;have D:=jE.size b;have C:=qx b;have j:(w.alloc (Z PA 70)).heap[w.heap.size]?=S (Z PA 70):=ZQ w _;have i:Gr w (w.alloc (Z PA 70)):=ZN;cases l:df 0 a with
 | none =>
  have f:Y (∀W,Calls prog 162 #[Zb ⟨a.toArray⟩,I L 0] W λe w'=>e=Zd (I L (-1))/\w'=W):=X λW=>(g.a W).mono λe w' h=>⟨UN,h.2⟩;show Calls _ _ _ _ λe w'=>pF w.heap.size N e w'/\Gr w w';have y:=X i;clear b z g l j i;go_enter func74,ntmps74;go_wp2_with(go_at_call 162;refine(f.a _).mono ?_;rintro e E ⟨rfl,rfl⟩);go_ret;exact PY R y.a
 | some d =>
  have m:=(JB l).2.2;have f:Y (∀W,Calls prog 162 #[Zb ⟨a.toArray⟩,I L 0] W λe w'=>e=Zd (I L d)/\w'=W):=X λW=>(g.a W).mono λe w' h=>⟨UN,h.2⟩;have q:Y (∀W,ZL 163 #[Zc PA,I L d] W (I Zh (s.paths d:Nat))):=X λW=>na d m z b W;have p:s.paths d<=1000000000000000000:=pb m _ _ _ _;have k:Y (∀r,ZL 75 #[I Zh (s.paths d:Nat)] r (Zb (kt (s.paths d)))):=X λr=>dM _ p r
  have x:(kt (s.paths d)).size<1000:=by
   have F:=dz 18 (s.paths d) O;show(Lib.decDigits (s.paths d)).toArray.size<_;rw[Ya];omega
  have B:¬ (d:Int)<0:=O
  show Calls _ _ _ _ λe w'=>pF w.heap.size (S [kt (s.paths d)]) e w'/\Gr w w';generalize kt (s.paths d)=D8 at k x |-;generalize s.paths d=H at q k p;clear b z g l;go_enter func74,ntmps74;go_upto_region 1 with fail;generalize w.alloc (Z PA 70)=w1 at j i |-
  go_wp2_with(first
   | (refine ZD w.heap.size PA j D ?_)
   | (go_at_call 162;refine Z1 (f.a _) ?_)
   | (go_at_call 163;refine Z0 (q.a _) λK n=>?_)
   | (go_at_call 75;refine Z0 (k.a _) λJ o=>?_;have u:=Gr.trans i (Gr.trans n o);have A:=ZR u;have v:=X u;clear u n o))
  go_ret;exact Qb R A v.a
theorem Jo{s:LSt}(b:s.row PA)(z:s.ok)(a:I1)(H:a.length<=1048576)(w:I6) :
 Calls prog 74 #[Zc PA,Zb ⟨#[99,111,109,112,97,114,101]⟩,Zb ⟨a.toArray⟩,Za Zk] w λe w'=>pF w.heap.size ((df 0 a).map λd=>[⟨#[115,97,109,101,32]⟩++kt (s.paths d)]) e w'/\Gr w w':=by
 have g:Y (∀W,Calls prog 162 #[Zb ⟨a.toArray⟩,I L 0] W λe w'=>e=Zd (I L (depI 0 a))/\w'=W):=X λW=>pn _ Vs 0 W;have E:=jE.size b;have D:=qx b;have j:(w.alloc (Z PA 70)).heap[w.heap.size]?=S (Z PA 70):=ZQ w _;have i:Gr w (w.alloc (Z PA 70)):=ZN;cases l:df 0 a with
 | none =>
  have f:Y (∀W,Calls prog 162 #[Zb ⟨a.toArray⟩,I L 0] W λe w'=>e=Zd (I L (-1))/\w'=W):=X λW=>(g.a W).mono λe w' h=>⟨UN,h.2⟩;show Calls _ _ _ _ λe w'=>pF w.heap.size N e w'/\Gr w w';have y:=X i;clear b z g l j i;go_enter func74,ntmps74;go_wp2_with(go_at_call 162;refine(f.a _).mono ?_;rintro e F ⟨rfl,rfl⟩);go_ret;exact PY R y.a
 | some d =>
  have m:=(JB l).2.2;have f:Y (∀W,Calls prog 162 #[Zb ⟨a.toArray⟩,I L 0] W λe w'=>e=Zd (I L d)/\w'=W):=X λW=>(g.a W).mono λe w' h=>⟨UN,h.2⟩;have q:Y (∀W,ZL 163 #[Zc PA,I L d] W (I Zh (s.paths d:Nat))):=X λW=>na d m z b W;have p:s.paths d<=1000000000000000000:=pb m _ _ _ _;have k:Y (∀r,ZL 75 #[I Zh (s.paths d:Nat)] r (Zb (kt (s.paths d)))):=X λr=>dM _ p r
  have x:(kt (s.paths d)).size<1000:=by
   have G:=dz 18 (s.paths d) O;show(Lib.decDigits (s.paths d)).toArray.size<_;rw[Ya];omega
  have C:¬ (d:Int)<0:=O
  show Calls _ _ _ _ λe w'=>pF w.heap.size (S [⟨#[115,97,109,101,32]⟩++kt (s.paths d)]) e w'/\Gr w w';generalize kt (s.paths d)=D8 at k x |-;generalize s.paths d=M at q k p;have B:∀W,(Op.stringOp .add ⟨#[115,97,109,101,32]⟩ D8).run prog W=.ok (Zb (⟨#[115,97,109,101,32]⟩++D8)) W:=λW=>cj _ D8 (by show 5+D8.size<_;omega) W;generalize (⟨#[115,97,109,101,32]⟩:I4)++D8=D9 at B |-;clear b z g l;go_enter func74,ntmps74;go_upto_region 1 with fail;generalize w.alloc (Z PA 70)=w1 at j i |-
  go_wp2_with(first
   | (refine ZD w.heap.size PA j E ?_)
   | (go_at_call 162;refine Z1 (f.a _) ?_)
   | (go_at_call 163;refine Z0 (q.a _) λJ n=>?_)
   | (go_at_call 75;refine Z0 (k.a _) λK o=>?_;have u:=Gr.trans i (Gr.trans n o);have A:=ZR u;have v:=X u;clear u n o))
  go_ret;exact Qb R A v.a
theorem KI{s:LSt}(b:s.row PA)(y:s.ok)(a:I1)(G:a.length<=1048576)(w:I6) :
 Calls prog 74 #[Zc PA,Zb ⟨#[100,105,118,105,100,101]⟩,Zb ⟨a.toArray⟩,Za Zk] w λe w'=>pF w.heap.size ((df 1 a).map λd=>Hq (d-1) s) e w'/\Gr w w':=by
 have i:Y (∀W,Calls prog 162 #[Zb ⟨a.toArray⟩,I L 0] W λe w'=>e=Zd (I L (depI 0 a))/\w'=W):=X λW=>pn _ Vs 0 W;have F:=jE.size b;have E:=qx b;have j:(w.alloc (Z PA 70)).heap[w.heap.size]?=S (Z PA 70):=ZQ w _;have g:Gr w (w.alloc (Z PA 70)):=ZN;cases k:df 0 a with
 | none =>
  have f:Y (∀W,Calls prog 162 #[Zb ⟨a.toArray⟩,I L 0] W λe w'=>e=Zd (I L (-1))/\w'=W):=X λW=>(i.a W).mono λe w' h=>⟨by rw[h.1];unfold depI;rw[k],h.2⟩;rw[Nu k];show Calls _ _ _ _ λe w'=>pF w.heap.size N e w'/\Gr w w';have n:=X g;clear b y i k j g;go_enter func74,ntmps74;go_wp2_with(go_at_call 162;refine(f.a _).mono ?_;rintro e C ⟨rfl,rfl⟩);go_ret;exact PY R n.a
 | some d =>
  have p:=(JB k).2.2;have f:Y (∀W,Calls prog 162 #[Zb ⟨a.toArray⟩,I L 0] W λe w'=>e=Zd (I L d)/\w'=W):=X λW=>(i.a W).mono λe w' h=>⟨by rw[h.1];unfold depI;rw[k],h.2⟩;have z:¬ (d:Int)<0:=O
  rw[QW k];cases d with
  | zero =>
   show Calls _ _ _ _ λe w'=>pF w.heap.size N e w'/\Gr w w';have n:=X g;clear b y i k j g;go_enter func74,ntmps74;go_wp2_with(go_at_call 162;refine(f.a _).mono ?_;rintro e C ⟨rfl,rfl⟩);go_ret;exact PY R n.a
  | succ d =>
   have m:Y (∀W,Calls prog 164 #[Zc PA,I L (d+1:Nat)] W λe w'=>(∃v,e=Zd v/\w'.ownsRow W.heap.size 9 1 v (Hq d s).length ((Hq d s).map Value.string))/\Gr W w'):=X λW=>J9 b y d p W;rw[qI O];show Calls _ _ _ _ λe w'=>pF w.heap.size (S (Hq d s)) e w'/\Gr w w';have u:Y (Hq d s≠[]):=X (by unfold Hq;simp);generalize Hq d s=DT at m u |-;obtain⟨D,o⟩:∃x:Nat,x=d+1:=⟨_,R⟩;rw[<-o]at m f z;have A:(0:Int)<(D:Int):=O
   clear b y i k o p;go_enter func74,ntmps74;go_upto_region 1 with fail;generalize w.alloc (Z PA 70)=w1 at j g |-
   go_wp2_with(first
    | (refine ZD w.heap.size PA j F ?_)
    | (go_at_call 162;refine Z1 (f.a _) ?_)
    | (go_at_call 164;refine(m.a _).mono ?_;rintro e B ⟨⟨v,rfl,l⟩,r⟩;have q:Y (pF w.heap.size (S DT) (Zd v) B/\Gr w B):=X ⟨⟨v,R,u.a,KV l (ZR g)⟩,Gr.trans g r⟩;clear l r))
   go_ret;exact q.a
theorem R5{s:LSt}(d:s.row PA)(g:s.ok)(c a:I1)(f:a.length<=1048576)(b:Bool)(w:I6) :
 Calls prog 74 #[Zc PA,Zb ⟨c.toArray⟩,Zb ⟨a.toArray⟩,Za b] w λe w'=>pF w.heap.size (PX s c a b) e w'/\Gr w w':=by
 unfold PX;cases b with
 | false =>
  rw[qF WU];unfold ox;cases h:c==[109,111,118,101,115]with
  | true=>rw[qI R,JC h];exact LA d g a w
  | false =>
   rw[qF WU];cases i:c==[108,111,111,107]with
   | true=>rw[qI R,JC i];exact MX d g a w
   | false=>rw[qF WU];exact QZ d c a f h i w
 | true =>
  rw[qI R];cases j:c==[101,112,100]with
  | true=>rw[qI R,JC j];exact N0 d a f w
  | false =>
   rw[qF WU];cases k:c==[112,101,114,102,116]with
   | true=>rw[qI R,JC k];exact K8 d g a f w
   | false =>
    rw[qF WU];cases l:c==[99,111,109,112,97,114,101]with
    | true=>rw[qI R,JC l];exact Jo d g a f w
    | false =>
     rw[qF WU];cases m:c==[100,105,118,105,100,101]with
     | true=>rw[qI R,JC m];exact KI d g a f w
     | false=>rw[qF WU];exact K9 d c a f j k l m w
theorem MY(s:LSt)(c a:I1):ox s c=(PX s c a Zl).map λl=>(s,l):=by grind[PX,ox]
theorem QX(s:LSt)(c a:I1)(g:(c==[102,101,110])=Zl)(h:(c==[109,111,118,101])=Zl)(i:(c==[115,104,111,114,116])=Zl):Mf s c a=(PX s c a Zk).map λl=>(s,l):=by
 unfold Mf PX;rw[qF (by rw[g];simp),qF (by rw[h];simp),qF (by rw[i];simp),qI R];by_cases e:(c==[101,112,100])=Zk
 .rw[JC e,qF WW,qF WW,qF WW,qI WW,qI WW,Option.map_map];rfl
 .rw[qF e,qF e];by_cases b:(c==[112,101,114,102,116])=Zk
  .rw[qI b,qI b,Option.map_map];rfl
  .rw[qF b,qF b];by_cases f:(c==[99,111,109,112,97,114,101])=Zk
   .rw[JC f,qF WW,qI WW,qI WW,Option.map_map];rfl
   .rw[qF f,qF f];by_cases d:(c==[100,105,118,105,100,101])=Zk
    .rw[qI d,qI d,Option.map_map];rfl
    .rw[qF d,qF d];rfl
theorem QR(a:I1):Md ⟨a.toArray⟩=(posP a).map LSt.of:=by grind[Md,posP]
theorem Lw{s b:LSt}{f:I4}{r:I3}(g:s.ok)(h:fd s f=S (b,r)):r=[ex b]/\b.ok:=by grind[fd,ex,LSt.ok_aft,F8,LSt]
theorem KS(s:LSt):ex s=(⟨#[111,107,32]⟩:I4)++xJ s.text:=by unfold ex;exact eu (by simp[xJ])
structure Lx(w:I6)(B gg base:Nat)(xs:I3)(s:LSt)(rs:I3)(v:I7)(W:I6):Prop where
 g:Gr w W
 p:∃PA,s.row PA/\W.heap[B]?=S (Z PA 70)
 l:∀i x,xs[i]?=S x->W.cell? ⟨gg,i,N⟩=S (Zb x)
 o:yt base v rs W
 ok:s.ok
 b0:w.heap.size<=B
 b1:B<base
 b2:gg<base
 b3:gg≠B
 b4:base<=W.heap.size
theorem Lx.gr{b:Nat}{j:I3}{s:LSt}(h:Lx w B b base j s rs v W)(k:Gr W a):Lx w B b base j s rs v a:=by obtain⟨PA,m,d⟩:=h.p;exact⟨Gr.trans h.g k,⟨PA,m,(Zz k (xe d)).trans d⟩,λi x f=>(ZW k (Zx (h.l i x f))).trans (h.l i x f),uy h.o λq c fr e _=>(ZE k e),h.ok,h.b0,h.b1,h.b2,h.b3,q7 h.b4 (ZR k)⟩
theorem Lx.set{b:Nat}{f:I3}{s d:LSt}(h:Lx w B b base f s rs v W){a:I0}(n:d.row a)(m:d.ok):Lx w B b base f d rs v (W.setRow B a):=by obtain⟨PA,y,k⟩:=h.p;have u:=h.b1;have j:=h.b3;exact⟨h.g.setRow B h.b0 a,⟨a,n,Zt k⟩,λi x r=>(X9 (w:=W) (by show(W.setRow B a).heap[b]?=_;rw[Zu j])).trans (h.l i x r),uy h.o λq c fr e z=>by rw[Zu O];exact e,m,h.b0,h.b1,h.b2,h.b3,by rw[Xa];exact h.b4⟩
theorem Lx.app{f:I3}{s:LSt}{rs':I3}{v':I7}{d:I6}(h:Lx w B e base f s rs v W)(b:yt base v' rs' d)(a:W.grownBy d v.ownBlock):Lx w B e base f s rs' v' d:=by have k:Below base W d:=Below.grown (XL base W) a h.b4 (H4 h.o);obtain⟨PA,j,m⟩:=h.p;have q:=h.b0;have r:=h.b1;exact⟨Below.trans h.g (Below.mono k O),⟨PA,j,(k.block _ h.b1).trans m⟩,λi x n=>(ZW k (p:=⟨e,i,N⟩) h.b2).trans (h.l i x n),b,h.ok,h.b0,h.b1,h.b2,h.b3,q7 h.b4 k.size⟩
def Tld(w:I6)(B gg base:Nat)(xs:I3)(s:LSt)(rs:I3)(v:I7)(R:Option (LSt × I3))(tv:I7)(W:I6):Prop:=match R with
 | none=>tv=Zq N 0 0/\Lx w B gg base xs s rs v W
 | some (s',r)=>(∃q cap,tv=Zq (S ⟨q,0,N⟩) r.length cap/\∀j x,r[j]?=S x->W.cell? ⟨q,j,N⟩=S (Zb x))/\Lx w B gg base xs s' rs v W
theorem Tld.one{a:Nat}{e:I3}{s d:LSt}{f:Option (LSt × I3)}{g:I4}(hR:f=S (d,[g]))(h:Lx w B a base e d rs v W):Tld w B a base e s rs v f (Zq (S ⟨W.heap.size,0,N⟩) 1 1) (W.alloc (Z #[Zb g] 9)):=by
 subst hR;refine⟨⟨W.heap.size,1,R,λj x b=>?_⟩,h.gr ZN⟩;cases j with
 | zero =>
  cases b;rw[Zs (ZQ W _)];rfl
 | succ j=>cases b
theorem Tld.no{a:Nat}{b:I3}{s:LSt}{R:Option (LSt × I3)}(hR:R=N)(h:Lx w B a base b s rs v W):Tld w B a base b s rs v R (Zq N 0 0) W:=by subst hR;exact⟨rfl,h⟩
theorem Tld.ask{b:Nat}{i:I3}{s:LSt}{r:Option (I3)}{F:Option (LSt × I3)}{e:Ending}(hR:F=r.map λl=>(s,l))(g:pF k r e W)(h:Lx w B b base i s rs v W):∃tv,e=Zd tv/\Tld w B b base i s rs v F tv W:=by
 subst hR;cases r with
 | none=>exact⟨_,g,R,h⟩
 | some l =>
  obtain⟨tv,p,u,y⟩:=g;obtain⟨E,cap,z,_,d⟩:=l7 y;have o:0<l.length:=List.length_pos_iff.2 u;obtain⟨q,f,_⟩:=d 0 o;refine⟨tv,p,⟨q,cap,by rw[z,f],λj x C=>?_⟩,h⟩;obtain⟨A,m⟩:=Z5.1 C;obtain⟨D,a,n⟩:=d j A;rw[f]at a;injection a with a;injection a with a _ _
  subst a;rw[<-m];exact n
theorem Q5(a:I6)(A M Q:I0):(BE a A M Q).heap[a.heap.size+2]?=S (Z Q 70) :=
 Zt (by rw[Zu O,Zu O];exact(jG a _ _ _).2.2.1)
theorem SE:zeroCells70.size=72:=xF
theorem J7{p:pH}(g:xG atF=S p)(l:xP p=Zk)(w:I6):ZL 53 #[Zb atF] w (Ze #[Zc (jV p),I L 0]):=by
 refine(qvq atF WW w).mono λe w' h=>⟨?_,h.2⟩;obtain⟨q,j,_,d⟩|⟨k,m,f,d⟩:=xy atF
 .rw[g]at j;rw[qP j];exact d e h.1
 .exfalso;obtain i|⟨_,q,a,b⟩:=f
  .rw[g]at i;exact absurd i.2 WU
  .rw[g]at a;rw[<-qP a,l]at b;cases b
theorem PP(a:Option Addr)(l c:Nat)(w:I6):(binOp .eql 43 (Zq a l c) (Zq N 0 0)).run prog w=.ok (Za a.isNone) w:=by simp only[binOp];simp[run_equal_slice_nil w _ _ a l c underlying43]
theorem N1(q j:Nat):(⟨q,0,N⟩:Addr).add j=⟨q,j,N⟩:=by by_cases h:j=0<;>simp[Addr.add,h]
theorem Ln{s b:LSt}{T:I4}{r:I3}(f:s.ok)(h:fd s T=S (b,r))(W:I6):Calls prog 51 #[Zb (xJ s.text),Zb T] W λe w'=>(∃P M Q,b.row Q/\P.size=72/\M.size=3/\P.all (·.oneCell')=Zk/\M.all (·.oneCell')=Zk/\e=Zd (Ze #[Zc P,Zc M,Zc Q,I L 0]))/\Gr W w':=by refine(Lm f T W).mono ?_;rintro e w' ⟨a,d⟩;unfold PlX at a;rw[h]at a;exact⟨a,d⟩
theorem RB{s:LSt}{T:I4}(d:s.ok)(h:fd s T=N)(W:I6):Calls prog 51 #[Zb (xJ s.text),Zb T] W λe w'=>(∃k P M Q,k≠0/\P.size=72/\M.size=3/\Q.size=72/\P.all (·.oneCell')=Zk/\M.all (·.oneCell')=Zk/\Q.all (·.oneCell')=Zk/\e=Zd (Ze #[Zc P,Zc M,Zc Q,I L k]))/\Gr W w':=by refine(Lm d T W).mono ?_;rintro e w' ⟨a,b⟩;unfold PlX at a;rw[h]at a;exact⟨a,b⟩
theorem Nh(t:I4)(ht:t.size<=1048576)(z:I3)(hx:Kk t z)(n:Nat)(hn:n<=4096)(p:pH)(hp:xG atF=S p)(hc:xP p=Zk)(w:I6) :
 Calls prog 40 #[I L n,Zb t] w λe w'=>(∃v base,e=Zd (Ze #[v,I L 0])/\w.heap.size<=base/\yt base v (runL 0 (LSt.of p,[]) z).2 w')/\Gr w w':=by
 have z5:=X (J7 hp hc w);have t0:Y (∀W,Calls prog 71 #[Zb t,I Zg 10] W λe w'=>∃v,e=Zd v/\yt W.heap.size v z w'/\Gr W w'):=X λW=>P7 t O z hx W;have k3:=LSt.ok_of hp hc;have a2:(LSt.of p).row (jV p):=LSt.row_of hp;have hz:=jE.size a2;have ho:=X (qx a2);have x5:=J6 hx;have s7:=X (L0 hx);have s8:=hx.1;have h9:(prog.info? 9).map (λi=>(i.zero,i.size,i.bytes))=S (S (Zb ⟨#[]⟩),1,16):=WR;obtain⟨i0,hi,t9,v1,v2⟩:=We h9;have r6:=X hi;clear hi h9 hx hp hc;have x3:¬ (n:Int)<0:=O;have x4:¬ (4096:Int)<(n:Int):=O;have c6:=X k3;have At:=X a2;generalize LSt.of p=s0 at c6 At |-;generalize jV p=P0 at z5 hz ho At;clear k3 a2;unfold atF at z5;go_enter func40,ntmps40;go_upto_region 4 with(first
  | (go_at_call 53;refine z5.a.mono ?_;rintro e w1 ⟨rfl,m6⟩;have yy:=Z7 w1 (Z zeroCells70 70))
  | (refine ZC w1.heap.size P0 (by with_reducible exact yy) hz ho.a ?_))
 have n0:Gr w1 ((w1.alloc (Z zeroCells70 70)).setRow w1.heap.size P0):=ZN.setRow _ Zy _;have d4:((w1.alloc (Z zeroCells70 70)).setRow w1.heap.size P0).heap[w1.heap.size]?=S (Z P0 70):=Zt yy;generalize (w1.alloc (Z zeroCells70 70)).setRow w1.heap.size P0=w2 at n0 d4 |-;have m2:=ZR m6;generalize w1.heap.size=B at d4 m2 |-;have k0:=xe d4;have r5:=Gr.trans m6 n0;clear m6 n0 yy z5;go_upto_region 5 with(go_at_call 71;refine(t0.a _).mono ?_;rintro e D ⟨v0,rfl,hS,r⟩);have t1:=ZR r;obtain⟨pp,cap,t2,p8,h0⟩:=l7 hS;obtain⟨gg,d0,_⟩:=h0 0 (List.length_pos_iff.2 s8);subst d0;have v3:=H4 hS gg (by rw[t2];rfl);subst t2;have l4:Lx w B gg D.heap.size z s0 [] (Zq N 0 0) D:=⟨Gr.trans r5 r,⟨P0,At.a,(Zz r k0).trans d4⟩,λi x hx=>by
  obtain⟨hi,e⟩:=Z5.1 hx;obtain⟨g',e1,e2⟩:=h0 i hi;injection e1 with e1;injection e1 with e1 _ _
  subst e1;rw[<-e];exact e2,⟨R,Zi ⟨R,R⟩⟩,c6.a,m2,O,by
  obtain⟨g',e1,e2⟩:=h0 0 (List.length_pos_iff.2 s8);injection e1 with e1;injection e1 with e1 _ _
  subst e1;exact Zx e2,O,Zy⟩
 have d5:=X l4;generalize D.heap.size=base at l4 d5 |-;clear l4 h0 hS r r5 d4 v3 k0 m2 t1 p8 t0 c6 At ho;go_wp2_with fail;go_loopg [9,10] z.length (λgk ov iv wr=>∃k:Nat,k+gk=z.length/\iv=I L k/\Lx w B gg base z (runL 0 (s0,[]) (z.take k)).1 (runL 0 (s0,[]) (z.take k)).2 ov wr)
 case atStart=>exact⟨0,O,R,d5.a⟩
 case round=>
  obtain⟨k,k1,rfl,hL⟩:=hrel;clear d5;have h4:=HK (z.take k) 0 (s0,[]);rw[Xt]at h4;simp only[XN,Z2]at h4;have k8:(runL 0 (s0,[]) (z.take k)).2.length<=1900000000000:=q7 h4 (by
   have:min k z.length<=1048577:=O
   exact q7 (XT _ this) WW)
  clear h4;by_cases s1:k<z.length
  .have v9:(k:Int)<(z.length:Int):=O;have x1:0<=(k:Int):=O;obtain⟨x,h5⟩:∃x,z[k]?=S x:=⟨z[k],Yf s1⟩;obtain⟨_,t3⟩:=Z5.1 h5;have t5:=s7.a x (Wm h5);have g5:runL 0 (s0,[]) (z.take (k+1))=ev (k+1) (runL 0 (s0,[]) (z.take k)) x:=by rw[Yd s1,HU,t3,Xt,show 0+min k z.length+1=k+1 from O]
   obtain⟨xl,rfl⟩:∃xl:I1,x=⟨xl.toArray⟩:=⟨x.data.toList,R⟩;have cc:wr.cell? ⟨gg,k,N⟩=S (Zb ⟨xl.toArray⟩):=hL.l k _ h5;have x0:xl.length<=1048576:=by have:xl.toArray.size<=t.size:=t5;rw[Ya]at this;omega
   have a4:Y (∀W,ZL 72 #[Zb ⟨xl.toArray⟩] W (Ze #[Zb ⟨(Lib.cut xl [32]).1.toArray⟩,Zb ⟨(Lib.cut xl [32]).2.1.toArray⟩,Za (Lib.cut xl [32]).2.2])):=X λW=>Nv ⟨xl.toArray⟩ (by show xl.toArray.size<_;rw[Ya];omega) W;have d3:Y (runL 0 (s0,[]) (z.take (k+1))=if xl=[]then runL 0 (s0,[]) (z.take k)else match doS (runL 0 (s0,[]) (z.take k)).1 xl with|some (s',l)=>(s',(runL 0 (s0,[]) (z.take k)).2++l)|none=>((runL 0 (s0,[]) (z.take k)).1,(runL 0 (s0,[]) (z.take k)).2++[Me (k+1)])):=X (by rw[g5];rfl);generalize runL 0 (s0,[]) (z.take k)=q at hL d3 k8;obtain⟨s,rs⟩:=q;simp only at hL d3 k8;have l3:=X hL;clear g5 t5 h5 t3;by_cases b5:xl=[]
   .have T:Y (runL 0 (s0,[]) (z.take (k+1))=(s,rs)):=X (by rw[d3.a,qI b5]);subst b5;clear d3 a4 hL;go_wp2_with fail;go_roundg (gk-1)
    case measure=>omega
    case rel=>exact⟨k+1,O,Vg,by rw[T.a];exact l3.a⟩
   .have t4:(xl==[])=Zl:=by rw[qM];exact b5
    have f5:doS s xl=if(Lib.cut xl [32]).2.2=Zk then Mf s (Lib.cut xl [32]).1 (Lib.cut xl [32]).2.1 else ox s (Lib.cut xl [32]).1:=R;have T:Y (runL 0 (s0,[]) (z.take (k+1))=match doS s xl with|some (s',l)=>(s',rs++l)|none=>(s,rs++[Me (k+1)])):=X (by rw[d3.a,qF b5]);have g9:Y (∀s' l,doS s xl=S (s',l)->l.length<=1000001):=X λs' l h=>PR h;obtain⟨l1,l2⟩:=KF xl [32];generalize doS s xl=w3 at T f5 g9;generalize Lib.cut xl [32]=cu at a4 l1 l2 f5;obtain⟨c,a,b⟩:=cu;simp only at a4 f5 l1 l2;have ha:a.length<=1048576:=O;have m:=X f5;clear d3 hL b5 f5;go_upto_block 2 with(go_at_call 72;refine(a4.a _).mono ?_;rintro e w4 ⟨rfl,r3⟩);have F:=X (l3.a.gr r3);clear r3 l3 a4 cc t4;go_cut [14,15,16,17,18,19,20,21,22]from 35 to 123 (λw8 x9 y0 y5 y6 y7 y8 z0 z1 wx=>Tld w B gg base z s rs u9 w3 w8 wx)
    case first=>
     obtain⟨PA,K,c4⟩:=F.a.p;have hz:=jE.size K;have f:=X F.a.ok;have g2:=X K;have a9:=X (λW=>LO K f.a W);clear K;cases b with
     | false =>
      have hR:Y (w3=(PX s c a Zl).map λl=>(s,l)):=X (by rw[m.a,qF WU];exact MY s c a);have f3:=X (λW=>R5 g2.a f.a c a ha Zl W);clear a9 m
      go_wp2_with(first
       | (refine ZD B PA c4 hz ?_)
       | (go_at_call 74;refine(f3.a _).mono ?_;rintro e V ⟨he,d⟩;obtain⟨tv,rfl,hT⟩:=Tld.ask hR.a he (F.a.gr d);have m1:=X hT;clear hT he d))
      go_meet
      case rel=>exact m1.a
     | true =>
      cases e1:c==[102,101,110]with
      | true =>
       have hR:w3=(Md ⟨a.toArray⟩).map λs'=>(s',[xJ [111,107]]):=by rw[m.a,qI R];unfold Mf;rw[qI e1]
       obtain⟨A,kk,g8,s9,f4,z5⟩:=JT ⟨a.toArray⟩ (by show a.toArray.size<_;rw[Ya];omega);rw[Jr]at f4;rw[QR]at hR;clear a9 m
       go_upto_region 15 with(first
        | (go_at_call 53;refine(z5.a _).mono ?_;rintro e V ⟨rfl,d⟩;have yy:=Z7 V (Z zeroCells70 70))
        | (refine ZC V.heap.size A (by with_reducible exact yy) g8 s9.a ?_))
       have d2:Gr V ((V.alloc (Z zeroCells70 70)).setRow V.heap.size A):=ZN.setRow _ Zy _;have w5:((V.alloc (Z zeroCells70 70)).setRow V.heap.size A).heap[V.heap.size]?=S (Z A 70):=Zt yy;generalize (V.alloc (Z zeroCells70 70)).setRow V.heap.size A=w6 at d2 w5 |-;generalize V.heap.size=b2 at w5 |-;have E:=X ((F.a.gr d).gr d2);clear d d2 yy c4 z5;obtain⟨p',d0,k4,g3,h3⟩|⟨d0,h3⟩:=f4
       .have b7:Y (w3=S (LSt.of p',[⟨#[111,107]⟩])):=X (by rw[hR,d0];rfl);subst h3;obtain⟨PC,a8,z2⟩:=E.a.p;have g7:=jE.size a8;have h7:=X (E.a.set g3 k4);clear hR d0 k4 g3 a8 E
        go_upto_region 17 with(first
         | (refine ZD b2 A w5 g8 ?_)
         | (refine ZU R 70 _ _ R B A R R 70 PC T6 (by rw[g8];exact q9) (by rw[g8,g7]) s9.a ?_))
        generalize w6.setRow B A=w7 at h7 |-;clear w5 z2;go_wp2_with fail;go_meet
        case rel=>exact Tld.one b7.a h7.a
       .have f2:Y (w3=N):=X (by rw[hR,d0];rfl);have k2:(kk==0)=Zl:=by rw[qM];exact h3
        clear hR d0 h3 w5;go_wp2_with fail;go_meet
        case rel=>exact Tld.no f2.a E.a
      | false =>
       cases e2:c==[109,111,118,101]with
       | true =>
        have e3:(c==[115,104,111,114,116])=Zl:=by rw[JC e2];rfl
        have hR:w3=fd s ⟨a.toArray⟩:=by rw[m.a,qI R];unfold Mf;rw[qF (by rw[e1];simp),qI e2]
        clear m;cases hm:fd s ⟨a.toArray⟩with
        | none =>
         have f2:Y (w3=N):=X (hR.trans hm);have w0:=X (λW=>RB f.a hm W);clear hR hm
         go_upto_region 25 with(first
          | (refine ZD B PA c4 hz ?_)
          | (go_at_call 73;refine(a9.a _).mono ?_;rintro e V ⟨rfl,d⟩;have H:=X (F.a.gr d);clear d)
          | (go_at_call 51;refine(w0.a _).mono ?_;rintro e D ⟨⟨kk,P,M,Q,f7,a7,a5,C,J,z4,k5,rfl⟩,r⟩;obtain⟨y1,y2,y3,y4⟩:=jG D (Z zeroCells70 70) (Z #[I L 0,I L 0,I Zg 0] 125) (Z zeroCells70 70);have d1:=X k5;have g1:=X J;have f9:=X z4;clear k5 J z4)
          | (refine ZC (D.heap.size+2) Q VW C d1.a ?_)
          | (refine ZU R 125 _ _ R (D.heap.size+1) M R R 125 #[I L 0,I L 0,I Zg 0] Uu (by rw[a5];exact vi) (by rw[a5];rfl) f9.a ?_)
          | (refine ZC D.heap.size P UI a7 g1.a ?_))
         show Code.wp _ _ _ _ (BE D P M Q);have z9:=X ((H.a.gr r).gr (ru D P M Q));generalize BE D P M Q=wp at z9 |-;have k2:(kk==0)=Zl:=by rw[qM];exact f7
         clear y1 y2 y3 y4 r;go_wp2_with fail;go_meet
         case rel=>exact Tld.no f2.a z9.a
        | some qq =>
         obtain⟨s2,r2⟩:=qq;have n2:=X (λW=>Ln f.a hm W);obtain⟨n3,y⟩:=Lw f.a hm;have a6:=X y;have b7:Y (w3=S (s2,[⟨#[111,107,32]⟩++xJ s2.text])):=X (by rw[hR,hm,n3,KS]);have n4:=LSt.short y;have a1:∀W,(Op.stringOp .add ⟨#[111,107,32]⟩ (xJ s2.text)).run prog W=.ok (Zb (⟨#[111,107,32]⟩++xJ s2.text)) W:=λW=>uu _ _ (by show 3+_<_;omega) W;clear n3 y hm hR n4
         go_upto_region 25 with(first
          | (refine ZD B PA c4 hz ?_)
          | (go_at_call 73;refine(a9.a _).mono ?_;rintro e V ⟨rfl,d⟩;have H:=X (F.a.gr d);clear d)
          | (go_at_call 51;refine(n2.a _).mono ?_;rintro e D ⟨⟨P,M,Q,hQ,a7,a5,J,z4,rfl⟩,r⟩;obtain⟨y1,y2,y3,y4⟩:=jG D (Z zeroCells70 70) (Z #[I L 0,I L 0,I Zg 0] 125) (Z zeroCells70 70);have C:=jE.size hQ;have d1:=X (qx hQ);have f1:=X hQ;have g1:=X J;have f9:=X z4;clear hQ J z4)
          | (refine ZC (D.heap.size+2) Q VW C d1.a ?_)
          | (refine ZU R 125 _ _ R (D.heap.size+1) M R R 125 #[I L 0,I L 0,I Zg 0] Uu (by rw[a5];exact vi) (by rw[a5];rfl) f9.a ?_)
          | (refine ZC D.heap.size P UI a7 g1.a ?_))
         show Code.wp _ _ _ _ (BE D P M Q);have z3:=(H.a.gr r).gr (ru D P M Q);have a0:=Q5 D P M Q;have g0:D.heap.size+2≠B:=Tq
         generalize BE D P M Q=wp at z3 a0 |-;generalize D.heap.size+2=b3 at a0 g0 |-;obtain⟨PC,a8,z2⟩:=z3.p;have g7:=jE.size a8;have z9:=X z3;clear y1 y2 y3 y4 z3 a8 r
         go_upto_region 27 with(first
          | (refine ZD b3 Q a0 C ?_)
          | (refine ZU R 70 _ _ R B Q R R 70 PC T6 (by rw[C];exact q9) (by rw[C,g7]) d1.a ?_))
         have E:=X (z9.a.set f1.a a6.a);have w5:=setRow_heap _ _ _ Q _ _ z2;generalize wp.setRow B Q=w6 at E w5 |-;have g6:=X (λW=>LO f1.a a6.a W);clear a0 z2;generalize xJ s2.text=T9 at g6 a1 b7
         go_wp2_with(first
          | (refine ZD B Q w5 C ?_)
          | (go_at_call 73;refine(g6.a _).mono ?_;rintro e w7 ⟨rfl,f6⟩;have b6:=X (E.a.gr f6);clear f6))
         go_meet
         case rel=>exact Tld.one b7.a b6.a
       | false =>
        cases e3:c==[115,104,111,114,116]with
        | true =>
         have hR:w3=shortS s ⟨a.toArray⟩:=by rw[m.a,qI R];unfold Mf;rw[qF (by rw[e1];simp),qF (by rw[e2];simp),qI e3]
         have n1:=X (λW=>SR f.a ⟨a.toArray⟩ W);clear m
         go_upto_region 23 with(first
          | (refine ZD B PA c4 hz ?_)
          | (go_at_call 73;refine(a9.a _).mono ?_;rintro e V ⟨rfl,d⟩;have n5:=X (F.a.gr d);clear d)
          | (go_at_call 29;refine(n1.a _).mono ?_;rintro e w6 ⟨s5,d2⟩;have l5:=X (n5.a.gr d2);have f8:=X s5;clear d2 s5;rcases f8.a with⟨c5,rfl⟩|⟨mx,c5,rfl⟩))
         .have f2:Y (w3=N):=X (hR.trans c5);clear hR c5 f8 n1;go_wp2_with fail;go_meet
          case rel=>exact Tld.no f2.a l5.a
         .have hm:=QH f.a (Hv c5).1;have m0:=M9 f.a c5;obtain⟨PA,K,p7⟩:=l5.a.p;have hz:=jE.size K;have a9:=X (λW=>LO K f.a W);have y:=LSt.ok_aft f.a (Hv c5).1;generalize s.aft mx=s2 at hm m0 y;have n2:=X (λW=>Ln f.a hm W);have a6:=X y;have b7:Y (w3=S (s2,[⟨#[111,107,32]⟩++xJ s2.text])):=X (by rw[hR,m0,KS]);have n4:=LSt.short y;have a1:∀W,(Op.stringOp .add ⟨#[111,107,32]⟩ (xJ s2.text)).run prog W=.ok (Zb (⟨#[111,107,32]⟩++xJ s2.text)) W:=λW=>uu _ _ (by show 3+_<_;omega) W;clear hR m0 y hm n4 c5 f8 n1 K c4
          go_upto_region 25 with(first
           | (refine ZD B PA p7 hz ?_)
           | (go_at_call 73;refine(a9.a _).mono ?_;rintro e V ⟨rfl,d⟩;have H:=X (l5.a.gr d);clear d)
           | (go_at_call 51;refine(n2.a _).mono ?_;rintro e D ⟨⟨P,M,Q,hQ,a7,a5,J,z4,rfl⟩,r⟩;obtain⟨y1,y2,y3,y4⟩:=jG D (Z zeroCells70 70) (Z #[I L 0,I L 0,I Zg 0] 125) (Z zeroCells70 70);have C:=jE.size hQ;have d1:=X (qx hQ);have f1:=X hQ;have g1:=X J;have f9:=X z4;clear hQ J z4)
           | (refine ZC (D.heap.size+2) Q VW C d1.a ?_)
           | (refine ZU R 125 _ _ R (D.heap.size+1) M R R 125 #[I L 0,I L 0,I Zg 0] Uu (by rw[a5];exact vi) (by rw[a5];rfl) f9.a ?_)
           | (refine ZC D.heap.size P UI a7 g1.a ?_))
          show Code.wp _ _ _ _ (BE D P M Q);have z3:=(H.a.gr r).gr (ru D P M Q);have a0:=Q5 D P M Q;have g0:D.heap.size+2≠B:=Tq
          generalize BE D P M Q=wp at z3 a0 |-;generalize D.heap.size+2=b3 at a0 g0 |-;obtain⟨PC,a8,z2⟩:=z3.p;have g7:=jE.size a8;have z9:=X z3;clear y1 y2 y3 y4 z3 a8 r
          go_upto_region 27 with(first
           | (refine ZD b3 Q a0 C ?_)
           | (refine ZU R 70 _ _ R B Q R R 70 PC T6 (by rw[C];exact q9) (by rw[C,g7]) d1.a ?_))
          have E:=X (z9.a.set f1.a a6.a);have w5:=setRow_heap _ _ _ Q _ _ z2;generalize wp.setRow B Q=w6 at E w5 |-;have g6:=X (λW=>LO f1.a a6.a W);clear a0 z2;generalize xJ s2.text=T9 at g6 a1 b7
          go_wp2_with(first
           | (refine ZD B Q w5 C ?_)
           | (go_at_call 73;refine(g6.a _).mono ?_;rintro e w7 ⟨rfl,f6⟩;have b6:=X (E.a.gr f6);clear f6))
          go_meet
          case rel=>exact Tld.one b7.a b6.a
        | false =>
         have hR:Y (w3=(PX s c a Zk).map λl=>(s,l)):=X (by rw[m.a,qI R];exact QX s c a e1 e2 e3);have f3:=X (λW=>R5 g2.a f.a c a ha Zk W);clear a9 m
         go_wp2_with(first
          | (refine ZD B PA c4 hz ?_)
          | (go_at_call 74;refine(f3.a _).mono ?_;rintro e V ⟨he,d⟩;obtain⟨tv,rfl,hT⟩:=Tld.ask hR.a he (F.a.gr d);have m1:=X hT;clear hT he d))
         go_meet
         case rel=>exact m1.a
    case rest=>
     clear F m ha l1 l2;cases w3 with
     | none =>
      obtain⟨rfl,f0⟩:=hcut;have a3:=X f0;have g4:Y (runL 0 (s0,[]) (z.take (k+1))=(s,rs++[Me (k+1)])):=T;obtain⟨k9,f7⟩:∃k9:Nat,k9=k+1:=⟨_,R⟩;have x2:IntKind.i64.wrap ((k:Int)+1)=(k9:Int):=Vc
      have w9:IntKind.u64.wrap (k9:Int)=k9:=Vh
      have r1:Y (∀W',ZL 75 #[I Zh k9] W' (Zb (kt k9))):=X λW'=>dM k9 O W'
      have v5:(kt k9).size<1000:=by
       have h2:=dz 18 k9 O;show(Lib.decDigits k9).toArray.size<_;rw[Ya];omega
      have l0:Y (Me (k+1)=⟨#[101,114,114,111,114,32]⟩++kt k9):=X (by rw[<-f7];rfl);have r7:=X f7;clear f7;generalize kt k9=D8 at r1 v5 l0;have a1:∀W,(Op.stringOp .add ⟨#[101,114,114,111,114,32]⟩ D8).run prog W=.ok (Zb (⟨#[101,114,114,111,114,32]⟩++D8)) W:=λW=>cj _ D8 (by show 6+D8.size<_;omega) W;generalize (⟨#[101,114,114,111,114,32]⟩:I4)++D8=ET at a1 l0;have x8:rs.length=(rs.map Value.string).length:=WU
      have eN:∀W,(binOp .eql 43 (Zq N 0 0) (Zq N 0 0)).run prog W=.ok (Za Zk) W:=PP N 0 0;clear f0 T g9
      go_wp2_with(first
       | (go_at_call 75;refine(r1.a _).mono ?_;rintro e V ⟨rfl,d⟩;have H:=X ((a3.a.gr d).gr ((Gr.refl V).alloc #[Zb ET] 9));have v4:=Wp V (Zb ET) 9;clear d)
       | (at_builtin;refine Xv _ R (.tmp 121) (.tmp 122) 43 rfl base 9 i0 (Zb ⟨#[]⟩) 1 16 underlying43 r6.a t9 v1 v2 R WW u9 rs.length (rs.map Value.string) R H.a.o ⟨V.heap.size,0,N⟩ 1 1 [Zb ET] R R v4 Vi Vk O H.a.b4 ?_;intro v' w7 As G _;have b6:=X (H.a.app (rs':=rs++[ET]) (v':=v') (by unfold yt;rw[qZ,Ys];exact As) G);clear As G))
      go_roundg (gk-1)
      case measure=>omega
      case rel=>exact⟨k+1,O,by rw[r7.a],by rw[g4.a,l0.a];exact b6.a⟩
     | some qq =>
      obtain⟨s2,r2⟩:=qq;obtain⟨⟨q2,h6,rfl,h8⟩,f0⟩:=hcut;have a3:=X f0;have g4:Y (runL 0 (s0,[]) (z.take (k+1))=(s2,rs++r2)):=T;have n3:=g9.a s2 r2 R
      have r0:Y (∀j u',(r2.map Value.string)[j]?=S u'->wc.cell? ((⟨q2,0,N⟩:Addr).add j)=S u'):=X λj u' h=>by
       rw[YN]at h;obtain⟨x,h1,rfl⟩:=Xp.1 h;rw[N1];exact h8 j x h1
      have eN:∀W,(binOp .eql 43 (Zq (S ⟨q2,0,N⟩) r2.length h6) (Zq N 0 0)).run prog W=.ok (Za Zl) W:=PP _ _ _;clear f0 T g9 h8;go_wp2_with(at_builtin;refine Xv _ R (.tmp 121) (.tmp 122) 43 rfl base 9 i0 (Zb ⟨#[]⟩) 1 16 underlying43 r6.a t9 v1 v2 R WW u9 rs.length (rs.map Value.string) R a3.a.o ⟨q2,0,N⟩ r2.length h6 (r2.map Value.string) R WU r0.a (by intro u hu;obtain⟨x,_,rfl⟩:=YL.1 hu;rfl) Vk O a3.a.b4 ?_;intro v' w7 As G _;have b6:=X (a3.a.app (rs':=rs++r2) (v':=v') (by unfold yt;rw[qZ,Ys];exact As) G);clear As G);go_roundg (gk-1)
      case measure=>omega
      case rel=>exact⟨k+1,O,Vg,by rw[g4.a];exact b6.a⟩
  .have ek:k=z.length:=O;have v9:¬ (k:Int)<(z.length:Int):=O;rw[ek,XA]at hL;have p0:=X (Nat.le_of_lt (Nat.lt_of_le_of_lt hL.b0 hL.b1));have n7:=X hL.o;have r4:=X hL.g;clear hL;go_wp2_with fail;go_ret2;first
    | exact⟨⟨_,base,R,p0.a,n7.a⟩,r4.a⟩
    | exact⟨⟨_,R,base,p0.a,n7.a⟩,r4.a⟩
theorem QL(t:I4)(n:Int)(d:n<0\/4096<n)(w:I6):Calls prog 40 #[I L n,Zb t] w λe w'=>e=Zd (Ze #[Zq N 0 0,I L 7])/\w'=w:=by
 by_cases a:n<0
 .go_enter func40,ntmps40;go_wp2_with fail;exact MW
 .have b:4096<n:=O;go_enter func40,ntmps40;go_wp2_with fail;exact MW
theorem Hx(T:I3)(i:T.length<=1900000000000)(p1 p2:Option Addr)(c1 c2:Nat)(w:I6)(f:El p1 T w)(h:El p2 T w):ZL 27 #[Zq p1 T.length c1,Zq p2 T.length c2] w (Za Zk):=by exact WA
theorem PH{T:I3}(h:W.ownsRow base 9 1 v T.length (T.map Value.string)):∃p cap,v=Zq p T.length cap/\El p T W:=by obtain⟨p,cap,a,_,b⟩:=l7 (show yt base v T W from h);exact⟨p,cap,a,b⟩
theorem RN(h:LbK m w):∀q,¬ N2 q->q<w.heap.size:=by
 intro q d;apply Xd;intro p;apply d;have f:=h.ct.tab.2;have g:=h.ct.homes.2;have i:=h.ct.ml;have j:=h.tb.cas.2;have k:=h.tb.st.2;have l:=Zx h.ow.1;have n:8<w.heap.size:=by
  have a:=h.pw;have b : prog.globalNamed "internal/strconv.uint64pow10" = S 8 := WR;unfold HG Lib.TabIs World.var? at a;rw[b]at a;simp only[Option.bind_some]at a;cases e:w.heap[8]? with
  | none=>rw[e]at a;cases a
  | some o=>exact(qB.1 e).1
 exact⟨⟨λe=>O,λe=>O,λe=>O,λe=>O⟩,λe=>O,λe=>O,λe=>by have:(⟨5,0,N⟩:Addr).block=5:=R;omega⟩
def Sy(T:I3)(k:Int)(e:Ending)(w':I6):Prop:=∃p cap,e=Zd (Ze #[Zq p T.length cap,I L k])/\El p T w'
theorem MF:(xG atF).map xP=S Zk:=WS
theorem Ns:∃p,xG atF=S p/\xP p=Zk:=Xp.1 MF
theorem Nf(t:I4)(r:t.size<=1048576)(n:Int)(m:Int)(w:I6)(k:LbK m w):∃(T:I3)(u:Int),T.length<=1900000000000/\Y (Calls prog 39 #[I L n,Zb t] w λe w'=>Sy T u e w'/\Gr w w')/\Y (∀W,Calls prog 40 #[I L n,Zb t] W λe w'=>Sy T u e w'/\Gr W w'):=by
 by_cases o:n<0\/4096<n
 .refine⟨[],7,WU,X ((Kr t n o w).mono λe w' h=>?_),X λW=>(QL t n o W).mono λe w' h=>?_⟩
  .rw[h.1,h.2];exact⟨⟨N,0,R,λi f=>absurd f WU⟩,ZO⟩
  .rw[h.1,h.2];exact⟨⟨N,0,R,λi f=>absurd f WU⟩,ZO⟩
 .obtain⟨a,j⟩:=RL t;obtain⟨p,q,l⟩:=Ns;obtain⟨x,rfl⟩:=Yt (show 0<=n from O);have y:=J6 j;refine⟨(runL 0 (LSt.of p,[]) a).2,0,?_,X ((Jz t r a j x O p q l w k (RN k)).mono λe w' h=>?_),X λW=>(Nh t r a j x O p q l W).mono λe w' h=>?_⟩
  .have:=HK a 0 (LSt.of p,[]);simp only[XN,Z2]at this;exact q7 this (q7 (XT _ (show a.length<=1048577 from O)) WW)
  .exact Ii
  .exact Ii
theorem L1(n:Int)(t:I4)(C:t.size<=1048576)(m:Int)(w:I6)(k:LbK m w):Calls prog 18 #[I L n,Zb t] w λe w'=>(∃v,e=Zd (Ze #[v,Za Zk]))/\Gr w w':=by obtain⟨T,F,r,z,A⟩:=Nf t C n m w k;have B:Y (∀(p1 p2:Option Addr)(c1 c2:Nat)(W:I6),El p1 T W->El p2 T W->ZL 27 #[Zq p1 T.length c1,Zq p2 T.length c2] W (Za Zk)):=X (λp1 p2 c1 c2 W a b=>Hx T r p1 p2 c1 c2 W a b);clear k C;go_enter func18,ntmps18;go_upto_region 2 with(go_at_call 39;refine z.a.mono ?_;rintro e w1 ⟨⟨p1,o,rfl,h⟩,p⟩);have f:Y (El p1 T w1):=X h;clear h z;go_upto_region 3 with(go_at_call 40;refine(A.a _).mono ?_;rintro e E ⟨⟨p2,y,rfl,i⟩,l⟩);have d:=X (f.a.gr l);have g:Y (El p2 T E):=X i;have j:=Gr.trans p l;clear i f A p l;go_upto_region 4 with(go_at_call 27;refine Z0 (B.a _ _ _ _ _ d.a g.a) λG q=>?_);have D:=X (Gr.trans j q);clear j q d g B;go_wp2_with(go_at_call 30;refine Z0 (BQ _ _) λw' u=>?_;have x:=u.symm;subst x;clear u);go_ret2;exact⟨⟨Zq p1 T.length o,R⟩,D.a⟩
theorem Ng(n:Int)(t:I4)(d:t.size<=1048576)(m:Int)(w:I6)(k:LbK m w):ZL 6 #[I L n,Zb t] w (Za Zk):=by
 have g:=X (ou m w k.ct k.tb);have h:=X (λW (f:Gr w W)=>L1 n t d m W (k.gr f));clear k d;go_enter func6,ntmps6;go_wp2_with(first
  | (go_at_call 12;refine Z0 g.a λw1 a=>?_)
  | (go_at_call 18;refine(h.a _ a).mono ?_;rintro e i ⟨⟨v,rfl⟩,b⟩))
 go_ret;exact⟨R,Gr.trans a b⟩
end Go.Proofs.YtnfakamfmkhlbabGreatDoor.C
