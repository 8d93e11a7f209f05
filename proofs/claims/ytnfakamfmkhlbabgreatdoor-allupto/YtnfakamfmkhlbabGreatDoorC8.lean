import Derived.Deep.DeepAppendRoom
import Derived.ArgAppend
import Derived.Test.YtnfakamfmkhlbabGreatDoorC7
set_option maxRecDepth 100000
set_option maxHeartbeats 4000000
set_option linter.all false
open Go.Value renaming int->I,bool->Za,string->Zb,agg->Zc,tuple->Ze,slice->Zq
open Go.IntKind renaming i64->L,u8->Zg,u64->Zh,wrap->a_
open Go.Obj renaming cells->Z
open Go.Ending renaming returned->Zd
open Or renaming inl->Zi,inr->Zj
open Option renaming some->S,none->N
open Bool renaming true->Zk,false->Zl
open Go.RowKit renaming Hid->Y
open Go renaming World->I6,Value->I7,Calls->i_,undef->m_
open Go.Proofs.Tryz renaming zeroCells70->b_,prog->c_
open Go.Lib renaming decDigits->d_,cut->g_
open UInt8 renaming ofNat->j_
open Go.Op renaming stringOp->k_
open Go.Code renaming wp->n_
namespace Go.Proofs.YtnfakamfmkhlbabGreatDoor.C
open Go.ChangeShapes Go.WideShapes Go.ChangeAt Go.RowKit Go.Shelf Tryz
attribute [local go_sem] qd qe Oper.semAt_some
variable {z:I2}{wh:Bool}{b h m:Int}{PA A M:I0}{fc:I5}{w W a w' w1 V:I6}{f n i k g base d e l j x B Bp:Nat}{v:I7}{u:UInt8}{Q:Nat->Obj->Prop}{rs:I3}{y:I1}
def PY{r:Option (I3)}(b:r=N)(a:Gr w W):pF base r (Zd (Zq N 0 0)) W/\Gr w W:=by subst b;exact⟨R,a⟩
def JC{c k:I1}(h:(c==k)=Zk):c=k:=YF.1 h
def QW{a:I1}(h:df 0 a=d):df 1 a=if 0<d then S d else N:=by
 unfold df at h|-;obtain⟨e,f⟩:=X5.1 h;simp at f;rw[e,Option.filter_some];by_cases b:0<d
 .rw[qI b,qI WX]
 rw[qF b,qF WX]
def Nu{a:I1}(h:df 0 a=N):df 1 a=N:=by simp_all[df]
def QZ{s:y_}(b:s.row PA)(c a:I1)(l:a.length<=1048576)(i:(c==[109,111,118,101,115])=Zl)(j:(c==[108,111,111,107])=Zl)(w:I6):i_ c_ 74 #[PA,Zb ⟨c.toArray⟩,Zb ⟨a.toArray⟩,Zl] w λe w'=>pF w N e w'/\Gr w w':=by
 have d:Y (∀W,i_ c_ 162 #[Zb ⟨a.toArray⟩,I L 0] W λe w'=>e=(W_ 0 a)/\w'=W):=λW=>pn _ Vs 0 W;generalize W_ 0 a=dI at d;have m:=jE.size b;have g:=qx b;have f:Y (Gr w (w.alloc (Z PA 70))):=X ZN;go_in;cases k:c==[101,112,100]
 .go_wp2_with(go_at_call 162;refine(d _).mono ?_;rintro e h ⟨rfl,rfl⟩);go_ret;exact PY R f
 go_wp2_with(go_at_call 162;apply Z1 (d _));go_ret;exact PY R f
def K9{s:y_}(b:s.row PA)(c a:I1)(p:a.length<=1048576)(l:(c==[101,112,100])=Zl)(m:(c==[112,101,114,102,116])=Zl)(n:(c==[99,111,109,112,97,114,101])=Zl)(o:(c==[100,105,118,105,100,101])=Zl)(w:I6):i_ c_ 74 #[PA,Zb ⟨c.toArray⟩,Zb ⟨a.toArray⟩,Zk] w λe w'=>pF w N e w'/\Gr w w':=by
 have g:Y (∀W,i_ c_ 162 #[Zb ⟨a.toArray⟩,I L 0] W λe w'=>e=(W_ 0 a)/\w'=W):=λW=>pn _ Vs 0 W;have r:=jE.size b;have i:=qx b;have h:Y (Gr w (w.alloc (Z PA 70))):=X ZN;obtain⟨dI,f⟩:∃d,d=W_ 0 a:=⟨_,R⟩;rw[<-f]at g;by_cases q:dI<0<;>cases j:c==[109,111,118,101,115]<;>cases k:c==[108,111,111,107];all_goals
  go_in;go_wp2_with(go_at_call 162;apply Z1 (g _));go_ret;exact PY R h
def N0{s:y_}(h:s.row PA)(a:I1)(y:a.length<=1048576)(w:I6):i_ c_ 74 #[PA,Zb ⟨#[101,112,100]⟩,Zb ⟨a.toArray⟩,Zk] w λe w'=>pF w ((U_ E_ a).map λq=>[fk (y_.of q.1) q.2]) e w'/\Gr w w':=by
 have k:Y (∀W,i_ c_ 162 #[Zb ⟨a.toArray⟩,I L 0] W λe w'=>e=(W_ 0 a)/\w'=W):=λW=>pn _ Vs 0 W;have f:Y (∀W,i_ c_ 161 #[Zb ⟨a.toArray⟩] W λe w'=>R9 (U_ E_ a) e/\Gr W w'):=X λW=>TT ⟨a.toArray⟩ (by show a.toArray.size<=_;rw[Ya];omega) W;have A:=jE.size h;have v:=qx h;have l:(w.alloc (Z PA 70)).heap[w.heap.size]?=Z PA 70:=ZQ w _;have i:Gr w (w.alloc (Z PA 70)):=ZN;obtain⟨dI,m⟩:∃d,d=W_ 0 a:=⟨_,R⟩;rw[<-m]at k;cases n:U_ E_ a with
 | some q=>
  obtain⟨p,u⟩:=q;rw[n]at f;have b:Y (∀W,ZL 161 #[Zb ⟨a.toArray⟩] W (Ze #[fk (y_.of p) u,Zk])):=f;show i_ _ _ _ _ λe w'=>pF w (S [fk (y_.of p) u]) e w'/\Gr w w';generalize fk (y_.of p) u=ET at b|-;go_in;go_upto_region 1 with fail;generalize w.alloc (Z PA 70)=w1 at l i|-;go_wp2_with(go_at_call 161;refine Z0 (b.a _) λx g=>?_;have o:=o_ i g;have r:=ZR o;have j:=X o);go_ret;exact Qb R r j.a
 | none=>
  rw[n]at f;have b:=f;show i_ _ _ _ _ λe w'=>pF w N e w'/\Gr w w';by_cases z:dI<0
  all_goals
   go_in;go_upto_region 1 with fail;generalize w.alloc _=w1 at l i|-
   go_wp2_with(first|(go_at_call 161;refine Z0 (b _) λx g=>?_;have j:=X (o_ i g))|(go_at_call 162;apply Z1 (k _)));go_ret;exact PY R j
def K8{s:y_}(b:s.row PA)(z:s.ok)(a:I1)(G:a.length<=1048576)(w:I6):i_ c_ 74 #[PA,Zb ⟨#[112,101,114,102,116]⟩,Zb ⟨a.toArray⟩,Zk] w λe w'=>pF w ((df 0 a).map λd=>[kt (s.paths d)]) e w'/\Gr w w':=by
 have g:Y (∀W,i_ c_ 162 #[Zb ⟨a.toArray⟩,I L 0] W λe w'=>e=(W_ 0 a)/\w'=W):=λW=>pn _ Vs 0 W;have D:=jE.size b;have C:=qx b;have j:(w.alloc (Z PA 70)).heap[w.heap.size]?=Z PA 70:=ZQ w _;have i:Gr w (w.alloc (Z PA 70)):=ZN;cases l:df 0 a with
 | none=>
  have f:Y (∀W,i_ c_ 162 #[Zb ⟨a.toArray⟩,I L 0] W λe w'=>e=Zd (I L (-1))/\w'=W):=λW=>(g W).mono λe w' h=>⟨UN,h.2⟩;show i_ _ _ _ _ λe w'=>pF w N e w'/\Gr w w';have y:=X i;go_in;go_wp2_with(go_at_call 162;refine(f _).mono ?_;rintro e E ⟨rfl,rfl⟩);go_ret;exact PY R y
 | some d=>
  have m:=(JB l).2.2;have f:Y (∀W,i_ c_ 162 #[Zb ⟨a.toArray⟩,I L 0] W λe w'=>e=Zd d/\w'=W):=λW=>(g W).mono λe w' h=>⟨UN,h.2⟩;have q:Y (∀W,ZL 163 #[PA,d] W (I Zh (s.paths d:Nat))):=λW=>na d m z b W;have p:s.paths d<=1000000000000000000:=pb m _ _ _ _;have k:Y (∀r,ZL 75 #[I Zh (s.paths d:Nat)] r (kt (s.paths d))):=λr=>dM _ p r
  have x:(kt (s.paths d)).size<1000:=by
   have F:=dz 18 (s.paths d) O;show(d_ (s.paths d)).toArray.size<_;rw[Ya];omega
  have B:¬(d:Int)<0:=O
  show i_ _ _ _ _ λe w'=>pF w (S [kt (s.paths d)]) e w'/\Gr w w';generalize kt _=D8 at k x|-;generalize s.paths d=H at q k p;go_in;go_upto_region 1 with fail;generalize w.alloc _=w1 at j i|-
  go_wp2_with(first|(refine ZD w PA j D ?_)|(go_at_call 162;apply Z1 (f _))|(go_at_call 163;refine Z0 (q _) λK n=>?_)|(go_at_call 75;refine Z0 (k _) λJ o=>?_;have u:=o_ i (o_ n o);have A:=ZR u;have v:=X u));go_ret;exact Qb R A v
def Jo{s:y_}(b:s.row PA)(z:s.ok)(a:I1)(H:a.length<=1048576)(w:I6):i_ c_ 74 #[Zc PA,Zb ⟨#[99,111,109,112,97,114,101]⟩,Zb ⟨a.toArray⟩,Za Zk] w λe w'=>pF w.heap.size ((df 0 a).map λd=>[⟨#[115,97,109,101,32]⟩++kt (s.paths d)]) e w'/\Gr w w':=by
 have g:Y (∀W,i_ c_ 162 #[Zb ⟨a.toArray⟩,I L 0] W λe w'=>e=Zd (W_ 0 a)/\w'=W):=λW=>pn _ Vs 0 W;have E:=jE.size b;have D:=qx b;have j:(w.alloc (Z PA 70)).heap[w.heap.size]?=Z PA 70:=ZQ w _;have i:Gr w (w.alloc (Z PA 70)):=ZN;cases l:df 0 a with
 | none=>
  have f:Y (∀W,i_ c_ 162 #[Zb ⟨a.toArray⟩,I L 0] W λe w'=>e=Zd (I L (-1))/\w'=W):=λW=>(g W).mono λe w' h=>⟨UN,h.2⟩;show i_ _ _ _ _ λe w'=>pF w N e w'/\Gr w w';have y:=X i;go_in;go_wp2_with(go_at_call 162;refine(f _).mono ?_;rintro e F ⟨rfl,rfl⟩);go_ret;exact PY R y
 | some d=>
  have m:=(JB l).2.2;have f:Y (∀W,i_ c_ 162 #[Zb ⟨a.toArray⟩,I L 0] W λe w'=>e=Zd d/\w'=W):=λW=>(g W).mono λe w' h=>⟨UN,h.2⟩;have q:Y (∀W,ZL 163 #[PA,d] W (I Zh (s.paths d:Nat))):=λW=>na d m z b W;have p:s.paths d<=1000000000000000000:=pb m _ _ _ _;have k:Y (∀r,ZL 75 #[I Zh (s.paths d:Nat)] r (kt (s.paths d))):=λr=>dM _ p r
  have x:(kt (s.paths d)).size<1000:=by
   have G:=dz 18 (s.paths d) O;show(d_ (s.paths d)).toArray.size<_;rw[Ya];omega
  have C:¬(d:Int)<0:=O
  show i_ _ _ _ _ λe w'=>pF w (S [⟨#[115,97,109,101,32]⟩++kt (s.paths d)]) e w'/\Gr w w';generalize kt _=D8 at k x|-;generalize s.paths d=M at q k p;have B:∀W,(k_ .add ⟨#[115,97,109,101,32]⟩ D8).run c_ W=.ok (Zb (⟨#[115,97,109,101,32]⟩++D8)) W:=λW=>cj _ D8 (by show 5+D8.size<_;omega) W;generalize (⟨#[115,97,109,101,32]⟩:I4)++D8=D9 at B|-;go_in;go_upto_region 1 with fail;generalize w.alloc _=w1 at j i|-
  go_wp2_with(first|(refine ZD w PA j E ?_)|(go_at_call 162;apply Z1 (f _))|(go_at_call 163;refine Z0 (q _) λJ n=>?_)|(go_at_call 75;refine Z0 (k _) λK o=>?_;have u:=o_ i (o_ n o);have A:=ZR u;have v:=X u));go_ret;exact Qb R A v
def KI{s:y_}(b:s.row PA)(y:s.ok)(a:I1)(G:a.length<=1048576)(w:I6):i_ c_ 74 #[PA,Zb ⟨#[100,105,118,105,100,101]⟩,Zb ⟨a.toArray⟩,Zk] w λe w'=>pF w ((df 1 a).map λd=>Hq (d-1) s) e w'/\Gr w w':=by
 have i:Y (∀W,i_ c_ 162 #[Zb ⟨a.toArray⟩,I L 0] W λe w'=>e=(W_ 0 a)/\w'=W):=λW=>pn _ Vs 0 W;have F:=jE.size b;have E:=qx b;have j:(w.alloc (Z PA 70)).heap[w.heap.size]?=Z PA 70:=ZQ w _;have g:Gr w (w.alloc (Z PA 70)):=ZN;cases k:df 0 a with
 | none=>
  have f:Y (∀W,i_ c_ 162 #[Zb ⟨a.toArray⟩,I L 0] W λe w'=>e=Zd (I L (-1))/\w'=W):=λW=>(i W).mono λe w' h=>⟨by rw[h.1];unfold W_;rw[k],h.2⟩;rw[Nu k];show i_ _ _ _ _ λe w'=>pF w N e w'/\Gr w w';have n:=X g;clear b y i k j g;go_in;go_wp2_with(go_at_call 162;refine(f _).mono ?_;rintro e C ⟨rfl,rfl⟩);go_ret;exact PY R n
 | some d=>
  have p:=(JB k).2.2;have f:Y (∀W,i_ c_ 162 #[Zb ⟨a.toArray⟩,I L 0] W λe w'=>e=Zd d/\w'=W):=λW=>(i W).mono λe w' h=>⟨by rw[h.1];unfold W_;rw[k],h.2⟩;have z:¬(d:Int)<0:=O
  rw[QW k];cases d with
  | zero=>
   show i_ _ _ _ _ λe w'=>pF w N e w'/\Gr w w';have n:=X g;clear b y i k j g;go_in;go_wp2_with(go_at_call 162;refine(f _).mono ?_;rintro e C ⟨rfl,rfl⟩);go_ret;exact PY R n
  | succ d=>
   have m:Y (∀W,i_ c_ 164 #[PA,I L (d+1:Nat)] W λe w'=>(∃v,e=Zd v/\w'.ownsRow W 9 1 v (Hq d s).length ((Hq d s).map Zb))/\Gr W w'):=λW=>J9 b y d p W;rw[qI O];show i_ _ _ _ _ λe w'=>pF w (S (Hq d s)) e w'/\Gr w w';have u:Y (Hq d s≠[]):=X (by unfold Hq;simp);generalize Hq d s=DT at m u|-;obtain⟨D,o⟩:∃x:Nat,x=d+1:=⟨_,R⟩;rw[<-o]at m f z;have A:(0:Int)<(D:Int):=O
   clear b y i k o p;go_in;go_upto_region 1 with fail;generalize w.alloc _=w1 at j g|-
   go_wp2_with(first|(refine ZD w PA j F ?_)|(go_at_call 162;apply Z1 (f _))|(go_at_call 164;refine(m _).mono ?_;rintro e B ⟨⟨v,rfl,l⟩,r⟩;have q:Y (pF w (S DT) (Zd v) B/\Gr w B):=⟨⟨v,R,u,KV l (ZR g)⟩,o_ g r⟩;clear l r));go_ret;exact q
def R5{s:y_}(d:s.row PA)(g:s.ok)(c a:I1)(f:a.length<=1048576)(b:Bool)(w:I6):i_ c_ 74 #[PA,Zb ⟨c.toArray⟩,Zb ⟨a.toArray⟩,b] w λe w'=>pF w (PX s c a b) e w'/\Gr w w':=by
 unfold PX;cases b with
 | false=>
  rw[qF WU];unfold ox;cases h:c==[109,111,118,101,115]with
  | true=>rw[qI R,JC h];exact LA d g a w
  | false=>
   rw[qF WU];cases i:c==[108,111,111,107]with
   | true=>rw[qI R,JC i];exact MX d g a w
   | false=>rw[qF WU];exact QZ d c a f h i w
 | true=>
  rw[qI R];cases j:c==[101,112,100]with
  | true=>rw[qI R,JC j];exact N0 d a f w
  | false=>
   rw[qF WU];cases k:c==[112,101,114,102,116]with
   | true=>rw[qI R,JC k];exact K8 d g a f w
   | false=>
    rw[qF WU];cases l:c==[99,111,109,112,97,114,101]with
    | true=>rw[qI R,JC l];exact Jo d g a f w
    | false=>
     rw[qF WU];cases m:c==[100,105,118,105,100,101]with
     | true=>rw[qI R,JC m];exact KI d g a f w
     | false=>rw[qF WU];exact K9 d c a f j k l m w
def MY(s:y_)(c a:I1):ox s c=(PX s c a Zl).map λl=>(s,l):=by grind[PX,ox]
def QX(s:y_)(c a:I1)(g:(c==[102,101,110])=Zl)(h:(c==[109,111,118,101])=Zl)(i:(c==[115,104,111,114,116])=Zl):Mf s c a=(PX s c a Zk).map λl=>(s,l):=by
 unfold Mf PX;rw[qF (by rw[g];simp),qF (by rw[h];simp),qF (by rw[i];simp),qI R];by_cases e:(c==[101,112,100])=Zk
 .rw[JC e,qF WW,qF WW,qF WW,qI WW,qI WW,Option.map_map];rfl
 rw[qF e,qF e];by_cases b:(c==[112,101,114,102,116])=Zk
 .rw[qI b,qI b,Option.map_map];rfl
 rw[qF b,qF b];by_cases f:(c==[99,111,109,112,97,114,101])=Zk
 .rw[JC f,qF WW,qI WW,qI WW,Option.map_map];rfl
 rw[qF f,qF f];by_cases d:(c==[100,105,118,105,100,101])=Zk
 .rw[qI d,qI d,Option.map_map];rfl
 rw[qF d,qF d];rfl
def QR(a:I1):Md ⟨a.toArray⟩=(E_ a).map y_.of:=by grind[Md,E_]
def Lw{s b:y_}{f:I4}{r:I3}(g:s.ok)(h:fd s f=S (b,r)):r=[ex b]/\b.ok:=by grind[fd,ex,y_.ok_aft,F8,y_]
def KS(s:y_):ex s=(⟨#[111,107,32]⟩:I4)++xJ s.text:=by unfold ex;exact eu (by simp[xJ])
structure Lx(w:I6)(B gg base:Nat)(xs:I3)(s:y_)(rs:I3)(v:I7)(W:I6):Prop where
 g:Gr w W
 p:∃PA,s.row PA/\W.heap[B]?=S (Z PA 70)
 l:∀i x,xs[i]?=S x->W.cell? ⟨gg,i,N⟩=S (Zb x)
 o:yt base v rs W
 ok:s.ok
 b0:w.heap.size<=B
 b1:B<base
 b2:gg<base
 b3:gg≠B
 b4:base<=W.heap.size
def Lx.gr{b:Nat}{j:I3}{s:y_}(h:Lx w B b base j s rs v W)(k:Gr W a):Lx w B b base j s rs v a:=by obtain⟨PA,m,d⟩:=h.p;exact⟨o_ h.g k,⟨PA,m,(Zz k (xe d)).trans d⟩,λi x f=>(ZW k (Zx (h.l i x f))).trans (h.l i x f),uy h.o λq c fr e _=>(ZE k e),h.ok,h.b0,h.b1,h.b2,h.b3,q7 h.b4 (ZR k)⟩
def Lx.set{b:Nat}{f:I3}{s d:y_}(h:Lx w B b base f s rs v W){a:I0}(n:d.row a)(m:d.ok):Lx w B b base f d rs v (W.setRow B a):=by obtain⟨PA,y,k⟩:=h.p;have u:=h.b1;have j:=h.b3;exact⟨h.g.setRow B h.b0 a,⟨a,n,Zt k⟩,λi x r=>(X9 (w:=W) (by show(W.setRow B a).heap[b]?=_;rw[Zu j])).trans (h.l i x r),uy h.o λq c fr e z=>by rw[Zu O];exact e,m,h.b0,h.b1,h.b2,h.b3,by rw[Xa];exact h.b4⟩
def Lx.app{f:I3}{s:y_}{rs':I3}{v':I7}{d:I6}(h:Lx w B e base f s rs v W)(b:yt base v' rs' d)(a:W.grownBy d v.ownBlock):Lx w B e base f s rs' v' d:=by have k:=Below.grown (XL base W) a h.b4 (H4 h.o);obtain⟨PA,j,m⟩:=h.p;have q:=h.b0;have r:=h.b1;exact⟨u_ h.g (Below.mono k O),⟨PA,j,(k.block _ h.b1).trans m⟩,λi x n=>(ZW k (p:=⟨e,i,N⟩) h.b2).trans (h.l i x n),b,h.ok,h.b0,h.b1,h.b2,h.b3,q7 h.b4 k.size⟩
def IY(w:I6)(B gg base:Nat)(xs:I3)(s:y_)(rs:I3)(v:I7)(R:Option (y_×I3))(tv:I7)(W:I6):Prop:=match R with
 | none=>tv=Zq N 0 0/\Lx w B gg base xs s rs v W
 | some (s',r)=>(∃q cap,tv=Zq (S ⟨q,0,N⟩) r.length cap/\∀j x,r[j]?=S x->W.cell? ⟨q,j,N⟩=S (Zb x))/\Lx w B gg base xs s' rs v W
def IY.one{a:Nat}{e:I3}{s d:y_}{f:Option (y_×I3)}{g:I4}(hR:f=S (d,[g]))(h:Lx w B a base e d rs v W):IY w B a base e s rs v f (Zq (S W) 1 1) (W.alloc (Z #[g] 9)):=by
 subst hR;refine⟨⟨W,1,R,λj x b=>?_⟩,h.gr ZN⟩;cases j with
 | zero=>
  cases b;rw[Zs (ZQ W _)];rfl
 | succ j=>cases b
def IY.no{a:Nat}{b:I3}{s:y_}{R:Option (y_×I3)}(hR:R=N)(h:Lx w B a base b s rs v W):IY w B a base b s rs v R (Zq N 0 0) W:=by subst hR;exact⟨rfl,h⟩
def IY.ask{b:Nat}{i:I3}{s:y_}{r:Option (I3)}{F:Option (y_×I3)}{e:Ending}(hR:F=r.map λl=>(s,l))(g:pF k r e W)(h:Lx w B b base i s rs v W):∃tv,e=Zd tv/\IY w B b base i s rs v F tv W:=by
 subst hR;cases r with
 | none=>exact⟨_,g,R,h⟩
 | some l=>
  obtain⟨tv,p,u,y⟩:=g;obtain⟨E,cap,z,_,d⟩:=l7 y;have o:=List.length_pos_iff.2 u;obtain⟨q,f,_⟩:=d 0 o;refine⟨tv,p,⟨q,cap,by rw[z,f],λj x C=>?_⟩,h⟩;obtain⟨A,m⟩:=Z5.1 C;obtain⟨D,a,n⟩:=d j A;rw[f]at a;injection a with a;injection a with a _ _
  subst a;rw[<-m];exact n
def Q5(a:I6)(A M Q:I0):(BE a A M Q).heap[a.heap.size+2]?=S (Z Q 70):=Zt (by rw[Zu O,Zu O];exact(jG a _ _ _).2.2.1)
def J7{p:pH}(g:xG I9=p)(l:xP p=Zk)(w:I6):ZL 53 #[I9] w (Ze #[jV p,I L 0]):=by
 refine(qvq I9 WW w).mono λe w' h=>⟨?_,h.2⟩;obtain⟨q,j,_,d⟩|⟨k,m,f,d⟩:=xy I9
 .rw[g]at j;rw[qP j];exact d e h.1
 exfalso;obtain i|⟨_,q,a,b⟩:=f
 .rw[g]at i;exact w_ i.2 WU
 rw[g]at a;rw[<-qP a,l]at b;cases b
def PP(a:Option Addr)(l c:Nat)(w:I6):(binOp .eql 43 (Zq a l c) (Zq N 0 0)).run c_ w=.ok (a.isNone) w:=by simp only[binOp];simp[run_equal_slice_nil w _ _ a l c underlying43]
def N1(q j:Nat):(⟨q,0,N⟩:Addr).add j=⟨q,j,N⟩:=by by_cases h:j=0<;>simp[Addr.add,h]
def Ln{s b:y_}{T:I4}{r:I3}(f:s.ok)(h:fd s T=S (b,r))(W:I6):i_ c_ 51 #[Zb (xJ s.text),Zb T] W λe w'=>(∃P M Q,b.row Q/\P.size=72/\M.size=3/\P.all (·.oneCell')=Zk/\M.all (·.oneCell')=Zk/\e=Zd (Ze #[Zc P,Zc M,Zc Q,I L 0]))/\Gr W w':=by refine(Lm f T W).mono ?_;rintro e w' ⟨a,d⟩;unfold PlX at a;rw[h]at a;exact⟨a,d⟩
def RB{s:y_}{T:I4}(d:s.ok)(h:fd s T=N)(W:I6):i_ c_ 51 #[Zb (xJ s.text),Zb T] W λe w'=>(∃k P M Q,k≠0/\P.size=72/\M.size=3/\Q.size=72/\P.all (·.oneCell')=Zk/\M.all (·.oneCell')=Zk/\Q.all (·.oneCell')=Zk/\e=Zd (Ze #[Zc P,Zc M,Zc Q,I L k]))/\Gr W w':=by refine(Lm d T W).mono ?_;rintro e w' ⟨a,b⟩;unfold PlX at a;rw[h]at a;exact⟨a,b⟩
def Nh(t:I4)(ht:t.size<=1048576)(z:I3)(hx:Kk t z)(n:Nat)(hn:n<=4096)(p:pH)(hp:xG I9=S p)(hc:xP p=Zk)(w:I6):i_ c_ 40 #[I L n,Zb t] w λe w'=>(∃v base,e=Zd (Ze #[v,I L 0])/\w.heap.size<=base/\yt base v (D_ 0 (y_.of p,[]) z).2 w')/\Gr w w':=by
 have z5:=X (J7 hp hc w);have t0:Y (∀W,i_ c_ 71 #[Zb t,I Zg 10] W λe w'=>∃v,e=Zd v/\yt W.heap.size v z w'/\Gr W w'):=X λW=>P7 t O z hx W;have k3:=y_.ok_of hp hc;have a2:(y_.of p).row (jV p):=y_.row_of hp;have hz:=jE.size a2;have ho:=X (qx a2);have x5:=J6 hx;have s7:=X (L0 hx);have s8:=hx.1;have h9:(c_.info? 9).map (λi=>(i.zero,i.size,i.bytes))=S (S (Zb ⟨#[]⟩),1,16):=WR;obtain⟨i0,hi,t9,v1,v2⟩:=We h9;have r6:=X hi;clear hi h9 hx hp hc;have x3:¬(n:Int)<0:=O;have x4:¬(4096:Int)<(n:Int):=O;have c6:=X k3;have At:=X a2;generalize y_.of p=s0 at c6 At|-;generalize jV p=P0 at z5 hz ho At;clear k3 a2;unfold I9 at z5;go_in;go_upto_region 4 with(first|(go_at_call 53;refine z5.a.mono ?_;rintro e w1 ⟨rfl,m6⟩;have yy:=Z7 w1 (Z b_ 70))|(refine ZC w1.heap.size P0 (by with_reducible exact yy) hz ho.a ?_));have n0:Gr w1 ((w1.alloc (Z b_ 70)).setRow w1.heap.size P0):=ZN.setRow _ Zy _;have d4:((w1.alloc (Z b_ 70)).setRow w1.heap.size P0).heap[w1.heap.size]?=S (Z P0 70):=Zt yy;generalize (w1.alloc (Z b_ 70)).setRow w1.heap.size P0=w2 at n0 d4|-;have m2:=ZR m6;generalize w1.heap.size=B at d4 m2|-;have k0:=xe d4;have r5:=o_ m6 n0;clear m6 n0 yy z5;go_upto_region 5 with(go_at_call 71;refine(t0.a _).mono ?_;rintro e D ⟨v0,rfl,hS,r⟩);have t1:=ZR r;obtain⟨pp,cap,t2,p8,h0⟩:=l7 hS;obtain⟨gg,d0,_⟩:=h0 0 (List.length_pos_iff.2 s8);subst d0;have v3:=H4 hS gg (by rw[t2];rfl);subst t2;have l4:Lx w B gg D.heap.size z s0 [] (Zq N 0 0) D:=⟨o_ r5 r,⟨P0,At.a,(Zz r k0).trans d4⟩,λi x hx=>by
  obtain⟨hi,e⟩:=Z5.1 hx;obtain⟨g',e1,e2⟩:=h0 i hi;injection e1 with e1;injection e1 with e1 _ _
  subst e1;rw[<-e];exact e2,⟨R,Zi ⟨R,R⟩⟩,c6.a,m2,O,by
  obtain⟨g',e1,e2⟩:=h0 0 (List.length_pos_iff.2 s8);injection e1 with e1;injection e1 with e1 _ _
  subst e1;exact Zx e2,O,Zy⟩
 have d5:=X l4;generalize D.heap.size=base at l4 d5|-;clear l4 h0 hS r r5 d4 v3 k0 m2 t1 p8 t0 c6 At ho;go_wp2;go_loopg [9,10] z.length (λgk ov iv wr=>∃k:Nat,k+gk=z.length/\iv=I L k/\Lx w B gg base z (D_ 0 (s0,[]) (z.take k)).1 (D_ 0 (s0,[]) (z.take k)).2 ov wr)
 case atStart=>exact⟨0,O,R,d5.a⟩
 case round=>
  obtain⟨k,k1,rfl,hL⟩:=hrel;clear d5;have h4:=HK (z.take k) 0 (s0,[]);rw[Xt]at h4;simp only[XN,Z2]at h4;have k8:(D_ 0 (s0,[]) (z.take k)).2.length<=1900000000000:=q7 h4 (by
   have:min k z.length<=1048577:=O
   exact q7 (XT _ this) WW)
  clear h4;by_cases s1:k<z.length
  .have v9:(k:Int)<(z.length:Int):=O;have x1:0<=(k:Int):=O;obtain⟨x,h5⟩:∃x,z[k]?=S x:=⟨z[k],Yf s1⟩;obtain⟨_,t3⟩:=Z5.1 h5;have t5:=s7.a x (Wm h5);have g5:D_ 0 (s0,[]) (z.take (k+1))=ev (k+1) (D_ 0 (s0,[]) (z.take k)) x:=(by rw[Yd s1,HU,t3,Xt,show 0+min k z.length+1=k+1 from O]);obtain⟨xl,rfl⟩:∃xl:I1,x=⟨xl.toArray⟩:=⟨x.data.toList,R⟩;have cc:wr.cell? ⟨gg,k,N⟩=S (Zb ⟨xl.toArray⟩):=hL.l k _ h5;have x0:xl.length<=1048576:=(by have:xl.toArray.size<=t.size:=t5;rw[Ya]at this;omega);have a4:Y (∀W,ZL 72 #[Zb ⟨xl.toArray⟩] W (Ze #[Zb ⟨(g_ xl [32]).1.toArray⟩,Zb ⟨(g_ xl [32]).2.1.toArray⟩,Za (g_ xl [32]).2.2])):=X λW=>Nv ⟨xl.toArray⟩ (by show xl.toArray.size<_;rw[Ya];omega) W;have d3:Y (D_ 0 (s0,[]) (z.take (k+1))=if xl=[]then D_ 0 (s0,[]) (z.take k)else match doS (D_ 0 (s0,[]) (z.take k)).1 xl with|some (s',l)=>(s',(D_ 0 (s0,[]) (z.take k)).2++l)|none=>((D_ 0 (s0,[]) (z.take k)).1,(D_ 0 (s0,[]) (z.take k)).2++[Me (k+1)])):=X (by rw[g5];rfl);generalize D_ 0 (s0,[]) (z.take k)=q at hL d3 k8;obtain⟨s,rs⟩:=q;simp only at hL d3 k8;have l3:=X hL;clear g5 t5 h5 t3;by_cases b5:xl=[]
   .have T:Y (D_ 0 (s0,[]) (z.take (k+1))=(s,rs)):=X (by rw[d3.a,qI b5]);subst b5;clear d3 a4 hL;go_wp2;go_roundg (gk-1)
    case measure=>omega
    case rel=>exact⟨k+1,O,Vg,by rw[T.a];exact l3.a⟩
   .have t4:(xl==[])=Zl:=(by rw[qM];exact b5);have f5:doS s xl=if(g_ xl [32]).2.2=Zk then Mf s (g_ xl [32]).1 (g_ xl [32]).2.1 else ox s (g_ xl [32]).1:=R;have T:Y (D_ 0 (s0,[]) (z.take (k+1))=match doS s xl with|some (s',l)=>(s',rs++l)|none=>(s,rs++[Me (k+1)])):=X (by rw[d3.a,qF b5]);have g9:Y (∀s' l,doS s xl=S (s',l)->l.length<=1000001):=X λs' l h=>PR h;obtain⟨l1,l2⟩:=KF xl [32];generalize doS s xl=w3 at T f5 g9;generalize g_ xl [32]=cu at a4 l1 l2 f5;obtain⟨c,a,b⟩:=cu;simp only at a4 f5 l1 l2;have ha:a.length<=1048576:=O;have m:=X f5;clear d3 hL b5 f5;go_upto_block 2 with(go_at_call 72;refine(a4.a _).mono ?_;rintro e w4 ⟨rfl,r3⟩);have F:=X (l3.a.gr r3);clear r3 l3 a4 cc t4;go_cut [14,15,16,17,18,19,20,21,22]from 35 to 123 (λw8 x9 y0 y5 y6 y7 y8 z0 z1 wx=>IY w B gg base z s rs u9 w3 w8 wx)
    case first=>
     obtain⟨PA,K,c4⟩:=F.a.p;have hz:=jE.size K;have f:=X F.a.ok;have g2:=X K;have a9:=X (λW=>LO K f.a W);clear K;cases b with
     | false=>
      have hR:Y (w3=(PX s c a Zl).map λl=>(s,l)):=X (by rw[m.a,qF WU];exact MY s c a);have f3:=X (λW=>R5 g2.a f.a c a ha Zl W);clear a9 m
      go_wp2_with(first|(refine ZD B PA c4 hz ?_)|(go_at_call 74;refine(f3.a _).mono ?_;rintro e V ⟨he,d⟩;obtain⟨tv,rfl,hT⟩:=IY.ask hR.a he (F.a.gr d);have m1:=X hT;clear hT he d));go_meet
      case rel=>exact m1.a
     | true=>
      cases e1:c==[102,101,110]with
      | true=>
       have hR:w3=(Md ⟨a.toArray⟩).map λs'=>(s',[xJ [111,107]]):=(by rw[m.a,qI R];unfold Mf;rw[qI e1]);obtain⟨A,kk,g8,s9,f4,z5⟩:=JT ⟨a.toArray⟩ (by show a.toArray.size<_;rw[Ya];omega);rw[Jr]at f4;rw[QR]at hR;clear a9 m
       go_upto_region 15 with(first|(go_at_call 53;refine(z5.a _).mono ?_;rintro e V ⟨rfl,d⟩;have yy:=Z7 V (Z b_ 70))|(refine ZC V.heap.size A (by with_reducible exact yy) g8 s9.a ?_));have d2:Gr V ((V.alloc (Z b_ 70)).setRow V.heap.size A):=ZN.setRow _ Zy _;have w5:((V.alloc (Z b_ 70)).setRow V.heap.size A).heap[V.heap.size]?=S (Z A 70):=Zt yy;generalize (V.alloc (Z b_ 70)).setRow V.heap.size A=w6 at d2 w5|-;generalize V.heap.size=b2 at w5|-;have E:=X ((F.a.gr d).gr d2);clear d d2 yy c4 z5;obtain⟨p',d0,k4,g3,h3⟩|⟨d0,h3⟩:=f4
       .have b7:Y (w3=S (y_.of p',[⟨#[111,107]⟩])):=X (by rw[hR,d0];rfl);subst h3;obtain⟨PC,a8,z2⟩:=E.a.p;have g7:=jE.size a8;have h7:=X (E.a.set g3 k4);clear hR d0 k4 g3 a8 E
        go_upto_region 17 with(first|(refine ZD b2 A w5 g8 ?_)|(refine ZU R 70 _ _ R B A R R 70 PC T6 (by rw[g8];exact q9) (by rw[g8,g7]) s9.a ?_));generalize w6.setRow B A=w7 at h7|-;clear w5 z2;go_wp2;go_meet
        case rel=>exact IY.one b7.a h7.a
       .have f2:Y (w3=N):=X (by rw[hR,d0];rfl);have k2:(kk==0)=Zl:=(by rw[qM];exact h3);clear hR d0 h3 w5;go_wp2;go_meet
        case rel=>exact IY.no f2.a E.a
      | false=>
       cases e2:c==[109,111,118,101]with
       | true=>
        have e3:(c==[115,104,111,114,116])=Zl:=(by rw[JC e2];rfl);have hR:w3=fd s ⟨a.toArray⟩:=(by rw[m.a,qI R];unfold Mf;rw[qF (by rw[e1];simp),qI e2]);clear m;cases hm:fd s ⟨a.toArray⟩with
        | none=>
         have f2:Y (w3=N):=X (hR.trans hm);have w0:=X (λW=>RB f.a hm W);clear hR hm
         go_upto_region 25 with(first|(refine ZD B PA c4 hz ?_)|(go_at_call 73;refine(a9.a _).mono ?_;rintro e V ⟨rfl,d⟩;have H:=X (F.a.gr d);clear d)|(go_at_call 51;refine(w0.a _).mono ?_;rintro e D ⟨⟨kk,P,M,Q,f7,a7,a5,C,J,z4,k5,rfl⟩,r⟩;obtain⟨y1,y2,y3,y4⟩:=jG D (Z b_ 70) (Z #[I L 0,I L 0,I Zg 0] 125) (Z b_ 70);have d1:=X k5;have g1:=X J;have f9:=X z4;clear k5 J z4)|(refine ZC (D.heap.size+2) Q VW C d1.a ?_)|(refine ZU R 125 _ _ R (D.heap.size+1) M R R 125 #[I L 0,I L 0,I Zg 0] Uu (by rw[a5];exact vi) (by rw[a5];rfl) f9.a ?_)|(refine ZC D.heap.size P UI a7 g1.a ?_));show n_ _ _ _ _ (BE D P M Q);have z9:=X ((H.a.gr r).gr (ru D P M Q));generalize BE D P M Q=wp at z9|-;have k2:(kk==0)=Zl:=(by rw[qM];exact f7);clear y1 y2 y3 y4 r;go_wp2;go_meet
         case rel=>exact IY.no f2.a z9.a
        | some qq=>
         obtain⟨s2,r2⟩:=qq;have n2:=X (λW=>Ln f.a hm W);obtain⟨n3,y⟩:=Lw f.a hm;have a6:=X y;have b7:Y (w3=S (s2,[⟨#[111,107,32]⟩++xJ s2.text])):=X (by rw[hR,hm,n3,KS]);have n4:=y_.short y;have a1:∀W,(k_ .add ⟨#[111,107,32]⟩ (xJ s2.text)).run c_ W=.ok (Zb (⟨#[111,107,32]⟩++xJ s2.text)) W:=λW=>uu _ _ (by show 3+_<_;omega) W;clear n3 y hm hR n4
         go_upto_region 25 with(first|(refine ZD B PA c4 hz ?_)|(go_at_call 73;refine(a9.a _).mono ?_;rintro e V ⟨rfl,d⟩;have H:=X (F.a.gr d);clear d)|(go_at_call 51;refine(n2.a _).mono ?_;rintro e D ⟨⟨P,M,Q,hQ,a7,a5,J,z4,rfl⟩,r⟩;obtain⟨y1,y2,y3,y4⟩:=jG D (Z b_ 70) (Z #[I L 0,I L 0,I Zg 0] 125) (Z b_ 70);have C:=jE.size hQ;have d1:=X (qx hQ);have f1:=X hQ;have g1:=X J;have f9:=X z4;clear hQ J z4)|(refine ZC (D.heap.size+2) Q VW C d1.a ?_)|(refine ZU R 125 _ _ R (D.heap.size+1) M R R 125 #[I L 0,I L 0,I Zg 0] Uu (by rw[a5];exact vi) (by rw[a5];rfl) f9.a ?_)|(refine ZC D.heap.size P UI a7 g1.a ?_));show n_ _ _ _ _ (BE D P M Q);have z3:=(H.a.gr r).gr (ru D P M Q);have a0:=Q5 D P M Q;have g0:D.heap.size+2≠B:=Tq
         generalize BE D P M Q=wp at z3 a0|-;generalize D.heap.size+2=b3 at a0 g0|-;obtain⟨PC,a8,z2⟩:=z3.p;have g7:=jE.size a8;have z9:=X z3;clear y1 y2 y3 y4 z3 a8 r
         go_upto_region 27 with(first|(refine ZD b3 Q a0 C ?_)|(refine ZU R 70 _ _ R B Q R R 70 PC T6 (by rw[C];exact q9) (by rw[C,g7]) d1.a ?_));have E:=X (z9.a.set f1.a a6.a);have w5:=setRow_heap _ _ _ Q _ _ z2;generalize wp.setRow B Q=w6 at E w5|-;have g6:=X (λW=>LO f1.a a6.a W);clear a0 z2;generalize xJ s2.text=T9 at g6 a1 b7
         go_wp2_with(first|(refine ZD B Q w5 C ?_)|(go_at_call 73;refine(g6.a _).mono ?_;rintro e w7 ⟨rfl,f6⟩;have b6:=X (E.a.gr f6);clear f6));go_meet
         case rel=>exact IY.one b7.a b6.a
       | false=>
        cases e3:c==[115,104,111,114,116]with
        | true=>
         have hR:w3=H_ s ⟨a.toArray⟩:=(by rw[m.a,qI R];unfold Mf;rw[qF (by rw[e1];simp),qF (by rw[e2];simp),qI e3]);have n1:=X (λW=>SR f.a ⟨a.toArray⟩ W);clear m
         go_upto_region 23 with(first|(refine ZD B PA c4 hz ?_)|(go_at_call 73;refine(a9.a _).mono ?_;rintro e V ⟨rfl,d⟩;have n5:=X (F.a.gr d);clear d)|(go_at_call 29;refine(n1.a _).mono ?_;rintro e w6 ⟨s5,d2⟩;have l5:=X (n5.a.gr d2);have f8:=X s5;clear d2 s5;rcases f8.a with⟨c5,rfl⟩|⟨mx,c5,rfl⟩))
         .have f2:Y (w3=N):=X (hR.trans c5);clear hR c5 f8 n1;go_wp2;go_meet
          case rel=>exact IY.no f2.a l5.a
         .have hm:=QH f.a (Hv c5).1;have m0:=M9 f.a c5;obtain⟨PA,K,p7⟩:=l5.a.p;have hz:=jE.size K;have a9:=X (λW=>LO K f.a W);have y:=y_.ok_aft f.a (Hv c5).1;generalize s.aft mx=s2 at hm m0 y;have n2:=X (λW=>Ln f.a hm W);have a6:=X y;have b7:Y (w3=S (s2,[⟨#[111,107,32]⟩++xJ s2.text])):=X (by rw[hR,m0,KS]);have n4:=y_.short y;have a1:∀W,(k_ .add ⟨#[111,107,32]⟩ (xJ s2.text)).run c_ W=.ok (Zb (⟨#[111,107,32]⟩++xJ s2.text)) W:=λW=>uu _ _ (by show 3+_<_;omega) W;clear hR m0 y hm n4 c5 f8 n1 K c4
          go_upto_region 25 with(first|(refine ZD B PA p7 hz ?_)|(go_at_call 73;refine(a9.a _).mono ?_;rintro e V ⟨rfl,d⟩;have H:=X (l5.a.gr d);clear d)|(go_at_call 51;refine(n2.a _).mono ?_;rintro e D ⟨⟨P,M,Q,hQ,a7,a5,J,z4,rfl⟩,r⟩;obtain⟨y1,y2,y3,y4⟩:=jG D (Z b_ 70) (Z #[I L 0,I L 0,I Zg 0] 125) (Z b_ 70);have C:=jE.size hQ;have d1:=X (qx hQ);have f1:=X hQ;have g1:=X J;have f9:=X z4;clear hQ J z4)|(refine ZC (D.heap.size+2) Q VW C d1.a ?_)|(refine ZU R 125 _ _ R (D.heap.size+1) M R R 125 #[I L 0,I L 0,I Zg 0] Uu (by rw[a5];exact vi) (by rw[a5];rfl) f9.a ?_)|(refine ZC D.heap.size P UI a7 g1.a ?_));show n_ _ _ _ _ (BE D P M Q);have z3:=(H.a.gr r).gr (ru D P M Q);have a0:=Q5 D P M Q;have g0:D.heap.size+2≠B:=Tq
          generalize BE D P M Q=wp at z3 a0|-;generalize D.heap.size+2=b3 at a0 g0|-;obtain⟨PC,a8,z2⟩:=z3.p;have g7:=jE.size a8;have z9:=X z3;clear y1 y2 y3 y4 z3 a8 r
          go_upto_region 27 with(first|(refine ZD b3 Q a0 C ?_)|(refine ZU R 70 _ _ R B Q R R 70 PC T6 (by rw[C];exact q9) (by rw[C,g7]) d1.a ?_));have E:=X (z9.a.set f1.a a6.a);have w5:=setRow_heap _ _ _ Q _ _ z2;generalize wp.setRow B Q=w6 at E w5|-;have g6:=X (λW=>LO f1.a a6.a W);clear a0 z2;generalize xJ s2.text=T9 at g6 a1 b7
          go_wp2_with(first|(refine ZD B Q w5 C ?_)|(go_at_call 73;refine(g6.a _).mono ?_;rintro e w7 ⟨rfl,f6⟩;have b6:=X (E.a.gr f6);clear f6));go_meet
          case rel=>exact IY.one b7.a b6.a
        | false=>
         have hR:Y (w3=(PX s c a Zk).map λl=>(s,l)):=X (by rw[m.a,qI R];exact QX s c a e1 e2 e3);have f3:=X (λW=>R5 g2.a f.a c a ha Zk W);clear a9 m
         go_wp2_with(first|(refine ZD B PA c4 hz ?_)|(go_at_call 74;refine(f3.a _).mono ?_;rintro e V ⟨he,d⟩;obtain⟨tv,rfl,hT⟩:=IY.ask hR.a he (F.a.gr d);have m1:=X hT;clear hT he d));go_meet
         case rel=>exact m1.a
    case rest=>
     clear F m ha l1 l2;cases w3 with
     | none=>
      obtain⟨rfl,f0⟩:=hcut;have a3:=X f0;have g4:Y (D_ 0 (s0,[]) (z.take (k+1))=(s,rs++[Me (k+1)])):=T;obtain⟨k9,f7⟩:∃k9:Nat,k9=k+1:=⟨_,R⟩;have x2:a_ L ((k:Int)+1)=(k9:Int):=Vc
      have w9:a_ Zh (k9:Int)=k9:=Vh
      have r1:Y (∀W',ZL 75 #[I Zh k9] W' (Zb (kt k9))):=X λW'=>dM k9 O W'
      have v5:(kt k9).size<1000:=by
       have h2:=dz 18 k9 O;show(d_ k9).toArray.size<_;rw[Ya];omega
      have l0:Y (Me (k+1)=⟨#[101,114,114,111,114,32]⟩++kt k9):=X (by rw[<-f7];rfl);have r7:=X f7;clear f7;generalize kt k9=D8 at r1 v5 l0;have a1:∀W,(k_ .add ⟨#[101,114,114,111,114,32]⟩ D8).run c_ W=.ok (Zb (⟨#[101,114,114,111,114,32]⟩++D8)) W:=λW=>cj _ D8 (by show 6+D8.size<_;omega) W;generalize (⟨#[101,114,114,111,114,32]⟩:I4)++D8=ET at a1 l0;have x8:rs.length=(rs.map Zb).length:=WU
      have eN:∀W,(binOp .eql 43 (Zq N 0 0) (Zq N 0 0)).run c_ W=.ok (Za Zk) W:=PP N 0 0;clear f0 T g9
      go_wp2_with(first|(go_at_call 75;refine(r1.a _).mono ?_;rintro e V ⟨rfl,d⟩;have H:=X ((a3.a.gr d).gr ((q_ V).alloc #[Zb ET] 9));have v4:=Wp V (Zb ET) 9;clear d)|(at_builtin;refine Xv _ R (.tmp 121) (.tmp 122) 43 rfl base 9 i0 (Zb ⟨#[]⟩) 1 16 underlying43 r6.a t9 v1 v2 R WW u9 rs.length (rs.map Zb) R H.a.o ⟨V.heap.size,0,N⟩ 1 1 [Zb ET] R R v4 Vi Vk O H.a.b4 ?_;intro v' w7 As G _;have b6:=X (H.a.app (rs':=rs++[ET]) (v':=v') (by unfold yt;rw[qZ,Ys];exact As) G);clear As G));go_roundg (gk-1)
      case measure=>omega
      case rel=>exact⟨k+1,O,by rw[r7.a],by rw[g4.a,l0.a];exact b6.a⟩
     | some qq=>
      obtain⟨s2,r2⟩:=qq;obtain⟨⟨q2,h6,rfl,h8⟩,f0⟩:=hcut;have a3:=X f0;have g4:Y (D_ 0 (s0,[]) (z.take (k+1))=(s2,rs++r2)):=T;have n3:=g9.a s2 r2 R
      have r0:Y (∀j u',(r2.map Zb)[j]?=S u'->wc.cell? ((⟨q2,0,N⟩:Addr).add j)=S u'):=X λj u' h=>by
       rw[YN]at h;obtain⟨x,h1,rfl⟩:=Xp.1 h;rw[N1];exact h8 j x h1
      have eN:∀W,(binOp .eql 43 (Zq (S q2) r2.length h6) (Zq N 0 0)).run c_ W=.ok (Za Zl) W:=PP _ _ _;clear f0 T g9 h8;go_wp2_with(at_builtin;refine Xv _ R (.tmp 121) (.tmp 122) 43 rfl base 9 i0 (Zb ⟨#[]⟩) 1 16 underlying43 r6.a t9 v1 v2 R WW u9 rs.length (rs.map Zb) R a3.a.o ⟨q2,0,N⟩ r2.length h6 (r2.map Zb) R WU r0.a (by intro u hu;obtain⟨x,_,rfl⟩:=YL.1 hu;rfl) Vk O a3.a.b4 ?_;intro v' w7 As G _;have b6:=X (a3.a.app (rs':=rs++r2) (v':=v') (by unfold yt;rw[qZ,Ys];exact As) G);clear As G);go_roundg (gk-1)
      case measure=>omega
      case rel=>exact⟨k+1,O,Vg,by rw[g4.a];exact b6.a⟩
  .have ek:k=z.length:=O;have v9:¬(k:Int)<(z.length:Int):=O;rw[ek,XA]at hL;have p0:=X (Nat.le_of_lt (Nat.lt_of_le_of_lt hL.b0 hL.b1));have n7:=X hL.o;have r4:=X hL.g;clear hL;go_wp2;go_ret2;first
    | exact⟨⟨_,base,R,p0.a,n7.a⟩,r4.a⟩
    | exact⟨⟨_,R,base,p0.a,n7.a⟩,r4.a⟩
def QL(t:I4)(n:Int)(d:n<0\/4096<n)(w:I6):i_ c_ 40 #[n,t] w λe w'=>e=Ze #[Zq N 0 0,I L 7]/\w'=w:=by
 by_cases a:n<0
 .go_in;go_wp2;exact MW
 have b:4096<n:=O;go_in;go_wp2;exact MW
def Hx(T:I3)(i:T.length<=1900000000000)(p1 p2:Option Addr)(c1 c2:Nat)(w:I6)(f:El p1 T w)(h:El p2 T w):ZL 27 #[Zq p1 T.length c1,Zq p2 T.length c2] w Zk:=by exact WA
def PH{T:I3}(h:W.ownsRow base 9 1 v T.length (T.map Zb)):∃p cap,v=Zq p T.length cap/\El p T W:=by obtain⟨p,cap,a,_,b⟩:=l7 (show yt base v T W from h);exact⟨p,cap,a,b⟩
def RN(h:T_ m w):∀q,¬ N2 q->q<w.heap.size:=by
 intro q d;apply Xd;intro p;apply d;have f:=h.ct.tab.2;have g:=h.ct.homes.2;have i:=h.ct.ml;have j:=h.tb.cas.2;have k:=h.tb.st.2;have l:=Zx h.ow.1;have n:8<w.heap.size:=by
  have a:=h.pw;have b:c_.globalNamed "internal/strconv.uint64pow10"=S 8:=WR;unfold HG Lib.TabIs World.var? at a;rw[b]at a;simp only[Option.bind_some]at a;cases e:w.heap[8]? with
  | none=>rw[e]at a;cases a
  | some o=>exact(qB.1 e).1
 exact⟨⟨λe=>O,λe=>O,λe=>O,λe=>O⟩,λe=>O,λe=>O,λe=>by have:(⟨5,0,N⟩:Addr).block=5:=R;omega⟩
def Sy(T:I3)(k:Int)(e:Ending)(w':I6):Prop:=∃p cap,e=Zd (Ze #[Zq p T.length cap,I L k])/\El p T w'
def MF:(xG I9).map xP=Zk:=WS
def Ns:∃p,xG I9=S p/\xP p=Zk:=Xp.1 MF
structure dk(T:I4)(w:I6)(A:I0)(k:Int)(s:y_):Prop where
 z:A.size=72
 o:A.all (·.oneCell')=Zk
 c:(k=0/\s.ok/\s.row A/\∃p,xG T=S p/\xP p=Zk/\s=y_.of p)\/(k≠0/\iP T k)
 q:∃z wh fc b h g,jE z wh fc b h g A
 p:∀W,Gr w W->ZL 34 #[Zb T] W (Ze #[Zc A,I L k])
 r:∀W,ZL 53 #[Zb T] W (Ze #[Zc A,I L k])
def N'(T:I4)(g:T.size<4294967281)(c:Ct m w):∃A k s,dk T w A k s:=by
 obtain⟨p,f,b,a⟩|⟨k,i,d,a⟩:=xy T
 .exact⟨jV p,0,y_.of p,jE.size (jo f),qx (jo f),Zi ⟨R,y_.ok_of f b,y_.row_of f,p,f,b,R⟩,⟨_,_,_,_,_,_,jo f⟩,λW h=>(qzg T g m W (c.gr h).mx (c.gr h).ml (c.gr h).tab (c.gr h).homes).mono λe w' h=>⟨a e h.1,h.2⟩,λW=>(qvq T g W).mono λe w' h=>⟨a e h.1,h.2⟩⟩
 .exact⟨b_,k,⟨λ_=>0,Zk,λ_=>Zk,0,0,0⟩,xF,xH,Zj ⟨i,d⟩,⟨_,_,_,_,_,_,rI⟩,λW h=>(qzg T g m W (c.gr h).mx (c.gr h).ml (c.gr h).tab (c.gr h).homes).mono λe w' h=>⟨a e h.1,h.2⟩,λW=>(qvq T g W).mono λe w' h=>⟨a e h.1,h.2⟩⟩
def dk.gr{T:I4}{k:Int}{s:y_}(h:dk T w A k s)(g:Gr w W):dk T W A k s:=⟨h.z,h.o,h.c,h.q,λV i=>h.p V (o_ g i),h.r⟩
def Y_{i:I6}(y:Gr w i):Tb w i.heap.size A ((i.alloc (Z b_ 70)).setRow i.heap.size A):=⟨o_ y (ZN.setRow _ Zy _),Zt (Z7 i _),by rw[Xa,Z3];omega⟩
def qbc{T:I4}{k:Int}{s:y_}(h:dk T w A k s):ZL 174 #[Zb T] w (Ze #[I Zh (if k=0 then U (K3 s.z s.wh s.fc s.b) else 0),I L k]):=by
 have K:=X (h.p w ZO);have J:=h.z;have ho:=X h.o;have hc:=h.c;clear h;obtain⟨x,hx⟩:=Zn (if k=0 then U (K3 s.z s.wh s.fc s.b) else 0);rw[hx.a]
 unfold ZL;go_in;go_upto_region 2 with(first|(go_at_call 34;refine Z0 K λi y=>?_)|(refine ZC i A Zv J ho.a ?_));have B:=Y_ (A:=A) y;generalize (i.alloc (Z b_ 70)).setRow i A=w4 at B|-;generalize i.heap.size=b1 at B|-;clear y K
 obtain⟨rfl,a,b,_⟩|⟨a,_⟩:=hc
 .rw[qI R]at hx;have q:=X (λW=>L6 b a.lay a.b0 a.b1 W);rw[hx.a]at q;clear a b hx;go_wp2_with(first|(refine ZD b1 A B.p J ?_)|(go_at_call 183;refine Z0 (q _) λf y=>?_));go_ret2;exact⟨R,o_ B.gr y⟩
 .have e:(k !=0)=Zk:=by rw[bne_iff_ne];exact a
  rw[qF a]at hx;clear a;go_wp2;go_ret2;exact⟨by rw[<-hx.a];rfl,B.gr⟩
def qaL{T:I4}{k:Int}{s:y_}(h:dk T w A k s)(l:Ct m w)(t:uV w):ZL 172 #[Zb T] w (Ze #[Zc (if k=0 then bx s.z s.wh s.fc s.b else xB Zl 0 0),I L k]):=by
 have x1:=Z7 w (Z (xB Zl 0 0) 186);have g0:Gr w (w.alloc (Z (xB Zl 0 0) 186)):=ZN;have K:=X (h.p _ g0);have J:=h.z;have ho:=X h.o;have hc:=h.c;clear h;obtain⟨x,hx⟩:=Zn (if k=0 then bx s.z s.wh s.fc s.b else xB Zl 0 0);rw[hx.a];have hs:x.size=3:=by rw[<-hx.a];split<;>rfl
 have h1:Y (x.all (·.oneCell')=Zk):=(by rw[<-hx.a];split<;>exact xw _ _ _)
 unfold ZL;go_in;go_upto_region 2 with(first|(go_at_call 34;refine Z0 K λi y=>?_)|(refine ZC i A Zv J ho.a ?_));have B:=Y_ (A:=A) y;have hb:w<i.heap.size:=by have:=ZR y;rw[Z3]at this;omega
 generalize (i.alloc (Z b_ 70)).setRow i A=w4 at B|-;generalize i.heap.size=b1 at B hb|-;have st:=ZE B.gr x1;have gw:=o_ g0 B.gr;clear y K x1 g0
 obtain⟨rfl,a,b,_⟩|⟨a,_⟩:=hc
 .obtain⟨k0,k1⟩:=a.king;rw[qI R]at hx;have q:=X (λW (g:Gr w W)=>Lz b a.lay a.b0 a.b1 k0 k1 W (l.gr g).tab (t.gr g).cas);rw[hx.a]at q;clear hx a l t b k0 k1;have e:(c_.info? 70).map (·.size)=S A.toList.length:=by rw[ZX,J];exact jJ
  go_upto_region 4 with fail;refine ZT (S:=λW=>W.heap[b1]?=Z A 70/\(∃C:I0,C.size=3/\W.heap[w.heap.size]?=Z C 186)/\Gr w W) WR ⟨B.p,⟨_,R,st⟩,gw.drew⟩ (λd=>?_);apply ty 1 A R (wY e Vb _ R b1 R (λ_ h=>h.1)) d;refine rd 0 λK hK=>?_;go_simp;refine Z0 (qxk _) λf y=>?_;refine hK.out _ _ ⟨ZE y d.1,d.2.1.elim λC h=>⟨C,h.1,ZE y h.2⟩,o_ d.2.2 y⟩ λd=>?_;clear hK K;refine rd 2 λK hK=>?_;go_simp;refine Z0 (q _ d.2.2) λf y=>?_;refine hK.out _ _ ⟨ZE y d.1,d.2.1.elim λC h=>⟨C,h.1,ZE y h.2⟩,o_ d.2.2 y⟩ λd=>?_;clear hK K;refine rd 3 λK hK=>?_;rw[qI Vb];obtain⟨C,c1,c2⟩:=d.2.1;refine YQ 186 _ _ R _ x R R 186 C c2 (by rw[hs];exact vI) (by rw[c1,hs]) h1 ?_;refine hK.out _ _ ⟨by rw[setRow_other _ _ _ _ (by omega)];exact d.1,⟨x,hs,Zt c2⟩,d.2.2.setRow _ Zy _⟩ λd=>?_;clear hK K;try simp only[py]
  refine rd 4 λK hK=>?_;go_simp;refine hK.out _ _ d λd=>?_;clear hK K;refine ZZ WR ?_ _;go_wp2;exact ZS (v:=Ze #[x,I L 0]) (qj results172 _ _ w 186 _ (0,0) _ R (Zt c2) underlying186 rfl (by rw[hs];exact vI)) R ⟨R,d.2.2⟩
 .have e:(k !=0)=Zk:=by rw[bne_iff_ne];exact a
  rw[qF a]at hx;clear a l t;go_wp2_with(refine ZU R 186 _ _ R w (xB Zl 0 0) R R 186 (xB Zl 0 0) st vI R (xw _ _ _) ?_);exact ZS (v:=Ze #[xB Zl 0 0,k]) (qj results172 _ _ w 186 _ (0,0) _ R (Zt st) underlying186 rfl vI) R ⟨by rw[<-hx.a],gw.setRow _ Zy _⟩
def qaE{P:Program}{fn:Func}{p p2 q:Tmp}{ty ty2:TypeId}(h:fn.results=#[.cell p ty,.cell p2 ty2,.tmp q])(tmps:I0)(w:I6)(g g2:Nat)(t t2:TypeId)(cs cs2:I0)(fr fr2:Nat×Nat)(d d2:TypeDesc)(hp:tmps.getD p m_=ZI g)(hg:w.heap[g]?=S (Z cs t fr))(hu:P.underlying ty=S d)(hd:(match d with|.struct _|.array _ _=>Zk|_=>Zl)=Zk)(hi:(P.info? ty).map (·.size)=S cs.size)(hp2:tmps.getD p2 m_=ZI g2)(hg2:w.heap[g2]?=S (Z cs2 t2 fr2))(hu2:P.underlying ty2=S d2)(hd2:(match d2 with|.struct _|.array _ _=>Zk|_=>Zl)=Zk)(hi2:(P.info? ty2).map (·.size)=S cs2.size):(results fn tmps).run P w=.ok (Ze #[Zc cs,Zc cs2,tmps.getD q m_]) w:=by
 have a:tmps[p]?.getD m_=ZI g:=by simpa using hp
 have b:tmps[p2]?.getD m_=ZI g2:=by simpa using hp2
 simp[results,h,a,b,asAddr,run_loadVar_row w g t ty cs fr d hg hu hd hi,run_loadVar_row w g2 t2 ty2 cs2 fr2 d2 hg2 hu2 hd2 hi2]
noncomputable def i9(A:I0)(k:Int)(s:y_)(t:I4):I0×I0×Int:=if k≠0 then(b_,zC,k)else match yn t with|none=>(b_,zC,1)|some x=>if s.mov.any (λz=>z==x) then(A,z8 x,0)else(b_,zC,4)
def xk{k:Int}{tmps:I0}(o:Tm w W)(h4:tmps.getD 4 m_=ZI w.heap.size)(h5:tmps.getD 5 m_=ZI (w.heap.size+1))(P M:I0)(hP:P.size=72)(hM:M.size=3)(h6:tmps.getD 6 m_=I L k):(results f31 tmps).run c_ ((W.setRow w.heap.size P).setRow (w.heap.size+1) M)=.ok (Ze #[Zc P,Zc M,I L k]) ((W.setRow w.heap.size P).setRow (w.heap.size+1) M):=by
 rw[<-h6];exact qaE results31 _ _ w (w+1) 70 87 _ _ (0,0) (0,0) _ _ h4 (o.out _ _).1 s_ rfl (by rw[hP];exact q9) h5 (o.out _ _).2.1 underlying87 rfl (by rw[hM];exact xW)
def qaj{T t:I4}{k:Int}{s:y_}{r:I0×I0×Int}(h:dk T w A k s)(ht:t.size<4294967281)(l:Ct m w)(tb:uV w)(hr:Y (i9 A k s t=r)):ZL 31 #[Zb T,Zb t] w (Ze #[Zc r.1,Zc r.2.1,I L r.2.2]):=by
 have o:=Tm.start w;have K:=X (h.p _ o.gr);have J:=h.z;have ho:=X h.o;have hc:=h.c;have q:=X (λW=>mX t ht W);clear h ht
 unfold ZL;go_in;go_upto_region 1 with fail;show n_ _ _ _ _ ((w.alloc (Z b_ 70)).alloc (Z zC 87));generalize ((w.alloc (Z b_ 70)).alloc (Z zC 87))=w0 at o K|-;go_upto_region 2 with(first|(go_at_call 34;refine Z0 K.a λi y=>?_)|(refine ZC i.heap.size A Zv J ho.a ?_));have B:=Y_ (A:=A) y;have hb:=qN o.lt (ZR y);have o:=o.next B.gr;generalize (i.alloc (Z b_ 70)).setRow i.heap.size A=w4 at B o|-;generalize i.heap.size=b1 at B hb|-;clear y K
 obtain⟨rfl,a,b,_⟩|⟨a,_⟩:=hc;rotate_left
 .have e:(k !=0)=Zk:=by rw[bne_iff_ne];exact a
  unfold i9 at hr;rw[qI a]at hr;clear a l tb q;go_wp2_with(first|(refine ZC w.heap.size b_ o.ps xF xH ?_)|(refine ZU R 87 _ _ R (w.heap.size+1) zC R R 87 zC (o.second _) xW R vP ?_));refine ZS (v:=Ze #[Zc b_,Zc zC,I L k]) ?_ R ⟨by rw[<-hr.a],(o.out _ _).2.2⟩;exact xk o R R _ _ xF R R
 unfold i9 at hr;rw[qF (by simp)]at hr;cases hm:yn t with
 | none=>
  have e:yy t=Ze #[Zc zC,Za Zl]:=by unfold yy;rw[hm];rfl
  rw[e]at q;rw[hm]at hr;clear e hm a b l tb;go_wp2_with(first|(go_at_call 56;refine Z0 (q.a _) λf y=>?_;have o:=o.next y)|(refine ZU R 87 _ _ R f.heap.size zC R R 87 zC Zv xW R vP ?_;have o:=o.next ((ZN (c:=#[I L 0,I L 0,I Zg 0]) (t:=87)).setRow f.heap.size Zy zC))|(refine ZC w.heap.size b_ o.ps xF xH ?_)|(refine ZU R 87 _ _ R (w.heap.size+1) zC R R 87 zC (o.second _) xW R vP ?_));refine ZS (v:=Ze #[Zc b_,Zc zC,I L 1]) ?_ R ⟨by rw[<-hr.a],(o.out _ _).2.2⟩;exact xk o R R _ _ xF R R
 | some x=>
  have e:yy t=Ze #[Zc (z8 x),Za Zk]:=by unfold yy;rw[hm]
  have f1:(z8 x).all (·.oneCell')=Zk:=by simp[z8,Value.oneCell']
  rw[e]at q;rw[hm]at hr;have p:=X (λW (g:Gr w W)=>dl b a.lay a.b0 a.b1 x W (l.gr g).tab (tb.gr g).cas);change Y ((if (xC s.z s.wh s.fc s.b).any (λz=>z==x) then _ else _)=_)at hr;generalize ((xC s.z s.wh s.fc s.b).any λz=>z==x)=c at p hr;clear e hm a b l tb
  go_upto_region 5 with(first|(go_at_call 56;refine Z0 (q.a _) λf y=>?_;have o:=o.next y)|(refine ZU R 87 _ _ R f.heap.size (z8 x) R R 87 zC Zv xW R f1 ?_));have g2:Gr f ((f.alloc (Z zC 87)).setRow f.heap.size (z8 x)):=ZN.setRow _ Zy _;have o:=o.next g2;have b:=ZE (o_ y g2) B.p;have c2:((f.alloc (Z zC 87)).setRow f.heap.size (z8 x)).heap[f.heap.size]?=S (Z (z8 x) 87):=Zt Zv;have h2:=qN hb (q7 (Nat.le_of_lt B.lt) (ZR y));show n_ _ _ _ _ ((f.alloc (Z zC 87)).setRow f.heap.size (z8 x));generalize (f.alloc (Z zC 87)).setRow f.heap.size (z8 x)=w6 at o b c2|-;generalize f.heap.size=b2 at c2 h2|-;clear y g2 B q
  have e:(c_.info? 70).map (·.size)=S A.toList.length:=by rw[ZX,J];exact jJ
  go_upto_region 7 with fail;refine ZT (S:=λW=>W.heap[b1]?=S (Z A 70)/\W.heap[b2]?=S (Z (z8 x) 87)/\Tm w W) WR ⟨b,c2,o.next ZO.drew⟩ (λd=>?_);refine ty 1 (Zc A) R (wY e Vb _ R b1 R (λ_ h=>h.1)) d ?_;refine ZB 2 (Zc (z8 x)) R (λw h=>by have c0:=Zs (j:=0) h.2.1;have c1:=Zs (j:=1) h.2.1;have c2:=Zs (j:=2) h.2.1;simp only[z8]at c0 c1 c2;go_simp;rfl) d ?_
  refine rd 0 λK hK=>?_;go_simp;refine Z0 (qxk _) λf y=>?_;refine hK.out _ _ ⟨ZE y d.1,ZE y d.2.1,d.2.2.next y⟩ λd=>?_;clear hK K;refine rd 3 λK hK=>?_;go_simp;refine Z0 (p.a _ d.2.2.gr) λf y=>?_;refine hK.out _ _ ⟨ZE y d.1,ZE y d.2.1,d.2.2.next y⟩ λd=>?_;clear hK K;refine tq 4 (Za (!c)) d ?_;refine ZZ WR ?_ _;clear o b c2;obtain⟨b,c2,o⟩:=d;clear p y;cases c
  .go_wp2_with(first|(refine ZC w.heap.size b_ o.ps xF xH ?_)|(refine ZU R 87 _ _ R (w.heap.size+1) zC R R 87 zC (o.second _) xW R vP ?_));refine ZS (v:=Ze #[Zc b_,Zc zC,I L 4]) ?_ R ⟨by rw[<-hr.a];rfl,(o.out _ _).2.2⟩;exact xk o R R _ _ xF R R
  .go_upto_region 9 with fail;refine ZT (S:=λW=>W.heap[b1]?=S (Z A 70)/\W.heap[b2]?=S (Z (z8 x) 87)) WR ⟨b,c2⟩ (λd=>?_);have o:=o.next ZO.drew;refine ty 0 (Zc A) R (wY e Vb _ R b1 R (λ_ h=>h.1)) d ?_;refine ZB 1 (Zc (z8 x)) R (λw h=>by have c0:=Zs (j:=0) h.2;have c1:=Zs (j:=1) h.2;have c2:=Zs (j:=2) h.2;simp only[z8]at c0 c1 c2;go_simp;rfl) d ?_;refine rd 2 λK hK=>?_;rw[qI Vb];refine YQ 70 _ _ R _ A R R 70 _ o.ps (by rw[J];exact q9) (by rw[J];exact xF.symm) ho.a ?_;refine hK.out _ _ ⟨by rw[setRow_other _ _ _ _ (by omega)];exact d.1,by rw[setRow_other _ _ _ _ (by omega)];exact d.2⟩ λd=>?_;clear hK K;try simp only[py]
   refine rd 3 λK hK=>?_;rw[qI Vb];refine YQ 87 _ _ R _ (z8 x) R R 87 _ (o.second _) xW R f1 ?_;refine hK.out _ _ ⟨by rw[setRow_other _ _ _ _ (by omega)];exact d.1,by rw[setRow_other _ _ _ _ (by omega)];exact d.2⟩ λd=>?_;clear hK K;try simp only[py]
   refine rd 4 λK hK=>?_;go_simp;refine hK.out _ _ d λd=>?_;clear hK K;refine ZZ WR ?_ _;go_wp2;refine ZS (v:=Ze #[Zc A,Zc (z8 x),I L 0]) ?_ R ⟨by rw[<-hr.a];rfl,(o.out _ _).2.2⟩;exact xk o R R _ _ J R R
def J_(k:Int)(s:y_)(t:I4)(F:Mv->I4):I4×Int:=if k≠0 then(⟨#[]⟩,k)else match yn t with|none=>(⟨#[]⟩,1)|some x=>if s.mov.any (λz=>z==x) then(F x,0)else(⟨#[]⟩,4)
def qaU(A:I0)(k:Int)(s:y_)(t:I4):(∃e,e≠0/\i9 A k s t=(b_,zC,e)/\∀F,J_ k s t F=(⟨#[]⟩,e))\/∃x,k=0/\x∈s.mov/\yn t=S x/\i9 A k s t=(A,z8 x,0)/\∀F,J_ k s t F=(F x,0):=by
 unfold i9 J_;by_cases h:k≠0
 .rw[qI h];exact Zi ⟨k,h,R,λF=>qI h⟩
 .rw[qF h];simp only[qF h];cases e:yn t with
  | none=>exact Zi ⟨1,WW,R,λ_=>R⟩
  | some x=>
   by_cases c:s.mov.any (λz=>z==x)=Zk
   .simp only[c,if_true];exact Zj ⟨x,Decidable.of_not_not h,F8 c,R,R,λ_=>R⟩
   .simp only[c];exact Zi ⟨4,WW,R,λ_=>R⟩
def qbl{s:y_}{Q:I0}(i:s.row Q)(l:s.ok)(W:I6)(g:HG W):ZL 239 #[Zc Q] W (Zb (xJ s.text)):=by obtain⟨a,b,c,d⟩:=Ok.clk l;exact Kl i (by have:=l.b0;have:=l.b1;omega) a b c d W g
def qaJ{T t:I4}{k:Int}{s:y_}{r:I4×Int}(h:dk T w A k s)(ht:t.size<4294967281)(l:T_ m w)(hr:Y (J_ k s t (λx=>xJ (s.aft x).text)=r)):ZL 170 #[Zb T,Zb t] w (Ze #[Zb r.1,I L r.2]):=by
 have K:=X (qaj h ht l.ct l.tb (X R));obtain⟨e,a,b,c⟩|⟨⟨f,t',u⟩,rfl,hx,_,b,c⟩:=qaU A k s t
 .rw[b]at K;rw[c]at hr;clear h l b c;unfold ZL;go_in;have a:(e !=0)=Zk:=by rw[bne_iff_ne];exact a
  go_upto_region 2 with(first|(go_at_call 31;refine Z0 K.a λi y=>?_)|(refine ZC i.heap.size b_ (Tm.start i).ps xF xH ?_)|(refine ZU R 87 _ _ R (i.heap.size+1) zC R R 87 zC ((Tm.start i).second _) xW R vP ?_));have d:=(Tm.start i).out b_ zC;go_wp2;go_ret2;exact⟨by rw[<-hr.a];rfl,o_ y d.2.2⟩
 .obtain⟨_,a,hrow,_⟩|⟨a,_⟩:=h.c;rotate_left
  .exact w_ R a
  obtain⟨c1,c2,c3,c4⟩:=a.clk;obtain⟨hf,h2,_,k1,k2⟩:=a.mv hx;have q:=X (λW (g:Gr w W)=>iJ hrow f t' u hf h2 k1 k2 c1 c2 c3 c4 W (l.gr g).ct.homes);have p:=X (λ(W:I6)(g:Gr w W)(Q:I0)(i:(s.aft (f,t',u)).row Q)=>qbl i (y_.ok_aft a hx) W (l.gr g).pw);have J:=h.z;have ho:=X h.o;rw[b]at K;rw[c]at hr
  clear h l b c a hrow hf h2 k1 k2 c1 c2 c3 c4 hx;unfold ZL;go_in;go_upto_region 2 with(first|(go_at_call 31;refine Z0 K.a λi y=>?_)|(refine ZC i.heap.size A (Tm.start i).ps J ho.a ?_)|(refine ZU R 87 _ _ R (i.heap.size+1) (z8 (f,t',u)) R R 87 zC ((Tm.start i).second _) xW R (by simp[z8,Value.oneCell']) ?_));obtain⟨b,c,d⟩:=(Tm.start i).out A (z8 (f,t',u));have d:=o_ y d;show n_ _ _ _ _ ((((i.alloc (Z b_ 70)).alloc (Z zC 87)).setRow i.heap.size A).setRow (i.heap.size+1) (z8 (f,t',u)));generalize ((((i.alloc (Z b_ 70)).alloc (Z zC 87)).setRow i.heap.size A).setRow (i.heap.size+1) (z8 (f,t',u)))=w4 at b c d|-;generalize i.heap.size=b1 at b c|-;clear y K;go_wp2_with(first|(refine ZD b1 A b J ?_)|(refine ZV R 87 _ R (b1+1) R 87 (z8 (f,t',u)) (0,0) _ c underlying87 rfl xW ?_)|(go_at_call 50;refine(q.a _ d).mono ?_;rintro e w5 ⟨Q,rfl,i,y⟩)|(go_at_call 239;refine Z0 (p.a _ (o_ d y) _ i) λf j=>?_));go_ret2;exact⟨by rw[<-hr.a];rfl,o_ (o_ d y) j⟩
def qao{T t:I4}{k:Int}{s:y_}{r:I4×Int}(h:dk T w A k s)(ht:t.size<4294967281)(l:T_ m w)(hr:Y (J_ k s t (λx=>xJ (uj s.z s.wh s.fc s.b x))=r)):ZL 14 #[Zb T,Zb t] w (Ze #[Zb r.1,I L r.2]):=by
 have K:=X (qaj h ht l.ct l.tb (X R));obtain⟨e,a,b,c⟩|⟨⟨f,t',u⟩,rfl,hx,_,b,c⟩:=qaU A k s t
 .rw[b]at K;rw[c]at hr;clear h l b c;unfold ZL;go_in;have a:(e !=0)=Zk:=by rw[bne_iff_ne];exact a
  go_upto_region 2 with(first|(go_at_call 31;refine Z0 K.a λi y=>?_)|(refine ZC i.heap.size b_ (Tm.start i).ps xF xH ?_)|(refine ZU R 87 _ _ R (i.heap.size+1) zC R R 87 zC ((Tm.start i).second _) xW R vP ?_));have d:=(Tm.start i).out b_ zC;go_wp2;go_ret2;exact⟨by rw[<-hr.a];rfl,o_ y d.2.2⟩
 .obtain⟨_,a,hrow,_⟩|⟨a,_⟩:=h.c;rotate_left
  .exact w_ R a
  have q:=X (λW (g:Gr w W)=>pe hrow a f t' u hx W (l.gr g).ct.tab (l.gr g).tb.cas (l.gr g).ct.homes);have J:=h.z;have ho:=X h.o;rw[b]at K;rw[c]at hr
  clear h l b c a hrow hx;unfold ZL;go_in;go_upto_region 2 with(first|(go_at_call 31;refine Z0 K.a λi y=>?_)|(refine ZC i.heap.size A (Tm.start i).ps J ho.a ?_)|(refine ZU R 87 _ _ R (i.heap.size+1) (z8 (f,t',u)) R R 87 zC ((Tm.start i).second _) xW R (by simp[z8,Value.oneCell']) ?_));obtain⟨b,c,d⟩:=(Tm.start i).out A (z8 (f,t',u));have d:=o_ y d;show n_ _ _ _ _ ((((i.alloc (Z b_ 70)).alloc (Z zC 87)).setRow i.heap.size A).setRow (i.heap.size+1) (z8 (f,t',u)));generalize ((((i.alloc (Z b_ 70)).alloc (Z zC 87)).setRow i.heap.size A).setRow (i.heap.size+1) (z8 (f,t',u)))=w4 at b c d|-;generalize i.heap.size=b1 at b c|-;clear y K
  have e:(c_.info? 70).map (·.size)=S A.toList.length:=by rw[ZX,J];exact jJ
  go_upto_region 4 with fail;refine ZT (S:=λW=>W.heap[b1]?=S (Z A 70)/\W.heap[b1+1]?=S (Z (z8 (f,t',u)) 87)/\Gr w W) WR ⟨b,c,d.drew⟩ (λd=>?_);refine ty 1 (Zc A) R (wY e Vb _ R b1 R (λ_ h=>h.1)) d ?_;refine ZB 2 (Zc (z8 (f,t',u))) R (λw h=>by obtain⟨c0,c1,c2⟩:=qm h.2.1;go_simp;rfl) d ?_;refine rd 0 λK hK=>?_;go_simp;refine Z0 (qxk _) λf y=>?_;refine hK.out _ _ ⟨ZE y d.1,ZE y d.2.1,o_ d.2.2 y⟩ λd=>?_;clear hK K;refine rd 3 λK hK=>?_;go_simp;refine Z0 (q.a _ d.2.2) λf y=>?_;refine hK.out _ _ ⟨ZE y d.1,ZE y d.2.1,o_ d.2.2 y⟩ λd=>?_;clear hK K
  refine rd 4 λK hK=>?_;go_simp;refine hK.out _ _ d λd=>?_;clear hK K;refine rd 5 λK hK=>?_;go_simp;refine hK.out _ _ d λd=>?_;clear hK K;refine ZZ WR ?_ _;go_wp2;go_ret2;exact⟨by rw[<-hr.a];rfl,d.2.2⟩
def X'(k:Int)(s:y_)(t:I4):I4×Int:=if k≠0 then(⟨#[]⟩,k)else match cU s.z s.wh s.fc s.b t with|[]=>(⟨#[]⟩,4)|x::_=>(xJ (yJ x),0)
def qbu{s:y_}(a:s.ok)(t:I4):∃(x:Mv)(c:Bool),Ze #[gJ ((cU s.z s.wh s.fc s.b t).headD (0,0,0)),Za (!(cU s.z s.wh s.fc s.b t).isEmpty)]=Ze #[Zc (z8 x),Za c]/\(c=Zl->X' 0 s t=(⟨#[]⟩,4))/\(c=Zk->X' 0 s t=(xJ (yJ x),0)/\x.1<64/\x.2.1<64):=by
 unfold X';cases h:cU s.z s.wh s.fc s.b t with
 | nil=>exact⟨(0,0,0),Zl,R,λ_=>by simp,λe=>by cases e⟩
 | cons x l=>have:=a.mv (Hv (show x∈cU s.z s.wh s.fc s.b t by rw[h];simp)).1;exact⟨x,Zk,R,λe=>(by cases e),λ_=>⟨by simp,this.1,this.2.1⟩⟩
def qaM{T t:I4}{k:Int}{s:y_}{r:I4×Int}(h:dk T w A k s)(l:T_ m w)(hr:Y (X' k s t=r)):ZL 16 #[Zb T,Zb t] w (Ze #[Zb r.1,I L r.2]):=by
 have K:=X (h.p w ZO);have J:=h.z;have ho:=X h.o;have hc:=h.c;clear h
 unfold ZL;go_in;go_upto_region 2 with(first|(go_at_call 34;refine Z0 K λi y=>?_)|(refine ZC i A Zv J ho.a ?_));have B:=Y_ (A:=A) y;generalize (i.alloc (Z b_ 70)).setRow i A=w4 at B|-;generalize i.heap.size=b1 at B|-;clear y K
 obtain⟨rfl,a,b,_⟩|⟨a,_⟩:=hc;rotate_left
 .have e:(k !=0)=Zk:=by rw[bne_iff_ne];exact a
  unfold X' at hr;rw[qI a]at hr;clear a l;go_wp2;go_ret2;exact⟨by rw[<-hr.a];rfl,B.gr⟩
 obtain⟨x,c,v,h0,h1⟩:=qbu a t;have q:=X (λW (g:Gr w W)=>nM b a t W (l.gr g).ct.tab (l.gr g).tb.cas (l.gr g).ct.homes);rw[v]at q;have h0:=X h0;have h1:=X h1;clear v a b l
 have e:(c_.info? 70).map (·.size)=S A.toList.length:=by rw[ZX,J];exact jJ
 go_upto_region 4 with fail;refine ZT (S:=λW=>W.heap[b1]?=Z A 70/\Gr w W) WR ⟨B.p,B.gr.drew⟩ (λd=>?_);have nx:∀{W V:I6},W.heap[b1]?=Z A 70/\Gr w W->Gr W V->V.heap[b1]?=Z A 70/\Gr w V:=λd y=>⟨ZE y d.1,o_ d.2 y⟩
 clear B;generalize w4.drew=wd at d|-;apply ty 1 A R (wY e Vb _ R b1 R (λ_ h=>h.1)) d;apply tq 2 t d;apply Xk (rs:=[0,7]) WR WU;refine Yc R (λK hK=>?a0) (Yc R (λK hK=>?b0) Xb)
 case' a0=>
  go_simp;refine Z0 (qxk _) λf y=>?_;refine hK.out _ _ (nx d y) λd=>?_;clear hK K;try simp only[py]
  apply Xk (rs:=[3,7]) WR WU;refine Yc R (λK hK=>?a1) (Yc R (λK hK=>?b1) Xb)
 case' a1=>
  go_simp;refine Z0 (q _ d.2) λf y=>?_;refine hK.out _ _ (nx d y) λd=>?_;clear hK K;try simp only[py]
  apply tq 4 (Ze #[z8 x,c]) d;apply tq 5 (z8 x) d;apply tq 6 c d;refine rd 7 λK hK=>?_;go_simp;have F:=Z7 f (Z #[I L 0,I L 0,I Zg 0] 87);have hb:=(qB.1 d.1).1;have hw:=ZR d.2;refine hK.out _ _ (nx d ZN) λd=>?_;clear hK K;try simp only[py]
  generalize f.alloc _=wz at F d|-;generalize f.heap.size=B at F hb hw|-
 case' b1=>
  go_simp;have F:=Z7 f (Z #[I L 0,I L 0,I Zg 0] 87);have hb:=(qB.1 d.1).1;have hw:=ZR d.2;refine hK.out _ _ (nx d ZN) λd=>?_;clear hK K;try simp only[py]
  generalize f.alloc _=wz at F d|-;generalize f.heap.size=B at F hb hw|-;refine rd 3 λK hK=>?_;go_simp;refine Z0 (q _ d.2) λf y=>?_;have F:=ZE y F;refine hK.out _ _ (nx d y) λd=>?_;clear hK K;try simp only[py]
  apply tq 4 (Ze #[z8 x,c]) d;apply tq 5 (z8 x) d;apply tq 6 c d
 case' b0=>
  go_simp;have F:=Z7 wd (Z #[I L 0,I L 0,I Zg 0] 87);have hb:=(qB.1 d.1).1;have hw:=ZR d.2;refine hK.out _ _ (nx d ZN) λd=>?_;clear hK K;try simp only[py]
  generalize wd.alloc _=wz at F d|-;generalize wd.heap.size=B at F hb hw|-;refine rd 0 λK hK=>?_;go_simp;refine Z0 (qxk _) λf y=>?_;have F:=ZE y F;refine hK.out _ _ (nx d y) λd=>?_;clear hK K;try simp only[py]
  refine rd 3 λK hK=>?_;go_simp;refine Z0 (q _ d.2) λf y=>?_;have F:=ZE y F;refine hK.out _ _ (nx d y) λd=>?_;clear hK K;try simp only[py]
  apply tq 4 (Ze #[z8 x,c]) d;apply tq 5 (z8 x) d;apply tq 6 c d
 all_goals
  refine rd 8 λK hK=>?_;rw[qI Vb];apply YQ 87 _ _ R B (z8 x) R R 87 _ F xW R (by simp[z8,Value.oneCell']);have F:=Zt (cs:=z8 x) F;refine hK.out _ _ ⟨by rw[setRow_other _ _ _ _ (by omega)];exact d.1,d.2.setRow _ hw _⟩ λd=>?_;clear hK K;try simp only[py]
  refine rd 9 λK hK=>?_;go_simp;refine hK.out _ _ d λd=>?_;clear hK K;refine ZZ WR ?_ _;have d:=d.2;clear q nx;cases c
  .go_wp2;go_ret2;exact⟨by rw[<-hr.a,h0.a WU];rfl,d⟩
  .obtain⟨h1,h2,h3⟩:=h1 WU;rw[h1]at hr;have q:=X (λW=>gK x.1 x.2.1 h2 h3 x.2.2 W);clear h0 h1 h2 h3;go_wp2_with(first|(refine ZV R 87 _ R B R 87 (z8 x) (0,0) _ F underlying87 rfl xW ?_)|(go_at_call 38;refine Z0 (q _) λf y=>?_));go_ret2;exact⟨by rw[<-hr.a];rfl,o_ d y⟩
structure gt(w W:I6):Prop where
 ps:W.heap[w.heap.size]?=S (Z b_ 70)
 mv:W.heap[w.heap.size+1]?=S (Z ku 74)
 lt:w.heap.size+1<W.heap.size
 gr:Gr w W
def gt.next(h:gt w W)(g:Gr W a):gt w a:=⟨ZE g h.ps,ZE g h.mv,qN h.lt (ZR g),o_ h.gr g⟩
def gt.start(w:I6):gt w ((w.alloc (Z b_ 70)).alloc (Z ku 74)):=by obtain⟨a,b⟩:=x6 w (Z b_ 70) (Z ku 74);exact⟨a,b,by rw[Z3,Z3];omega,ZN.al⟩
def gt.second(h:gt w W)(A:I0):(W.setRow w.heap.size A).heap[w.heap.size+1]?=S (Z ku 74):=by rw[setRow_other _ _ _ _ (by omega)];exact h.mv
def gt.out(h:gt w W)(A M:I0):((W.setRow w.heap.size A).setRow (w.heap.size+1) M).heap[w.heap.size]?=S (Z A 70)/\((W.setRow w.heap.size A).setRow (w.heap.size+1) M).heap[w.heap.size+1]?=S (Z M 74)/\Gr w ((W.setRow w.heap.size A).setRow (w.heap.size+1) M):=⟨by rw[setRow_other _ _ _ _ (by omega)];exact Zt h.ps,Zt (h.second A),(h.gr.setRow _ Zy _).setRow _ (by omega) _⟩
noncomputable def X_(A:I0)(k d lo n:Int):I0×I0×Int:=if k≠0 then(b_,ku,k)else if d<lo\/3<d then(b_,ku,5)else if n=1 then(A,mc,0)else if n=2 then(A,jP,0)else(b_,ku,3)
def By{k:Int}{tmps:I0}(o:gt w W)(h4:tmps.getD 8 m_=ZI w.heap.size)(h5:tmps.getD 9 m_=ZI (w.heap.size+1))(P M:I0)(hP:P.size=72)(hM:M.size=2)(h6:tmps.getD 10 m_=I L k):(results f21 tmps).run c_ ((W.setRow w.heap.size P).setRow (w.heap.size+1) M)=.ok (Ze #[Zc P,Zc M,I L k]) ((W.setRow w.heap.size P).setRow (w.heap.size+1) M):=by
 rw[<-h6];exact qaE results21 _ _ w (w+1) 70 74 _ _ (0,0) (0,0) _ _ h4 (o.out _ _).1 s_ rfl (by rw[hP];exact q9) h5 (o.out _ _).2.1 underlying74 rfl (by rw[hM];exact yU)
def qaY(A:I0)(n:Int):(∃q,(∃u x,q=zG u x)/\FV n=Ze #[Zc q,Za Zk]/\∀d lo,¬(d<lo\/3<d)->X_ A 0 d lo n=(A,q,0))\/(FV n=Ze #[Zc ku,Za Zl]/\∀d lo,¬(d<lo\/3<d)->X_ A 0 d lo n=(b_,ku,3)):=by
 by_cases a:n=1
 .subst a;exact Zi ⟨mc,⟨_,_,R⟩,R,λd lo h=>by unfold X_;rw[qF (by simp),qF h,qI R]⟩
 by_cases b:n=2
 .subst b;exact Zi ⟨jP,⟨_,_,R⟩,R,λd lo h=>by unfold X_;rw[qF (by simp),qF h,qF a,qI R]⟩
 exact Zj ⟨by unfold FV;rw[qF a,qF b],λd lo h=>by unfold X_;rw[qF (by simp),qF h,qF a,qF b]⟩
def qak{T:I4}{k d lo n:Int}{s:y_}{r:I0×I0×Int}(h:dk T w A k s)(hr:Y (X_ A k d lo n=r)):ZL 21 #[Zb T,I L d,I L lo,I L n] w (Ze #[Zc r.1,Zc r.2.1,I L r.2.2]):=by
 have o:=gt.start w;have K:=X (h.p _ o.gr);have J:=h.z;have ho:=X h.o;have hc:=h.c;have q:=X (λW=>sJ n W);clear h
 unfold ZL;go_in;go_upto_region 1 with fail;show n_ _ _ _ _ ((w.alloc (Z b_ 70)).alloc (Z ku 74));generalize (w.alloc _).alloc _=w0 at o K|-;go_upto_region 2 with(first|(go_at_call 34;refine Z0 K.a λi y=>?_)|(refine ZC i.heap.size A Zv J ho.a ?_));have B:=Y_ (A:=A) y;have hb:=qN o.lt (ZR y);have o:=o.next B.gr;generalize (i.alloc (Z b_ 70)).setRow i.heap.size A=w4 at B o|-;generalize i.heap.size=b1 at B hb|-;clear y K
 have f1:ku.all (·.oneCell')=Zk:=by simp[ku,Value.oneCell']
 obtain⟨e,c1,c2⟩:∃e:Int,((k !=0)=Zk/\e=k\/k=0/\d<lo/\e=5\/k=0/\¬d<lo/\3<d/\e=5\/e=0/\k=0/\¬d<lo/\¬3<d)/\Y (e≠0->X_ A k d lo n=(b_,ku,e)):=by
  unfold X_;by_cases a:k=0
  .by_cases b:d<lo\/3<d
   .exact⟨5,by by_cases c:d<lo;exact Zj (Zi ⟨a,c,R⟩);exact Zj (Zj (Zi ⟨a,c,O,R⟩)),X λ_=>by rw[qF (by simpa using a),qI b]⟩
   .exact⟨0,Zj (Zj (Zj ⟨R,a,O,O⟩)),X λh=>w_ R h⟩
  .exact⟨k,Zi ⟨by rw[bne_iff_ne];exact a,R⟩,X λ_=>qI a⟩
 clear hc;obtain⟨a,rfl⟩|⟨rfl,a,rfl⟩|⟨rfl,a,b,rfl⟩|⟨rfl,rfl,a,b⟩:=c1;rotate_right
 .clear c2;have a:¬(d<lo\/3<d):=O
  obtain⟨q',⟨u,x,rfl⟩,v,c⟩|⟨v,c⟩:=qaY A n;rotate_left
  .rw[v]at q;rw[c d lo a]at hr;clear c v a;go_wp2_with(first|(go_at_call 35;refine Z0 (q.a _) λf y=>?_;have o:=o.next y)|(refine ZU R 74 _ _ R f.heap.size ku R R 74 ku Zv yU R f1 ?_;have o:=o.next ((ZN (c:=#[.nilFunc,.nilFunc]) (t:=74)).setRow f.heap.size Zy ku))|(refine ZC w.heap.size b_ o.ps xF xH ?_)|(refine ZU R 74 _ _ R (w.heap.size+1) ku R R 74 ku (o.second _) yU R f1 ?_));refine ZS (v:=Ze #[Zc b_,Zc ku,I L 3]) ?_ R ⟨by rw[<-hr.a],(o.out _ _).2.2⟩;exact By o R R _ _ xF R R
  rw[v]at q;rw[c d lo a]at hr;clear c v a;go_upto_region 7 with(first|(go_at_call 35;refine Z0 (q.a _) λf y=>?_;have o:=o.next y)|(refine ZU R 74 _ _ R f.heap.size (zG u x) R R 74 ku Zv yU R (qxi _ _) ?_));have g2:Gr f ((f.alloc (Z ku 74)).setRow f.heap.size (zG u x)):=ZN.setRow _ Zy _;have o:=o.next g2;have b:=ZE (o_ y g2) B.p;have c2:((f.alloc (Z ku 74)).setRow f.heap.size (zG u x)).heap[f.heap.size]?=S (Z (zG u x) 74):=Zt Zv;have h2:=qN hb (q7 (Nat.le_of_lt B.lt) (ZR y));show n_ _ _ _ _ ((f.alloc (Z ku 74)).setRow f.heap.size (zG u x));generalize (f.alloc (Z ku 74)).setRow f.heap.size (zG u x)=w6 at o b c2|-;generalize f.heap.size=b2 at c2 h2|-;clear y g2 B q
  have e:(c_.info? 70).map (·.size)=S A.toList.length:=by rw[ZX,J];exact jJ
  go_upto_region 9 with fail;refine ZT (S:=λW=>W.heap[b1]?=S (Z A 70)/\W.heap[b2]?=S (Z (zG u x) 74)) WR ⟨b,c2⟩ (λd=>?_);have o:=o.next ZO.drew;refine ty 0 (Zc A) R (wY e Vb _ R b1 R (λ_ h=>h.1)) d ?_;refine ZB 1 (Zc (zG u x)) R (λw h=>by have c0:=Zs (j:=0) h.2;have c1:=Zs (j:=1) h.2;simp only[zG]at c0 c1;go_simp;rfl) d ?_;refine rd 2 λK hK=>?_;rw[qI Vb];refine YQ 70 _ _ R _ A R R 70 _ o.ps (by rw[J];exact q9) (by rw[J];exact xF.symm) ho.a ?_;refine hK.out _ _ ⟨by rw[setRow_other _ _ _ _ (by omega)];exact d.1,by rw[setRow_other _ _ _ _ (by omega)];exact d.2⟩ λd=>?_;clear hK K;try simp only[py]
  refine rd 3 λK hK=>?_;rw[qI Vb];refine YQ 74 _ _ R _ (zG u x) R R 74 _ (o.second _) yU R (qxi _ _) ?_;refine hK.out _ _ ⟨by rw[setRow_other _ _ _ _ (by omega)];exact d.1,by rw[setRow_other _ _ _ _ (by omega)];exact d.2⟩ λd=>?_;clear hK K;try simp only[py]
  refine rd 4 λK hK=>?_;go_simp;refine hK.out _ _ d λd=>?_;clear hK K;refine ZZ WR ?_ _;go_wp2;refine ZS (v:=Ze #[Zc A,Zc (zG u x),I L 0]) ?_ R ⟨by rw[<-hr.a],(o.out _ _).2.2⟩;exact By o R R _ _ J R R
 rotate_left
 all_goals
  clear q;go_wp2_with(first|(refine ZC w.heap.size b_ o.ps xF xH ?_)|(refine ZU R 74 _ _ R (w.heap.size+1) ku R R 74 ku (o.second _) yU R f1 ?_))
 rotate_right
 .rw[c2.a (bne_iff_ne.1 a)]at hr;refine ZS (v:=Ze #[Zc b_,Zc ku,I L e]) ?_ R ⟨by rw[<-hr.a],(o.out _ _).2.2⟩;exact By o R R _ _ xF R R
 all_goals rw[c2.a WW]at hr;refine ZS (v:=Ze #[Zc b_,Zc ku,I L 5]) ?_ R ⟨by rw[<-hr.a],(o.out _ _).2.2⟩;exact By o R R _ _ xF R R
def I_{α:Type}(z v:α)(k d lo n:Int):α×Int:=if k≠0 then(z,k)else if d<lo\/3<d then(z,5)else if n=1\/n=2 then(v,0)else(z,3)
def qam(A:I0)(k d lo n:Int):(∃e,e≠0/\X_ A k d lo n=(b_,ku,e)/\∀(α:Type)(z v:α),I_ z v k d lo n=(z,e))\/∃u x gi,k=0/\lo<=d/\d<=3/\LB n u x gi/\X_ A k d lo n=(A,zG u x,0)/\∀(α:Type)(z v:α),I_ z v k d lo n=(v,0):=by
 unfold X_ I_;by_cases a:k≠0
 .rw[qI a];exact Zi ⟨k,a,R,λ_ _ _=>qI a⟩
 rw[qF a];by_cases b:d<lo\/3<d
 .rw[qI b];exact Zi ⟨5,WW,R,λ_ _ _=>by rw[qF a,qI b]⟩
 rw[qF b];by_cases c:n=1
 .subst c;exact Zj ⟨_,_,_,Decidable.of_not_not a,O,O,RO,R,λ_ _ _=>by rw[qF a,qF b,qI (Zi R)]⟩
 rw[qF c];by_cases e:n=2
 .subst e;exact Zj ⟨_,_,_,Decidable.of_not_not a,O,O,Ka,R,λ_ _ _=>by rw[qF a,qF b,qI (Zj R)]⟩
 rw[qF e];exact Zi ⟨3,WW,R,λ_ _ _=>by rw[qF a,qF b,qF (by omega)]⟩
def H'(s:y_)(d:Int):List R_:=HQ (d-1).toNat s.z s.wh s.fc s.b (jI (xC s.z s.wh s.fc s.b))
def qax(base:Nat)(W:I6):gs base (Zq N 0 0) [] W:=World.ownsRow_nil _ _ _ _
def qbf{T:I4}{k d n:Int}{s:y_}{r:List R_×Int}(h:dk T w A k s)(l:T_ m w)(hr:Y (I_ [] (H' s d) k d 1 n=r)):i_ c_ 11 #[Zb T,I L d,I L n] w λe w'=>(∃v,e=Zd (Ze #[v,I L r.2])/\gs w.heap.size v r.1 w')/\Gr w w':=by
 have K:=X (qak (d:=d) (lo:=1) (n:=n) h (X R));obtain⟨e,a,b,c⟩|⟨u,x,gi,rfl,h1,h3,lb,b,c⟩:=qam A k d 1 n
 .rw[b]at K;rw[c]at hr;have hf:Y (∀W,Gr w W->(∃v,Zd (Ze #[Zq N 0 0,I L e])=Zd (Ze #[v,I L r.2])/\gs w.heap.size v r.1 W)/\Gr w W):=λW g=>⟨⟨_,by rw[<-hr.a],by rw[<-hr.a];exact qax _ _⟩,g⟩
  clear h l b c hr;have f1:ku.all (·.oneCell')=Zk:=by simp[ku,Value.oneCell']
  go_in;have a:(e !=0)=Zk:=by rw[bne_iff_ne];exact a
  go_upto_region 2 with(first|(go_at_call 21;refine Z0 K.a λi y=>?_)|(refine ZC i.heap.size b_ (gt.start i).ps xF xH ?_)|(refine ZU R 74 _ _ R (i.heap.size+1) ku R R 74 ku ((gt.start i).second _) yU R f1 ?_));have d:=(gt.start i).out b_ ku;go_wp2;go_ret2;exact hf.a _ (o_ y d.2.2)
 .obtain⟨_,a,hrow,_⟩|⟨a,_⟩:=h.c;rotate_left
  .exact w_ R a
  obtain⟨j,rfl⟩:∃j:Nat,d=((j+1:Nat):Int):=⟨(d-1).toNat,O⟩
  have q:Y (∀g W,Gr w W->w.heap.size<=g->(∃S fr,W.heap[g]?=some (Z S 168 fr))->i_ c_ 26 #[Zc (C_ u x n g 0),Zc A,I L (j+1:Nat)] W λe w'=>∃v,e=Zd v/\gs W.heap.size v (H' s (j+1:Nat)) w'/\zm g W w'):=X λg W y h2 h3=>(KE (TG g) (l.wt.lt h2) lb j O a hrow W h3 (l.gr y).wt).mono λe w' h=>by
   obtain⟨v,rfl,a,b,_⟩:=h;refine⟨v,R,?_,b⟩;unfold H';rw[show((j+1:Nat):Int)-1=j by omega];exact a
  have J:=h.z;have ho:=X h.o;rw[b]at K;rw[c]at hr;have hf:Y (∀e W (V:I6) v,Gr w W->gs V.heap.size v (H' s (j+1:Nat)) W->e=I L 0->w.heap.size<=V.heap.size->(∃v',Zd (Ze #[v,e])=Zd (Ze #[v',I L r.2])/\gs w.heap.size v' r.1 W)/\Gr w W):=λe W V v g i e h=>⟨⟨v,by rw[<-hr.a,e],by rw[<-hr.a];exact qxn i h⟩,g⟩
  clear h b c a hrow lb hr;go_in;go_upto_region 2 with(first|(go_at_call 21;refine Z0 K.a λi y=>?_)|(refine ZC i.heap.size A (gt.start i).ps J ho.a ?_)|(refine ZU R 74 _ _ R (i.heap.size+1) (zG u x) R R 74 ku ((gt.start i).second _) yU R (qxi _ _) ?_));obtain⟨b,c,d⟩:=(gt.start i).out A (zG u x);have d:=o_ y d;show n_ _ _ _ _ ((((i.alloc (Z b_ 70)).alloc (Z ku 74)).setRow i.heap.size A).setRow (i.heap.size+1) (zG u x));generalize ((((i.alloc (Z b_ 70)).alloc (Z ku 74)).setRow i.heap.size A).setRow (i.heap.size+1) (zG u x))=w4 at b c d|-;generalize i.heap.size=b1 at b c|-;clear y K
  have e:(c_.info? 70).map (·.size)=S A.toList.length:=by rw[ZX,J];exact jJ
  go_upto_region 4 with fail;refine ZT (S:=λW=>W.heap[b1]?=S (Z A 70)/\W.heap[b1+1]?=S (Z (zG u x) 74)/\Gr w W) WR ⟨b,c,d.drew⟩ (λd=>?_);clear b c;generalize w4.drew=wd at d|-;refine ZB 0 (Zc (zG u x)) R (λw h=>by have c0:=Zs (j:=0) h.2.1;have c1:=Zs (j:=1) h.2.1;simp only[zG]at c0 c1;go_simp;rfl) d ?_;refine tq 1 (I L n) d ?_;refine ty 4 (Zc A) R (wY e Vb _ R b1 R (λ_ h=>h.1)) d ?_;refine tq 5 (I L (j+1:Nat)) d ?_;refine rd 2 λK hK=>?_;go_simp;refine(NS 0 WW _).mono ?_;rintro e f ⟨rfl,hm,y⟩;have hm:=RE hm;have hg:w.heap.size<=wd.heap.size+1:=by have:=ZR d.2.2;omega
  have g1:b1≠wd.heap.size+1:=by have:=(qB.1 d.1).1;omega
  have g2:b1+1≠wd.heap.size+1:=by have:=(qB.1 d.2.1).1;omega
  refine hK.out _ _ ⟨ZE y d.1,ZE y d.2.1,o_ d.2.2 y⟩ λd=>?_;clear hK K y;generalize wd.heap.size+1=g at hm hg g1 g2|-;try simp only[py]
  refine rd 3 λK hK=>?_;go_simp;refine Z0 (Rv u x n g 0 _) λf y=>?_;have hm:=hm.elim λS h=>h.elim λr h=>(⟨S,r,ZE y h⟩:∃S fr,f.heap[g]?=some (Z S 168 fr));refine hK.out _ _ ⟨ZE y d.1,ZE y d.2.1,o_ d.2.2 y⟩ λd=>?_;clear hK K y;try simp only[py]
  refine rd 6 λK hK=>?_;go_simp;refine(q.a g _ d.2.2 hg hm).mono ?_;rintro e f' ⟨v,rfl,hv,y⟩;have hl:=ZR d.2.2;refine hK.out _ _ ⟨y.at d.1 g1,y.at d.2.1 g2,((zm.of d.2.2).trans y).gr hg⟩ λd=>?_;clear hK K y;try simp only[py]
  refine rd 7 λK hK=>?_;go_simp;refine hK.out _ _ d λd=>?_;clear hK K;refine rd 8 λK hK=>?_;go_simp;refine hK.out _ _ d λd=>?_;clear hK K;refine ZZ WR ?_ _;go_wp2;go_ret2;exact hf.a _ _ f v d.2.2 hv R hl
section
open Go.MuLone
abbrev qbq:Go.Conc.Locks.MuLink:={lock:=22,unlock:=23,ilock:=43,iunlock:=44,lockSlow:=89,unlockSlow:=92,disable:=85,enable:=87,acquire:=88,relMerge:=90,cas32:=86,add32:=91,tMutex:=64,tIMutex:=62,tPMutex:=115,tPIMutex:=160,tPI32:=162,tUP:=164,tNoCopy:=59,tU32:=60}
def qaR:Go.Conc.Locks.MuLib c_ qbq:=⟨func22,func23,func43,func44,func85,func87,func88,func90,func86,func91,underlying62,runUnderlying62,sizeOf62,isAgg62,zeroValue62,underlying64,runUnderlying64,sizeOf64,isAgg64,zeroValue64,underlying115,runUnderlying115,sizeOf115,isAgg115,zeroValue115,underlying160,runUnderlying160,sizeOf160,isAgg160,zeroValue160,underlying162,runUnderlying162,sizeOf162,isAgg162,zeroValue162,underlying164,runUnderlying164,sizeOf164,isAgg164,zeroValue164,underlying59,runUnderlying59,sizeOf59,isAgg59,zeroValue59,underlying21,runUnderlying21,sizeOf21,isAgg21,zeroValue21,(by kernel_rfl)⟩
theorem qaA{P:Program}{fn:Func}{t1 t2:I0}{R:Ending->I6->Prop}(h:∀w,(results fn t1).run P w=(results fn t2).run P w):∀(ds:List Deferred)(u:FrameMode)(w:I6),Leaves P fn t1 R ds u w->Leaves P fn t2 R ds u w
 | [],.returning,w,⟨v,e,r⟩=>⟨v,(h w) ▸ e,r⟩
 | [],.panicking _,_,r=>r
 | [],.run,_,r=>r
 | _::ds,_,_,⟨hu,fv,cap,f,args,e1,e2,hc⟩=>⟨hu,fv,cap,f,args,e1,e2,hc.mono (λe u' w' r=>by
   cases e with
   | returned _=>exact qaA h ds _ _ r
   | panicked _=>exact qaA h ds _ _ r
   | outgrown=>exact r)⟩
def U'{i:Nat}{v:I7}{b:Act}{R:Ending->I6->Prop}{u:FrameMode}{w:I6}(h8:i≠8)(h9:i≠9)(h:Leaves c_ f10 (b.put (S i) v).tmps R (b.put (S i) v).defers u w):Leaves c_ f10 b.tmps R b.defers u w:=by
 refine qaA (λw'=>?_) _ _ _ h;rw[results_tmp2 results10 (b.put (S i) v).tmps c_ w',results_tmp2 results10 b.tmps c_ w'];simp[Act.put,Array.getD_eq_getD_getElem?,h8,h9]
structure AlQ(bc g n b1:Nat)(A:I0)(u x:Nat)(w W:I6):Prop where
 c:W.heap[bc]?=S (Z (R8 1 g n) 66)
 p:W.heap[b1]?=S (Z A 70)
 m:W.heap[b1+1]?=S (Z (zG u x) 74)
 i:LC g n W
 wt:Wt W
 fr:Fr (λk _=>k≠g/\k≠bc) w W
def AlQ.next{bc b1 u x:Nat}(h:AlQ bc g n b1 A u x w W)(f:zm g W a)(q:LD g)(h1:bc≠g)(h2:b1≠g)(h3:b1+1≠g)(hi:LC g n a):AlQ bc g n b1 A u x w a:=⟨f.at h.c h1,f.at h.p h2,f.at h.m h3,hi,h.wt.fx q f,Fr.trans h.fr (Fr.mono f λ_ _ _ q=>q.1)⟩
def qat{T:I4}{k D wn:Int}{s:y_}{r:Int×Int}{bc g n:Nat}(h:dk T w A k s)(l:T_ m w)(hC:Pb bc g n w)(hbw:LD bc)(hr:Y (I_ (0:Int) (s.paths D.toNat:Nat) k D 0 wn=r)):i_ c_ 10 #[ZI bc,Zb T,I L D,I L wn] w λe w'=>e=Zd (Ze #[I Zh r.1,I L r.2])/\zm g w w'/\Pb bc g n w':=by
 have K:=X (qak (d:=D) (lo:=0) (n:=wn) h (X R));obtain⟨e,a,b,c⟩|⟨u,x,gi,rfl,h1,h3,lb,b,c⟩:=qam A k D 0 wn
 .rw[b]at K;rw[c]at hr;have hf:Y (∀W,Gr w W->zm g w W/\Pb bc g n W):=X λW q=>⟨zm.of q,hC.gr q⟩
  clear h l b c hC;have f1:ku.all (·.oneCell')=Zk:=by simp[ku,Value.oneCell']
  go_enter_defers func10,ntmps10;have a:(e !=0)=Zk:=by rw[bne_iff_ne];exact a
  go_upto_region 2 with(first|(go_at_call 21;refine Z0 K.a λi y=>?_)|(refine ZC i.heap.size b_ (gt.start i).ps xF xH ?_)|(refine ZU R 74 _ _ R (i.heap.size+1) ku R R 74 ku ((gt.start i).second _) yU R f1 ?_));have d:=(gt.start i).out b_ ku;go_wp2;exact⟨Ze #[I Zh 0,I L e],results_tmp2 results10 _ _ _,by rw[<-hr.a],hf.a _ (o_ y d.2.2)⟩
 .obtain⟨_,a,hrow,_⟩|⟨a,_⟩:=h.c;rotate_left
  .exact w_ R a
  obtain⟨j,rfl⟩:∃j:Nat,D=(j:Int):=⟨D.toNat,O⟩
  have q:Y (∀W,LC g n W->Wt W->i_ c_ 25 #[Zc (C_ u x wn g n),Zc A,I L j] W λe w'=>e=Zd (I Zh (s.paths j:Nat))/\zm g W w'/\LC g n w'):=X λW i h=>HZ (Mc g n hC.le) hC.aw lb j O a hrow W i h
  have J:=h.z;have ho:=X h.o;rw[b]at K;rw[c,Int.toNat_natCast]at hr;have hwt:=X l.wt;have hgl:g<w.heap.size:=by obtain⟨_,_,e⟩:=(Mc g n hC.le).ob _ hC.m;exact(qB.1 e).1
  have hbl:=(qB.1 hC.c).1;have hCc:=X hC.c;have haw:=hC.aw;have hne:=hC.ne;have hle:=hC.le;have hm:=X hC.m;generalize s.paths j=PN at q hr;clear h b c a hrow lb h1 h3 hC l
  go_enter_defers func10,ntmps10;go_upto_region 2 with(first|(go_at_call 21;refine Z0 K.a λi y=>?_)|(refine ZC i.heap.size A (gt.start i).ps J ho.a ?_)|(refine ZU R 74 _ _ R (i.heap.size+1) (zG u x) R R 74 ku ((gt.start i).second _) yU R (qxi _ _) ?_));obtain⟨b,c,d⟩:=(gt.start i).out A (zG u x);have d:=o_ y d;have hb:=ZR y;show n_ _ _ _ _ ((((i.alloc (Z b_ 70)).alloc (Z ku 74)).setRow i.heap.size A).setRow (i.heap.size+1) (zG u x));generalize ((((i.alloc (Z b_ 70)).alloc (Z ku 74)).setRow i.heap.size A).setRow (i.heap.size+1) (zG u x))=w4 at b c d|-;generalize i.heap.size=b1 at b c hb|-;clear y K
  have c4:=ZE d hCc.a;have l0:w4.cell? bc=S (I .i32 0):=by rw[Zs c4];rfl
  have lf:w4.frozen? bc=Zl:=by simp[World.frozen?,c4]
  have fs:Fr (λk _=>k≠bc) w4 (w4.setCell bc (I .i32 1)):=(Fr.refl _ _).setCell _ (λ_ _ q=>q R);have S0:AlQ bc g n b1 A u x w (w4.setCell bc (I .i32 1)).drew:=⟨qv c4,fs.same _ _ b O,fs.same _ _ c O,(Mc g n hle).st _ _ hm.a (Fr.trans (p_ d) (Fr.drew (fs.mono λq _ _ e=>O))),(hwt.a.gr d).fx hbw (Fr.drew fs),Fr.trans (p_ d) (Fr.drew (fs.mono λq _ _ e=>e.2))⟩
  clear fs b c d hwt hm;go_upto_region 6 with(go_at_call 22;refine(lock_free qaR ⟨bc,0,N⟩ _ l0 lf).mono ?_;rintro e w5 ⟨rfl,rfl⟩)
  refine ZT (S:=AlQ bc g n b1 A u x w) WR S0 (λd=>?_);clear S0 l0 lf c4;have g1:b1≠g:=O
  have g2:b1+1≠g:=O
  have e:(c_.info? 70).map (·.size)=S A.toList.length:=by rw[ZX,J];exact jJ
  refine wpAnyH_take (i:=0) (v:=Zc (zG u x)) rfl WR WR WR (λ_ _ _ h=>U' (i:=31) WW WW h) (Zi ⟨by rfl,λw' h=>(by have c0:=Zs (j:=0) h.m;have c1:=Zs (j:=1) h.m;simp only[zG]at c0 c1;go_simp;rfl)⟩) d ?_;simp only[py]
  refine wpAnyH_take (i:=1) (v:=I L wn) rfl WR WR WR (λ_ _ _ h=>U' (i:=32) WW WW h) (Zi ⟨by rfl,λw' hw=>(by go_simp)⟩) d ?_;simp only[py]
  refine wpAnyH_take (i:=2) (v:=ZI bc) rfl WR WR WR (λ_ _ _ h=>U' (i:=33) WW WW h) (Zi ⟨by rfl,λw' hw=>(by go_simp)⟩) d ?_;simp only[py]
  refine wpAnyH_take (i:=3) (v:=ZI bc) rfl WR WR WR (λ_ _ _ h=>U' (i:=34) WW WW h) (Zi ⟨by rfl,λw' hw=>(by go_simp)⟩) d ?_;simp only[py]
  refine wpAnyH_take (i:=4) (v:=.pointer (S ⟨bc,2,N⟩)) rfl WR WR WR (λ_ _ _ h=>U' (i:=35) WW WW h) (Zi ⟨by rfl,λw' hw=>(by go_simp)⟩) d ?_;simp only[py]
  refine wpAnyH_take (i:=5) (v:=Zc #[F_ g n]) rfl WR WR WR (λ_ _ _ h=>U' (i:=36) WW WW h) (Zi ⟨by rfl,λw' h=>(by have c0:=Zs (j:=2) h.c;simp only[R8]at c0;go_simp)⟩) d ?_;simp only[py]
  refine wpAnyH_take (i:=7) (v:=Zc A) rfl WR WR WR (λ_ _ _ h=>U' (i:=38) WW WW h) (wY e Vb _ R b1 R (λ_ h=>h.p)) d ?_;simp only[py]
  refine wpAnyH_take (i:=8) (v:=I L j) rfl WR WR WR (λ_ _ _ h=>U' (i:=39) WW WW h) (Zi ⟨by rfl,λw' hw=>(by go_simp)⟩) d ?_;simp only[py]
  refine rd 6 λK hK=>?_;go_simp;refine Z0 (Rv u x wn g n _) λf y=>?_;refine hK.out _ _ (d.next (zm.of y) haw hne g1 g2 ((Mc g n hle).st _ _ d.i (p_ y))) λd=>?_;clear hK K y;try simp only[py]
  refine rd 9 λK hK=>?_;go_simp;refine(q.a _ d.i d.wt).mono ?_;rintro e f ⟨rfl,y,i⟩;refine hK.out _ _ (d.next y haw hne g1 g2 i) λd=>?_;clear hK K y i;try simp only[py]
  refine rd 10 λK hK=>?_;go_simp;refine hK.out _ _ d λd=>?_;clear hK K;try simp only[py]
  refine rd 11 λK hK=>?_;go_simp;refine hK.out _ _ d λd=>?_;clear hK K;refine ZZ WR ?_ _;have l1:f.cell? bc=S (I .i32 1):=by rw[Zs d.c];rfl
  have lf:f.frozen? bc=Zl:=by simp[World.frozen?,d.c]
  have fs:Fr (λk _=>k≠bc) f (f.setCell bc (I .i32 0)):=(Fr.refl _ _).setCell _ (λ_ _ q=>q R);have c9:(f.setCell bc (I .i32 0)).heap[bc]?=S (Z (R8 0 g n) 66):=qv d.c;have hf:Y (zm g w (f.setCell bc (I .i32 0))/\Pb bc g n (f.setCell bc (I .i32 0))):=X ⟨⟨fs.os.trans d.fr.os,fs.tape.trans d.fr.tape,fs.output.trans d.fr.output,q7 d.fr.size fs.size,λk o e q=>by
   by_cases h:k=bc
   .subst h;rw[hCc.a]at e;rw[c9];exact e
   .exact fs.same _ _ (d.fr.same k o e ⟨q,h⟩) h⟩,c9,(Mc g n hle).st _ _ d.i (fs.mono λq _ _ e=>O),haw,hne,hle⟩
  clear d fs c9;go_wp2;refine leaves_cons (f:=23) (args:=#[ZI bc]) WU (by simp[go_sem]) ?_;refine(unlock_deferred qaR ⟨bc,0,N⟩ .returning _ l1 lf).mono ?_;rintro e u' w'' ⟨rfl,rfl,rfl⟩;exact⟨Ze #[I Zh (PN:Nat),I L 0],results_tmp2 results10 _ _ _,by rw[<-hr.a],hf.a.1,hf.a.2⟩
end
def Hh{T:I4}{k k':Int}(h:iP T k)(i:iP T k'):k=k':=by
 obtain⟨rfl,a⟩|⟨rfl,p,a,b⟩:=h<;>obtain⟨rfl,c⟩|⟨rfl,q,c,d⟩:=i
 .rfl
 .rw[a]at c;cases c
 .rw[a]at c;cases c
 .rfl
def M_{T:I4}{k:Int}{p:pH}(h:iP T k)(a:xG T=S p)(b:xP p=Zk):False:=by
 obtain⟨_,c⟩|⟨_,q,c,d⟩:=h
 .rw[a]at c;cases c
 .rw[a]at c;rw[S.inj c,d]at b;cases b
def qbo{T t:I4}{k:Int}{s:y_}{e:Ending}(h:dk T w A k s)(hj:pJ T t e):(∃k' P M Q,k'≠0/\(∀F,J_ k s t F=(⟨#[]⟩,k'))/\P.size=72/\M.size=3/\Q.size=72/\Y (P.all (·.oneCell')=Zk)/\Y (M.all (·.oneCell')=Zk)/\Y (Q.all (·.oneCell')=Zk)/\e=Zd (Ze #[Zc P,Zc M,Zc Q,I L k']))\/(∃x P Q,x∈s.mov/\s.ok/\s.row P/\(s.aft x).row Q/\(∀F,J_ k s t F=(F x,0))/\e=Zd (Ze #[Zc P,Zc (z8 x),Zc Q,I L 0])):=by
 have key:∀k',k'≠0->iO T t k'->∀F,J_ k s t F=(⟨#[]⟩,k'):=λk' n i F=>by
  unfold J_;obtain⟨rfl,_,_,p,a,b,rfl⟩|⟨c,d⟩:=h.c
  .rw[qF WU];obtain i|⟨rfl,_,_,_,i⟩|⟨rfl,q,x,c,_,i,j⟩:=i
   .exact(M_ i a b).elim
   .rw[i]
   .rw[i];rw[a]at c;obtain rfl:=S.inj c;simp only;rw[qF];intro z;exact j ((PL a b x).2 (F8 z))
  .rw[qI c];obtain i|⟨rfl,_,i,j,_⟩|⟨rfl,q,x,i,j,_⟩:=i
   .rw[Hh d i]
   .exact(M_ d i j).elim
   .exact(M_ d i j).elim
 obtain⟨k',P,M,Q,a,b,c,d,f,g,i,j,rfl⟩|⟨p,x,Q,a,b,c,d,i,rfl⟩:=hj
 .exact Zi ⟨k',P,M,Q,a,key k' a b,c,d,f,X g,X i,X j,R⟩
 obtain⟨rfl,ok,row,q,a',b',rfl⟩|⟨_,f⟩:=h.c;rotate_left
 .exact(M_ f a b).elim
 rw[a]at a';obtain rfl:=S.inj a';have m:=(PL a b x).1 d
 refine Zj ⟨x,_,Q,m,ok,y_.row_of a,?_,λF=>?_,R⟩
 .exact jE.castle i λi D=>by unfold kB;show _=(yC p.castle i&&_);rw[fU _ D]
 .unfold J_;rw[qF WU,c];simp only;rw[qI];exact List.any_eq_true.2 ⟨x,m,WU⟩
def qbE(a:I6)(A M Q:I0):(BE a A M Q).heap[a.heap.size]?=S (Z A 70)/\(BE a A M Q).heap[a.heap.size+1]?=S (Z M 125):=by
 obtain⟨b,c,_,_⟩:=jG a (Z b_ 70) (Z zC 125) (Z b_ 70);unfold BE;constructor
 .rw[Zu O,Zu O];exact Zt b
 .rw[Zu O];exact Zt (by rw[Zu O];exact c)
def AlY(k:Int)(s:y_)(t:I4)(e:Ending):Prop:=∃P M Q k',P.size=72/\M.size=3/\Q.size=72/\Y (P.all (·.oneCell')=Zk)/\Y (M.all (·.oneCell')=Zk)/\Y (Q.all (·.oneCell')=Zk)/\(Y (k'≠0/\∀F,J_ k s t F=(⟨#[]⟩,k'))\/∃x,k'=0/\x∈s.mov/\s.ok/\s.row P/\M=z8 x/\(s.aft x).row Q/\Y (∀F,J_ k s t F=(F x,0)))/\e=Zd (Ze #[Zc P,Zc M,Zc Q,I L k'])
def qaP{T t:I4}{k:Int}{s:y_}(h:dk T w A k s)(hT:T.size<4294967281)(W:I6):i_ c_ 51 #[Zb T,Zb t] W λe w'=>AlY k s t e/\Gr W w':=(eh T t hT W).mono λe w' q=>⟨by
 obtain⟨k',P,M,Q,a,b,c,d,f,g,i,j,rfl⟩|⟨x,P,Q,a,b,c,d,f,rfl⟩:=qbo h q.1
 .exact⟨P,M,Q,k',c,d,f,g,i,j,Zi (X ⟨a,b⟩),R⟩
 .exact⟨P,z8 x,Q,0,jE.size c,R,jE.size d,X (qx c),X (by simp[z8,Value.oneCell']),X (qx d),Zj ⟨x,R,a,b,c,R,d,X f⟩,R⟩,q.2⟩
def qaq{T t:I4}{k:Int}{s:y_}{r:I4×Int}(h:dk T w A k s)(hT:T.size<4294967281)(hr:Y (J_ k s t (λx=>xJ (s.aft x).text)=r)):ZL 171 #[Zb T,Zb t] w (Ze #[Zb r.1,I L r.2]):=by
 have K:=X (qaP (t:=t) h hT w);clear h;unfold ZL;go_in;go_upto_region 2 with(first|(go_at_call 51;apply K.mono;rintro e D ⟨⟨P,M,Q,k',hP,hM,hQ,oP,oM,oQ,hc,rfl⟩,y⟩;obtain⟨y1,y2,y3,y4⟩:=jG D (Z b_ 70) (Z #[I L 0,I L 0,I Zg 0] 125) (Z b_ 70))|(refine ZC (D+2) Q VW hQ oQ.a ?_)|(refine ZU R 125 _ _ R (D+1) M R R 125 #[I L 0,I L 0,I Zg 0] Uu (by rw[hM];exact vi) (by rw[hM];rfl) oM.a ?_)|(refine ZC D P UI hP oP.a ?_));show n_ _ _ _ _ (BE D P M Q);have g:=o_ y (ru D P M Q);have b:=Q5 D P M Q;generalize BE D P M Q=w4 at g b|-;generalize D.heap.size=b1 at b|-;clear y1 y2 y3 y4 y K;obtain hc|⟨x,rfl,hx,ok,rP,rfl,rQ,hc⟩:=hc
 .have e:(k' != 0)=Zk:=by rw[bne_iff_ne];exact hc.1
  rw[hc.a.2]at hr;clear hc;go_wp2;go_ret2;exact⟨by rw[<-hr.a];rfl,g⟩
 .have q:=X (λW=>LO rQ (y_.ok_aft ok hx) W);rw[hc.a]at hr;clear rP rQ ok hx hc;go_wp2_with(first|(refine ZD (b1+2) Q b hQ ?_)|(go_at_call 73;refine Z0 (q _) λf y=>?_));go_ret2;exact⟨by rw[<-hr.a];rfl,o_ g y⟩
def qaf{T t:I4}{k:Int}{s:y_}{r:I4×Int}(h:dk T w A k s)(hT:T.size<4294967281)(hr:Y (J_ k s t (λx=>xJ (uj s.z s.wh s.fc s.b x))=r)):ZL 28 #[Zb T,Zb t] w (Ze #[Zb r.1,I L r.2]):=by
 have K:=X (qaP (t:=t) h hT w);clear h;unfold ZL;go_in;go_upto_region 2 with(first|(go_at_call 51;apply K.mono;rintro e D ⟨⟨P,M,Q,k',hP,hM,hQ,oP,oM,oQ,hc,rfl⟩,y⟩;obtain⟨y1,y2,y3,y4⟩:=jG D (Z b_ 70) (Z #[I L 0,I L 0,I Zg 0] 125) (Z b_ 70))|(refine ZC (D+2) Q VW hQ oQ.a ?_)|(refine ZU R 125 _ _ R (D+1) M R R 125 #[I L 0,I L 0,I Zg 0] Uu (by rw[hM];exact vi) (by rw[hM];rfl) oM.a ?_)|(refine ZC D P UI hP oP.a ?_));show n_ _ _ _ _ (BE D P M Q);have g:=o_ y (ru D P M Q);have b:=qbE D P M Q;generalize BE D P M Q=w4 at g b|-;generalize D.heap.size=b1 at b|-;clear y1 y2 y3 y4 y K;obtain hc|⟨x,rfl,hx,ok,rP,rfl,rQ,hc⟩:=hc
 .have e:(k' != 0)=Zk:=by rw[bne_iff_ne];exact hc.1
  rw[hc.a.2]at hr;clear hc;go_wp2;go_ret2;exact⟨by rw[<-hr.a];rfl,g⟩
 .have q:=X (λW=>qvd rP ok x.1 x.2.1 x.2.2 hx W);rw[hc.a]at hr;clear rP rQ ok hx hc;go_wp2_with(first|(refine ZD b1 P b.1 hP ?_)|(refine ZV R 125 _ R (b1+1) R 125 (z8 x) (0,0) _ b.2 underlying125 rfl vi ?_)|(go_at_call 52;refine Z0 (q _) λf y=>?_));go_ret2;exact⟨by rw[<-hr.a];rfl,o_ g y⟩
def qar{T:I4}{k:Int}{s:y_}(h:dk T w A k s):ZL 173 #[Zb T] w (Ze #[Zc (if k=0 then bx s.z s.wh s.fc s.b else xB Zl 0 0),I L k]):=by
 have x1:=Z7 w (Z (xB Zl 0 0) 186);have g0:Gr w (w.alloc (Z (xB Zl 0 0) 186)):=ZN;have K:=X (h.r (w.alloc (Z (xB Zl 0 0) 186)));have J:=h.z;have ho:=X h.o;have hc:=h.c;clear h;obtain⟨x,hx⟩:=Zn (if k=0 then bx s.z s.wh s.fc s.b else xB Zl 0 0);rw[hx.a];have hs:x.size=3:=by rw[<-hx.a];split<;>rfl
 have h1:Y (x.all (·.oneCell')=Zk):=(by rw[<-hx.a];split<;>exact xw _ _ _)
 unfold ZL;go_in;go_upto_region 2 with(first|(go_at_call 53;refine Z0 K λi y=>?_)|(refine ZC i A Zv J ho.a ?_));have B:=Y_ (A:=A) y;generalize (i.alloc (Z b_ 70)).setRow i A=w4 at B|-;generalize i.heap.size=b1 at B|-;have st:=ZE B.gr x1;have gw:=o_ g0 B.gr;clear y K x1 g0
 obtain⟨rfl,a,b,_⟩|⟨a,_⟩:=hc
 .obtain⟨k0,k1⟩:=a.king;obtain⟨c1,c2,c3,c4⟩:=a.clk;rw[qI R]at hx;have q:=X (λW=>eL b a.good a.b0 a.b1 c1 c2 c3 c4 k0 k1 W);rw[hx.a]at q;clear hx a b k0 k1 c1 c2 c3 c4;go_upto_region 5 with(first|(refine ZD b1 A B.p J ?_)|(go_at_call 112;refine Z0 (q _) λf y=>?_)|(refine ZU R 186 _ _ R f x R R 186 (xB Zl 0 0) Zv (by rw[hs];exact vI) (by rw[hs];rfl) h1.a ?_));have g2:Gr f ((f.alloc (Z (xB Zl 0 0) 186)).setRow f x):=ZN.setRow _ Zy _;have c:((f.alloc (Z (xB Zl 0 0) 186)).setRow f x).heap[f.heap.size]?=Z x 186:=Zt Zv;have st:=ZE (o_ y g2) st;have gw:=o_ gw (o_ y g2);show n_ _ _ _ _ ((f.alloc (Z (xB Zl 0 0) 186)).setRow f x);generalize (f.alloc (Z (xB Zl 0 0) 186)).setRow f x=w6 at c st gw|-;generalize f.heap.size=b2 at c|-;clear y g2 B q;go_wp2_with(first|(refine ZV R 186 _ R b2 R 186 x (0,0) _ c underlying186 rfl (by rw[hs];exact vI) ?_)|(refine ZU R 186 _ _ R w x R R 186 (xB Zl 0 0) st (by rw[hs];exact vI) (by rw[hs];rfl) h1.a ?_));exact ZS (v:=Ze #[x,I L 0]) (qj results173 _ _ w 186 _ (0,0) _ R (Zt st) underlying186 rfl (by rw[hs];exact vI)) R ⟨R,gw.setRow _ Zy _⟩
 .have e:(k !=0)=Zk:=by rw[bne_iff_ne];exact a
  rw[qF a]at hx;clear a;go_wp2_with(refine ZU R 186 _ _ R w (xB Zl 0 0) R R 186 (xB Zl 0 0) st vI R (xw _ _ _) ?_);exact ZS (v:=Ze #[xB Zl 0 0,k]) (qj results173 _ _ w 186 _ (0,0) _ R (Zt st) underlying186 rfl vI) R ⟨by rw[<-hx.a],gw.setRow _ Zy _⟩
def qag{T:I4}{k D wn:Int}{s:y_}{r:Int×Int}(h:dk T w A k s)(hr:Y (I_ (0:Int) (s.paths D.toNat:Nat) k D 0 wn=r)):ZL 166 #[Zb T,I L D,I L wn] w (Ze #[I Zh r.1,I L r.2]):=by
 have K:=X (h.r w);have J:=h.z;have ho:=X h.o;have hc:=h.c;clear h
 unfold ZL;go_in;go_upto_region 2 with(first|(go_at_call 53;refine Z0 K λi y=>?_)|(refine ZC i A Zv J ho.a ?_));have B:=Y_ (A:=A) y;generalize (i.alloc (Z b_ 70)).setRow i A=w4 at B|-;generalize i.heap.size=b1 at B|-;clear y K
 obtain⟨rfl,a,b,_⟩|⟨a,_⟩:=hc;rotate_left
 .have e:(k==0)=Zl:=by rw[qM];exact a
  have e2:(k !=0)=Zk:=by rw[bne_iff_ne];exact a
  unfold I_ at hr;rw[qI a]at hr;clear a;go_wp2;go_ret2;exact⟨by rw[<-hr.a];rfl,B.gr⟩
 unfold I_ at hr;rw[qF WU]at hr;by_cases c:D<0\/3<D
 .rw[qI c]at hr;by_cases c2:D<0
  .clear a b c;go_wp2;go_ret2;exact⟨by rw[<-hr.a];rfl,B.gr⟩
  .have c:3<D:=O
   clear a b;go_wp2;go_ret2;exact⟨by rw[<-hr.a];rfl,B.gr⟩
 rw[qF c]at hr;have d1:¬D<0:=O
 have d2:¬3<D:=O
 obtain⟨j,rfl⟩:∃j:Nat,D=(j:Int):=⟨D.toNat,O⟩
 have q:Y (∀W,ZL 163 #[A,j] W (I Zh (s.paths j:Nat))):=λW=>na j O a b W
 rw[Int.toNat_natCast]at hr;generalize s.paths j=PN at q hr;clear a b c;by_cases c:wn=1\/wn=2
 .rw[qI c]at hr;obtain rfl|rfl:=c
  all_goals
   go_wp2_with(first|(refine ZD b1 A B.p J ?_)|(go_at_call 163;refine Z0 (q _) λf y=>?_));go_ret2;exact⟨by rw[<-hr.a];rfl,o_ B.gr y⟩
 .rw[qF c]at hr;have c1:(wn !=1)=Zk:=by rw[bne_iff_ne];omega
  have c2:(wn !=2)=Zk:=by rw[bne_iff_ne];omega
  clear c;go_wp2;go_ret2;exact⟨by rw[<-hr.a];rfl,B.gr⟩
def Ib(x:BitVec 64)(c:Int)(hc:0<c):a_ Zh ((U x).tdiv c)=U x/c:=by
 rw[Int.tdiv_eq_ediv_of_nonneg (aq x),IntKind.wrap_u64];have h1:0<=U x/c:=Int.ediv_nonneg (aq x) O;have h2:=Int.ediv_le_self c (aq x);have h3:U x<18446744073709551616:=by unfold U;have:=x.isLt;omega
 generalize U x/c=q at h1 h2;omega
def qaz(x:Int):Int:=
 let a:=a_ Zh (bits .xor Zh x (a_ Zh (x.tdiv 1073741824))*13787848793156543929)
 let b:=a_ Zh (bits .xor Zh a (a_ Zh (a.tdiv 134217728))*10723151780598845931)
 bits .xor Zh b (a_ Zh (b.tdiv 2147483648))
def qbs(x:BitVec 64):qaz (U x)=U (SQ x):=by unfold qaz SQ;simp only;rw[Ib _ _ WW,SJ,oF,mxB,QG,Ib _ _ WW,SK,oF,mxC,QG,Ib _ _ WW,SI,oF]
def qba(x:BitVec 64)(w:I6):i_ c_ 293 #[I Zh (U x)] w λe w'=>e=Zd (I Zh (U (SQ x)))/\w'=w:=by rw[<-qbs];generalize U x=y;go_in;go_wp2;go_ret;exact⟨xo (a:=qaz y) R,R⟩
def qbB(s n:BitVec 64)(w:I6):i_ c_ 241 #[I Zh (U s),I Zh (U n)] w λe w'=>e=Zd (I Zh (U (SN s n)))/\w'=w:=by
 have e1:a_ Zh (U n*11400714819323198485)=U (n*11400714819323198485#64):=by rw[mxA];exact QG _ _
 have e2:a_ Zh (U s+U (n*11400714819323198485#64))=U (s+n*11400714819323198485#64):=Sq _ _;go_in;go_wp2_with(go_at_call 293;apply Z1 (qba _ _));go_ret;exact⟨R,R⟩
def qaa(n:Nat)(h:n<18446744073709551616)(w:I6):i_ c_ 241 #[I Zh 0,I Zh n] w λe w'=>e=Zd (I Zh (U (lx n)))/\w'=w:=by have:=qbB 0#64 (BitVec.ofNat 64 n) w;rw[Sr n h]at this;exact this
def qaH{T:I4}{k:Int}{s:y_}(h:dk T w A k s):ZL 175 #[Zb T] w (Ze #[I Zh (if k=0 then U (K3 s.z s.wh s.fc s.b) else 0),I L k]):=by
 have K:=X (h.r w);have J:=h.z;have ho:=X h.o;have hc:=h.c;clear h;obtain⟨x,hx⟩:=Zn (if k=0 then U (K3 s.z s.wh s.fc s.b) else 0);rw[hx.a]
 unfold ZL;go_in;go_upto_region 2 with(first|(go_at_call 53;refine Z0 K.a λi y=>?_)|(refine ZC i.heap.size A Zv J ho.a ?_));have B:=Y_ (A:=A) y;generalize (i.alloc (Z b_ 70)).setRow i.heap.size A=w4 at B|-;generalize i.heap.size=b1 at B|-;clear y K
 obtain⟨rfl,a,b,_⟩|⟨a,_⟩:=hc;rotate_left
 .have e:(k !=0)=Zk:=by rw[bne_iff_ne];exact a
  rw[qF a]at hx;clear a;go_wp2;go_ret2;exact⟨by rw[<-hx.a];rfl,B.gr⟩
 rw[qI R]at hx;obtain⟨z,wh,fc,bh,_,_⟩:=s;have cl:Y (∀k,k<64->w4.cell? ⟨b1,k,N⟩=S (I Zg (z k).toNat)):=X λk h=>by rw[Zs B.p];exact b.sq k h
 have cc:Y (∀k,k<4->w4.cell? ⟨b1,65+k,N⟩=S (Za (fc k))):=X λk h=>by rw[Zs B.p];exact b.c k h
 have cw:w4.cell? ⟨b1,64,N⟩=S (Za wh):=by rw[Zs B.p];exact b.wh
 have cb:w4.cell? ⟨b1,69,N⟩=S (I L bh):=by rw[Zs B.p];exact b.b
 have h0:-1<=bh:=a.b0;have h1:bh<=63:=a.b1;have g:=X B.gr;clear a b B ho;change Y (U (K3 z wh fc bh)=x)at hx;go_wp2;go_loopg [6,7] 64 (λg kk i wr=>∃k:Nat,k+g=64/\i=I L k/\kk=I Zh (U (IZ z k))/\wr=w4)
 case atStart=>exact⟨0,R,R,R,R⟩
 case round=>
  obtain⟨k,k1,rfl,rfl,e⟩:=hrel;have e:=e.symm;subst e;by_cases hl:k<64
  .have ck:=cl.a k hl;have k0:(0:Int)<=(k:Int):=O;have k6:(k:Int)<64:=O;have p:=X (λW=>gD (z k) W);have l:=X (Nk z k);obtain⟨i0,i1⟩:=rn (z k);generalize jB (z k)=iv at p l i0 i1;clear cc cw cb hx;by_cases hi:0<=iv
   .obtain⟨m,rfl⟩:=Yt hi;have q:=X (λW=>qaa (64*m+k+1) O W);have l2:Y (IZ z (k+1)=IZ z k ^^^ lx (64*m+k+1)):=X (by rw[l.a,qI hi];rfl);have ex:Y (a_ Zh (64*(m:Int)+(k:Int)+1)=((64*m+k+1:Nat):Int)):=X Vh;clear l;generalize lx (64*m+k+1)=gv at q l2;go_wp2_with(first|(go_at_call 111;refine Z1 (p.a _) ?_)|(go_at_call 241;refine Z1 (by first|exact q.a _|(rw[ex.a];exact q.a _)) ?_));go_roundg (gk-1)
    case measure=>omega
    case rel=>exact⟨k+1,O,Vg,by rw[l2.a,<-oF],R⟩
   .have l2:Y (IZ z (k+1)=IZ z k):=X (by rw[l.a,qF hi]);obtain rfl:iv=-1:=O
    clear l;go_wp2_with(go_at_call 111;refine Z1 (p.a _) ?_);go_roundg (gk-1)
    case measure=>omega
    case rel=>exact⟨k+1,O,Vg,by rw[l2.a],R⟩
  .obtain rfl:k=64:=O
   change Y (U (kyF bh (kyW wh (kyC fc (IZ z 64) 4)))=x)at hx;generalize IZ z 64=KB at hx;clear hl cl;go_wp2;go_loopg [6,9] 4 (λg kk i wr=>∃k:Nat,k+g=4/\i=I L k/\kk=I Zh (U (kyC fc KB k))/\wr=w4)
   case atStart=>exact⟨0,R,R,R,R⟩
   case round=>
    obtain⟨k,k1,rfl,rfl,e⟩:=hrel;have e:=e.symm;subst e;by_cases hl:k<4
    .have ck:=cc.a k hl;have k0:(0:Int)<=(k:Int):=O;have k6:(k:Int)<4:=O;have l:=X (Nj fc KB k);clear cw cb hx;cases hf:fc k
     .rw[hf]at ck l;clear hf;go_wp2;go_roundg (gk-1)
      case measure=>omega
      case rel=>exact⟨k+1,O,Vg,by rw[l.a];rfl,R⟩
     .rw[hf]at ck l;have q:=X (λW=>qaa (769+k) O W);have ex:Y (a_ Zh (769+(k:Int))=((769+k:Nat):Int)):=X Vh;have l2:Y (kyC fc KB (k+1)=kyC fc KB k ^^^ lx (769+k)):=l;clear hf l;generalize lx (769+k)=gv at q l2;go_wp2_with (go_at_call 241;refine Z1 (by first|exact q.a _|(rw[ex.a];exact q.a _)) ?_);go_roundg (gk-1)
      case measure=>omega
      case rel=>exact⟨k+1,O,Vg,by rw[l2.a,<-oF],R⟩
    .obtain rfl:k=4:=O
     generalize kyC fc KB 4=K2 at hx;have r:=X (λW=>qaa 773 WW W);have u:Y (kyW wh K2=if wh then K2 else K2 ^^^ lx 773):=X R;generalize lx 773=g3 at r u;clear hl cc;by_cases hb:0<=bh
     .obtain⟨n,rfl⟩:=Yt hb;have q:=X (λW=>qaa (774+((n:Int)%8).toNat) O W);have ex:Y (a_ Zh (774+(n:Int)%8)=((774+((n:Int)%8).toNat:Nat):Int)):=X Vh;have e:Y (∀K,kyF (n:Int) K=K ^^^ lx (774+((n:Int)%8).toNat)):=X λK=>qI hb;rw[e.a,u.a]at hx;clear e u;generalize lx (774+((n:Int)%8).toNat)=g4 at q hx;cases wh
      .change Y (U (K2 ^^^ g3 ^^^ g4)=x)at hx;rw[<-oF,<-oF]at hx;go_wp2_with(first|(go_at_call 241;refine Z1 (by exact r.a _) ?_)|(go_at_call 241;refine Z1 (by first|exact q.a _|(rw[ex.a];exact q.a _)) ?_));go_ret2;exact⟨by rw[<-hx.a];rfl,g.a⟩
      .change Y (U (K2 ^^^ g4)=x)at hx;rw[<-oF]at hx;go_wp2_with(go_at_call 241;refine Z1 (by first|exact q.a _|(rw[ex.a];exact q.a _)) ?_);go_ret2;exact⟨by rw[<-hx.a];rfl,g.a⟩
     .obtain rfl:bh=-1:=O
      change Y (U (kyW wh K2)=x)at hx;rw[u.a]at hx;clear u;cases wh
      .change Y (U (K2 ^^^ g3)=x)at hx;rw[<-oF]at hx;go_wp2_with(go_at_call 241;refine Z1 (by exact r.a _) ?_);go_ret2;exact⟨by rw[<-hx.a];rfl,g.a⟩
      .go_wp2;go_ret2;exact⟨by rw[<-hx.a];rfl,g.a⟩
def M'(k:Int)(s:y_)(n:Int):I3×Int:=if k≠0 then([],k)else if n=1\/n=2 then(ud (jI s.mov),0)else([],3)
def qbr{T:I4}{p:pH}(a:xG T=S p)(b:xP p=Zk)(n:Int)(h:n=1\/n=2):jI (wV p n)=jI (y_.of p).mov:=by
 have o:=y_.ok_of a b;have e:jI (wV p 2)=jI (y_.of p).mov:=zu (λa c h=>List.lt_asymm h) _ _ (rz a b).2 (Fd (Ok.good o) (Ok.b0 o) (Ok.b1 o)).2 λx=>(xq _).mem_iff.trans ((PL a b x).trans (xq _).mem_iff.symm)
 obtain rfl|rfl:=h
 .rw[(rz a b).1,e]
 .exact e
def qay{T:I4}{k n:Int}{s:y_}{r:I3×Int}(h:dk T w A k s)(hT:T.size<4294967281)(l:T_ m w)(hr:Y (M' k s n=r)):i_ c_ 15 #[Zb T,I L n] w λe w'=>(∃v,e=Zd (Ze #[v,I L r.2])/\yt w.heap.size v r.1 w')/\Gr w w':=by
 refine(qkd T hT n (λp a b=>BH a b) m w l.ct l.tb).mono λe w' q=>⟨?_,q.2⟩;rw[<-hr.a];unfold M';have nil:∀W,yt w mU [] W:=λW=>World.ownsRow_nil _ _ _ _;have q:=q.1
 obtain⟨rfl,_,_,p,a,b,rfl⟩|⟨c,d⟩:=h.c
 .rw[qF WU];obtain⟨t,_⟩|⟨_,t,c,_⟩|⟨_,_,_,t,rfl⟩|⟨p',v,c,_,t,rfl,i⟩:=q
  .rw[a]at t;cases t
  .rw[a]at t;rw[<-S.inj t,b]at c;cases c
  .rw[qF t];exact⟨_,R,nil _⟩
  .rw[a]at c;obtain rfl:=S.inj c;rw[qI t];refine⟨v,R,?_⟩;rw[qbr a b n t]at i;exact i
 .rw[qI c];obtain⟨t,rfl⟩|⟨p,t,i,rfl⟩|⟨p,i,j,_⟩|⟨p,_,i,j,_⟩:=q
  .rw[Hh d (Zi ⟨R,t⟩)];exact⟨_,R,nil _⟩
  .rw[Hh d (Zj ⟨R,p,t,i⟩)];exact⟨_,R,nil _⟩
  .exact(M_ d i j).elim
  .exact(M_ d i j).elim
def qah{T:I4}{k n:Int}{s:y_}{r:I3×Int}(h:dk T w A k s)(hr:Y (M' k s n=r)):i_ c_ 169 #[Zb T,I L n] w λe w'=>(∃v,e=Zd (Ze #[v,I L r.2])/\yt w.heap.size v r.1 w')/\Gr w w':=by
 have K:=X (h.r w);have J:=h.z;have ho:=X h.o;have hc:=h.c;clear h;have hf:Y (∀W u,Gr w W->([],u)=r->(∃v,Zd (Ze #[Zq N 0 0,u])=Zd (Ze #[v,r.2])/\yt w v r.1 W)/\Gr w W):=λW u g e=>by rw[<-e];exact⟨⟨_,R,World.ownsRow_nil _ _ _ _⟩,g⟩
 go_in;go_upto_region 2 with(first|(go_at_call 53;refine Z0 K λi y=>?_)|(refine ZC i A Zv J ho.a ?_));have B:=Y_ (A:=A) y;generalize (i.alloc (Z b_ 70)).setRow i A=w4 at B|-;generalize i.heap.size=b1 at B|-;clear y K
 obtain⟨rfl,a,b,_⟩|⟨a,_⟩:=hc;rotate_left
 .have e:(k==0)=Zl:=by rw[qM];exact a
  have e2:(k !=0)=Zk:=by rw[bne_iff_ne];exact a
  unfold M' at hr;rw[qI a]at hr;clear a;go_wp2;go_ret2;exact hf _ _ B.gr hr
 unfold M' at hr;rw[qF WU]at hr;by_cases c:n=1\/n=2;rotate_left
 .rw[qF c]at hr;have c1:(n !=1)=Zk:=by rw[bne_iff_ne];omega
  have c2:(n !=2)=Zk:=by rw[bne_iff_ne];omega
  clear c a b;go_wp2;go_ret2;exact hf _ _ B.gr hr
 rw[qI c]at hr;clear hf;obtain⟨i0,hi,g0,g1,g2⟩:=We DH;have hi:=X hi;have q:=X (λW=>JD a b W);have mt:Y (∀x∈jI s.mov,x.1<64/\x.2.1<64):=λx h=>by have:=a.mv ((xq _).mem_iff.1 h);exact⟨this.1,this.2.1⟩
 rw[MZ a]at q;have ll:(jI s.mov).length<=20480:=by rw[<-MZ a];exact iW _ _ _ _ 64
 generalize jI _=G at q mt ll hr;clear a b;obtain rfl|rfl:=c
 all_goals
  go_upto_region 9 with(first|(refine ZD b1 A B.p J ?_)|(go_at_call 54;refine(q _).mono ?_;rintro e w1 ⟨v,rfl,hv,y⟩;obtain⟨pp,cap,rfl,_,c4⟩:=bt hv));have d:=X (o_ B.gr y);have c4:=X c4;clear q hv y B;go_wp2;go_loopg [8,10] G.length (λg v i wr=>∃k:Nat,k+g=G.length/\i=k/\yt w1 v ((G.take k).map λx=>xJ (yJ x)) wr/\Gr w1 wr)
  case atStart=>exact⟨0,O,R,World.ownsRow_nil _ _ _ _,ZO⟩
  case round=>
   obtain⟨k,k1,rfl,P,h4⟩:=hrel;by_cases g9:k<G.length
   .obtain⟨gg,rfl,x0,x1,x2⟩:=c4 k g9;have CQ:gg<w1:=Zx x0;have x0:=(ZW h4 CQ).trans x0;have x1:=(ZW h4 CQ).trans x1;have x2:=(ZW h4 CQ).trans x2;have mm:=mt G[k] (Xs _);have a8:=X (Yd g9);generalize G[k]=x at x0 x1 x2 mm a8;have q:=X (λW=>mZ x.1 x.2.1 mm.1 mm.2 x.2.2 W);have ln:((G.take k).map λx=>xJ (yJ x)).length=k:=(by rw[YD,Xt];omega);have a8:Y ((G.take (k+1)).map (λx=>xJ (yJ x))=(G.take k).map (λx=>xJ (yJ x))++[xJ (yJ x)]):=(by rw[a8.a,Ys];rfl);have k0:0<=(k:Int):=O;have kl:(k:Int)<(G.length:Int):=O;have P:=X P;have J:=X h4;generalize (G.take k).map (λx=>xJ (yJ x))=l0 at P ln a8;clear h4 mt mm;have e0:xJ (uY x.1 x.2.1 x.2.2)=xJ (yJ x):=R;rw[e0]at q;generalize xJ _=tx at q a8;clear e0;go_wp2_with(first|(go_at_call 55;refine Z0 (q _) λf y=>?_;have o:=X (dU P y);have d1:=o_ J y;have g6:=ZR d1)|(at_builtin;apply Xv _ R (.tmp 37) (.tmp 43) 43 rfl w1 9 i0 (Zb ⟨#[]⟩) 1 16 underlying43 hi g0 g1 g2 R WW _ l0.length (l0.map Zb) R (o.alloc _) ⟨f,0,N⟩ 1 1 [Zb tx] R R (Wp _ _ _) Vi Vk O WX;intro v' w7 a6 a5 g5));go_roundg (gk-1)
    case measure=>omega
    case rel=>
     refine⟨k+1,O,Vg,?_,?_⟩
     .unfold yt;rw[a8.a,qZ,Ys];exact a6
     .exact(d1.alloc _ _).grown a5 WX (H4 o)
   .obtain rfl:k=G.length:=O
    rw[XA]at P;have P:=X P;have J:=X h4;clear h4 c4 mt;go_wp2;go_ret2;rw[<-hr.a];exact⟨⟨_,R,qxn P (ZR d)⟩,o_ d J⟩
def qaI{T:I4}{k d n:Int}{s:y_}{r:List R_×Int}(h:dk T w A k s)(hT:T.size<4294967281)(hr:Y (I_ [] (H' s d) k d 1 n=r)):i_ c_ 167 #[Zb T,I L d,I L n] w λe w'=>(∃v,e=Zd (Ze #[v,I L r.2])/\gs w.heap.size v r.1 w')/\Gr w w':=by
 refine(KB T hT d n w).mono λe w' q=>⟨?_,q.2⟩;rw[<-hr.a];unfold I_;have nil:=qax w w';have q:=q.1
 obtain⟨rfl,_,_,p,a,b,rfl⟩|⟨c,f⟩:=h.c
 .rw[qF WU];obtain⟨k,t,_⟩|⟨_,_,_,t,rfl⟩|⟨_,_,_,t,c,rfl⟩|⟨p',v,j,c,_,rfl,j2,t,rfl,i⟩:=q
  .exact(M_ t a b).elim
  .rw[qI (by omega)];exact⟨_,R,nil⟩
  .rw[qF (by omega),qF c];exact⟨_,R,nil⟩
  .rw[a]at c;obtain rfl:=S.inj c;rw[qF (by omega),qI t];refine⟨v,R,?_⟩;unfold H';rw[show((j:Int)+1-1).toNat=j by omega];exact i
 .rw[qI c];obtain⟨k,t,rfl⟩|⟨_,i,j,_⟩|⟨_,i,j,_⟩|⟨_,_,_,i,j,_⟩:=q
  .rw[Hh f t];exact⟨_,R,nil⟩
  .exact(M_ f i j).elim
  .exact(M_ f i j).elim
  .exact(M_ f i j).elim
def qas{T t:I4}{k:Int}{s:y_}{r:I4×Int}(h:dk T w A k s)(hT:T.size<4294967281)(hr:Y (X' k s t=r)):ZL 29 #[Zb T,Zb t] w (Ze #[Zb r.1,I L r.2]):=by
 refine(mb T t hT w).mono λe w' q=>⟨?_,q.2⟩;rw[<-hr.a];unfold X';have q:=q.1
 obtain⟨rfl,o,_,p,a,b,rfl⟩|⟨c,f⟩:=h.c
 .rw[qF WU];obtain⟨k,t,_⟩|⟨p',c,_,t,rfl⟩|⟨p',x,c,_,t,rfl⟩:=q
  .exact(M_ t a b).elim
  .rw[a]at c;obtain rfl:=S.inj c;have t:cU (y_.of p).z (y_.of p).wh (y_.of p).fc (y_.of p).b _=[]:=t;simp only[t]
  .rw[a]at c;obtain rfl:=S.inj c;have t:x∈cU (y_.of p).z (y_.of p).wh (y_.of p).fc (y_.of p).b _:=t;split;rename_i e;rw[e]at t;cases t;rename_i y l e;obtain⟨i,j⟩:=Hv t;obtain⟨k,l⟩:=Hv (show y∈_ from by rw[e];simp);rw[De o i k (Qs (j.trans l.symm))]
 .rw[qI c];obtain⟨k,t,rfl⟩|⟨_,i,j,_⟩|⟨_,_,i,j,_⟩:=q
  .rw[Hh f t]
  .exact(M_ f i j).elim
  .exact(M_ f i j).elim
def qaN{T:I4}(hT:T.size<4294967281)(l:T_ m w):ZL 83 #[Zb T] w (Za Zk):=by
 obtain⟨A,k,s,h⟩:=N' T hT l.ct;have p:=X (qbc h);have q:=X (λW (g:Gr w W)=>qaH (h.gr g));generalize (if k=0 then U (K3 s.z s.wh s.fc s.b) else 0)=x at p q;clear h l hT;unfold ZL;go_in;go_wp2_with(first|(go_at_call 174;refine Z0 p λf y=>?_)|(go_at_call 175;refine Z0 (q _ y) λf i=>?_)|(go_at_call 30;apply Z1 (BQ _ _)));go_ret;exact⟨R,o_ y i⟩
def qau{T t:I4}(hT:T.size<4294967281)(ht:t.size<4294967281)(l:T_ m w):ZL 81 #[Zb T,Zb t] w (Za Zk):=by
 obtain⟨A,k,s,h⟩:=N' T hT l.ct;obtain⟨⟨x,e⟩,hr⟩:=Zn (J_ k s t (λx=>xJ (s.aft x).text));have p:=X (qaJ h ht l hr);have q:=X (λW (g:Gr w W)=>qaq (h.gr g) hT hr);clear h l hT ht hr;unfold ZL;go_in;go_wp2_with(first|(go_at_call 170;refine Z0 p λf y=>?_)|(go_at_call 171;refine Z0 (q _ y) λf i=>?_)|(go_at_call 30;apply Z1 (BQ _ _)));go_ret;exact⟨R,o_ y i⟩
def qad{T t:I4}(hT:T.size<4294967281)(ht:t.size<4294967281)(l:T_ m w):ZL 13 #[Zb T,Zb t,Zb t] w (Za Zk):=by
 obtain⟨A,k,s,h⟩:=N' T hT l.ct;obtain⟨⟨x,e⟩,hr⟩:=Zn (J_ k s t (λx=>xJ (uj s.z s.wh s.fc s.b x)));obtain⟨⟨x2,e2⟩,hl⟩:=Zn (X' k s t);have p:=X (qao h ht l hr);have q:=X (λW (g:Gr w W)=>qaf (h.gr g) hT hr);have p2:=X (λW (g:Gr w W)=>qaM (h.gr g) (l.gr g) hl);have q2:=X (λW (g:Gr w W)=>qas (h.gr g) hT hl);clear h l hT ht hr hl;unfold ZL;go_in;go_wp2_with(first|(go_at_call 14;refine Z0 p λf y=>?_)|(go_at_call 28;refine Z0 (q _ y) λf i=>?_;have y:=o_ y i)|(go_at_call 16;refine Z0 (p2 _ y) λf i=>?_;have y:=o_ y i)|(go_at_call 29;refine Z0 (q2 _ y) λf i=>?_;have y:=o_ y i)|(go_at_call 30;apply Z1 (BQ _ _)));go_ret;exact⟨R,y⟩
def qaB{T:I4}(hT:T.size<4294967281)(l:T_ m w):ZL 82 #[Zb T] w (Za Zk):=by
 obtain⟨A,k,s,h⟩:=N' T hT l.ct;have p:=X (qaL h l.ct l.tb);have q:=X (λW (g:Gr w W)=>qar (h.gr g));obtain⟨c,n,o,e⟩:∃c n o,(if k=0 then bx s.z s.wh s.fc s.b else xB Zl 0 0)=xB c n o:=by split;exact⟨_,_,_,R⟩;exact⟨_,_,_,R⟩
 rw[e]at p q;clear h l hT e;simp only[xB]at p q;unfold ZL;go_in;go_wp2_with(first|(go_at_call 172;refine Z0 p λf y=>?_)|(go_at_call 173;refine Z0 (q _ (o_ y ZN)) λv i=>?_;have b:=ZE i (Zv (w:=f) (o:=Z #[c,n,o] 186));have c0:=Zs (j:=0) b;have c1:=Zs (j:=1) b;have c2:=Zs (j:=2) b;simp only[List.getElem?_toArray,List.getElem?_cons_zero,List.getElem?_cons_succ]at c0 c1 c2;have d0:=(ZW (ZN (w:=v) (c:=#[Za c,I L n,I L o]) (t:=186)) (Zx c0)).trans c0;have d1:=(ZW (ZN (w:=v) (c:=#[Za c,I L n,I L o]) (t:=186)) (Zx c1)).trans c1;have d2:=(ZW (ZN (w:=v) (c:=#[Za c,I L n,I L o]) (t:=186)) (Zx c2)).trans c2)|(go_at_call 30;apply Z1 (BQ _ _)));go_ret;exact⟨R,o_ (o_ (o_ y ZN) i) ZN⟩
def qbA:c_.eqGuardType c_.depth 70=Zl:=WR
def qbd{d:Array Oper}{b:List Oper}{o:Oper}{a:Act}{k:I0}{Q:Exit->Act->I6->Prop}(e:o.guard=N)(x y:Operand)(f:o.op=.binOp .eql 70 x y 70)(i:a.eval x=Zc k)(j:a.eval y=Zc k)(g:∀w:I6,(Op.equalIn 10000 70 (Zc k) (Zc k)).run c_ w=.ok Zk w)(h:wpList c_ d Q b (a.put o.dst (Za Zk)) w):wpList c_ d Q (o::b) a w:=
 wpList_plain e λK hK=>by
  unfold Oper.wp execOp;simp only[f,i,j,Sem.run_bind,Sem.run_pure,XV,run_eqGuard_agg _ _ _ _ _ _ _ qbA,run_eql_struct,g];exact hK _ _ h
def qbp{f:I5}{g:Int}(r:jE z wh f b h g A)(w:I6):(Op.equalIn 10000 70 (Zc A) (Zc A)).run c_ w=.ok Zk w:=by have:=Q8 9996 r r w;rw[this];unfold qac;simp
def qal{T:I4}(hT:T.size<4294967281)(l:T_ m w):ZL 84 #[Zb T] w (Za Zk):=by
 obtain⟨A,k,s,h⟩:=N' T hT l.ct;have p:=X (h.p w ZO);have q:=X h.r;have J:=h.z;have ho:=X h.o;obtain⟨_,_,_,_,_,_,r⟩:=h.q;have eq:=X (qbp r);clear r
 clear h l hT;unfold ZL;go_in;go_upto_region 2 with(first|(go_at_call 34;refine Z0 p λi y=>?_)|(refine ZC i A Zv J ho.a ?_));have B:=Y_ (A:=A) y;generalize (i.alloc (Z b_ 70)).setRow i A=w4 at B|-;generalize i.heap.size=b1 at B|-;clear y p;go_upto_region 3 with(first|(go_at_call 53;refine Z0 (q _) λi y=>?_)|(refine ZC i A Zv J ho.a ?_));have C:=Y_ (A:=A) y;have B:=B.next C.gr;generalize (i.alloc (Z b_ 70)).setRow i A=w6 at B C|-;generalize i.heap.size=b2 at C|-;clear y q;go_wp2_with(first|(refine ZD b1 A B.p J ?_)|(refine ZD b2 A C.p J ?_)|(refine qbd R _ _ R R R eq.a ?_)|(go_at_call 30;apply Z1 (BQ _ _)));go_ret;exact⟨R,B.gr⟩
def qbm(H:List R_)(hT:H.length<=1000000)(p1 p2:Option Addr)(c1 c2:Nat)(w:I6)(h1:ge p1 H w)(h2:ge p2 H w):ZL 168 #[Zq p1 H.length c1,Zq p2 H.length c2] w (Za Zk):=by
 have h1:=X h1;have h2:=X h2;obtain⟨n,e⟩:∃n,n=H.length:=⟨_,R⟩;rw[<-e]at hT|-;unfold ZL;go_in;go_upto_region 3 with fail;go_wp2;go_loopg [5] n (λg v wr=>∃(j d:Nat),j+g=n/\v=j/\wr=w.drewN d)
 case atStart=>exact⟨0,0,O,R,R⟩
 case round=>
  obtain⟨j,d,k1,rfl,rfl⟩:=hrel;by_cases hl:j<n
  .obtain⟨g1,rfl,x1,x2⟩:=h1 j O;obtain⟨g2,rfl,y1,y2⟩:=h2 j O;have a0:(0:Int)<=(j:Int):=O;have a1:(j:Int)<(n:Int):=O;generalize (H[j]'O).1=tx at x1 y1;generalize (H[j]'O).2=ty at x2 y2;go_upto_region 6 with fail;go_quiet (fail)
   all_goals
    go_wp2;go_roundg (gk-1)
    case measure=>omega
    case rel=>exact⟨j+1,_,O,Vg,R⟩
  .go_wp2;go_ret;exact⟨R,r_ ZO _⟩
def qaS{T:I4}{k n:Int}{s:y_}(h:dk T w A k s):(M' k s n).1.length<=1000000/\∀d,(I_ [] (H' s d) k d 1 n).1.length<=1000000:=by
 obtain⟨rfl,a,_⟩|⟨c,_⟩:=h.c
 .have e:(jI s.mov).length<=20480:=by rw[<-MZ a];exact iW _ _ _ _ 64
  unfold M' I_;rw[qF WU];constructor
  .split
   .show(ud _).length<=_;unfold ud;rw[YD];omega
   .exact WW
  .intro d;rw[qF WU];split
   .exact WW
   .split
    .show(H' s d).length<=_;unfold H' HQ;rw[YD];exact q7 e WW
    .exact WW
 .unfold M' I_;rw[qI c];exact⟨Nat.zero_le _,λd=>by rw[qI c];exact Nat.zero_le _⟩
def qaZ{T:I4}{n:Int}(hT:T.size<4294967281)(l:T_ m w):i_ c_ 79 #[Zb T,I L n] w λe w'=>(∃v U,e=Zd (Ze #[v,Za Zk])/\U.length<=1000000/\yt w.heap.size v U w')/\Gr w w':=by
 obtain⟨A,k,s,h⟩:=N' T hT l.ct;have hl:=(qaS (n:=n) h).1;obtain⟨⟨U,u⟩,hr⟩:=Zn (M' k s n);rw[hr.a]at hl;have p:=X (qay h hT l hr);have q:=X (λW (g:Gr w W)=>qah (h.gr g) hr);have B:=X (λp1 p2 c1 c2 W=>qka U hl p1 p2 c1 c2 W);have h9:=X hl;clear h l hT hr hl;go_in;go_upto_region 2 with(go_at_call 15;apply p.mono;rintro e w1 ⟨⟨v,rfl,hv⟩,y⟩;obtain⟨p1,c1,rfl,_,e1⟩:=l7 hv);have e1:Y (El p1 U w1):=X e1;have hv:=X hv;clear p;go_upto_region 3 with(go_at_call 169;refine(q _ y).mono ?_;rintro e w2 ⟨⟨v,rfl,i⟩,y2⟩;obtain⟨p2,c2,rfl,_,e2⟩:=l7 i);have e2:=X e2;have e1:=X (e1.a.gr y2);have hv:=X (dU hv y2);have y:=o_ y y2;clear q i y2;go_upto_region 4 with(go_at_call 27;refine Z0 (B _ _ _ _ _ e1 e2) λw3 y3=>?_);have hv:=X (dU hv y3);have y:=o_ y y3;clear B e1 e2 y3;go_wp2_with(go_at_call 30;apply Z1 (BQ _ _));go_ret2;exact⟨⟨_,U,R,h9,hv⟩,y⟩
def qbe{T:I4}{d n:Int}(hT:T.size<4294967281)(l:T_ m w):i_ c_ 77 #[Zb T,I L d,I L n] w λe w'=>(∃v U,e=Zd (Ze #[v,Za Zk])/\U.length<=1000000/\gs w.heap.size v U w')/\Gr w w':=by
 obtain⟨A,k,s,h⟩:=N' T hT l.ct;have hl:=(qaS (n:=n) h).2 d;obtain⟨⟨U,u⟩,hr⟩:=Zn (I_ [] (H' s d) k d 1 n);rw[hr.a]at hl;have p:=X (qbf h l hr);have q:=X (λW (g:Gr w W)=>qaI (h.gr g) hT hr);have B:=X (λp1 p2 c1 c2 W=>qbm U hl p1 p2 c1 c2 W);have h9:=X hl;clear h l hT hr hl;go_in;go_upto_region 2 with(go_at_call 11;apply p.mono;rintro e w1 ⟨⟨v,rfl,hv⟩,y⟩;obtain⟨p1,c1,rfl,_,e1⟩:=Kg hv);have e1:=X e1;have hv:=X hv;clear p;go_upto_region 3 with(go_at_call 167;refine(q _ y).mono ?_;rintro e w2 ⟨⟨v,rfl,i⟩,y2⟩;obtain⟨p2,c2,rfl,_,e2⟩:=Kg i);have e2:=X e2;have e1:=X (e1.gr y2);have hv:=X (dU hv y2);have y:=o_ y y2;clear q i y2;go_upto_region 4 with(go_at_call 168;refine Z0 (B _ _ _ _ _ e1 e2) λw3 y3=>?_);have hv:=X (dU hv y3);have y:=o_ y y3;clear B e1 e2 y3;go_wp2_with(go_at_call 30;apply Z1 (BQ _ _));go_ret2;exact⟨⟨_,U,R,h9,hv⟩,y⟩
def qbv(t:I4)(r:t.size<=1048576)(n:Int)(m:Int)(w:I6)(k:T_ m w):∃(T:I3)(u:Int),T.length<=1900000000000/\Y (i_ c_ 39 #[I L n,Zb t] w λe w'=>(∃v,e=Zd (Ze #[v,I L u])/\yt w.heap.size v T w')/\Gr w w')/\Y (∀W,i_ c_ 40 #[I L n,Zb t] W λe w'=>Sy T u e w'/\Gr W w'):=by
 by_cases o:n<0\/4096<n
 .refine⟨[],7,WU,X ((Kr t n o w).mono λe w' h=>?_),X λW=>(QL t n o W).mono λe w' h=>?_⟩
  .rw[h.1,h.2];exact⟨⟨_,R,World.ownsRow_nil _ _ _ _⟩,ZO⟩
  .rw[h.1,h.2];exact⟨⟨N,0,R,λi f=>w_ f WU⟩,ZO⟩
 .obtain⟨a,j⟩:=RL t;obtain⟨p,q,l⟩:=Ns;obtain⟨x,rfl⟩:=Yt (show 0<=n from O);have y:=J6 j;refine⟨(D_ 0 (y_.of p,[]) a).2,0,?_,X ((Jz t r a j x O p q l w k (RN k)).mono λe w' h=>?_),X λW=>(Nh t r a j x O p q l W).mono λe w' h=>?_⟩
  .have:=HK a 0 (y_.of p,[]);simp only[XN,Z2]at this;exact q7 this (q7 (XT _ (show a.length<=1048577 from O)) WW)
  .obtain⟨⟨v,base,e,b,o⟩,g⟩:=h;exact⟨⟨v,e,qxn o b⟩,g⟩
  .exact Ii
def qbb(n:Int)(t:I4)(C:t.size<=1048576)(k:T_ m w):i_ c_ 18 #[I L n,Zb t] w λe w'=>(∃v U,e=Zd (Ze #[v,Za Zk])/\U.length<=1900000000000/\yt w.heap.size v U w')/\Gr w w':=by
 obtain⟨U,u,hl,p,q⟩:=qbv t C n m w k;have B:=X (λp1 p2 c1 c2 W=>Hx U hl p1 p2 c1 c2 W);clear k C;go_in;go_upto_region 2 with(go_at_call 39;apply p.mono;rintro e w1 ⟨⟨v,rfl,hv⟩,y⟩;obtain⟨p1,c1,rfl,_,e1⟩:=l7 hv);have e1:Y (El p1 U w1):=X e1;have hv:=X hv;clear p;go_upto_region 3 with(go_at_call 40;refine(q _).mono ?_;rintro e w2 ⟨⟨p2,c2,rfl,e2⟩,y2⟩);have e2:=X e2;have e1:=X (e1.a.gr y2);have hv:=X (dU hv y2);have y:=o_ y y2;clear q y2;go_upto_region 4 with(go_at_call 27;refine Z0 (B _ _ _ _ _ e1 e2) λw3 y3=>?_);have hv:=X (dU hv y3);have y:=o_ y y3;have hl:=X hl;clear B e1 e2 y3;go_wp2_with(go_at_call 30;apply Z1 (BQ _ _));go_ret2;exact⟨⟨_,U,R,hl,hv⟩,y⟩
def qaT{r:Option Nat}(h:W.grownBy a r):Fr (λk _=>S k≠r) W a:=⟨h.os,h.tape,h.output,h.size,λk o e q=>(h.block k (qB.1 e).1 q).trans e⟩
def qab{r:Option Nat}{s:Nat}{t:TypeId}{xs:List I7}(h:W.ownsRow base t s v n xs)(f:Fr (λk _=>S k≠r) W a)(d:∀g,v.ownBlock=S g->S g≠r):a.ownsRow base t s v n xs:=⟨h.1,h.2.imp_right λ⟨g,c,u,e,b,i,j⟩=>⟨g,c,u,e,b,f.same _ _ i (d g (by rw[e];rfl)),j⟩⟩
def Y'(t:TypeId)(sz:Nat)(tm q:Option Nat)(j:Nat)(mc:List I7)(v:I7)(m:List I7)(W:I6):Prop:=∃p n c,(v=Zq p n c/\n<=maxLen)/\∀k,k<n->∃g C fr,p=S ⟨g,0,N⟩/\S g≠tm/\W.heap[g]?=S (Z C t fr)/\(∀i,i<sz->C[k*sz+i]?=m[i]?)/\(S g=q->n<=j/\m=mc)
def Y'.fr{t:TypeId}{sz:Nat}{tm q r:Option Nat}{mc m:List I7}(h:Y' t sz tm q j mc v m W)(f:Fr (λk _=>S k≠r) W a)(d:∀g C fr,W.heap[g]?=S (Z C t fr)->S g≠tm->(S g=q->0<j)->S g≠r):Y' t sz tm q j mc v m a:=by
 obtain⟨p,n,c,e,h⟩:=h;refine⟨p,n,c,e,λk hk=>?_⟩;obtain⟨g,C,fr,a0,b,i,u,x⟩:=h k hk;exact⟨g,C,fr,a0,b,f.same _ _ i (d g C fr i b λz=>by have:=(x z).1;omega),u,x⟩
def Y'.tm{t:TypeId}{sz:Nat}{tm tm' q:Option Nat}{mc m:List I7}(h:Y' t sz tm q j mc v m W)(d:∀g,g<W.heap.size->S g≠tm->S g≠tm'):Y' t sz tm' q j mc v m W:=by
 obtain⟨p,n,c,e,h⟩:=h;refine⟨p,n,c,e,λk hk=>?_⟩;obtain⟨g,C,fr,a0,b,i,u,x⟩:=h k hk;exact⟨g,C,fr,a0,d g (qB.1 i).1 b,i,u,x⟩
def Y'.cur{t:TypeId}{sz:Nat}{tm q q':Option Nat}{j':Nat}{mc mc' m:List I7}(h:Y' t sz tm q j mc v m W)(d:∀g,g<W.heap.size->S g=q'->S g=q/\(j<=j'/\mc=mc')):Y' t sz tm q' j' mc' v m W:=by
 obtain⟨p,n,c,e,h⟩:=h;refine⟨p,n,c,e,λk hk=>?_⟩;obtain⟨g,C,fr,a0,b,i,u,x⟩:=h k hk;exact⟨g,C,fr,a0,b,i,u,λz=>by obtain⟨y,z,o⟩:=d g (qB.1 i).1 z;exact⟨q7 (x y).1 z,(x y).2.trans o⟩⟩
theorem Tz{α:Type}(mc:List α):∀(r k i:Nat),k<r->i<mc.length->((List.replicate r mc).flatten)[k*mc.length+i]?=mc[i]?
 | 0,_,_,h,_=>w_ h WU
 | r+1,0,i,_,hi=>by rw[List.replicate_succ,List.flatten_cons,List.getElem?_append_left (by omega)];simp
 | r+1,k+1,i,h,hi=>by rw[List.replicate_succ,List.flatten_cons,List.getElem?_append_right (by rw[Nat.succ_mul];omega),show(k+1)*mc.length+i-mc.length=k*mc.length+i by rw[Nat.succ_mul];omega];exact Tz mc r k i O hi
def qaQ{t:TypeId}{sz:Nat}{mc:List I7}{l:I7}(o:a.ownsRow base t sz l n ((List.replicate n mc).flatten))(hm:mc.length=sz)(hn:0<n):∃g C cap,l=Zq (S ⟨g,0,N⟩) n cap/\base<=g/\a.heap[g]?=S (Z C t (0,0))/\∀k i,k<n->i<sz->C[k*sz+i]?=mc[i]?:=by
 obtain⟨_,⟨_,e⟩|⟨g,cap,C,e,b,i,_,_,cs,tk⟩⟩:=o
 .omega
 .refine⟨g,C,cap,e,b,i,λk x hk hx=>?_⟩;rw[<-Tz mc n k x hk (by omega),<-tk,<-qO,List.getElem?_take_of_lt,hm];rw[hm];exact qN (Nat.add_lt_add_left hx _) (by rw[<-Nat.succ_mul];exact Nat.mul_le_mul_right _ hk)
def AlG(W a:I6)(l l':I7):Prop:=(l'.ownBlock=l.ownBlock/\W.grownBy a l.ownBlock)\/((∀g,l'.ownBlock=S g->W.heap.size<=g)/\Gr W a)
def AlG.fr{l l':I7}(h:AlG W a l l'):Fr (λk _=>S k≠l.ownBlock) W a:=h.elim (λh=>qaT h.2) λh=>p_ h.2
def Y'.app{t:TypeId}{sz:Nat}{tm:Option Nat}{mc m:List I7}{l l':I7}(h:Y' t sz tm l.ownBlock j mc v m W)(o:a.ownsRow base t sz l' (j+1) ((List.replicate (j+1) mc).flatten))(hm:mc.length=sz)(f:AlG W a l l'):Y' t sz tm l'.ownBlock (j+1) mc v m a:=by
 obtain⟨p,n,c,e,h⟩:=h;refine⟨p,n,c,e,λk hk=>?_⟩;obtain⟨g,C,fr,a0,b,i,u,x⟩:=h k hk;obtain⟨f1,f2⟩|⟨f1,f2⟩:=f
 .by_cases z:S g=l.ownBlock
  .obtain⟨y,rfl⟩:=x z;obtain⟨g',C',cap,rfl,_,i',u'⟩:=qaQ o hm O;rw[<-f1]at z;obtain rfl:g=g':=(by simpa[Value.ownBlock] using z);exact⟨g,C',_,a0,b,i',λi hi=>u' k i O hi,λ_=>⟨O,R⟩⟩
  .exact⟨g,C,fr,a0,b,(f2.block g (qB.1 i).1 z).trans i,u,λy=>w_ (y.trans f1) z⟩
 .exact⟨g,C,fr,a0,b,ZE f2 i,u,λy=>by have:=(qB.1 i).1;have:=f1 g y.symm;omega⟩
def qaC(h:W.grownBy a N):Gr W a:=ZO.grown h Zy (λ_ e=>by cases e)
def qbg(y:TypeId)(t:TypeId)(base:Nat)(e:TypeId)(i:TypeInfo)(z:I7)(sz bt:Nat)(h1:c_.underlying t=S (.slice e))(h2:c_.info? e=S i)(h3:i.zero=S z)(h4:i.size=sz)(h5:i.bytes=bt)(h6:z.cells.size=sz)(h7:0<sz)(v:I7)(n:Nat)(xs:List I7)(ow:w.ownsRow base e sz v n xs)(ad:Addr)(c:Nat)(news:List I7)(hl:news.length=sz)(hn:∀j u,news[j]?=S u->w.cell? (ad.add j)=S u)(hc:∀u∈news,u.oneCell'=Zk)(b1:n+1<=maxLen)(b2:(n+1)*bt<=140737488355328)(hb:base<=w.heap.size):∃v' w',(Builtin.append_ #[t,t] y #[v,Zq (S ad) 1 c]).run c_ w=.ok v' w'/\w'.ownsRow base e sz v' (n+1) (xs++news)/\AlG w w' v v':=by
 have hl:news.length=1*sz:=O
 obtain⟨rfl,rfl⟩|⟨g,cap,C,rfl,bg,hG,nc,_,cs,tk⟩:=ow.2
 .obtain⟨v',w',r,o,k,_⟩:=run_append_own (P:=c_) w w t y e i z sz bt h1 h2 h3 h4 h5 h6 h7 (Zq N 0 0) 0 [] (World.ownsRow_nil w _ e sz) ad 1 c news hl hn hc b1 b2 Zy;obtain rfl:xs=[]:=List.eq_nil_of_length_eq_zero (by simpa using ow.1)
  exact⟨v',w',r,qxn o hb,Zj ⟨λg e=>(o.lt g e).1,qaC k⟩⟩
 by_cases hr:n+1<=cap
 .obtain⟨w',r,o,k⟩:=run_append_own_spare (P:=c_) w base t y e i sz h1 h2 h4 g n cap xs ow ad 1 c news hl hn hc hr;exact⟨_,w',r,o,Zi ⟨R,k⟩⟩
 .obtain⟨v',w',r,o,k⟩:=run_append_arg_grows (P:=c_) w t y e i z sz bt h1 h2 h3 h4 h5 h6 h7 ⟨g,0,N⟩ n cap xs ow.1 (ow.cells (g:=g) R) ad 1 c news hl hn O b1 b2;exact⟨v',w',r,qxn o hb,Zj ⟨λg e=>(o.lt g e).1,qaC k⟩⟩
def qaF{o:Oper}{a:Act}{K:Act->I6->Prop}{Q:Exit->Act->I6->Prop}(s x:Operand)(t:TypeId)(ho:o.op=.call {callee:=.builtin .append,args:=#[s,x],argTypes:=#[t,t]})(base:Nat)(e:TypeId)(i:TypeInfo)(z:I7)(sz bt:Nat)(h1:c_.underlying t=S (.slice e))(h2:c_.info? e=S i)(h3:i.zero=S z)(h4:i.size=sz)(h5:i.bytes=bt)(h6:z.cells.size=sz)(h7:0<sz)(v:I7)(n:Nat)(xs:List I7)(hs:a.eval s=v)(ow:w.ownsRow base e sz v n xs)(ad:Addr)(c:Nat)(news:List I7)(hx:a.eval x=Zq (S ad) 1 c)(hl:news.length=sz)(hn:∀j u,news[j]?=S u->w.cell? (ad.add j)=S u)(hc:∀u∈news,u.oneCell'=Zk)(b1:n+1<=maxLen)(b2:(n+1)*bt<=140737488355328)(hb:base<=w.heap.size)(h:∀v' w',w'.ownsRow base e sz v' (n+1) (xs++news)->AlG w w' v v'->K (a.put o.dst v') w'):o.wp c_ a w K Q:=by
 obtain⟨v',w',r,o1,g⟩:=qbg o.type t base e i z sz bt h1 h2 h3 h4 h5 h6 h7 v n xs ow ad c news hl hn hc b1 b2 hb;unfold Oper.wp execOp;simp only[ho,resolve,invoke,builtin,Sem.run_bind,Sem.run_pure,XV,List.map_toArray,List.map_cons,List.map_nil,hs,hx,r];exact h v' w' o1 g
def Q'{d:Array Oper}{b:List Oper}{o:Oper}{a:Act}{Q:Exit->Act->I6->Prop}(hg:o.guard=N)(s x:Operand)(t:TypeId)(ho:o.op=.call {callee:=.builtin .append,args:=#[s,x],argTypes:=#[t,t]})(base:Nat)(e:TypeId)(i:TypeInfo)(z:I7)(sz bt:Nat)(h1:c_.underlying t=S (.slice e))(h2:c_.info? e=S i)(h3:i.zero=S z)(h4:i.size=sz)(h5:i.bytes=bt)(h6:z.cells.size=sz)(h7:0<sz)(v:I7)(n:Nat)(xs:List I7)(hs:a.eval s=v)(ow:w.ownsRow base e sz v n xs)(ad:Addr)(c:Nat)(news:List I7)(hx:a.eval x=Zq (S ad) 1 c)(hl:news.length=sz)(hn:∀j u,news[j]?=S u->w.cell? (ad.add j)=S u)(hc:∀u∈news,u.oneCell'=Zk)(b1:n+1<=maxLen)(b2:(n+1)*bt<=140737488355328)(hb:base<=w.heap.size)(h:∀v' w',w'.ownsRow base e sz v' (n+1) (xs++news)->AlG w w' v v'->wpList c_ d Q b (a.put o.dst v') w'):wpList c_ d Q (o::b) a w:=wpList_plain hg λK hK=>qaF s x t ho base e i z sz bt h1 h2 h3 h4 h5 h6 h7 v n xs hs ow ad c news hx hl hn hc b1 b2 hb λv' w' o g=>hK _ _ (h v' w' o g)
def Y'.tmG{t:TypeId}{sz:Nat}{q:Option Nat}{mc m:List I7}{tm tm':I7}(h:Y' t sz tm.ownBlock q j mc v m W)(f:AlG W a tm tm'):Y' t sz tm'.ownBlock q j mc v m a:=by
 obtain⟨e,k⟩|⟨e,k⟩:=f
 .rw[e];exact h.fr (qaT k) (λ_ _ _ _ b _=>b)
 .exact(h.tm (λg l _ i=>by have:=e g i.symm;omega)).fr (r:=N) (p_ k) (λ_ _ _ _ _ _ i=>by cases i)
def AlR(w:I6)(t:TypeId)(r:Option Nat)(W:I6):Prop:=∀g,r=S g->w.heap.size<=g/\∃C fr,W.heap[g]?=S (Z C t fr)
def AlO(w:I6)(P:TypeId->Prop)(O:I6->Prop):Prop:=∀W a r t,O W->Fr (λk _=>S k≠r) W a->AlR w t r W->P t->O a
def qaw(w:I6)(t:TypeId)(W:I6):AlR w t N W:=λ_ e=>by cases e
def L_{t:TypeId}{s:Nat}{xs:List I7}(h:W.ownsRow w.heap.size t s v n xs):AlR w t v.ownBlock W:=λg e=>by
 obtain⟨rfl,_⟩|⟨g',_,_,rfl,b,i,_⟩:=h.2
 .cases e
 .obtain rfl:g'=g:=by simpa[Value.ownBlock] using e
  exact⟨b,_,_,i⟩
def T'{t:TypeId}{C:I0}{fr:Nat×Nat}(h:w.heap.size<=g)(e:W.heap[g]?=S (Z C t fr)):AlR w t (S g) W:=λq i=>by obtain rfl:=S.inj i;exact⟨h,_,_,e⟩
def J'{t t':TypeId}{C C':I0}{fr fr':Nat×Nat}{k:Nat}(h:W.heap[g]?=S (Z C t fr))(h':W.heap[k]?=S (Z C' t' fr'))(n:t≠t'):g≠k:=λe=>by subst e;rw[h]at h';injection h' with h';injection h' with _ h' _;exact n h'
def G_{t e:TypeId}{s:Nat}{r:Option Nat}{xs:List I7}(h:W.ownsRow base e s v n xs)(f:Fr (λk _=>S k≠r) W a)(d:AlR w t r W)(ne:e≠t):a.ownsRow base e s v n xs:=by
 refine qab h f λg i j=>?_;obtain⟨_,C,fr,u⟩:=d g j.symm;obtain⟨rfl,_⟩|⟨g',_,_,rfl,b,x,_⟩:=h.2
 .cases i
 .obtain rfl:g'=g:=by simpa[Value.ownBlock] using i
  exact J' x u ne R
def qap{t e:TypeId}{sz:Nat}{tm q r:Option Nat}{mc m:List I7}(h:Y' e sz tm q j mc v m W)(f:Fr (λk _=>S k≠r) W a)(d:AlR w t r W)(ne:e≠t):Y' e sz tm q j mc v m a:=h.fr f λg C fr i _ _ x=>by obtain⟨_,C,fr,u⟩:=d g x.symm;exact J' i u ne R
def N_{t e:TypeId}{r:Option Nat}{C:I0}{fr:Nat×Nat}(h:W.heap[g]?=S (Z C e fr))(f:Fr (λk _=>S k≠r) W a)(d:AlR w t r W)(ne:e≠t):a.heap[g]?=S (Z C e fr):=f.same _ _ h λx=>by obtain⟨_,C,fr,u⟩:=d g x.symm;exact J' h u ne R
def Q_{p:Addr}(u:I7):Fr (λk _=>S k≠S p.block) W (W.setCell p u):=(Fr.refl _ _).setCell _ (λ_ _ q=>q R)
structure Z'(w:I6)(tl tX tM:TypeId)(sz:Nat)(pat:I7->List I7)(tx tm:I7)(ts:List (I7×I7))(q:Option Nat)(j:Nat)(mc:List I7)(W:I6):Prop where
 x:W.ownsRow w.heap.size tX 1 tx ts.length (ts.map (·.1))
 m:W.ownsRow w.heap.size tM 1 tm ts.length (ts.map (·.2))
 c:∀x∈ts,Y' tl sz tm.ownBlock q j mc x.1 (pat x.2) W
section
variable {tl tX tM:TypeId}{sz:Nat}{pat:I7->List I7}{tx tm:I7}{ts:List (I7 × I7)}{q:Option Nat}{mc:List I7}
def Z'.fr{t:TypeId}{r:Option Nat}(h:Z' w tl tX tM sz pat tx tm ts q j mc W)(f:Fr (λk _=>S k≠r) W a)(d:AlR w t r W)(n1:tX≠t)(n2:tM≠t)(n3:tl≠t):Z' w tl tX tM sz pat tx tm ts q j mc a:=⟨G_ h.x f d n1,G_ h.m f d n2,λx i=>qap (h.c x i) f d n3⟩
def Z'.gr(h:Z' w tl tX tM sz pat tx tm ts q j mc W)(g:Gr W a):Z' w tl tX tM sz pat tx tm ts q j mc a:=⟨dU h.x g,dU h.m g,λx i=>(h.c x i).fr (r:=N) (p_ g) (λ_ _ _ _ _ _ i=>by cases i)⟩
end
structure eA(w:I6)(wb:Nat)(Ob:I6->Prop)(tl tX tM:TypeId)(sz:Nat)(pat:I7->List I7)(mv:I7)(A:I0)(tx tm ll:I7)(n:Nat)(ts tn:List (I7×I7))(W:I6):Prop where
 b:W.heap[wb]?=S (Z A 111)
 x:W.ownsRow w.heap.size tX 1 tx ts.length (ts.map (·.1))
 m:W.ownsRow w.heap.size tM 1 tm tn.length (tn.map (·.2))
 c:∀x∈ts,Y' tl sz tm.ownBlock ll.ownBlock n (pat mv) x.1 (pat x.2) W
 l:W.ownsRow w.heap.size tl sz ll n ((List.replicate n (pat mv)).flatten)
 t:∀g,tm.ownBlock=S g->S g≠ll.ownBlock
 o:Ob W
section
variable {tl tX tM:TypeId}{sz:Nat}{pat:I7->List I7}{wb:Nat}{Ob:I6->Prop}{mv tx tm l' tx' tm' ll:I7}{ts tn:List (I7 × I7)}{A':I0}{iX iM:Nat}
def eA.gr(hO:AlO w (λt=>t=111\/t=tX\/t=tM\/t=tl) Ob)(h:eA w wb Ob tl tX tM sz pat mv A tx tm ll n ts tn W)(g:Gr W a):eA w wb Ob tl tX tM sz pat mv A tx tm ll n ts tn a:=⟨ZE g h.b,dU h.x g,dU h.m g,λx i=>(h.c x i).fr (r:=N) (p_ g) (λ_ _ _ _ _ _ i=>by cases i),dU h.l g,h.t,hO _ _ N 111 h.o (p_ g) (qaw _ _ _) (Zi R)⟩
def Y'.re{t:TypeId}{sz j':Nat}{tm q q':Option Nat}{mm mm' m:List I7}(h:Y' t sz tm q 0 mm v m W)(d:∀g,g<W.heap.size->S g=q'->S g=q):Y' t sz tm q' j' mm' v m W:=by
 obtain⟨p,n,c,e,h⟩:=h;refine⟨p,n,c,e,λk hk=>?_⟩;obtain⟨g,C,fr,a0,b,i,u,x⟩:=h k hk;exact⟨g,C,fr,a0,b,i,u,λz=>by have:=(x (d g (qB.1 i).1 z)).1;omega⟩
def Y'.self{t:TypeId}{sz:Nat}{tm:I7}{mm:List I7}(h:W.ownsRow base t sz ll n ((List.replicate n mm).flatten))(hm:mm.length=sz)(d:∀g,tm.ownBlock=S g->S g≠ll.ownBlock):Y' t sz tm.ownBlock ll.ownBlock n mm ll mm W:=by
 obtain⟨rfl,rfl⟩|⟨g,c,_,rfl,_,_,a,b,_⟩:=h.2
 .exact⟨N,0,0,⟨R,Nat.zero_le _⟩,λk i=>w_ i WU⟩
 .refine⟨_,n,c,⟨R,q7 a b⟩,λk hk=>?_⟩;obtain⟨g,C,c,e,_,i,u⟩:=qaQ h hm O;cases e;exact⟨g,C,_,R,λe=>d g e.symm R,i,λi hi=>u k i hk hi,λ_=>⟨Zy,R⟩⟩
def eA.put(hO:AlO w (λt=>t=111\/t=tX\/t=tM\/t=tl) Ob)(hn:tX≠111/\tM≠111/\tl≠111/\tX≠tM/\tX≠tl)(hw:w.heap.size<=wb)(b:W.heap[wb]?=S (Z A 111))(i:Nat)(u:I7)(hx:W.ownsRow w.heap.size tX 1 tx' ts.length (ts.map (·.1)))(hm:W.ownsRow w.heap.size tM 1 tm' tn.length (tn.map (·.2)))(hc:∀x∈ts,Y' tl sz tm'.ownBlock ll.ownBlock n (pat mv) x.1 (pat x.2) W)(hl:W.ownsRow w.heap.size tl sz ll n ((List.replicate n (pat mv)).flatten))(ht:∀g,tm'.ownBlock=S g->S g≠ll.ownBlock)(ho:Ob W):eA w wb Ob tl tX tM sz pat mv (A.setIfInBounds i u) tx' tm' ll n ts tn (W.setCell ⟨wb,i,N⟩ u)/\W.cell? ⟨wb,i,N⟩=A[i]?/\W.frozen? ⟨wb,i,N⟩=Zl:=by
 have f:=Q_ (W:=W) (p:=⟨wb,i,N⟩) u;have d:=T' hw b;obtain⟨n1,n2,n3,_⟩:=hn;exact⟨⟨qv b,G_ hx f d n1,G_ hm f d n2,λx i=>qap (hc x i) f d n3,G_ hl f d n3,ht,hO _ _ _ _ ho f d (Zi R)⟩,Zs b,by simp[World.frozen?,b]⟩
def eA.a1(hO:AlO w (λt=>t=111\/t=tX\/t=tM\/t=tl) Ob)(hn:tX≠111/\tM≠111/\tl≠111/\tX≠tM/\tX≠tl)(hw:w.heap.size<=wb)(h:eA w wb Ob tl tX tM sz pat mv A tx tm ll n ts tn W)(hp:(pat mv).length=sz)(o:a.ownsRow w.heap.size tX 1 tx' (ts.length+1) (ts.map (·.1)++[ll]))(f:AlG W a tx tx')(i:Nat):eA w wb Ob tl tX tM sz pat mv (A.setIfInBounds i tx') tx' tm ll n (ts++[(ll,mv)]) tn (a.setCell ⟨wb,i,N⟩ tx')/\a.cell? ⟨wb,i,N⟩=A[i]?/\a.frozen? ⟨wb,i,N⟩=Zl:=by
 have d:=L_ h.x;have g:=f.fr;have L:=G_ h.l g d hn.2.2.2.2.symm;exact eA.put hO hn hw (N_ h.b g d hn.1.symm) i tx' (by rw[qZ,Ys];exact o) (G_ h.m g d hn.2.2.2.1.symm) (λx i=>by
  obtain i|i:=List.mem_append.1 i
  .exact qap (h.c x i) g d hn.2.2.2.2.symm
  .rw[qT]at i;rw[i];exact Y'.self L hp h.t) L h.t (hO _ _ _ _ h.o g d (Zj (Zi R)))
def eA.a2(hO:AlO w (λt=>t=111\/t=tX\/t=tM\/t=tl) Ob)(hn:tX≠111/\tM≠111/\tl≠111/\tX≠tM/\tX≠tl)(hw:w.heap.size<=wb)(h:eA w wb Ob tl tX tM sz pat mv A tx tm ll n ts tn W)(o:a.ownsRow w.heap.size tM 1 tm' (tn.length+1) (tn.map (·.2)++[mv]))(f:AlG W a tm tm')(i:Nat):eA w wb Ob tl tX tM sz pat mv (A.setIfInBounds i tm') tx tm' ll n ts (tn++[(ll,mv)]) (a.setCell ⟨wb,i,N⟩ tm')/\a.cell? ⟨wb,i,N⟩=A[i]?/\a.frozen? ⟨wb,i,N⟩=Zl:=by
 have d:=L_ h.m;have g:=f.fr;exact eA.put hO hn hw (N_ h.b g d hn.2.1.symm) i tm' (G_ h.x g d hn.2.2.2.1) (by rw[qZ,Ys];exact o) (λx i=>(h.c x i).tmG f) (qab h.l g λg e i=>h.t g i.symm e.symm) (λg e i=>by
  obtain⟨k,_⟩|⟨k,_⟩:=f
  .exact h.t g (k.symm.trans e) i
  .have:=k g e;have:=(h.l.lt g i.symm).2;omega) (hO _ _ _ _ h.o g d (Zj (Zj (Zi R))))
def eA.a3(hO:AlO w (λt=>t=111\/t=tX\/t=tM\/t=tl) Ob)(hn:tX≠111/\tM≠111/\tl≠111/\tX≠tM/\tX≠tl)(h:eA w wb Ob tl tX tM sz pat mv A tx tm ll n ts tn W)(hp:(pat mv).length=sz)(o:a.ownsRow w.heap.size tl sz l' (n+1) ((List.replicate n (pat mv)).flatten++pat mv))(f:AlG W a ll l'):eA w wb Ob tl tX tM sz pat mv A tx tm l' (n+1) ts tn a:=by
 have d:=L_ h.l;have g:=f.fr;have o:a.ownsRow w tl sz l' (n+1) ((List.replicate (n+1) (pat mv)).flatten):=by rw[List.replicate_succ',List.flatten_append];simpa using o
 exact⟨N_ h.b g d hn.2.2.1.symm,G_ h.x g d hn.2.2.2.2,qab h.m g h.t,λx i=>(h.c x i).app o hp f,o,λg e i=>by
  obtain⟨k,_⟩|⟨k,_⟩:=f
  .exact h.t g e (i.trans k)
  .have:=k g i.symm;have:=(h.m.lt g e).2;omega,hO _ _ _ _ h.o g d (Zj (Zj (Zj R)))⟩
def IV{t:TypeId}{c sz:Nat}{xs:List I7}(h:W.ownsRow base t sz (Zq (S g) n c) n xs)(hk:k<n*sz)(u:I7):(W.setCell ⟨g,k,N⟩ u).ownsRow base t sz (Zq (S g) n c) n (xs.set k u)/\(∃u,W.cell? ⟨g,k,N⟩=S u)/\W.frozen? ⟨g,k,N⟩=Zl:=by
 obtain⟨l,⟨e,_⟩|⟨g',c',C,e,b,i,nc,m,cs,tk⟩⟩:=h
 .cases e
 .cases e;have hC:k<C.size:=by rw[cs];exact qN hk (Nat.mul_le_mul_right _ nc)
  refine⟨⟨by rw[List.length_set,l],Zj ⟨g,c,C.setIfInBounds k u,R,b,qv i,nc,m,by rw[Array.size_setIfInBounds,cs],?_⟩⟩,⟨C[k],by rw[Zs i];exact Array.getElem?_eq_getElem hC⟩,by simp[World.frozen?,i]⟩
  rw[Array.toList_setIfInBounds,<-tk,List.take_set]
end
def qai(x:Int):∃u:UInt8,a_ Zg x=(u.toNat:Int):=⟨j_ (x%256).toNat,by rw[IntKind.wrap_u8,UInt8.toNat_ofNat'];omega⟩
def qbn(u1 u2 u3:UInt8)(B:Nat)(e0:W.cell? B=S (I Zg u1.toNat))(e1:W.cell? ⟨B,1,N⟩=S (I Zg u2.toNat))(e2:W.cell? ⟨B,2,N⟩=S (I Zg u3.toNat)):(convert 145 9 (Zq (S B) 3 3)).run c_ W=.ok (Zb (xJ [u1,u2,u3])) W:=run_convert_bytes_back (P:=c_) W 145 9 5 ⟨B,0,N⟩ 3 [u1,u2,u3] underlying145 underlying5 underlying9 (λj y=>by
 match j,y with
 | 0,_=>exact e0
 | 1,_=>exact e1
 | 2,_=>exact e2)
def qbx{Ob:I6->Prop}{mk:Int}{tx tm cx cm lv l:I7}{ts:List (I7×I7)}{U:I3}{wb:Nat}(hO:AlO w (λt=>t=111\/t=43\/t=9\/t=9) Ob)(hw:w.heap.size<=wb)(b:W.heap[wb]?=S (Z #[I L mk,tx,tm,cx,cm,lv] 111))(T:Z' w 9 43 9 1 (λv=>[v]) tx tm ts l.ownBlock 0 [] W)(L:yt w.heap.size l U W)(lt:∀g,tm.ownBlock=S g->S g≠l.ownBlock)(o:Ob W)(n1:ts.length<=1000000000000)(n2:U.length<=1900000000000):i_ c_ 80 #[ZI wb,l] W λe a=>e=Zd (Ze #[])/\∃mk' tx' tm' ts',ts'.length=ts.length+4/\(∀x∈ts',x∈ts\/∃s,x.2=Zb s)/\a.heap[wb]?=S (Z #[I .i64 mk',tx',tm',cx,cm,lv] 111)/\Z' w 9 43 9 1 (λv=>[v]) tx' tm' ts' N 0 [] a/\Ob a:=by
 have hn:Y ((43:Nat)≠111/\(9:Nat)≠111/\(9:Nat)≠111/\(43:Nat)≠9/\(43:Nat)≠9):=X WW;have hO:=X hO;have T:=X T;have L:=X L;have o:=X o;have c0:W.cell? wb=S (I .i64 mk):=by rw[Zs b];rfl
 have f0:W.frozen? wb=Zl:=by simp[World.frozen?,b]
 have hb:=X b;clear b;go_in;go_upto_region 1 with fail
 have d:=T' hw hb.a;have f:=Q_ (W:=W) (p:=wb) (I .i64 (wrap64 (mk+1)));have b:=X (qv (i:=0) (v:=I .i64 (wrap64 (mk+1))) hb.a);have T:=X (T.a.fr f d WW WW WW);have L:=X (G_ L.a f d WW);have o:=X (hO.a _ _ _ _ o.a f d (Zi R));clear d f c0 f0 hb;generalize wrap64 (mk+1)=mc at b T L o|-;generalize W.setCell wb (I .i64 mc)=W1 at b T L o|-;have b:Y (W1.heap[wb]?=S (Z #[I .i64 mc,tx,tm,cx,cm,lv] 111)):=b
 go_upto_region 1 with fail;refine ZT (S:=λV=>V.cell? wb=S (I .i64 mc)/\Gr W1 V) WR ⟨show W1.cell? _=_ by rw[Zs b.a];rfl,ZO.drew⟩ (λd=>?_);generalize W1.drew=Wd at d|-
 refine tq 0 (ZI wb) d ?_;refine tq 1 (ZI wb) d ?_;refine tq 2 (ZI wb) d ?_;refine ZB 3 (I .i64 mc) R (λw h=>by have:=h.1;go_simp) d ?_;refine ZB 4 (I Zg (a_ Zg mc)) R (λw h=>by go_simp;try rfl) d ?_
 refine tq 5 (ZI wb) d ?_;refine tq 6 (ZI wb) d ?_;refine tq 7 (ZI wb) d ?_;refine ZB 8 (I .i64 mc) R (λw h=>by have:=h.1;go_simp) d ?_;refine ZB 9 _ R (λw h=>by go_simp;rfl) d ?_;refine ZB 10 _ R (λw h=>by go_simp;rfl) d ?_;refine tq 11 (ZI wb) d ?_;refine tq 12 (ZI wb) d ?_;refine tq 13 (ZI wb) d ?_;refine ZB 14 (I .i64 mc) R (λw h=>by have:=h.1;go_simp) d ?_;refine ZB 15 _ R (λw h=>by go_simp;rfl) d ?_;refine ZB 16 _ R (λw h=>by go_simp;rfl) d ?_
 obtain⟨x1,h1⟩:=qai mc;obtain⟨x2,h2⟩:=qai (a_ .i64 (mc.tdiv 256));obtain⟨x3,h3⟩:=qai (a_ .i64 (mc.tdiv 65536));rw[h1,h2,h3];clear h1 h2 h3;generalize a_ .i64 (mc.tdiv 256)=y2;generalize a_ .i64 (mc.tdiv 65536)=y3;refine rd 17 λK hK=>?_;go_simp;refine hK.out _ _ ⟨(ZW ZN (Zx d.1)).trans d.1,d.2.alloc _ _⟩ λd=>?_;clear hK K;try simp only[py]
 obtain⟨e0,e1,e2⟩:=qm (Z7 Wd (Z #[I Zg x1.toNat,I Zg x2.toNat,I Zg x3.toNat] 5));generalize Wd.alloc (Z #[I Zg x1.toNat,I Zg x2.toNat,I Zg x3.toNat] 5)=Wx at e0 e1 e2 d|-;generalize Wd.heap.size=B at e0 e1 e2|-;have cv:=qbn x1 x2 x3 B e0 e1 e2;refine rd 18 λK hK=>?_;go_simp;refine hK.out _ _ d λd=>?_;clear hK K cv e0 e1 e2;try simp only[py]
 have ad:∀W,(k_ .add ⟨#[126]⟩ (xJ [x1,x2,x3])).run c_ W=.ok (Zb (⟨#[126]⟩++xJ [x1,x2,x3])) W:=λW=>uu _ _ (by show 1+3<_;omega) W
 generalize xJ [x1,x2,x3]=z1 at ad|-;generalize (⟨#[126]⟩:I4)++z1=mt at ad|-;refine tq 19 (Zb mt) d ?_;refine rd 20 λK hK=>?_;go_simp;refine hK.out _ _ d λd=>?_;clear hK K ad;refine ZZ WR ?_ _;have g:=d.2;have b:=X (ZE g b.a);have T:=X (T.a.gr g);have L:=X (dU L.a g);have o:=X (hO.a _ _ N 111 o.a (p_ g) (qaw _ _ _) (Zi R));obtain⟨p,cap,el,_,_⟩:=l7 L.a;subst el;clear d g;have L:Y (∃xs:List I7,Wx.ownsRow w.heap.size 9 1 (Zq p U.length cap) U.length xs):=X ⟨_,L.a⟩;generalize U.length=nn at L T n2 lt|-;go_wp2;go_loopg [5] nn (λg i wr=>∃k:Nat,k+g=nn/\i=I .i64 k/\Y (wr.heap[wb]?=S (Z #[I .i64 mc,tx,tm,cx,cm,lv] 111))/\Y (Z' w 9 43 9 1 (λv=>[v]) tx tm ts (Zq p nn cap).ownBlock 0 [] wr)/\Y (Ob wr)/\Y (∃xs:List I7,wr.ownsRow w.heap.size 9 1 (Zq p nn cap) nn xs/\∀i,i<k->xs[i]?=S (Zb mt)))
 case atStart=>exact⟨0,O,R,b,T,o,X (L.a.elim λxs h=>⟨xs,h,λi h=>w_ h WU⟩)⟩
 case round=>
  clear b T o L;obtain⟨k,k1,rfl,b,T,o,L⟩:=hrel;by_cases hk:k<nn
  .obtain⟨xs,ow,hx⟩:=L.a;obtain⟨gg,rfl⟩:∃gg,p=S ⟨gg,0,N⟩:=by
    obtain⟨e,_⟩|⟨g,_,_,e,_⟩:=ow.2
    .injection e;omega
    .injection e with e;exact⟨g,e⟩
   obtain⟨ow',⟨u0,cu⟩,fu⟩:=IV ow (show k<nn*1 by omega) (Zb mt);have d:=L_ (w:=w) ow;have f:=Q_ (W:=wr) (p:=⟨gg,k,N⟩) (Zb mt);have b:=X (N_ b.a f d WW);have o:=X (hO.a _ _ _ _ o.a f d (Zj (Zj (Zi R))));have T:Y (Z' w 9 43 9 1 (λv=>[v]) tx tm ts (Zq (S ⟨gg,0,N⟩) nn cap).ownBlock 0 [] (wr.setCell ⟨gg,k,N⟩ (Zb mt))):=X ⟨G_ T.a.x f d WW,qab T.a.m f (λg e=>lt g e),λx i=>(T.a.c x i).fr f (λg C fr _ _ z e=>w_ (z e) WU)⟩;have L:Y (∃xs:List I7,(wr.setCell ⟨gg,k,N⟩ (Zb mt)).ownsRow w.heap.size 9 1 (Zq (S ⟨gg,0,N⟩) nn cap) nn xs/\∀i,i<k+1->xs[i]?=S (Zb mt)):=X ⟨_,ow',λi hi=>by
    by_cases e:i=k
    .rw[e,List.getElem?_set_self (by rw[ow.1];omega)]
    .rw[List.getElem?_set_ne (λh=>e h.symm)];exact hx i O⟩
   have a0:0<=(k:Int):=O;have a1:(k:Int)<(nn:Int):=O;clear ow ow' hx d f;go_wp2;go_roundg (gk-1)
   case measure=>omega
   case rel=>exact⟨k+1,O,Vg,b,T,o,L⟩
  .obtain rfl:k=nn:=O
   have V:Y (eA w wb Ob 9 43 9 1 (λv=>[v]) (Zb mt) #[I .i64 mc,tx,tm,cx,cm,lv] tx tm (Zq p k cap) k ts ts wr):=X (by
    obtain⟨xs,ow,hx⟩:=L.a;refine⟨b.a,T.a.x,T.a.m,λx i=>(T.a.c x i).re λ_ _ e=>e,?_,lt,o.a⟩;have e:xs=(List.replicate k [Zb mt]).flatten:=by
     have hl:xs.length=k:=(by rw[ow.1];omega);refine List.ext_getElem? λi=>?_;by_cases hi:i<k
     .have:=Tz [Zb mt] k i 0 hi WU;simp only[List.length_singleton,Nat.mul_one,Nat.add_zero]at this;rw[hx i hi,this];rfl
     .rw[List.getElem?_eq_none (by omega),List.getElem?_eq_none (by simp;omega)]
    rw[<-e];exact ow)
   clear b T o L k1 lt hk;obtain⟨i1,hi,g0,g1,g2⟩:=We (show(c_.info? 43).map (λi=>(i.zero,i.size,i.bytes))=S (S (Zq N 0 0),1,24) from WR);obtain⟨i2,hj,g3,g4,g5⟩:=We DH;have hi:=X hi;have hj:=X hj;go_wp2;go_loopg [1,6,7] 4 (λg lw i gw wr=>∃(k' n:Nat)(tx tm:I7)(ts':List (I7×I7))(p:Option Addr)(cap:Nat),k'+g=4/\i=I .i64 k'/\lw=Zq p n cap/\Y (n=k+k'/\ts'.length=ts.length+k')/\Y (∀x∈ts',x∈ts\/∃s,x.2=Zb s)/\Y (eA w wb Ob 9 43 9 1 (λv=>[v]) (Zb mt) #[I .i64 mc,tx,tm,cx,cm,lv] tx tm (Zq p n cap) n ts' ts' wr))
   case atStart=>exact⟨0,k,tx,tm,ts,p,cap,R,R,R,X ⟨R,R⟩,X λ_=>Zi,V⟩
   case round=>
    clear V;obtain⟨k',n,tx,tm,ts',p,cap,k1,rfl,rfl,ht,hm,V⟩:=hrel;by_cases hk:k'<4
    .have c1:wr.cell? ⟨wb,1,N⟩=S tx:=(by rw[Zs V.a.b];rfl);have hs:w.heap.size<=wr.heap.size:=(by have:=(qB.1 V.a.b).1;omega);have b1:ts'.length<=1000000000004:=(by have:=ht.a.2;omega);have b2:n<=1900000000004:=(by have:=ht.a.1;omega);have V1:=X (V.a.gr hO.a (ZN (c:=#[Zq p n cap]) (t:=43)));clear V;go_upto_region 10 with(at_builtin;refine Q' R (.tmp 53) (.tmp 55) 104 rfl w.heap.size 43 i1 (Zq N 0 0) 1 24 underlying104 hi.a g0 g1 g2 R WW tx ts'.length (ts'.map (·.1)) R V1.a.x ⟨wr.heap.size,0,N⟩ 1 [Zq p n cap] R R (Wp _ _ _) Vi Vk O (by rw[Z3];omega) ?_;intro tx' w2 o' f;obtain⟨sa,sb,sc,rfl⟩:=RD o';obtain⟨V2,q1,q2⟩:=V1.a.a1 hO.a hn.a hw R o' f 1;have V2:Y (eA w wb Ob 9 43 9 1 (λv=>[v]) (Zb mt) #[I .i64 mc,Zq sa sb sc,tm,cx,cm,lv] (Zq sa sb sc) tm (Zq p n cap) n _ _ _):=X V2;clear V1 o' f)
     generalize w2.setCell ⟨wb,1,N⟩ (Zq sa sb sc)=w3 at V2|-;clear q1 q2 c1 hs;have c2:w3.cell? ⟨wb,2,N⟩=S tm:=(by rw[Zs V2.a.b];rfl);have hs:w.heap.size<=w3.heap.size:=(by have:=(qB.1 V2.a.b).1;omega);have V1:=X (V2.a.gr hO.a (ZN (c:=#[Zb mt]) (t:=9)));clear V2;go_upto_region 11 with(at_builtin;refine Q' R (.tmp 63) (.tmp 65) 43 rfl w.heap.size 9 i2 (Zb ⟨#[]⟩) 1 16 underlying43 hj.a g3 g4 g5 R WW tm ts'.length (ts'.map (·.2)) R V1.a.m ⟨w3.heap.size,0,N⟩ 1 [Zb mt] R R (Wp _ _ _) Vi Vk O (by rw[Z3];omega) ?_;intro tm' w4 o' f;obtain⟨sd,se,sf,rfl⟩:=RD o';obtain⟨V2,q1,q2⟩:=V1.a.a2 hO.a hn.a hw o' f 2;have V2:Y (eA w wb Ob 9 43 9 1 (λv=>[v]) (Zb mt) #[I .i64 mc,Zq sa sb sc,Zq sd se sf,cx,cm,lv] (Zq sa sb sc) (Zq sd se sf) (Zq p n cap) n _ _ _):=X V2;clear V1 o' f)
     generalize w4.setCell ⟨wb,2,N⟩ (Zq sd se sf)=w5 at V2|-;clear q1 q2 c2 hs;have hs:w.heap.size<=w5.heap.size:=(by have:=(qB.1 V2.a.b).1;omega);have V1:=X (V2.a.gr hO.a (ZN (c:=#[Zb mt]) (t:=9)));clear V2;go_wp2_with(at_builtin;refine Q' R (.tmp 69) (.tmp 71) 43 rfl w.heap.size 9 i2 (Zb ⟨#[]⟩) 1 16 underlying43 hj.a g3 g4 g5 R WW (Zq p n cap) n _ R V1.a.l ⟨w5.heap.size,0,N⟩ 1 [Zb mt] R R (Wp _ _ _) Vi Vk O (by rw[Z3];omega) ?_;intro l' w6 o' f;obtain⟨p',cap',rfl⟩:∃p cap,l'=Zq p (n+1) cap:=by {obtain⟨e,_⟩|⟨_,_,_,e,_⟩:=o'.2;omega;exact⟨_,_,e⟩};have V2:=X (V1.a.a3 hO.a hn.a R o' f);clear V1 o' f)
     go_roundg (gk-1)
     case measure=>omega
     case rel=>exact⟨k'+1,n+1,_,_,_,p',cap',O,Vg,R,X ⟨by have:=ht.a.1;omega,by rw[qZ];have:=ht.a.2;show _+1=_;omega⟩,X (λx i=>by
      obtain i|i:=List.mem_append.1 i
      .exact hm.a x i
      .rw[qT]at i;exact Zj ⟨_,by rw[i]⟩),V2⟩
    .obtain rfl:k'=4:=O
     have fin:Y (∃mk' tx' tm' ts1,ts1.length=ts.length+4/\(∀x∈ts1,x∈ts\/∃s,x.2=Zb s)/\wr.heap[wb]?=S (Z #[I .i64 mk',tx',tm',cx,cm,lv] 111)/\Z' w 9 43 9 1 (λv=>[v]) tx' tm' ts1 N 0 [] wr/\Ob wr):=X ⟨mc,tx,tm,ts',ht.a.2,hm.a,V.a.b,⟨V.a.x,V.a.m,λx i=>(V.a.c x i).cur λ_ _ e=>by cases e⟩,V.a.o⟩
     clear V;go_wp2;exact bodyPost_end (XS results80 _ _ _) R ⟨R,fin.a⟩
def qby{Ob:I6->Prop}{mk:Int}{tx tm cx cm lv l:I7}{ts:List (I7×I7)}{U:List R_}{wb:Nat}(hO:AlO w (λt=>t=111\/t=33\/t=23\/t=37) Ob)(hw:w.heap.size<=wb)(b:W.heap[wb]?=S (Z #[I L mk,tx,tm,cx,cm,lv] 111))(T:Z' w 37 33 23 2 (λv=>[Zb ⟨#[126]⟩,v]) cx cm ts l.ownBlock 0 [] W)(L:gs w.heap.size l U W)(o:Ob W)(n1:ts.length<=1000000000000)(n2:U.length<=1000000):i_ c_ 78 #[ZI wb,l] W λe a=>e=Zd (Ze #[])/\∃mk' cx' cm' ts',ts'.length=ts.length+4/\(∀x∈ts',x∈ts\/∃k,x.2=I Zh k)/\a.heap[wb]?=S (Z #[I .i64 mk',tx,tm,cx',cm',lv] 111)/\Z' w 37 33 23 2 (λv=>[Zb ⟨#[126]⟩,v]) cx' cm' ts' N 0 [] a/\Ob a:=by
 have hn:Y ((33:Nat)≠111/\(23:Nat)≠111/\(37:Nat)≠111/\(33:Nat)≠23/\(33:Nat)≠37):=X WW;have hO:=X hO;have T:=X T;have o:=X o;have c0:W.cell? wb=I .i64 mk:=by rw[Zs b];rfl
 have f0:W.frozen? wb=Zl:=by simp[World.frozen?,b]
 have hb:=X b;clear b;obtain⟨p,cap,rfl,_,_⟩:=Kg L;have L:=X L;go_in;go_upto_region 1 with fail
 have d:=T' hw hb;have f:=Q_ (W:=W) (p:=wb) (I .i64 (wrap64 (mk+1)));have b:=X (qv (i:=0) (v:=I .i64 (wrap64 (mk+1))) hb);have T:=X (T.fr f d WW WW WW);have L:=X (G_ L f d WW);have o:=X (hO _ _ _ _ o f d (Zi R));clear d f c0 f0 hb;generalize wrap64 _=mc at b T L o|-;generalize W.setCell _ _=W1 at b T L o|-;have b:Y (W1.heap[wb]?=Z #[I .i64 mc,tx,tm,cx,cm,lv] 111):=b
 have c0:W1.cell? wb=I .i64 mc:=by rw[Zs b.a];rfl
 go_upto_region 2 with fail
 have g:Gr W1 (W1.alloc (Z #[Zb ⟨#[126]⟩,I Zh (a_ Zh mc)] 37)):=ZN;have M:=X (Z7 W1 (Z #[Zb ⟨#[126]⟩,I Zh (a_ Zh mc)] 37));have nB:Y (S W1.heap.size≠(Zq p U.length cap).ownBlock):=X λe=>by have:=(L.lt _ e.symm).2;omega
 have tt:Y (∀g,cm.ownBlock=S g->S g≠(Zq p U.length cap).ownBlock):=X λg e i=>by obtain⟨_,_,_,x⟩:=L_ (w:=w) T.m g e;obtain⟨_,_,_,y⟩:=L_ (w:=w) L g i.symm;exact J' x y WW R
 have b:=X (ZE g b);have T:=X (T.gr g);have L:=X (dU L g);have o:=X (hO _ _ N 111 o (p_ g) (qaw _ _ _) (Zi R));clear c0 g;generalize a_ _ _=mm at b T L o M|-;generalize W1.alloc _=Wx at b T L o M|-;generalize W1.heap.size=Bm at M nB|-;have L:Y (∃xs:List I7,Wx.ownsRow w 37 2 (Zq p U.length cap) U.length xs):=⟨_,L⟩;generalize U.length=nn at L T n2 nB tt|-;go_wp2;go_loopg [5] nn (λg i wr=>∃k:Nat,k+g=nn/\i=I .i64 k/\Y (wr.heap[wb]?=Z #[I .i64 mc,tx,tm,cx,cm,lv] 111)/\Y (Z' w 37 33 23 2 (λv=>[Zb ⟨#[126]⟩,v]) cx cm ts (Zq p nn cap).ownBlock 0 [] wr)/\Y (Ob wr)/\Y (wr.heap[Bm]?=Z #[Zb ⟨#[126]⟩,I Zh mm] 37)/\Y (∃xs:List I7,wr.ownsRow w 37 2 (Zq p nn cap) nn xs/\∀i j,i<k->j<2->xs[i*2+j]?=[Zb ⟨#[126]⟩,I Zh mm][j]?))
 case atStart=>exact⟨0,O,R,b,T,o,M,X (L.elim λxs h=>⟨xs,h,λi _ h=>w_ h WU⟩)⟩
 case round=>
  clear b T o L M;obtain⟨k,k1,rfl,b,T,o,M,L⟩:=hrel;by_cases hk:k<nn
  .obtain⟨xs,ow,hx⟩:=L;obtain⟨gg,rfl⟩:∃gg,p=S ⟨gg,0,N⟩:=by
    obtain⟨e,_⟩|⟨g,_,_,e,_⟩:=ow.2
    .injection e;omega
    .injection e with e;exact⟨g,e⟩
   have m0:wr.cell? Bm=Zb ⟨#[126]⟩:=(by rw[Zs M.a];rfl);have m1:wr.cell? ⟨Bm,1,N⟩=I Zh mm:=(by rw[Zs M.a];rfl);have d:=L_ (w:=w) ow;obtain⟨ow1,⟨u0,cu⟩,fu⟩:=IV ow (show k*2<nn*2 by omega) (Zb ⟨#[126]⟩);have f:=Q_ (W:=wr) (p:=⟨gg,k*2,N⟩) (Zb ⟨#[126]⟩);have d2:=L_ (w:=w) ow1;obtain⟨ow2,⟨u1,cv⟩,fv⟩:=IV ow1 (show k*2+1<nn*2 by omega) (I Zh mm);have f2:=Q_ (W:=wr.setCell ⟨gg,k*2,N⟩ (Zb ⟨#[126]⟩)) (p:=⟨gg,k*2+1,N⟩) (I Zh mm)
   have b:=X (N_ (N_ b f d WW) f2 d2 WW);have o:=X (hO _ _ _ _ (hO _ _ _ _ o f d (Zj (Zj (Zj R)))) f2 d2 (Zj (Zj (Zj R))));have M:=X (f2.same _ _ (f.same _ _ M nB) nB);have T:Y (Z' w 37 33 23 2 (λv=>[Zb ⟨#[126]⟩,v]) cx cm ts (Zq (S ⟨gg,0,N⟩) nn cap).ownBlock 0 [] _):=⟨G_ (G_ T.x f d WW) f2 d2 WW,G_ (G_ T.m f d WW) f2 d2 WW,λx i=>((T.c x i).fr f (λg C fr _ _ z e=>w_ (z e) WU)).fr f2 (λg C fr _ _ z e=>w_ (z e) WU)⟩;have L:Y (∃xs:List I7,((wr.setCell ⟨gg,k*2,N⟩ (Zb ⟨#[126]⟩)).setCell ⟨gg,k*2+1,N⟩ (I Zh mm)).ownsRow w.heap.size 37 2 (Zq (S ⟨gg,0,N⟩) nn cap) nn xs/\∀i j,i<k+1->j<2->xs[i*2+j]?=[Zb ⟨#[126]⟩,I Zh mm][j]?):=X ⟨_,ow2,λi j hi hj=>by
    have hl:=ow.1
    obtain rfl|rfl:j=0\/j=1:=O
    .show((xs.set (k*2) _).set (k*2+1) _)[i*2]?=_;rw[List.getElem?_set_ne (by omega)];by_cases e:i=k
     .rw[e,List.getElem?_set_self (by omega)];rfl
     .rw[List.getElem?_set_ne (by omega)];exact hx i 0 O WW
    .by_cases e:i=k
     .rw[e,List.getElem?_set_self (by rw[List.length_set];omega)];rfl
     .rw[List.getElem?_set_ne (by omega),List.getElem?_set_ne (by omega)];exact hx i 1 O WW⟩
   have a0:0<=(k:Int):=O;have a1:(k:Int)<(nn:Int):=O;clear ow ow1 ow2 hx d f d2 f2;go_wp2;go_roundg (gk-1)
   case measure=>omega
   case rel=>exact⟨k+1,O,Vg,b,T,o,M,L⟩
  .obtain rfl:k=nn:=O
   have V:Y (eA w wb Ob 37 33 23 2 (λv=>[Zb ⟨#[126]⟩,v]) (I Zh mm) #[I .i64 mc,tx,tm,cx,cm,lv] cx cm (Zq p k cap) k ts ts wr):=X (by
    obtain⟨xs,ow,hx⟩:=L;refine⟨b,T.x,T.m,λx i=>(T.c x i).re λ_ _ e=>e,?_,tt,o⟩;have e:xs=(List.replicate k [Zb ⟨#[126]⟩,I Zh mm]).flatten:=by
     have hl:=ow.1
     refine List.ext_getElem? λi=>?_;by_cases hi:i<k*2
     .have:=Tz [Zb ⟨#[126]⟩,I Zh mm] k (i/2) (i%2) O (by show _<2;omega);have e:i/2*2+i%2=i:=O
      have h2:=hx (i/2) (i%2) O O;change(_:List I7)[i/2*2+i%2]?=_ at this;rw[e]at this h2;rw[h2,this]
     .rw[List.getElem?_eq_none (by omega),List.getElem?_eq_none (by simp;omega)]
    rw[<-e];exact ow)
   clear b T o L k1 tt hk;obtain⟨i1,hi,g0,g1,g2⟩:=We (show(c_.info? 33).map (λi=>(i.zero,i.size,i.bytes))=S (S (Zq N 0 0),1,24) from WR);obtain⟨i2,hj,g3,g4,g5⟩:=We (show(c_.info? 23).map (λi=>(i.zero,i.size,i.bytes))=S (S (I Zh 0),1,8) from WR);obtain⟨i3,hl,g6,g7,g8⟩:=We PN;have hi:=X hi;have hj:=X hj;have hl:=X hl;go_wp2;go_loopg [1,6,7] 4 (λg lw i gw wr=>∃(k' n:Nat)(cx cm:I7)(ts':List (I7×I7))(p:Option Addr)(cap:Nat),k'+g=4/\i=I .i64 k'/\lw=Zq p n cap/\Y (n=k+k'/\ts'.length=ts.length+k')/\Y (∀x∈ts',x∈ts\/∃k,x.2=I Zh k)/\Y (S Bm≠(Zq p n cap).ownBlock)/\Y (wr.heap[Bm]?=Z #[Zb ⟨#[126]⟩,I Zh mm] 37)/\Y (eA w wb Ob 37 33 23 2 (λv=>[Zb ⟨#[126]⟩,v]) (I Zh mm) #[I .i64 mc,tx,tm,cx,cm,lv] cx cm (Zq p n cap) n ts' ts' wr))
   case atStart=>exact⟨0,k,cx,cm,ts,p,cap,R,R,R,X ⟨R,R⟩,X λ_=>Zi,nB,M,V⟩
   case round=>
    clear V M nB;obtain⟨k',n,cx,cm,ts',p,cap,k1,rfl,rfl,ht,hm,nB,M,V⟩:=hrel;by_cases hk:k'<4
    .have c1:wr.cell? ⟨wb,3,N⟩=cx:=(by rw[Zs V.a.b];rfl);have hs:w.heap.size<=wr.heap.size:=(by have:=(qB.1 V.b).1;omega);have b1:ts'.length<=1000000000004:=(by have:=ht.2;omega);have b2:n<=1000004:=(by have:=ht.1;omega);have V1:=X (V.gr hO (ZN (c:=#[Zq p n cap]) (t:=33)));have M1:=X (ZE (ZN (c:=#[Zq p n cap]) (t:=33)) M);clear V M;go_upto_region 10 with(at_builtin;refine Q' R (.tmp 39) (.tmp 41) 105 rfl w 33 i1 (Zq N 0 0) 1 24 underlying105 hi g0 g1 g2 R WW cx ts'.length (ts'.map (·.1)) R V1.x ⟨wr,0,N⟩ 1 [Zq p n cap] R R (Wp _ _ _) Vi Vk O (by rw[Z3];omega) ?_;intro cx' w2 o' f;obtain⟨sa,sb,sc,rfl⟩:=RD o';obtain⟨V2,q1,q2⟩:=V1.a1 hO hn hw R o' f 3;have M:=X (N_ M1 f.fr (L_ (w:=w) V1.x) WW);have M:=X (N_ M (Q_ (p:=⟨wb,3,N⟩) (Zq sa sb sc)) (T' hw (N_ V1.b f.fr (L_ (w:=w) V1.x) WW)) WW);have V2:=X V2;clear V1 M1 o' f)
     generalize w2.setCell _ _=w3 at V2 M|-;clear q1 q2 c1 hs
     go_upto_region 10 with fail;refine ZT (S:=λV=>V.cell? ⟨Bm,1,N⟩=I Zh mm) WR (show w3.cell? _=_ by rw[Zs M.a];rfl) (λd=>?_);have V2:=X (V2.a.gr hO.a ZO.drew);have M:=X (ZE ZO.drew M.a);generalize w3.drew=wd at V2 M d|-;apply tq 0 _ d;apply tq 1 _ d;apply tq 2 _ d;refine ZB 3 _ R (λw h=>by go_simp;rfl) d ?_;refine ZB 5 _ R (λw h=>by go_simp;rfl) d ?_;refine ZB 6 (I Zh mm) R (λw h=>by go_simp) d ?_;have c4:wd.cell? ⟨wb,4,N⟩=cm:=(by rw[Zs V2.a.b];rfl);have hs:w.heap.size<=wd.heap.size:=(by have:=(qB.1 V2.b).1;omega);have V1:=X (V2.gr hO (ZN (c:=#[I Zh mm]) (t:=23)));have M1:=X (ZE (ZN (c:=#[I Zh mm]) (t:=23)) M);have c5:(wd.alloc (Z #[I Zh mm] 23)).cell? ⟨wb,4,N⟩=cm:=(by rw[Zs V1.a.b];rfl);clear V2 M;refine wpAnyH_ready (rs:=[4,7]) (by kernel_rfl) (by simp) (.cons R (λK hK=>?_) (.cons R (λK hK=>?_) .nil))
     case' refine_1=>go_simp;refine hK.out _ _ d λd=>?_;clear hK K;(try simp only[py]);refine rd 7 λK hK=>?_;go_simp;refine hK.out _ _ (by rw[Zs M1.a];rfl) λd=>?_;clear hK K c4 c5;try simp only[py]
     case' refine_2=>go_simp;refine hK.out _ _ (by rw[Zs M1.a];rfl) λd=>?_;clear hK K;(try simp only[py]);refine rd 4 λK hK=>?_;go_simp;refine hK.out _ _ d λd=>?_;clear hK K c4 c5;try simp only[py]
     all_goals
      refine rd 8 λK hK=>?_;rw[qI Vb];refine qaF (.tmp 49) (.tmp 52) 106 rfl w 23 i2 (I Zh 0) 1 8 underlying106 hj g3 g4 g5 R WW cm ts'.length (ts'.map (·.2)) R V1.m ⟨wd,0,N⟩ 1 [I Zh mm] R R (Wp _ _ _) Vi Vk O (by rw[Z3];omega) ?_;intro cm' w4 o' f;obtain⟨sd,se,sf,rfl⟩:=RD o';have b4:=N_ V1.b f.fr (L_ (w:=w) V1.m) WW;have M:=X (N_ M1 f.fr (L_ (w:=w) V1.m) WW);obtain⟨V2,q1,q2⟩:=V1.a2 hO hn hw o' f 4;have V2:=X V2;refine hK.out _ _ (by rw[Zs M.a];rfl) λd=>?_;have M:=X (N_ M (Q_ (p:=⟨wb,4,N⟩) (Zq sd se sf)) (T' hw b4) WW);clear hK K V1 M1 o' f b4;try simp only[py]
      apply tq 9 _ d;refine ZB 10 _ R (λw h=>by go_simp;rfl) d ?_;refine rd 11 λK hK=>?_;go_simp;refine hK.out _ _ (by rw[Zs M.a];rfl) λd=>?_;clear hK K;refine ZZ WR ?_ _;generalize w4.setCell _ _=w5 at V2 M|-;clear q1 q2 d hs;have hs:w.heap.size<=w5.heap.size:=(by have:=(qB.1 V2.b).1;omega);have m0:w5.cell? Bm=Zb ⟨#[126]⟩:=(by rw[Zs M.a];rfl);have m1:w5.cell? ⟨Bm,1,N⟩=I Zh mm:=(by rw[Zs M.a];rfl);have g9:Gr w5 (w5.alloc (Z #[Zb ⟨#[126]⟩,I Zh mm] 37)):=ZN;have V1:=X (V2.gr hO g9);have M1:=X (ZE g9 M);have f5:∀j u',[Zb ⟨#[126]⟩,I Zh mm][j]?=S u'->(w5.alloc (Z #[Zb ⟨#[126]⟩,I Zh mm] 37)).cell? ((⟨w5,0,N⟩:Addr).add j)=S u':=λj u h=>(by rw[Lib.add_plain,Zs (Z7 w5 _),Nat.zero_add];simpa using h);clear V2 M g9;go_wp2_with(at_builtin;refine Q' R (.tmp 56) (.tmp 58) 33 rfl w 37 i3 (Zc #[Zb ⟨#[]⟩,I Zh 0]) 2 24 underlying33 hl g6 g7 g8 R WW (Zq p n cap) n _ R V1.l ⟨w5,0,N⟩ 1 [Zb ⟨#[126]⟩,I Zh mm] R R f5 Vi Vk O (by rw[Z3];omega) ?_;intro l' w6 o' f;obtain⟨p',cap',rfl⟩:∃p cap,l'=Zq p (n+1) cap:=by {obtain⟨e,_⟩|⟨_,_,_,e,_⟩:=o'.2;omega;exact⟨_,_,e⟩};have M:=X (f.fr.same _ _ M1 nB);have nB:Y (S Bm≠(Zq p' (n+1) cap').ownBlock):=X λe=>by {obtain⟨i,_⟩|⟨i,_⟩:=f;exact nB (e.trans i);have:=i _ e.symm;have:=(qB.1 M1).1;omega};have V2:=X (V1.a3 hO hn R o' f);clear V1 M1 o' f)
      go_roundg (gk-1)
      case measure=>omega
      case rel=>exact⟨k'+1,n+1,_,_,_,p',cap',O,Vg,R,X ⟨by have:=ht.1;omega,by rw[qZ];have:=ht.2;show _+1=_;omega⟩,X (λx i=>by
      obtain i|i:=List.mem_append.1 i
      .exact hm x i
      .rw[qT]at i;exact Zj ⟨_,by rw[i]⟩),nB,M,V2⟩
    .obtain rfl:k'=4:=O
     have fin:Y (∃mk' cx' cm' ts1,ts1.length=ts.length+4/\(∀x∈ts1,x∈ts\/∃k,x.2=I Zh k)/\wr.heap[wb]?=Z #[I .i64 mk',tx,tm,cx',cm',lv] 111/\Z' w 37 33 23 2 (λv=>[Zb ⟨#[126]⟩,v]) cx' cm' ts1 N 0 [] wr/\Ob wr):=⟨mc,cx,cm,ts',ht.2,hm,V.b,⟨V.x,V.m,λx i=>(V.c x i).cur λ_ _ e=>by cases e⟩,V.o⟩
     clear V;go_wp2;exact bodyPost_end (XS results78 _ _ _) R ⟨R,fin⟩
def SL{t:TypeId}{xs:List I7}(h:W.ownsRow base t 1 v n xs):∃p c,v=Zq p n c/\n<=maxLen/\∀k,k<n->∃g,p=S ⟨g,0,N⟩/\W.cell? ⟨g,k,N⟩=xs[k]?:=by
 obtain⟨_,⟨rfl,rfl⟩|⟨g,c,C,rfl,_,e,a,b,_,tk⟩⟩:=h
 .exact⟨N,0,R,Nat.zero_le _,λk i=>w_ i WU⟩
 .exact⟨_,c,R,q7 a b,λk i=>⟨g,R,by rw[Zs e,<-tk,<-qO,List.getElem?_take_of_lt (by omega)]⟩⟩
def AlS(sz:Nat)(pat:I7->List I7)(P:I7->Prop)(tx tm:I7)(n:Nat)(W:I6):Prop:=∃p c p' c',tx=Zq p n c/\tm=Zq p' n c'/\n<=maxLen/\∀i,i<n->∃g g' q m k v,p=S ⟨g,0,N⟩/\p'=S ⟨g',0,N⟩/\W.cell? ⟨g,i,N⟩=S (Zq q m k)/\W.cell? ⟨g',i,N⟩=S v/\P v/\m<=maxLen/\∀j,j<m->∃h,q=S ⟨h,0,N⟩/\∀i,i<sz->W.cell? ⟨h,j*sz+i,N⟩=(pat v)[i]?
section
variable {tl tX tM:TypeId}{sz:Nat}{pat:I7->List I7}{tx tm:I7}{ts:List (I7 × I7)}{q:Option Nat}{mc:List I7}{P:I7->Prop}
def Z'.s(h:Z' w tl tX tM sz pat tx tm ts q j mc W)(hp:∀x∈ts,P x.2):AlS sz pat P tx tm ts.length W:=by
 obtain⟨p,c,rfl,hb,h1⟩:=SL h.x;obtain⟨p',c',e0,_,h2⟩:=SL h.m;refine⟨p,c,p',c',R,e0,hb,λi hi=>?_⟩;obtain⟨g,rfl,e⟩:=h1 i hi;obtain⟨g',rfl,e'⟩:=h2 i hi;rw[List.getElem?_map,List.getElem?_eq_getElem hi]at e e';have m:=List.getElem_mem hi;obtain⟨q,n,k,⟨hv,b⟩,hc⟩:=h.c _ m;refine⟨g,g',q,n,k,_,R,R,e.trans (congrArg S hv),e',hp _ m,b,λj hj=>?_⟩;obtain⟨b,C,fr,rfl,_,hC,u,_⟩:=hc j hj;exact⟨b,R,λi hi=>by rw[Zs hC];exact u i hi⟩
def Z_{p:Addr}{u:I7}(g:Gr W a)(e:W.cell? p=S u):a.cell? p=S u:=(Below.cell g (Zx e)).trans e
def qbt{mk:Int}{tx tm cx cm lv:I7}{nt nc wb:Nat}(b:W.heap[wb]?=S (Z #[I L mk,tx,tm,cx,cm,lv] 111))(T:AlS 1 (λv=>[v]) (λv=>∃s,v=Zb s) tx tm nt W)(C:AlS 2 (λv=>[Zb ⟨#[126]⟩,v]) (λv=>∃k,v=I Zh k) cx cm nc W):ZL 42 #[ZI wb] W (Za Zk):=by
 obtain⟨p,c,p',c',rfl,rfl,b1,T⟩:=T;obtain⟨x,cc,x',cd,rfl,rfl,b2,C⟩:=C;have T:=X T;have C:=X C;have b:=X b;unfold maxLen at b1 b2;have c1:W.cell? ⟨wb,1,N⟩=Zq p nt c:=by rw[Zs b.a];rfl
 unfold ZL;go_in;go_wp2;go_loopg [3,4] nt (λg i _ wr=>∃k:Nat,k+g=nt/\i=k/\Y (Gr W wr))
 case atStart=>exact⟨0,O,R,X ZO⟩
 case round=>
  clear c1;obtain⟨k,k1,rfl,g⟩:=hrel;have c1:wr.cell? ⟨wb,1,N⟩=Zq p nt c:=by rw[Zs (ZE g.a b.a)];rfl
  by_cases hk:k<nt
  .obtain⟨B,B',q,m,kk,v,rfl,rfl,e1,e2,⟨s,rfl⟩,hm,hc⟩:=T k hk;have hc:=X hc;have f1:=X e1;have e2:=X e2;have e1:=Z_ g e1;have a0:0<=(k:Int):=O;have a1:(k:Int)<(nt:Int):=O;unfold maxLen at hm;go_wp2;go_loopg [4] m (λg j wr=>∃k:Nat,k+g=m/\j=k/\Y (Gr W wr))
   case atStart=>exact⟨0,O,R,g⟩
   case round=>
    clear c1 e1 g;obtain⟨k',k2,rfl,g⟩:=hrel;have c1:wr.cell? ⟨wb,1,N⟩=Zq (S B) nt c:=(by rw[Zs (ZE g.a b.a)];rfl);have c2:wr.cell? ⟨wb,2,N⟩=Zq (S B') nt c':=(by rw[Zs (ZE g.a b.a)];rfl);have e1:=Z_ g f1;have e2:=Z_ g e2
    by_cases hk':k'<m
    .obtain⟨H,rfl,hx⟩:=hc k' hk';have e3:wr.cell? ⟨H,k',N⟩=S (Zb s):=(by have:=hx 0 WW;rw[Nat.mul_one]at this;exact Z_ g this);have a2:0<=(k':Int):=O;have a3:(k':Int)<(m:Int):=O;clear hx hc T C f1;go_wp2;go_quiet(fail);go_wp2;go_roundg (gk-1)
     case measure=>omega
     case rel=>exact⟨k'+1,O,Vg,X (r_ g _)⟩
    .obtain rfl:k'=m:=O
     clear hc C f1;go_wp2;go_roundg (nt-(k+1))
     case measure=>omega
     case rel=>exact⟨k+1,O,Vg,g⟩
  .obtain rfl:k=nt:=O
   have c3:wr.cell? ⟨wb,3,N⟩=Zq x nc cc:=(by rw[Zs (ZE g.a b.a)];rfl);clear T;go_wp2;go_loopg [5,6,7] nc (λg i _ _ wr=>∃k:Nat,k+g=nc/\i=k/\Y (Gr W wr))
   case atStart=>exact⟨0,O,R,g⟩
   case round=>
    clear c1 c3 g;obtain⟨k,k1,rfl,g⟩:=hrel;have c3:wr.cell? ⟨wb,3,N⟩=Zq x nc cc:=(by rw[Zs (ZE g.a b.a)];rfl);by_cases hk:k<nc
    .obtain⟨B,B',q,m,kk,v,rfl,rfl,e1,e2,⟨s,rfl⟩,hm,hc⟩:=C k hk;have hc:=X hc;have f1:=X e1;have e2:=X e2;have e1:=Z_ g e1;have a0:0<=(k:Int):=O;have a1:(k:Int)<(nc:Int):=O;unfold maxLen at hm;go_wp2;go_loopg [6,7] m (λg j _ wr=>∃k:Nat,k+g=m/\j=k/\Y (Gr W wr))
     case atStart=>exact⟨0,O,R,g⟩
     case round=>
      clear c3 e1 g;obtain⟨k',k2,rfl,g⟩:=hrel;have c3:wr.cell? ⟨wb,3,N⟩=Zq (S B) nc cc:=(by rw[Zs (ZE g.a b.a)];rfl);have e1:=Z_ g f1
      by_cases hk':k'<m
      .obtain⟨H,rfl,hx⟩:=hc k' hk';have e3:wr.cell? ⟨H,k'*2,N⟩=Zb ⟨#[126]⟩:=Z_ g (hx 0 WW)
       have e4:wr.cell? ⟨H,k'*2+1,N⟩=I Zh s:=Z_ g (hx 1 WW)
       have a2:0<=(k':Int):=O;have a3:(k':Int)<(m:Int):=O;have g:=X (o_ g (ZN (c:=#[Zb ⟨#[126]⟩,I Zh s]) (t:=37)));clear hx hc C f1;go_upto_region 16 with fail
       have M:=Z7 wr (Z #[Zb ⟨#[126]⟩,I Zh s] 37);have e2:=Z_ g e2;have c4:=Zs (j:=4) (ZE g b);change World.cell? (World.alloc wr _) _=S (Zq (S B') nc cd) at c4;have m0:=Zs (j:=0) M;have m1:=Zs (j:=1) M;change World.cell? (World.alloc wr _) _=S _ at m0;change World.cell? (World.alloc wr _) _=S _ at m1;generalize wr.heap.size=Bm at M m0 m1|-;generalize wr.alloc _=w1 at g e2 c4 m0 m1|-;clear M e1 e3 e4 c3;go_quiet(fail);go_wp2;go_roundg (gk-1)
       case measure=>omega
       case rel=>exact⟨k'+1,O,Vg,X (r_ g _)⟩
      .obtain rfl:k'=m:=O
       clear hc f1;go_wp2;go_roundg (nc-(k+1))
       case measure=>omega
       case rel=>exact⟨k+1,O,Vg,g⟩
    .obtain rfl:k=nc:=O
     clear C;go_wp2;go_ret;exact⟨R,g⟩
end
section
variable {r:Option Nat}{t:TypeId}{lv:I7}{cs:List (Nat × Nat × Nat)}
def Q4{k:Nat}(f:zm k W a):Fr (λq _=>S q≠S k) W a:=Fr.mono f λ_ _ _ q e=>q (e▸R)
def qaD(h:Gr w W)(f:Fr (λk _=>S k≠r) W a)(d:AlR w t r W):Gr w a:=by
 cases r with
 | none=>exact((zm.of (g:=w) h).trans (Fr.mono f λ_ _ _ _ i=>by cases i)).gr Zy
 | some g=>exact((zm.of (g:=g) h).trans (Fr.mono f λ_ _ _ q e=>q (S.inj e))).gr (d g R).1
def qav{B:Nat}(h:Pb B g n W)(f:Fr (λk _=>S k≠r) W a)(d:AlR w t r W)(n1:66≠t)(n2:168≠t):Pb B g n a:=by
 obtain⟨C,fr,e⟩:=(Mc g n h.le).ob _ h.m;cases r with
 | none=>exact h.fx (k:=B+g+1) (Fr.mono f λ_ _ _ _ i=>by cases i) O O
 | some k=>obtain⟨_,C',fr',u⟩:=d k R;exact h.fx (k:=k) (Fr.mono f λ_ _ _ q e=>q (S.inj e)) (J' h.c u n1) (J' e u n2)
structure HJ(w:I6)(lv:I7)(cs:List (Nat×Nat×Nat))(W:I6):Prop where
 l:W.ownsRow w.heap.size 27 1 lv cs.length (cs.map λc=>ZI c.1)
 c:∀c∈cs,Pb c.1 c.2.1 c.2.2 W/\w.heap.size<=c.1/\w.heap.size<=c.2.1
 p:cs.Pairwise λa b=>a.2.1≠b.2.1
 g:Gr w W
def HJ.gr(h:HJ w lv cs W)(g:Gr W a):HJ w lv cs a:=⟨dU h.l g,λc i=>⟨(h.c c i).1.gr g,(h.c c i).2⟩,h.p,o_ h.g g⟩
def HJ.fr(h:HJ w lv cs W)(f:Fr (λk _=>S k≠r) W a)(d:AlR w t r W)(n0:27≠t)(n1:66≠t)(n2:168≠t):HJ w lv cs a:=⟨G_ h.l f d n0,λc i=>⟨qav (h.c c i).1 f d n1 n2,(h.c c i).2⟩,h.p,qaD h.g f d⟩
theorem qaO{α:Type}{f:α->Nat}:∀{l:List α},l.Pairwise (λa b=>f a≠f b)->∀a∈l,∀b∈l,f a=f b->a=b
 | [],_,a,h,_,_,_=>w_ h WU
 | c::r,h,a,i,b,j,e=>by
  rw[List.pairwise_cons]at h;obtain x|x:=List.mem_cons.1 i
  .obtain y|y:=List.mem_cons.1 j
   .rw[x,y]
   .exact(h.1 b y (x▸e)).elim
  .obtain y|y:=List.mem_cons.1 j
   .exact(h.1 a x (y▸e.symm)).elim
   .exact qaO h.2 a x b y e
def qan{B:Nat}(h:Pb B g n W):∃C fr,W.heap[g]?=S (Z C 168 fr):=(Mc g n h.le).ob _ h.m
def HJ.ask(h:HJ w lv cs W){c:Nat×Nat×Nat}(hc:c∈cs)(f:zm c.2.1 W a)(hC:Pb c.1 c.2.1 c.2.2 a):HJ w lv cs a:=by
 obtain⟨C,fr,e⟩:=qan (h.c c hc).1;have d:=T' (h.c c hc).2.2 e;refine⟨G_ h.l (Q4 f) d WW,λx i=>⟨?_,(h.c x i).2⟩,h.p,qaD h.g (Q4 f) d⟩;by_cases k:x.2.1=c.2.1
 .rw[qaO (f:=λa:Nat×Nat×Nat=>a.2.1) h.p x i c hc k];exact hC
 .exact(h.c x i).1.fx f (J' (h.c x i).1.c e WW) k
def O'(w:I6)(wb n:Nat)(W:I6):Prop:=∃mk tx tm cx cm lv ts us cs,W.heap[wb]?=S (Z #[I L mk,tx,tm,cx,cm,lv] 111)/\Z' w 9 43 9 1 (λv=>[v]) tx tm ts N 0 [] W/\Z' w 37 33 23 2 (λv=>[Zb ⟨#[126]⟩,v]) cx cm us N 0 [] W/\HJ w lv cs W/\(∀x∈ts,∃s,x.2=Zb s)/\(∀x∈us,∃k,x.2=I Zh k)/\ts.length<=n/\us.length<=n/\cs.length<=n
def O'.gr{wb:Nat}:O' w wb n W->Gr W a->O' w wb n a:=λ⟨mk,tx,tm,cx,cm,lv,ts,us,cs,b,T,C,c,r⟩ g=>⟨mk,tx,tm,cx,cm,lv,ts,us,cs,ZE g b,T.gr g,C.gr g,c.gr g,r⟩
def O'.mo{wb:Nat}(q:n<=k):O' w wb n W->O' w wb k W:=λ⟨mk,tx,tm,cx,cm,lv,ts,us,cs,b,T,C,c,x,y,i,j,z⟩=>⟨mk,tx,tm,cx,cm,lv,ts,us,cs,b,T,C,c,x,y,q7 i q,q7 j q,q7 z q⟩
def qaK{c:Int}(h1:-9223372036854775808<=c)(h2:c<=9223372036854775807)(hn:0<n)(w:I6):i_ c_ 165 #[I L c,I L n] w λe w'=>(∃j:Nat,j<n/\e=Zd (I L j))/\w'=w:=by
 have nz:((n:Int)==0)=Zl:=by rw[beq_eq_false_iff_ne];omega
 have nz2:¬(n:Int)=0:=O;have nz3:¬n=0:=O;obtain⟨x,hx⟩:∃x:Nat,(if c<0 then -(c+1) else c)=x:=⟨(if c<0 then -(c+1) else c).toNat,O⟩
 have e3:(x:Int).tmod n=((x%n:Nat):Int):=by rw[Int.tmod_eq_emod_of_nonneg O];omega
 have hl:=Nat.mod_lt x hn;have e4:a_ L ((x%n:Nat):Int)=((x%n:Nat):Int):=by have:=Nat.mod_le x n;rw[IntKind.wrap_i64];omega
 by_cases h:c<0
 .rw[qI h]at hx;have e1:a_ L (c+1)=c+1:=by rw[IntKind.wrap_i64];omega
  have e2:a_ L (-(c+1))=(x:Int):=by rw[IntKind.wrap_i64];omega
  generalize x%n=j at e3 hl e4;clear hx;go_in;go_wp2;go_ret;exact⟨⟨j,hl,R⟩,R⟩
 .rw[qF h]at hx;subst hx;generalize x%n=j at e3 hl e4;go_in;go_wp2;go_ret;exact⟨⟨j,hl,R⟩,R⟩
end
section
variable {lv lv':I7}{cs:List (Nat × Nat × Nat)}
def HJ.add{bc:Nat}(h:HJ w lv cs W)(hC:Pb bc g n W)(q1:w.heap.size<=bc)(q2:w.heap.size<=g)(hn:∀c∈cs,c.2.1≠g)(o:a.ownsRow w.heap.size 27 1 lv' (cs.length+1) (cs.map (λc=>ZI c.1)++[ZI bc]))(f:AlG W a lv lv'):HJ w lv' (cs++[(bc,g,n)]) a:=by
 have d:=L_ h.l;refine⟨by rw[qZ,Ys];exact o,λc i=>?_,?_,qaD h.g f.fr d⟩
 .obtain i|i:=List.mem_append.1 i
  .exact⟨qav (h.c c i).1 f.fr d WW WW,(h.c c i).2⟩
  .rw[qT]at i;rw[i];exact⟨qav hC f.fr d WW WW,q1,q2⟩
 .rw[List.pairwise_append];exact⟨h.p,List.pairwise_singleton _ _,λx i y j=>by rw[qT.1 j];exact hn x i⟩
def qbC(ca:Int)(T s:I4)(nn wy:Int){wb:Nat}(hw:w.heap.size<=wb)(l:Wt w)(hB:O' w wb n W)(hn:n<=1000000000000):i_ c_ 76 #[ZI wb,Zc #[I L 1,I L ca,Zb T,Zb s,I L nn,I L wy]] W λe a=>e=Zd (Za Zk)/\O' w wb (n+1) a:=by
 obtain⟨i0,hi,z0,z1,z2⟩:=We (show(c_.info? 27).map (λi=>(i.zero,i.size,i.bytes))=S (S (.pointer N),1,8) from WR);have hi:=X hi;have x1:=Z7 W (Z #[I L 1,ca,T,s,nn,wy] 113);have hB:=X (hB.gr (ZN (c:=#[I L 1,I L ca,Zb T,Zb s,I L nn,I L wy]) (t:=113)));go_in;go_upto_region 1 with fail
 generalize W.alloc (Z #[I L 1,ca,T,s,nn,wy] 113)=w0 at x1 hB|-;generalize W.heap.size=B at x1|-;have c0:w0.cell? B=I L 1:=by rw[Zs x1];rfl
 have c1:w0.cell? ⟨B,1,N⟩=I L ca:=by rw[Zs x1];rfl
 clear x1;by_cases hr:0<=ca/\ca<=4096
 .obtain⟨k,rfl⟩:=Int.eq_ofNat_of_zero_le hr.1;have q1:¬(k:Int)<0:=O;have q2:¬(4096:Int)<(k:Int):=O;obtain⟨mk,tx,tm,cx,cm,lv,ts,us,cs,b,T,C,c,x,y,n1,n2,n3⟩:=hB;clear hB;have p:=X (NW k O w0 (l.gr c.g));have T:=X T;have C:=X C;have c:=X c;have b:=X b;have x:=X x;have y:=X y;go_upto_region 3 with(go_at_call 9;apply p.mono;rintro e w1 ⟨⟨bc,g,rfl,hC,m1,m2⟩,g1⟩)
  have hN:Y (∀c∈cs,c.2.1≠g):=X λx i e=>by obtain⟨C,fr,u⟩:=qan (c.c x i).1;have:=(qB.1 u).1;omega
  have s0:=Below.size c.g;have hC:=X hC;have c1:=Z_ g1 c1;have s1:=Below.size g1;have g2:Gr w0 (w1.alloc (Z #[ZI bc] 27)):=o_ g1 ZN;have dl:w1.cell? ⟨wb,5,N⟩=lv:=by rw[Zs (ZE g1 b.a)];rfl
  have T:=X (T.gr g2);have C:=X (C.gr g2);have c:=X (c.gr g2);have b:=X (ZE g2 b);have hC:=X (hC.gr (ZN (c:=#[ZI bc]) (t:=27)));clear p c0 g1 g2;go_upto_region 7 with(at_builtin;refine Q' R (.tmp 41) (.tmp 43) 109 rfl w 27 i0 (.pointer N) 1 8 underlying109 hi z0 z1 z2 R WW lv cs.length _ R c.l ⟨w1,0,N⟩ 1 [ZI bc] R R (Wp _ _ _) Vi Vk O (by rw[Z3];omega) ?_;intro v' w3 o' f;obtain⟨sa,sb,sc,rfl⟩:=RD o';have d:=L_ (w:=w) c.l;have b3:=N_ b f.fr d WW;have z5:w3.cell? ⟨wb,5,N⟩=lv:=by {rw[Zs b3];rfl};have zf:w3.frozen? ⟨wb,5,N⟩=Zl:=by simp[World.frozen?,b3])
  have fin:Y (O' w wb (n+1) (w3.setCell ⟨wb,5,N⟩ (Zq sa sb sc))):=X (by
   have f2:=Q_ (W:=w3) (p:=⟨wb,5,N⟩) (Zq sa sb sc);have d2:=T' hw b3;exact⟨mk,tx,tm,cx,cm,_,ts,us,_,qv b3,(T.fr f.fr d WW WW WW).fr f2 d2 WW WW WW,(C.fr f.fr d WW WW WW).fr f2 d2 WW WW WW,(c.add hC O O hN o' f).fr f2 d2 WW WW WW,x,y,O,O,by rw[qZ];show _+1<=_;omega⟩)
  clear o' f d b3 T C c b hC hN x y;go_wp2;go_ret;exact⟨R,fin⟩
 .have p:=X (λW=>NV ca O W);have fin:=X (hB.mo (Nat.le_succ n));clear hB;by_cases q1:ca<0
  .clear hr;go_wp2_with(first|(go_at_call 9;apply Z1 (p _))|(go_at_call 30;apply Z1 (BQ _ _)));go_ret;exact⟨R,fin⟩
  .have q2:4096<ca:=O;clear hr;go_wp2_with(first|(go_at_call 9;apply Z1 (p _))|(go_at_call 30;apply Z1 (BQ _ _)));go_ret;exact⟨R,fin⟩
end
structure AlJ(w:I6)(wb B:Nat)(A O:I0)(tx tm cx cm lv:I7)(ts us:List (I7×I7))(cs:List (Nat×Nat×Nat))(V:I6):Prop where
 o:V.heap[B]?=S (Z O 113)
 b:V.heap[wb]?=S (Z A 111)
 t:Z' w 9 43 9 1 (λv=>[v]) tx tm ts N 0 [] V
 k:Z' w 37 33 23 2 (λv=>[Zb ⟨#[126]⟩,v]) cx cm us N 0 [] V
 c:HJ w lv cs V
section
variable {wb:Nat}{O:I0}{tx tm cx cm lv:I7}{ts us:List (I7 × I7)}{cs:List (Nat × Nat × Nat)}{c:Nat × Nat × Nat}
def AlJ.gr(h:AlJ w wb B A O tx tm cx cm lv ts us cs V)(g:Gr V a):AlJ w wb B A O tx tm cx cm lv ts us cs a:=⟨ZE g h.o,ZE g h.b,h.t.gr g,h.k.gr g,h.c.gr g⟩
def AlJ.ask(h:AlJ w wb B A O tx tm cx cm lv ts us cs V)(hc:c∈cs)(f:zm c.2.1 V a)(hC:Pb c.1 c.2.1 c.2.2 a):AlJ w wb B A O tx tm cx cm lv ts us cs a:=by
 obtain⟨C,fr,e⟩:=qan (h.c.c c hc).1;have d:=T' (h.c.c c hc).2.2 e;exact⟨f.at h.o (J' h.o e WW),f.at h.b (J' h.b e WW),h.t.fr (Q4 f) d WW WW WW,h.k.fr (Q4 f) d WW WW WW,h.c.ask hc f hC⟩
theorem qbD{ca:Int}{T s:I4}{nn wy:Int}(h1:-9223372036854775808<=ca)(h2:ca<=9223372036854775807)(hT:T.size<4294967281)(l:T_ m w)(hB:O' w wb n W):i_ c_ 76 #[ZI wb,Zc #[I L 2,I L ca,Zb T,Zb s,I L nn,I L wy]] W λe a=>e=Zd (Za Zk)/\O' w wb n a:=by
 obtain⟨mk,tx,tm,cx,cm,lv,ts,us,cs,b,t,C,c,x,y,n1,n2,n3⟩:=hB;have x1:=Z7 W (Z #[I L 2,ca,T,s,nn,wy] 113);have g0:=ZN (w:=W) (c:=#[I L 2,I L ca,Zb T,Zb s,I L nn,I L wy]) (t:=113);have J:=X (AlJ.mk x1 (ZE g0 b) (t.gr g0) (C.gr g0) (c.gr g0))
 have hF:Y (∀V,AlJ w wb W #[mk,tx,tm,cx,cm,lv] #[I L 2,ca,T,s,nn,wy] tx tm cx cm lv ts us cs V->O' w wb n V):=λV j=>⟨mk,tx,tm,cx,cm,lv,ts,us,cs,j.b,j.t,j.k,j.c,x,y,n1,n2,n3⟩
 obtain⟨A,k,st,h⟩:=N' T hT l.ct;obtain⟨⟨v,e⟩,hr⟩:=Zn (I_ (0:Int) (st.paths nn.toNat:Nat) k nn 0 wy);have q:=X (λW (g:Gr w W)=>qag (h.gr g) hr);have p:Y (∀B O V,AlJ w wb B #[mk,tx,tm,cx,cm,lv] O tx tm cx cm lv ts us cs V->∀c∈cs,i_ c_ 10 #[ZI c.1,T,nn,wy] V λe' a=>e'=Zd (Ze #[I Zh v,e])/\AlJ w wb B #[mk,tx,tm,cx,cm,lv] O tx tm cx cm lv ts us cs a):=λB O V j c i=>(qat (h.gr j.c.g) (l.gr j.c.g) (j.c.c c i).1 (l.wt.lt (j.c.c c i).2.1) hr).mono λe a q=>⟨q.1,j.ask i q.2.1 q.2.2⟩
 have pk:=X (λ(n:Nat) (hn:0<n) w=>qaK h1 h2 hn w);go_in;go_upto_region 1 with fail
 generalize W.alloc (Z #[I L 2,ca,T,s,nn,wy] 113)=w0 at J|-;generalize W.heap.size=B at J hF|-;have c0:w0.cell? ⟨B,0,N⟩=I L 2:=by rw[Zs J.a.o];rfl
 obtain⟨sa,sc,rfl,_,hv⟩:=SL J.c.l;have hv:=X hv;have c5:w0.cell? ⟨wb,5,N⟩=Zq sa cs.length sc:=by rw[Zs J.a.b];rfl
 by_cases hz:cs.length=0
 .have hz1:((cs.length:Int)==0)=Zk:=by rw[beq_iff_eq];omega
  have fin:=X (hF _ J);go_wp2;go_ret;exact⟨R,fin⟩
 .have hz1:((cs.length:Int)==0)=Zl:=by rw[qM];omega
  obtain⟨G,rfl,_⟩:=hv 0 O;have pk:=X (pk cs.length O);go_upto_region 10 with fail;refine ZT (S:=AlJ w wb B #[mk,tx,tm,cx,cm,Zq (S ⟨G,0,N⟩) cs.length sc] #[I L 2,ca,T,s,nn,wy] tx tm cx cm (Zq (S ⟨G,0,N⟩) cs.length sc) ts us cs) WR (J.gr ZO.drew) (λd=>?_)
  apply tq 0 _ d;apply tq 1 _ d;refine ZB 2 _ R (λw h=>by go_simp;try rfl) d ?_;refine ZB 3 _ R (λw h=>by have e:=Zs (j:=5) h.b;go_simp;try rfl) d ?_;refine ZB 4 _ R (λw h=>by go_simp;try rfl) d ?_;refine ZB 5 ca R (λw h=>by have e:=Zs (j:=1) h.o;go_simp;try rfl) d ?_;apply tq 6 _ d;apply tq 7 _ d;refine ZB 8 _ R (λw h=>by go_simp;try rfl) d ?_;refine ZB 9 _ R (λw h=>by have e:=Zs (j:=5) h.b;go_simp;try rfl) d ?_;refine ZB 10 (cs.length) R (λw h=>by go_simp;try rfl) d ?_;refine ZB 14 _ R (λw h=>by go_simp;try rfl) d ?_;refine ZB 15 T R (λw h=>by have e:=Zs (j:=2) h.o;go_simp;try rfl) d ?_;refine ZB 16 _ R (λw h=>by go_simp;try rfl) d ?_;refine ZB 17 nn R (λw h=>by have e:=Zs (j:=4) h.o;go_simp;try rfl) d ?_;refine ZB 18 _ R (λw h=>by go_simp;try rfl) d ?_;refine ZB 19 wy R (λw h=>by have e:=Zs (j:=5) h.o;go_simp;try rfl) d ?_
  refine rd 11 λK hK=>?_;go_simp;refine (pk _).mono ?_;rintro e' w2 ⟨⟨j,hj,rfl⟩,rfl⟩;refine hK.out _ _ d λd=>?_;try simp only[py]
  have k0:(0:Int)<=(j:Int):=O;have k1:(j:Int)<(cs.length:Int):=O;have hm:=List.getElem_mem hj;refine ZB 12 _ R (λw h=>by go_simp;try rfl) d ?_;refine ZB 13 (ZI cs[j].1) R (λw h=>by
   have e:w.cell? ⟨G,j,N⟩=ZI cs[j].1:=by obtain⟨_,_,e1,_,e⟩:=SL h.c.l;cases e1;obtain⟨_,e1,e⟩:=e j hj;cases e1;rw[e,List.getElem?_map,List.getElem?_eq_getElem hj];rfl
   go_simp;try rfl) d ?_
  refine rd 20 λK hK=>?_;go_simp;refine (p _ _ _ d _ hm).mono ?_;rintro e' w3 ⟨rfl,d3⟩;refine hK.out _ _ d3 λd=>?_;try simp only[py]
  apply tq 21 (Ze #[I Zh v,e]) d;apply tq 22 _ d;apply tq 23 e d;refine rd 24 λK hK=>?_;go_simp;refine hK.out _ _ d λd=>?_;try simp only[py]
  refine rd 25 λK hK=>?_;go_simp;refine hK.out _ _ d λd=>?_;try simp only[py]
  refine ZZ WR ?_ _;have d2:=Zs (j:=2) d.o;have d4:=Zs (j:=4) d.o;have d5:=Zs (j:=5) d.o;have J:=X d;go_wp2_with(first|(go_at_call 166;refine Z0 (q _ J.c.g) λf i=>?_)|(go_at_call 30;apply Z1 (BQ _ _)));go_ret;exact⟨R,hF _ (J.gr i)⟩
end
section
variable {wb:Nat}{v:I7}
def O'.kT{U:I3}(hw:w.heap.size<=wb)(hB:O' w wb n W)(g:Gr W V)(o:yt W.heap.size v U V)(hn:n<=1000000000000)(hU:U.length<=1900000000000):i_ c_ 80 #[ZI wb,v] V λe a=>e=Zd (Ze #[])/\O' w wb (n+4) a:=by
 obtain⟨mk,tx,tm,cx,cm,lv,ts,us,cs,b,T,C,c,x,y,n1,n2,n3⟩:=hB;refine (qbx (Ob:=λV=>Z' w 37 33 23 2 (λv=>[Zb ⟨#[126]⟩,v]) cx cm us N 0 [] V/\HJ w lv cs V) (λW a r t h f d i=>by obtain rfl|rfl|rfl|rfl:=i<;>exact⟨h.1.fr f d WW WW WW,h.2.fr f d WW WW WW⟩) hw (ZE g b) ((Z'.mk T.x T.m λx i=>(T.c x i).re λk hk e=>by have:=(o.lt k e.symm).1;omega).gr g) (qxn o (Below.size c.g)) (λk e i=>by have:=(T.m.lt k e).2;have:=(o.lt k i.symm).1;omega) ⟨C.gr g,c.gr g⟩ O hU).mono ?_;rintro e a ⟨rfl,mk',tx',tm',ts',q1,q2,b,T,C,c⟩;exact⟨R,mk',tx',tm',cx,cm,lv,ts',us,cs,b,T,C,c,λz i=>(q2 z i).elim (x z) id,y,O,O,O⟩
def O'.kC{U:List R_}(hw:w.heap.size<=wb)(hB:O' w wb n W)(g:Gr W V)(o:gs W.heap.size v U V)(hn:n<=1000000000000)(hU:U.length<=1000000):i_ c_ 78 #[ZI wb,v] V λe a=>e=Zd (Ze #[])/\O' w wb (n+4) a:=by
 obtain⟨mk,tx,tm,cx,cm,lv,ts,us,cs,b,T,C,c,x,y,n1,n2,n3⟩:=hB;refine (qby (Ob:=λV=>Z' w 9 43 9 1 (λv=>[v]) tx tm ts N 0 [] V/\HJ w lv cs V) (λW a r t h f d i=>by obtain rfl|rfl|rfl|rfl:=i<;>exact⟨h.1.fr f d WW WW WW,h.2.fr f d WW WW WW⟩) hw (ZE g b) ((Z'.mk C.x C.m λx i=>(C.c x i).re λk hk e=>by have:=(o.lt k e.symm).1;omega).gr g) (qxn o (Below.size c.g)) ⟨T.gr g,c.gr g⟩ O hU).mono ?_;rintro e a ⟨rfl,mk',cx',cm',us',q1,q2,b,C,T,c⟩;exact⟨R,mk',tx,tm,cx',cm',lv,ts,us',cs,b,T,C,c,x,λz i=>(q2 z i).elim (y z) id,O,O,O⟩
def O'.gw{W:I6}:O' w wb n W->Gr w W:=λ⟨_,_,_,_,_,_,_,_,_,_,_,_,c,_⟩=>c.g
def qaG{kd ca:Int}{T s:I4}{nn wy:Int}(h1:-9223372036854775808<=ca)(h2:ca<=9223372036854775807)(hT:T.size<4294967281)(hs:s.size<=1048576)(l:T_ m w)(hw:w.heap.size<=wb)(hB:O' w wb n W)(hn:n<=1000000000000):i_ c_ 41 #[ZI wb,Zc #[I L kd,I L ca,Zb T,Zb s,I L nn,I L wy]] W λe a=>e=Zd (Za Zk)/\O' w wb (n+4) a:=by
 have x1:=Z7 W (Z #[kd,ca,T,s,nn,wy] 113);have J:=X (hB.gr (ZN (c:=#[I L kd,I L ca,Zb T,Zb s,I L nn,I L wy]) (t:=113)));have hs2:s.size<4294967281:=O
 have pc:Y (∀V,O' w wb n V->(kd=1\/kd=2)->i_ c_ 76 #[ZI wb,Zc #[I L kd,I L ca,Zb T,Zb s,I L nn,I L wy]] V λe a=>e=Zd (Za Zk)/\O' w wb (n+4) a):=X λV j q=>by
  obtain rfl|rfl:=q
  .exact (qbC _ _ _ _ _ hw l.wt j hn).mono λe a q=>⟨q.1,q.2.mo O⟩
  .exact (qbD h1 h2 hT l j).mono λe a q=>⟨q.1,q.2.mo O⟩
 have l:=X l;clear hB;go_in;go_upto_region 1 with fail
 generalize W.alloc (Z #[kd,ca,T,s,nn,wy] 113)=w0 at x1 J|-;generalize W.heap.size=B at x1|-;have c0:w0.cell? B=I L kd:=by rw[Zs x1];rfl
 have c1:w0.cell? ⟨B,1,N⟩=I L ca:=by rw[Zs x1];rfl
 have c2:w0.cell? ⟨B,2,N⟩=Zb T:=by rw[Zs x1];rfl
 have c3:w0.cell? ⟨B,3,N⟩=Zb s:=by rw[Zs x1];rfl
 have c4:w0.cell? ⟨B,4,N⟩=I L nn:=by rw[Zs x1];rfl
 have c5:w0.cell? ⟨B,5,N⟩=I L wy:=by rw[Zs x1];rfl
 clear x1;by_cases hk:1<=kd/\kd<=10
 .obtain rfl|rfl|rfl|rfl|rfl|rfl|rfl|rfl|rfl|rfl:kd=1\/kd=2\/kd=3\/kd=4\/kd=5\/kd=6\/kd=7\/kd=8\/kd=9\/kd=10:=O
  all_goals
   clear hk
   go_wp2_with(first|(go_at_call 76;refine (pc _ J O).mono ?_;rintro e a ⟨rfl,J⟩;have fin:=X J)|(go_at_call 77;refine (qbe hT (l.gr J.gw)).mono ?_;rintro e w1 ⟨⟨v,U,rfl,u1,u2⟩,g1⟩)|(go_at_call 78;refine (J.kC hw g1 u2 hn u1).mono ?_;rintro e a ⟨rfl,J⟩;have fin:=X J)|(go_at_call 79;refine (qaZ hT (l.gr J.gw)).mono ?_;rintro e w1 ⟨⟨v,U,rfl,u1,u2⟩,g1⟩;have u1:U.length<=1900000000000:=O)|(go_at_call 18;refine (qbb _ _ hs (l.gr J.gw)).mono ?_;rintro e w1 ⟨⟨v,U,rfl,u1,u2⟩,g1⟩)|(go_at_call 80;refine (J.kT hw g1 u2 hn u1).mono ?_;rintro e a ⟨rfl,J⟩;have fin:=X J)|(go_at_call 81;refine Z0 (qau hT hs2 (l.gr J.gw)) λf y=>?_;have fin:=X ((J.gr y).mo (show n<=n+4 by omega)))|(go_at_call 82;refine Z0 (qaB hT (l.gr J.gw)) λf y=>?_;have fin:=X ((J.gr y).mo (show n<=n+4 by omega)))|(go_at_call 83;refine Z0 (qaN hT (l.gr J.gw)) λf y=>?_;have fin:=X ((J.gr y).mo (show n<=n+4 by omega)))|(go_at_call 84;refine Z0 (qal hT (l.gr J.gw)) λf y=>?_;have fin:=X ((J.gr y).mo (show n<=n+4 by omega)))|(go_at_call 13;refine Z0 (qad hT hs2 (l.gr J.gw)) λf y=>?_;have fin:=X ((J.gr y).mo (show n<=n+4 by omega))));go_ret;exact⟨R,fin⟩
 .have e1:(kd==1)=Zl:=qM.2 O;have e2:(kd==2)=Zl:=qM.2 O;have e3:(kd==3)=Zl:=qM.2 O;have e4:(kd==4)=Zl:=qM.2 O;have e5:(kd==5)=Zl:=qM.2 O;have e6:(kd==6)=Zl:=qM.2 O;have e7:(kd==7)=Zl:=qM.2 O;have e8:(kd==8)=Zl:=qM.2 O;have e9:(kd==9)=Zl:=qM.2 O;have e10:(kd==10)=Zl:=qM.2 O
  clear hk;go_wp2;go_ret;exact⟨R,J.mo O⟩
end
def qbz:(xG yT).map (λp=>(xP p,(y_.of p).paths 1))=S (Zk,5):=WS
def qbj(W:I6)(p:Option Addr)(n:Nat):Prop:=∀i,i<n->∃sb so,p=S ⟨sb,so,N⟩/\∃(kd ca nn wy:Int)(T s:I4),T.size<4294967281/\s.size<=1048576/\ -9223372036854775808<=ca/\ca<=9223372036854775807/\∀r v,#[I L kd,I L ca,Zb T,Zb s,I L nn,I L wy][r]?=S v->W.cell? ⟨sb,so+i*6+r,N⟩=S v
def qbw{B:Nat}(l:T_ m w)(h:Pb B g n W)(hb:LD B)(G:Gr w W):i_ c_ 10 #[ZI B,Zb yT,I L 1,I L 1] W λe a=>e=Zd (Ze #[I Zh 5,I L 0])/\zm g W a:=by
 obtain⟨A,k,s,q⟩:=N' yT WW (l.gr G).ct;obtain⟨p,hp,e⟩:=Option.map_eq_some_iff.1 qbz;have e1:=congrArg Prod.fst e;have e2:(y_.of p).paths 1=5:=congrArg Prod.snd e;obtain⟨rfl,_,_,p',hp',_,rfl⟩|⟨_,i⟩:=q.c
 .obtain rfl:=S.inj (hp.symm.trans hp');have f:I_ (0:Int) ((y_.of p).paths (1:Int).toNat:Nat) 0 1 0 1=(5,0):=by
   show I_ (0:Int) ((y_.of p).paths 1:Nat) 0 1 0 1=_;rw[e2];exact WR
  exact(qat (r:=(5,0)) q (l.gr G) h hb (X f)).mono λe a q=>⟨q.1,q.2.1⟩
 .exact(M_ i hp e1).elim
def O'.lk{wb:Nat}:O' w wb n W->ZL 42 #[ZI wb] W (Za Zk):=λ⟨_,_,_,_,_,_,_,_,_,b,T,C,_,x,y,_⟩=>qbt b (T.s x) (C.s y)
def qae{p:Option Addr}{c:Nat}(hn:n<=4294967295)(l:T_ m w)(ho:qbj w p n):ZL 19 #[Zq p n c,I L 10] w (Za Zk):=by
 have su:=X (λW (g:Gr w W)=>ou m W (l.gr g).ct (l.gr g).tb);have nw:=X (λW (g:Gr w W)=>NW 1 WW W (l.gr g).wt);have kp:=X (λB g W (h1:w.heap.size<=B) (h2:w.heap.size<=g) (hC:Pb B g 1 W) (G:Gr w W)=>(qbw l hC (l.wt.lt h1) G).mono λe a q=>(⟨q.1,((zm.of G).trans q.2).gr h2⟩:_/\Gr w a));have ho:=X ho;have l:=X l;have x1:=Z7 w (Z #[I L 0,Zq N 0 0,Zq N 0 0,Zq N 0 0,Zq N 0 0,Zq N 0 0] 111);have g1:Gr w (w.alloc (Z #[I L 0,Zq N 0 0,Zq N 0 0,Zq N 0 0,Zq N 0 0,Zq N 0 0] 111)):=ZN;unfold ZL;go_in;go_upto_region 2 with fail
 show n_ _ _ _ _ (w.alloc (Z #[I L 0,Zq N 0 0,Zq N 0 0,Zq N 0 0,Zq N 0 0,Zq N 0 0] 111));generalize w.alloc (Z #[I L 0,Zq N 0 0,Zq N 0 0,Zq N 0 0,Zq N 0 0,Zq N 0 0] 111)=w1 at x1 g1|-;have J:Y (O' w w.heap.size 0 w1):=X ⟨0,_,_,_,_,_,[],[],[],x1,⟨World.ownsRow_nil _ _ _ _,World.ownsRow_nil _ _ _ _,λ_ i=>w_ i WU⟩,⟨World.ownsRow_nil _ _ _ _,World.ownsRow_nil _ _ _ _,λ_ i=>w_ i WU⟩,⟨World.ownsRow_nil _ _ _ _,λ_ i=>w_ i WU,.nil,g1⟩,λ_ i=>w_ i WU,λ_ i=>w_ i WU,Zy,Zy,Zy⟩
 have hB:w.heap.size<=w.heap.size:=Zy;generalize e0:w.heap.size=B at x1 J|-;rw[show w.heap.size<=w.heap.size↔w.heap.size<=B by rw[e0]] at hB;clear x1 e0;go_upto_region 5 with(go_at_call 12;refine Z0 (su.a _ g1) λw2 g2=>?_)
 have J:=X (J.a.gr g2);clear su g1 g2;go_wp2;go_loopg [6,7] n (λg ok i wr=>∃k:Nat,k+g=n/\i=I L k/\ok=Za Zk/\Y (O' w B (4*k) wr))
 case atStart=>exact⟨0,O,R,R,J⟩
 case round=>
  clear J;obtain⟨k,k1,rfl,rfl,J⟩:=hrel;by_cases hk:k<n
  .obtain⟨sb,so,rfl,kd,ca,nn,wy,T,s,q1,q2,q3,q4,hc⟩:=ho k hk;have hc:=λr v e=>Z_ J.gw (hc r v e);have d0:wr.cell? ⟨sb,so+k*6,N⟩=I L kd:=hc 0 _ R
   have d1:wr.cell? ⟨sb,so+k*6+1,N⟩=I L ca:=hc 1 _ R
   have d2:wr.cell? ⟨sb,so+k*6+2,N⟩=Zb T:=hc 2 _ R
   have d3:wr.cell? ⟨sb,so+k*6+3,N⟩=Zb s:=hc 3 _ R
   have d4:wr.cell? ⟨sb,so+k*6+4,N⟩=I L nn:=hc 4 _ R
   have d5:wr.cell? ⟨sb,so+k*6+5,N⟩=I L wy:=hc 5 _ R
   have a0:0<=(k:Int):=O;have a1:(k:Int)<(n:Int):=O;clear hc ho;by_cases hd:kd<=10
   .have hd2:¬10<kd:=O;have st:=X (qaG (kd:=kd) (nn:=nn) (wy:=wy) q3 q4 q1 q2 l hB J O);clear hd q1 q2 q3 q4 nw kp J;go_wp2_with(first|(go_at_call 41;apply st.mono;rintro e w3 ⟨rfl,J⟩)|(go_at_call 42;refine Z0 J.lk λw4 g4=>?_));go_roundg (gk-1)
    case measure=>omega
    case rel=>exact⟨k+1,O,Vg,R,X ((J.gr g4).mo O)⟩
   .have hd2:10<kd:=O;clear hd q1 q2 q3 q4 nw kp;go_wp2;go_roundg (gk-1)
    case measure=>omega
    case rel=>exact⟨k+1,O,Vg,R,X (J.mo O)⟩
  .obtain rfl:k=n:=O
   have g5:=J.gw;have s5:=Below.size g5;clear ho;go_wp2_with(first|(go_at_call 9;refine (nw _ g5).mono ?_;rintro e w5 ⟨⟨bc,g,rfl,hC,h1,h2⟩,g6⟩)|(go_at_call 10;refine (kp bc g _ O O hC (o_ g5 g6)).mono ?_;rintro e w6 ⟨rfl,g7⟩));go_ret;exact⟨R,g7⟩
def qbh{p:Option Addr}{c:Nat}(hn:n<=4294967295)(l:T_ m w)(ho:qbj w p n):ZL 7 #[Zq p n c] w (Za Zk):=by
 have h:=X (qae (c:=c) hn l ho);clear l ho;unfold ZL;go_in;go_wp2_with(go_at_call 19;refine Z0 h λf g=>?_);go_ret;exact⟨R,g⟩
