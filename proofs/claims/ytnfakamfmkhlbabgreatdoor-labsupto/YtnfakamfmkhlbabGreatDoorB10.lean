import Derived.Test.YtnfakamfmkhlbabGreatDoorB9
set_option maxRecDepth 100000
set_option maxHeartbeats 4000000
set_option linter.all false
open Go.Value renaming int->I,bool->Za,string->Zb,agg->Zc,tuple->Ze,slice->Zq
open Go.IntKind renaming i64->L,u8->Zg,u64->Zh
open Go.Obj renaming cells->Z
open Go.Ending renaming returned->Zd
open Or renaming inl->Zi,inr->Zj
open Option renaming some->S,none->N
open Bool renaming true->Zk,false->Zl
open Decidable renaming decide->Zm
open Go.RowKit renaming Hid->Y
open Go renaming World->I6,Value->I7
namespace Go.Proofs.YtnfakamfmkhlbabGreatDoor.C
open Go.ChangeShapes Go.WideShapes Go.ChangeAt Go.RowKit Go.Shelf Go.Proofs.YtnfakamfmkhlbabGreatDoor.P Tryz
attribute [local go_sem] qd qe Oper.semAt_some
variable {z:I2}{wh:Bool}{b h m:Int}{PA A M:I0}{fc:I5}{w W a w' w1 V:I6}{f n i k g base d e l j x B Bp:Nat}{v:I7}{u:UInt8}{Q:Nat->Obj->Prop}{rs:I3}{y:I1}
def yx(wh:Bool)(f:Nat):Nat:=if f/8=(if wh then 1 else 6)then 2 else 1
def uM(wh:Bool):Int:=if wh then 1 else -1
theorem ic{b:Nat}{x y x' y':I7}{t:TypeId}(h:W.heap[b]?=S (Z #[x,y] t)):((W.setCell ⟨b,0,N⟩ x').setCell ⟨b,1,N⟩ y').heap[b]?=S (Z #[x',y'] t):=by have a:=qv (i:=0) (v:=x') h;have d:=qv (i:=1) (v:=y') a;exact d
theorem Ah.of{a c:Int}{most h:Nat}{n o p q:TypeId}(m:Ps z wh fc b Bp W)(j:W.heap[d]?=S (Z #[ZI Bp] n))(k:W.heap[e]?=S (Z #[I L f] o))(i:W.heap[g]?=S (Z #[I L a,I L c] p))(l:W.heap[h]?=S (Z #[I L most] q)):Ah z wh fc b f a c most d e g h Bp W :=
 ⟨(qi j).1,(qi k).1,(xg i).1,(xg i).2,(qi l).1,m⟩
theorem c9{b:Nat}{x y:I7}{t:TypeId}(h:V.heap[b]?=S (Z #[x,y] t)):V.frozen? ⟨b,0,N⟩=Zl/\V.frozen? ⟨b,1,N⟩=Zl:=by constructor<;>simp[World.frozen?,h]
theorem wR(f:Nat)(T:f<64)(w:I6)(h:Ps z wh fc b Bp w) :
 Calls prog 270 #[ZI Bp,I L f] w λe w'=>∃j l m n,e=Zd (.func (.func 315) #[] #[ZI j,ZI l,ZI m,ZI n])/\Ah z wh fc b f 0 (uM wh) (yx wh f) j l m n Bp w'/\(∀k,(k=j\/k=l\/k=m\/k=n)->y9 w.heap.size k w')/\Gr w w':=by
 have a3:∀(M:Fn)(first cap:I0)(w:I6),(Instr.makeFunc M first cap).run prog w=.ok (.func M first cap) w:=λ_ _ _ _=>R;obtain⟨C,D,E,W⟩:=jG w (Z #[ZI Bp] 229) (Z #[I L f] 3) (Z #[I L 0,I L (-1)] 221);have B:Gr w (((w.alloc (Z #[ZI Bp] 229)).alloc (Z #[I L f] 3)).alloc (Z #[I L 0,I L (-1)] 221)):=ZN.al.al;have c1:=(qi C).1;have c2:=(qi D).1;have a2:=(h.gr B).wh;go_enter func270,ntmps270;go_upto_region 2 with fail;generalize (((w.alloc (Z #[ZI Bp] 229)).alloc (Z #[I L f] 3)).alloc (Z #[I L 0,I L (-1)] 221))=g at C D E W B c1 c2 a2 |-;cases wh
 .by_cases F:f/8=6
  .have H:((f:Int)/8==6)=Zk:=by simp only[YF];omega
   have v:Y (yx Zl f=2):=X Te;have d:=E;have u:=B;have A:=W;have x:=C;have i:=D;have p:=c2;have G:=(ZW ((Gr.refl g).alloc #[I L 1] 3) (Zx p)).trans p;have r:Y (∃j l m n,j=w.heap.size/\l=w.heap.size+1/\m=w.heap.size+2/\n=w.heap.size+3/\Ah z Zl fc b f 0 (uM Zl) (yx Zl f) j l m n Bp (g.alloc (Z #[I L 2] 3))/\(∀k,(k=j\/k=l\/k=m\/k=n)->y9 w.heap.size k (g.alloc (Z #[I L 2] 3)))/\Gr w (g.alloc (Z #[I L 2] 3))):=X (by
    have a:Gr g (g.alloc (Z #[I L 2] 3)):=ZN;have y:=ZQ g (Z #[I L 2] 3);rw[A]at y;rw[v.a];exact⟨_,_,_,_,R,R,R,R,Ah.of (h.gr (Gr.trans u a)) ((ZE a x)) ((ZE a i)) ((ZE a d)) y,Ve,Gr.trans u a⟩)
   exact WP
  .have H:((f:Int)/8==6)=Zl:=Vp;have v:Y (yx Zl f=1):=X Te;have d:=E;have u:=B;have A:=W;have x:=C;have i:=D;have p:=c2;have G:=(ZW ((Gr.refl g).alloc #[I L 1] 3) (Zx p)).trans p;have r:Y (∃j l m n,j=w.heap.size/\l=w.heap.size+1/\m=w.heap.size+2/\n=w.heap.size+3/\Ah z Zl fc b f 0 (uM Zl) (yx Zl f) j l m n Bp (g.alloc (Z #[I L 1] 3))/\(∀k,(k=j\/k=l\/k=m\/k=n)->y9 w.heap.size k (g.alloc (Z #[I L 1] 3)))/\Gr w (g.alloc (Z #[I L 1] 3))):=X (by
    have a:Gr g (g.alloc (Z #[I L 1] 3)):=ZN;have y:=ZQ g (Z #[I L 1] 3);rw[A]at y;rw[v.a];exact⟨_,_,_,_,R,R,R,R,Ah.of (h.gr (Gr.trans u a)) ((ZE a x)) ((ZE a i)) ((ZE a d)) y,Ve,Gr.trans u a⟩)
   exact WP
 .by_cases F:f/8=1
  .have H:((f:Int)/8==1)=Zk:=by simp only[YF];omega
   have v:Y (yx Zk f=2):=X Te;obtain⟨P,Q⟩:=c9 E;obtain⟨a0,a1⟩:=xg E;have d:=ic (x':=I L 0) (y':=I L 1) E;have K:Fr (λk _=>k≠w.heap.size+2) g ((g.setCell ⟨w.heap.size+2,0,N⟩ (I L 0)).setCell ⟨w.heap.size+2,1,N⟩ (I L 1)):=(ZP.setCell _ (λo _ q=>q R)).setCell _ (λo _ q=>q R);have u:Gr w ((g.setCell ⟨w.heap.size+2,0,N⟩ (I L 0)).setCell ⟨w.heap.size+2,1,N⟩ (I L 1)):=Yr (Yr B (show w.heap.size<=w.heap.size+2 from O) _) (show w.heap.size<=w.heap.size+2 from O) _;have A:((g.setCell ⟨w.heap.size+2,0,N⟩ (I L 0)).setCell ⟨w.heap.size+2,1,N⟩ (I L 1)).heap.size=w.heap.size+3:=by simp[World.setCell,W]
   have x:=K.same _ _ C O;have i:=K.same _ _ D O;have p:=(qi i).1;have G:=(ZW ((Gr.refl ((g.setCell ⟨w.heap.size+2,0,N⟩ (I L 0)).setCell ⟨w.heap.size+2,1,N⟩ (I L 1))).alloc #[I L 1] 3) (Zx p)).trans p;have r:Y (∃j l m n,j=w.heap.size/\l=w.heap.size+1/\m=w.heap.size+2/\n=w.heap.size+3/\Ah z Zk fc b f 0 (uM Zk) (yx Zk f) j l m n Bp (((g.setCell ⟨w.heap.size+2,0,N⟩ (I L 0)).setCell ⟨w.heap.size+2,1,N⟩ (I L 1)).alloc (Z #[I L 2] 3))/\(∀k,(k=j\/k=l\/k=m\/k=n)->y9 w.heap.size k (((g.setCell ⟨w.heap.size+2,0,N⟩ (I L 0)).setCell ⟨w.heap.size+2,1,N⟩ (I L 1)).alloc (Z #[I L 2] 3)))/\Gr w (((g.setCell ⟨w.heap.size+2,0,N⟩ (I L 0)).setCell ⟨w.heap.size+2,1,N⟩ (I L 1)).alloc (Z #[I L 2] 3))):=X (by
    have a:Gr ((g.setCell ⟨w.heap.size+2,0,N⟩ (I L 0)).setCell ⟨w.heap.size+2,1,N⟩ (I L 1)) (((g.setCell ⟨w.heap.size+2,0,N⟩ (I L 0)).setCell ⟨w.heap.size+2,1,N⟩ (I L 1)).alloc (Z #[I L 2] 3)):=ZN;have y:=ZQ ((g.setCell ⟨w.heap.size+2,0,N⟩ (I L 0)).setCell ⟨w.heap.size+2,1,N⟩ (I L 1)) (Z #[I L 2] 3);rw[A]at y;rw[v.a];exact⟨_,_,_,_,R,R,R,R,Ah.of (h.gr (Gr.trans u a)) ((ZE a x)) ((ZE a i)) ((ZE a d)) y,Ve,Gr.trans u a⟩)
   exact WP
  .have H:((f:Int)/8==1)=Zl:=Vp;have v:Y (yx Zk f=1):=X Te;obtain⟨P,Q⟩:=c9 E;obtain⟨a0,a1⟩:=xg E;have d:=ic (x':=I L 0) (y':=I L 1) E;have K:Fr (λk _=>k≠w.heap.size+2) g ((g.setCell ⟨w.heap.size+2,0,N⟩ (I L 0)).setCell ⟨w.heap.size+2,1,N⟩ (I L 1)):=(ZP.setCell _ (λo _ q=>q R)).setCell _ (λo _ q=>q R);have u:Gr w ((g.setCell ⟨w.heap.size+2,0,N⟩ (I L 0)).setCell ⟨w.heap.size+2,1,N⟩ (I L 1)):=Yr (Yr B (show w.heap.size<=w.heap.size+2 from O) _) (show w.heap.size<=w.heap.size+2 from O) _;have A:((g.setCell ⟨w.heap.size+2,0,N⟩ (I L 0)).setCell ⟨w.heap.size+2,1,N⟩ (I L 1)).heap.size=w.heap.size+3:=by simp[World.setCell,W]
   have x:=K.same _ _ C O;have i:=K.same _ _ D O;have p:=(qi i).1;have G:=(ZW ((Gr.refl ((g.setCell ⟨w.heap.size+2,0,N⟩ (I L 0)).setCell ⟨w.heap.size+2,1,N⟩ (I L 1))).alloc #[I L 1] 3) (Zx p)).trans p;have r:Y (∃j l m n,j=w.heap.size/\l=w.heap.size+1/\m=w.heap.size+2/\n=w.heap.size+3/\Ah z Zk fc b f 0 (uM Zk) (yx Zk f) j l m n Bp (((g.setCell ⟨w.heap.size+2,0,N⟩ (I L 0)).setCell ⟨w.heap.size+2,1,N⟩ (I L 1)).alloc (Z #[I L 1] 3))/\(∀k,(k=j\/k=l\/k=m\/k=n)->y9 w.heap.size k (((g.setCell ⟨w.heap.size+2,0,N⟩ (I L 0)).setCell ⟨w.heap.size+2,1,N⟩ (I L 1)).alloc (Z #[I L 1] 3)))/\Gr w (((g.setCell ⟨w.heap.size+2,0,N⟩ (I L 0)).setCell ⟨w.heap.size+2,1,N⟩ (I L 1)).alloc (Z #[I L 1] 3))):=X (by
    have a:Gr ((g.setCell ⟨w.heap.size+2,0,N⟩ (I L 0)).setCell ⟨w.heap.size+2,1,N⟩ (I L 1)) (((g.setCell ⟨w.heap.size+2,0,N⟩ (I L 0)).setCell ⟨w.heap.size+2,1,N⟩ (I L 1)).alloc (Z #[I L 1] 3)):=ZN;have y:=ZQ ((g.setCell ⟨w.heap.size+2,0,N⟩ (I L 0)).setCell ⟨w.heap.size+2,1,N⟩ (I L 1)) (Z #[I L 1] 3);rw[A]at y;rw[v.a];exact⟨_,_,_,_,R,R,R,R,Ah.of (h.gr (Gr.trans u a)) ((ZE a x)) ((ZE a i)) ((ZE a d)) y,Ve,Gr.trans u a⟩)
   exact WP
theorem cD(k:Nat)(w:I6)(h:Ps z wh fc b Bp w)(v:vT w) :
 Calls prog 271 #[ZI Bp,I L k] w λe w'=>∃f g i,e=Zd (.func (.func 316) #[] #[ZI f,ZI g,ZI i])/\Cg z wh fc b k f g i Bp w'/\y9 w.heap.size f w'/\y9 w.heap.size g w'/\y9 w.heap.size i w'/\Gr w w':=by
 have y:∀(r:Fn)(first cap:I0)(w:I6),(Instr.makeFunc r first cap).run prog w=.ok (.func r first cap) w:=λ_ _ _ _=>R;have j:∀m:Int,m=(jC wh:Int)->Y (∃f g i,f=w.heap.size/\i=w.heap.size+1/\g=w.heap.size+2/\Cg z wh fc b k f g i Bp (((w.alloc (Z #[ZI Bp] 229)).alloc (Z #[I L k] 3)).alloc (Z #[I L m] 3))/\y9 w.heap.size f (((w.alloc (Z #[ZI Bp] 229)).alloc (Z #[I L k] 3)).alloc (Z #[I L m] 3))/\y9 w.heap.size g (((w.alloc (Z #[ZI Bp] 229)).alloc (Z #[I L k] 3)).alloc (Z #[I L m] 3))/\y9 w.heap.size i (((w.alloc (Z #[ZI Bp] 229)).alloc (Z #[I L k] 3)).alloc (Z #[I L m] 3))/\Gr w (((w.alloc (Z #[ZI Bp] 229)).alloc (Z #[I L k] 3)).alloc (Z #[I L m] 3))):=λm x=>X (by obtain⟨l,n,o,u⟩:=jG w (Z #[ZI Bp] 229) (Z #[I L k] 3) (Z #[I L m] 3);have a:Gr w (((w.alloc (Z #[ZI Bp] 229)).alloc (Z #[I L k] 3)).alloc (Z #[I L m] 3)):=ZN.al.al;exact⟨_,_,_,R,R,R,⟨(qi l).1,by rw[<-x];exact(qi o).1,(qi n).1,h.gr a,v.gr a⟩,qu O WW l,qu O WW o,qu O WW n,a⟩);obtain⟨l,n,o,u⟩:=jG w (Z #[ZI Bp] 229) (Z #[I L k] 3) (Z #[I L 2] 3);have a:Gr w (((w.alloc (Z #[ZI Bp] 229)).alloc (Z #[I L k] 3)).alloc (Z #[I L 2] 3)):=ZN.al.al;have c1:=(qi l).1;have c2:=(qi n).1;have A:=(h.gr a).wh;cases wh;have d:=j 2 R;rotate_left;have d:=j 0 R;all_goals
  clear j l n o a;go_enter func271,ntmps271;go_wp2;go_ret;obtain⟨f,g,i,rfl,rfl,rfl,p,q⟩:=d.a;exact⟨_,_,_,R,p,q⟩
def yF(z:I2)(wh:Bool)(fc:I5)(b:Int)(f:Nat):List Nat :=
 (zU z f 16).filter (yG z wh b f)++(if jD (z f)then cW z (yx wh f) (kq z (0,uM wh) f)else if jA (z f)then uz z wh fc f++pA z wh fc f else[])
theorem cP(b:f<64)(h:x∈zU z f 16):x<64:=by
 unfold zU at h;obtain⟨k,_,a⟩:=YX.1 h;unfold yj at a;split at a
 .split at a
  .exact ce b a
  .exact ce b (List.mem_of_mem_take a)
 .cases a
theorem wT(wh:Bool)(f:Nat):yx wh f<=2:=by unfold yx;by_cases h:f/8=(if wh then 1 else 6)<;>simp[h]
def Kept(Bp:Nat)(w w':I6)(C:Nat->Prop):Prop:=∀k,C k->k=Bp\/k=0\/y9 w.heap.size k w'
theorem bG(f:Nat)(hf:f<64)(hh:jA (z f)=Zk->(fc (jC wh)||fc (jC wh+1))=Zk->f=4\/f=60)(w:I6)(h:Ps z wh fc b Bp w)(hS:vT w) :
 Calls prog 224 #[ZI Bp,I L f] w λe w'=>∃gi lb C,e=Zd (.func (.func gi) #[] lb)/\Gr w w'/\(∀args w,(callFunc gi args).run prog w=.ok (.enter gi args) w)/\(∀k,C k->k<w'.heap.size)/\Kept Bp w w' C/\∀T,z6 T->It prog gi lb yh T C (yF z wh fc b f) w':=by
 have g0:∀(fn:Fn)(first cap:I0)(w:I6),(Instr.makeFunc fn first cap).run prog w=.ok (.func fn first cap) w:=λ_ _ _ _=>R;obtain⟨h1,h2⟩:=x6 w (Z #[ZI Bp] 229) (Z #[I L f] 3);have h3:Gr w ((w.alloc (Z #[ZI Bp] 229)).alloc (Z #[I L f] 3)):=ZN.al;have c6:((w.alloc (Z #[ZI Bp] 229)).alloc (Z #[I L f] 3)).heap.size=w.heap.size+2:=WU;have c4:=h.gr h3;go_enter func224,ntmps224;go_upto_region 1 with fail;generalize ((w.alloc (Z #[ZI Bp] 229)).alloc (Z #[I L f] 3))=w2 at h1 h2 h3 c6 c4 |-;have c1:=(qi h1).1;have c2:=(qi h2).1;have a6:=X (λW g=>iB (z:=z) (A:=Bp) hf W (c4.gr g).bd);have a7:=X (λg lb W=>sC g 267 lb #[ZI w.heap.size,ZI (w.heap.size+1)] W);have b6:Y (∀w',Gr w2 w'->Gr w2 w'/\w'.cell? ⟨w.heap.size,0,N⟩=S (ZI Bp)/\w'.cell? ⟨w.heap.size+1,0,N⟩=S (I L f)):=X (λw' g=>⟨g,(ZW g (Zx c1)).trans c1,(ZW g (Zx c2)).trans c2⟩);go_region_held3 (λw'=>Gr w2 w'/\w'.cell? ⟨w.heap.size,0,N⟩=S (ZI Bp)/\w'.cell? ⟨w.heap.size+1,0,N⟩=S (I L f)) (first|exact b6.a _ ZO.drew|exact b6.a _ ‹_›) (first|(go_at_call 266;refine Z0 (a6.a _ (vy ‹_›)) λw4⟨a1,a2,a3,ga,sa⟩=>?_;have f9:=Gr.trans (vy ‹_›) ga)|(go_at_call 265;refine Z0 (a7.a _ _ _) λn⟨o1,o2,go⟩=>?_;have a0:=Gr.trans (vy ‹_›) go));all_goals
  have sd:w2.drew.heap.size=w.heap.size+2:=c6;have d4:w4.heap.size=w.heap.size+5:=by rw[sa,sd]
  rw[sd]at a1 a2 a3;rw[d4]at o1 o2;have b1:=(ZE go a1);have b2:=(ZE go a2);have b3:=(ZE go a3);have b4:=(ZE a0 h1);have b5:=(ZE a0 h2);have a4:Gr w n:=Gr.trans h3 a0;have K:=h.gr a4;have h0:=hS.gr a4;have g1:w.heap.size+7<=n.heap.size:=by have:=(qB.1 o2).1;omega
  have y:Y (∀k,w.heap.size<=k->k<w.heap.size+7->y9 w.heap.size k n):=X (λk k1 k2=>by
   have:k=w.heap.size\/k=w.heap.size+1\/k=w.heap.size+2\/k=w.heap.size+2+1\/k=w.heap.size+2+2\/k=w.heap.size+5\/k=w.heap.size+5+1:=O
   obtain rfl|rfl|rfl|rfl|rfl|rfl|rfl:=this
   .exact qu k1 WW b4
   .exact qu k1 WW b5
   .exact qu k1 WW b1
   .exact qu k1 WW b2
   .exact qu k1 WW b3
   .exact qu k1 WW o1
   .exact qu k1 WW o2)
  have a8:Y (∀T,z6 T->It prog 312 #[ZI (w.heap.size+2+3),ZI (w.heap.size+2+3+1)] yh T (λk=>(w.heap.size<=k/\k<w.heap.size+7)\/k=Bp\/k=0) ((zU z f 16).filter (yG z wh b f)) n):=X (λT g6=>by
   have d0:=(iC z f hf (w.heap.size+2+2) (w.heap.size+2) (w.heap.size+2+1) Bp T g6 n (qi b3).1 (qi b1).1 (qi b2).1 K.bd h0).mono (C':=λk=>(w.heap.size<=k/\k<w.heap.size+7)\/k=Bp\/k=0) (by
    rintro k (rfl|rfl|rfl|rfl|rfl)
    .exact Zi ⟨O,O⟩
    .exact Zi ⟨O,O⟩
    .exact Zi ⟨O,O⟩
    .exact Zj (Zi R)
    .exact Zj (Zj R))
   refine(sD d0 (YC func313 WR R) (YC func267 WR R) g6 ?_ (w.heap.size+2+3) (w.heap.size+2+3+1) (yG z wh b f) o1 o2 ?_).mono ?_
   .rintro k (d|rfl|rfl)
    .omega
    .exact K.lt
    .exact h0.2
   .intro x hx W fW;exact sS (K.fr fW (λ_ _=>Zj (Zi R))) w.heap.size (w.heap.size+1) f x hf (cP hf hx) (fW.cell (qi b4).1 (λ_ _=>Zi ⟨show w.heap.size<=w.heap.size from O,show w.heap.size<w.heap.size+7 from O⟩)) (fW.cell (qi b5).1 (λ_ _=>Zi ⟨show w.heap.size<=w.heap.size+1 from O,show w.heap.size+1<w.heap.size+7 from O⟩))
   .rintro k (d|rfl|rfl)
    .exact d
    .exact Zi ⟨O,O⟩
    .exact Zi ⟨O,O⟩)
  have g8:Y (yF z wh fc b f=(zU z f 16).filter (yG z wh b f)++(if jD (z f)then cW z (yx wh f) (kq z (0,uM wh) f)else if jA (z f)then uz z wh fc f++pA z wh fc f else[])):=X R;have d1:=(qi b4).1;have d2:=(qi b5).1;have d3:=K.bd f hf;have g2:0<=(f:Int):=O
  have g3:(f:Int)<64:=O
  have a5:=X (λW=>xz (z f) W);have b7:=X (λW=>qjk (z f) W);have h4:=X a4;have F:=X K;have J:=X h0;clear b6 a7 a6 a1 a2 a3 ga sa o1 o2 go f9 a0 b1 b2 b3 b4 b5 c1 c2 h1 h2 h3 c6 c4 h hS a4 K h0 g0 d4 sd;generalize jD (z f)=pw at a5 g8;cases pw
  .generalize g4:jA (z f)=kb at b7 g8 hh;cases kb
   .have G:Y (yF z wh fc b f=(zU z f 16).filter (yG z wh b f)):=X (by rw[g8.a];simp);go_upto_region 2 with fail;go_quiet((go_at_call 121;exact YT (a5.a _)));have l:Y (Gr n (n.drewN nq)):=X ((Gr.refl n).drewN _);have e1:(n.drewN nq).cell? ⟨w.heap.size,0,N⟩=S (ZI Bp):=d1;have e2:(n.drewN nq).cell? ⟨w.heap.size+1,0,N⟩=S (I L f):=d2;have e3:(n.drewN nq).cell? ⟨Bp,f,N⟩=S (I Zg (z f).toNat):=d3;generalize n.drewN nq=V at l e1 e2 e3 |-;clear d1 d2 d3;go_upto_region 4 with fail;go_quiet((go_at_call 120;exact YT (b7.a _)));go_wp2;go_ret;refine⟨_,_,_,R,Gr.trans h4.a (Gr.trans l.a ((Gr.refl V).drewN _)),YC func312 WR R,?_,?_,λT g6=>by rw[G.a];exact(a8.a T g6).gr (Gr.trans l.a ((Gr.refl V).drewN _))⟩
    .rintro k (d|rfl|rfl)
     .exact qN (qN d.2 g1) (ZR (Gr.trans l.a ((Gr.refl V).drewN _)))
     .exact qN F.a.lt (ZR (Gr.trans l.a ((Gr.refl V).drewN _)))
     .exact qN J.a.2 (ZR (Gr.trans l.a ((Gr.refl V).drewN _)))
    .rintro k (d|rfl|rfl)
     .obtain⟨q1,c,ty,fr,a,q3⟩:=y.a k d.1 d.2;exact Zj (Zj ⟨q1,c,ty,fr,a,(ZE (Gr.trans l.a ((Gr.refl V).drewN _)) q3)⟩)
     .exact Zi R
     .exact Zj (Zi R)
   .have f7:=X (λW hp hS=>cD (z:=z) (wh:=wh) (fc:=fc) (b:=b) (Bp:=Bp) f W hp hS);have G:Y (yF z wh fc b f=(zU z f 16).filter (yG z wh b f)++(uz z wh fc f++pA z wh fc f)):=X (by rw[g8.a];simp);go_upto_region 2 with fail;go_quiet((go_at_call 121;exact YT (a5.a _)));have l:Y (Gr n (n.drewN nq)):=X ((Gr.refl n).drewN _);have e1:(n.drewN nq).cell? ⟨w.heap.size,0,N⟩=S (ZI Bp):=d1;have e2:(n.drewN nq).cell? ⟨w.heap.size+1,0,N⟩=S (I L f):=d2;have e3:(n.drewN nq).cell? ⟨Bp,f,N⟩=S (I Zg (z f).toNat):=d3;generalize n.drewN nq=V at l e1 e2 e3 |-;clear d1 d2 d3;go_upto_region 4 with fail;go_quiet((go_at_call 120;exact YT (b7.a _)))
    go_wp2_with(first
     | (go_at_call 271;refine(f7.a _ (F.a.gr (Gr.trans l.a ((Gr.refl V).drewN _))) (J.a.gr (Gr.trans l.a ((Gr.refl V).drewN _)))).mono ?_;rintro e o ⟨q,r,u,rfl,f5,f1,f2,f3,b0⟩)
     | (go_at_call 269;refine Z0 (aO _ _ R) λw9⟨g5,H⟩=>?_))
    go_ret;have g9:=ZQ o (Z #[.func (.func 312) #[] #[ZI (w.heap.size+2+3),ZI (w.heap.size+2+3+1)],.func (.func 316) #[] #[ZI q,ZI r,ZI u]] 207);have Q:=Z3 o (Z #[.func (.func 312) #[] #[ZI (w.heap.size+2+3),ZI (w.heap.size+2+3+1)],.func (.func 316) #[] #[ZI q,ZI r,ZI u]] 207);have E:Gr o (o.alloc (Z #[.func (.func 312) #[] #[ZI (w.heap.size+2+3),ZI (w.heap.size+2+3+1)],.func (.func 316) #[] #[ZI q,ZI r,ZI u]] 207)):=ZN;generalize (o.alloc (Z #[.func (.func 312) #[] #[ZI (w.heap.size+2+3),ZI (w.heap.size+2+3+1)],.func (.func 316) #[] #[ZI q,ZI r,ZI u]] 207))=w8 at g9 Q E g5 H;have j:=Gr.trans E H;have D:Gr n o:=Gr.trans (Gr.trans l.a ((Gr.refl V).drewN _)) b0;have i:=Gr.trans D j;have x8:=(ZE H g9);rw[Q]at g5;have d5:=ZR D;have f0:=ZR j;have c5:=F.a.gr i;have a9:=J.a.gr i;have P:o.heap.size+1<w9.heap.size:=(qB.1 g5).1
    have v:∀k,(k=q\/k=r\/k=u)->y9 w.heap.size k o:=λk d=>by
     obtain rfl|rfl|rfl:=d
     .exact⟨q7 (q7 (show w.heap.size<=n.heap.size from O) (ZR l.a)) f1.1,f1.2⟩
     .exact⟨q7 (q7 (show w.heap.size<=n.heap.size from O) (ZR l.a)) f2.1,f2.2⟩
     .exact⟨q7 (q7 (show w.heap.size<=n.heap.size from O) (ZR l.a)) f3.1,f3.2⟩
    have m:∀k {A B:I6},y9 w.heap.size k A->Gr A B->y9 w.heap.size k B:=λk A B h g=>⟨h.1,Th⟩;have p:∀k {A:I6},y9 w.heap.size k A->k<A.heap.size:=λk A h=>Oy
    have M:∀k,((((w.heap.size<=k/\k<w.heap.size+7)\/k=Bp\/k=0)\/(k=q\/k=r\/k=u)))->k<w9.heap.size:=by
     rintro k ((d|rfl|rfl)|d)
     .exact p k (m k (y.a k d.1 d.2) i)
     .exact c5.lt
     .exact a9.2
     .exact p k (m k (v k d) j)
    refine⟨314,#[ZI (o.heap.size+1)],λk=>((((w.heap.size<=k/\k<w.heap.size+7)\/k=Bp\/k=0)\/(k=q\/k=r\/k=u)))\/k=o.heap.size+1\/k=o.heap.size,R,Gr.trans h4.a i,YC func314 WR R,?_,?_,λT g6=>?_⟩
    .rintro k (d|rfl|rfl)
     .exact M k d
     .exact P
     .omega
    .rintro k (((d|rfl|rfl)|d)|rfl|rfl)
     .exact Zj (Zj (m k (y.a k d.1 d.2) i))
     .exact Zi R
     .exact Zj (Zi R)
     .exact Zj (Zj (m k (v k d) j))
     .exact Zj (Zj (qu O WW g5))
     .exact Zj (Zj (qu O WW x8))
    .rw[G.a];refine aP (gN:=λk=>if k=0 then 312 else 316) (lbN:=λk=>if k=0 then #[ZI (w.heap.size+2+3),ZI (w.heap.size+2+3+1)]else #[ZI q,ZI r,ZI u]) (xsN:=λk=>if k=0 then(zU z f 16).filter (yG z wh b f)else(uz z wh fc f++pA z wh fc f)) (C:=λk=>((((w.heap.size<=k/\k<w.heap.size+7)\/k=Bp\/k=0)\/(k=q\/k=r\/k=u)))) ?_ ?_ g6 M (o.heap.size+1) o.heap.size (qi g5).1 ?_
     .intro k d;rcases(show k=0\/k=1 from O)with rfl|rfl
      .exact((a8.a T g6).gr i).mono (λk d=>Zi d)
      .exact((cE hf (hh (by trivial)) T w9 (f5.gr j)).mono (by rintro k (rfl|rfl|rfl|rfl|rfl)<;>simp))
     .intro k d;rcases(show k=0\/k=1 from O)with rfl|rfl
      .exact YC func312 WR R
      .exact YC func316 WR R
     .intro k d;rcases(show k=0\/k=1 from O)with rfl|rfl
      .exact(xg x8).1
      .exact(xg x8).2
  .have f6:=X (λW hp=>wR (z:=z) (wh:=wh) (fc:=fc) (b:=b) (Bp:=Bp) f hf W hp);have G:Y (yF z wh fc b f=(zU z f 16).filter (yG z wh b f)++cW z (yx wh f) (kq z (0,uM wh) f)):=X (by rw[g8.a];simp);go_upto_region 2 with fail;go_quiet((go_at_call 121;exact YT (a5.a _)))
   go_wp2_with(first
    | (go_at_call 270;refine(f6.a _ (F.a.gr ((Gr.refl n).drewN _))).mono ?_;rintro e o ⟨q,r,u,g7,rfl,f4,f8,b0⟩)
    | (go_at_call 269;refine Z0 (aO _ _ R) λw9⟨g5,H⟩=>?_))
   go_ret;have g9:=ZQ o (Z #[.func (.func 312) #[] #[ZI (w.heap.size+2+3),ZI (w.heap.size+2+3+1)],.func (.func 315) #[] #[ZI q,ZI r,ZI u,ZI g7]] 207);have Q:=Z3 o (Z #[.func (.func 312) #[] #[ZI (w.heap.size+2+3),ZI (w.heap.size+2+3+1)],.func (.func 315) #[] #[ZI q,ZI r,ZI u,ZI g7]] 207);have E:Gr o (o.alloc (Z #[.func (.func 312) #[] #[ZI (w.heap.size+2+3),ZI (w.heap.size+2+3+1)],.func (.func 315) #[] #[ZI q,ZI r,ZI u,ZI g7]] 207)):=ZN;generalize (o.alloc (Z #[.func (.func 312) #[] #[ZI (w.heap.size+2+3),ZI (w.heap.size+2+3+1)],.func (.func 315) #[] #[ZI q,ZI r,ZI u,ZI g7]] 207))=w8 at g9 Q E g5 H;have j:=Gr.trans E H;have D:Gr n o:=Gr.trans ((Gr.refl n).drewN _) b0;have i:=Gr.trans D j;have x8:=(ZE H g9);rw[Q]at g5;have d5:=ZR D;have f0:=ZR j;have c5:=F.a.gr i;have a9:=J.a.gr i;have P:o.heap.size+1<w9.heap.size:=(qB.1 g5).1;have v:∀k,(k=q\/k=r\/k=u\/k=g7)->y9 w.heap.size k o:=λk d=>by obtain⟨q1,a⟩:=f8 k d;exact⟨by have:(n.drewN 0).heap.size=n.heap.size:=R;exact q7 (show w.heap.size<=n.heap.size from O) q1,a⟩
   have m:∀k {A B:I6},y9 w.heap.size k A->Gr A B->y9 w.heap.size k B:=λk A B h g=>⟨h.1,Th⟩;have p:∀k {A:I6},y9 w.heap.size k A->k<A.heap.size:=λk A h=>Oy
   have M:∀k,((((w.heap.size<=k/\k<w.heap.size+7)\/k=Bp\/k=0)\/(k=q\/k=r\/k=u\/k=g7)))->k<w9.heap.size:=by
    rintro k ((d|rfl|rfl)|d)
    .exact p k (m k (y.a k d.1 d.2) i)
    .exact c5.lt
    .exact a9.2
    .exact p k (m k (v k d) j)
   refine⟨314,#[ZI (o.heap.size+1)],λk=>((((w.heap.size<=k/\k<w.heap.size+7)\/k=Bp\/k=0)\/(k=q\/k=r\/k=u\/k=g7)))\/k=o.heap.size+1\/k=o.heap.size,R,Gr.trans h4.a i,YC func314 WR R,?_,?_,λT g6=>?_⟩
   .rintro k (d|rfl|rfl)
    .exact M k d
    .exact P
    .omega
   .rintro k (((d|rfl|rfl)|d)|rfl|rfl)
    .exact Zj (Zj (m k (y.a k d.1 d.2) i))
    .exact Zi R
    .exact Zj (Zi R)
    .exact Zj (Zj (m k (v k d) j))
    .exact Zj (Zj (qu O WW g5))
    .exact Zj (Zj (qu O WW x8))
   .rw[G.a];refine aP (gN:=λk=>if k=0 then 312 else 315) (lbN:=λk=>if k=0 then #[ZI (w.heap.size+2+3),ZI (w.heap.size+2+3+1)]else #[ZI q,ZI r,ZI u,ZI g7]) (xsN:=λk=>if k=0 then(zU z f 16).filter (yG z wh b f)else cW z (yx wh f) (kq z (0,uM wh) f)) (C:=λk=>((((w.heap.size<=k/\k<w.heap.size+7)\/k=Bp\/k=0)\/(k=q\/k=r\/k=u\/k=g7)))) ?_ ?_ g6 M (o.heap.size+1) o.heap.size (qi g5).1 ?_
    .intro k d;rcases(show k=0\/k=1 from O)with rfl|rfl
     .exact((a8.a T g6).gr i).mono (λk d=>Zi d)
     .exact((wS hf (a:=0) (c:=uM wh) (by unfold small uM;cases wh<;>decide) (Zj (by unfold uM;cases wh<;>decide)) (most:=yx wh f) (wT wh f) T g6 w9 (f4.gr j)).mono (by rintro k (rfl|rfl|rfl|rfl|rfl)<;>simp))
    .intro k d;rcases(show k=0\/k=1 from O)with rfl|rfl
     .exact YC func312 WR R
     .exact YC func315 WR R
    .intro k d;rcases(show k=0\/k=1 from O)with rfl|rfl
     .exact(xg x8).1
     .exact(xg x8).2
def iN(z:I2)(wh:Bool)(fc:I5):Prop:=∀f,f<64->kw (z f) wh=Zk->jA (z f)=Zk->(fc (jC wh)||fc (jC wh+1))=Zk->f=4\/f=60
def AB(z:I2)(f t:Nat):List Mv:=xT (jD (z f)) f t
def nh(z:I2)(wh:Bool)(fc:I5)(b:Int)(f:Nat):List Mv:=if kw (z f) wh then(yF z wh fc b f).flatMap (AB z f)else[]
def ye(z:I2)(wh:Bool)(fc:I5)(b:Int)(k:Nat):List Mv:=(List.range k).flatMap (nh z wh fc b)
theorem qk4(z:I2)(wh:Bool)(fc:I5)(b:Int)(k:Nat):ye z wh fc b (k+1)=ye z wh fc b k++nh z wh fc b k:=by unfold ye;rw[YI,Xj];simp
theorem al(z:Nat->UInt8)(wh:Bool)(fc:Nat->Bool)(b:Int)(k:Nat):∀d,ye z wh fc b k <+: ye z wh fc b (k+d)
 | 0=>List.prefix_rfl
 | d+1=>(al z wh fc b k d).trans (by rw[<-Nat.add_assoc,qk4];exact Xz _ _)
theorem Cp(z:I2)(wh:Bool)(fc:I5)(b:Int)(a:k<64):ye z wh fc b k++nh z wh fc b k <+: ye z wh fc b 64:=by rw[<-qk4];have:=al z wh fc b (k+1) (64-(k+1));rwa[show k+1+(64-(k+1))=64 from O]at this
theorem C3{t:Nat}(d:f<64)(e:jA (z f)=Zk->(fc (jC wh)||fc (jC wh+1))=Zk->f=4\/f=60)(h:t∈yF z wh fc b f):t<64:=by
 unfold yF at h;obtain h|h:=Yi.1 h
 .exact cP d ((qV.1 h).1)
 .split at h
  .exact ce d (List.mem_of_mem_take (List.takeWhile_subset _ h))
  .split at h
   .rename_i g;obtain h|h:=Yi.1 h
    .unfold uz at h;split at h
     .rename_i a;rw[qH]at a;have:=e g (by rw[a.1];rfl);rw[qT.1 h];omega
     .cases h
    .unfold pA at h;split at h
     .rename_i a;rw[qH]at a;rw[qT.1 h];omega
     .cases h
   .cases h
structure Al(z:I2)(wh:Bool)(fc:I5)(b:Int)(l B Wb B1 Bp:Nat)(Ds:List Nat)(W:I6):Prop where
 yb:W.heap[Wb]?=S (Z #[.func (.yield l) #[] #[]] 143)
 b1:W.cell? ⟨B1,0,N⟩=S (ZI Bp)
 ps:Ps z wh fc b Bp W
 st:vT W
 ms:zY B Ds W
theorem Al.fr{g:List Nat}{m:I6}(h:Al z wh fc b l B i d Bp g W)(f:Fr Q W m)(a:∀k o,(k=i\/k=d\/k=Bp\/k=0\/k∈g)->W.heap[k]?=S o->Q k o):Al z wh fc b l B i d Bp g m :=
 ⟨f.same _ _ h.yb (a _ _ WU h.yb),f.cell h.b1 (λo e=>a _ o WU e),h.ps.fr f (λo e=>a _ o WU e),⟨λj v p=>f.cell (h.st.1 j v p) (λo e=>a _ o WU e),qN h.st.2 f.size⟩,h.ms.fr f (λk o _ _ e n=>a k o (by simp[n]) e)⟩
theorem Al.gr{a:Nat}{d:List Nat}{e:I6}(h:Al z wh fc b l B f a Bp d W)(g:Gr W e):Al z wh fc b l B f a Bp d e:=h.fr (Q:=λ_ _=>True) (Fr.of_gr g) (λ_ _ _ _=>trivial)
theorem Al.lt{a:Nat}{d:List Nat}(h:Al z wh fc b l B e a Bp d W):∀k,(k=e\/k=a\/k=Bp\/k=0\/k∈d)->k<W.heap.size:=by
 rintro k (rfl|rfl|rfl|rfl|f)
 .exact(qB.1 h.yb).1
 .exact Zx h.b1
 .exact h.ps.lt
 .exact h.st.2
 .exact(qB.1 (h.ms.2 k f).2).1
theorem Al.below{a:Nat}{d:List Nat}{g i:I6}{T:Obj->Prop}(j:Al z wh fc b l B e a Bp d i)(o:i.heap.size<=n)(h:Al z wh fc b l B e a Bp d W)(f:Fr (yv n T) W g):Al z wh fc b l B e a Bp d g :=
 h.fr f (λk _ m _=>Zi (qN (j.lt k m) o))
theorem Al.rnd{i:List Nat}{j:I6}{T:Obj->Prop}(h:Al z wh fc b l B g d Bp i W)(m:z6 T)(n:B<=g)(f:Fr (jM B T (λk=>k=d\/k=Bp\/k=0)) W j):Al z wh fc b l B g d Bp i j:=h.fr f (λk o a e=>by
 obtain rfl|a|a|a|a:=a
 .rw[h.yb]at e;cases e;exact Zj ⟨n,m.no WW⟩
 .exact Zi VM
 .exact Zi VM
 .exact Zi VM
 .rw[(h.ms.2 k a).2]at e;cases e;exact Zj ⟨(h.ms.2 k a).1,λq=>by have:=m.cells _ q;cases this⟩)
theorem Al.cons{D:Nat}{a:List Nat}(h:Al z wh fc b l B e d Bp a W)(hD:B<=D)(f:D∉a)(hK:W.heap[D]?=S (.deferred (S []))):Al z wh fc b l B e d Bp (D :: a) W :=
 ⟨h.yb,h.b1,h.ps,h.st,jx h.ms hD f hK⟩
def AlI(z:I2)(wh:Bool)(fc:I5)(b:Int)(l B Wb B1 Bp:Nat)(J:List Mv->I6->Prop)(gk:Nat)(a:Act)(wr:I6):Prop :=
 ∃(k:Nat)(Ds:List Nat)(u3 u4 u5 u6 u7 u8 u11 u12 u13 u14 u15 u16 u17 u18 u19 u20 u21 u22 u23 u24 u25 u26 u27 u28 u29 u30 u31:I7),k+gk=64/\a={ tmps:=#[.func (.yield l) #[] #[],ZI B1,ZI Wb,u3,u4,u5,u6,u7,u8,Zc (zL z).toArray,I L k,u11,u12,u13,u14,u15,u16,u17,u18,u19,u20,u21,u22,u23,u24,u25,u26,u27,u28,u29,u30,u31],defers:=Ds.map uK }/\Al z wh fc b l B Wb B1 Bp Ds wr/\J (ye z wh fc b k) wr
theorem G0(z:I2)(k:Nat)(a:k<64)(w:I6):(Instr.index 67 (Zc (zL z).toArray) (I L k)).run prog w=.ok (I Zg (z k).toNat) w:=G1 _ k a _ ((gu z).2 k a) w
theorem ak(hh:iN z wh fc)(r Bp:Nat)(T:Obj->Prop)(d:z6 T)(w:I6)(c5:w.cell? ⟨r,0,N⟩=S (ZI Bp))(f3:Ps z wh fc b Bp w)(f6:vT w) :
 It prog 223 #[ZI r] vr T (λk=>k=r\/k=Bp\/k=0) (ye z wh fc b 64) w:=by
 intro l B J Jx W f0 hB hJ b0 hY h0;have m:Al z wh fc b l B W.heap.size r Bp [] (W.alloc (Z #[.func (.yield l) #[] #[]] 143)):=by have f1:=f0.trans ((Fr.refl (λk _=>k=r\/k=Bp\/k=0) W).alloc (Z #[.func (.yield l) #[] #[]] 143));exact⟨ZQ W _,f1.cell c5 (λ_ _=>WU),f3.fr f1 (λ_ _=>WU),f6.fr f1 (λ_=>WU),⟨List.nodup_nil,λD hD=>absurd hD XC⟩⟩
 have m6:=hJ _ _ _ h0 ((Fr.refl _ W).alloc (Z #[.func (.yield l) #[] #[]] 143));refine(ZY (n:=9)).1 ?_;refine callsIn_of_wp_marks func223 rfl trivial ?_ R;simp only[ntmps223,Nat.reduceAdd,Nat.reduceSub,Zr];refine Z9.2 ?_;clear h0 f0 c5 f3 f6;have c0:=m.b1;have l5:=m.ps.bd.range;go_wp2_with(refine Yo R 67 _ R Bp 0 R (zL z) _ l5 underlying67 rfl (by rw[ub];exact x7) ?_);generalize W.alloc (Z #[.func (.yield l) #[] #[]] 143)=w1 at m m6 c0 l5 |-;generalize W.heap.size=G at m hB |-;clear c0 l5;refine Z9.1 (wpIn_loop_ghost (rm:=9) (AlI z wh fc b l B G r Bp J) 64 ?start ?round)
 case start=>exact⟨0,[],_,_,_,_,_,_,_,_,_,_,_,_,_,_,_,_,_,_,_,_,_,_,_,_,_,_,_,R,R,m,m6⟩
 case round=>
  clear m m6;rintro gk a wr ⟨k,E,u3,u4,u5,u6,u7,u8,u11,u12,u13,u14,u15,u16,u17,u18,u19,u20,u21,u22,u23,u24,u25,u26,u27,u28,u29,u30,u31,hk,rfl,hM,a9⟩;have a0:=X hM;have u:=X a9;clear a9 hM;by_cases x:k<64
  .have h5:=G0 z k x;have a6:Y (ye z wh fc b (k+1)=ye z wh fc b k++nh z wh fc b k):=X (qk4 z wh fc b k);have d5:Y (ye z wh fc b k++nh z wh fc b k <+: ye z wh fc b 64):=X (Cp z wh fc b x);have y:Y (nh z wh fc b k=if kw (z k) wh then(yF z wh fc b k).flatMap (AB z k)else[]):=X R;have l3:=X (λhm=>hh k x hm);generalize nh z wh fc b k=aS at a6 d5 y;have k9:0<=(k:Int):=O;have P:(k:Int)<64:=O;obtain⟨x1,x2⟩:=x6 wr (Z #[I L k] 3) (Z #[I Zg (z k).toNat] 5);have K:Gr wr ((wr.alloc (Z #[I L k] 3)).alloc (Z #[I Zg (z k).toNat] 5)):=ZN.al;have a5:((wr.alloc (Z #[I L k] 3)).alloc (Z #[I Zg (z k).toNat] 5)).heap.size=wr.heap.size+2:=WU;have Q:=X (λW=>qxy (z k) wh W);obtain⟨g1,h3⟩:=Zo (kw (z k) wh);rw[h3]at Q y l3;refine Z9.2 ?_;go_upto_region 4 with fail;generalize ((wr.alloc (Z #[I L k] 3)).alloc (Z #[I Zg (z k).toNat] 5))=wA at x1 x2 K a5 |-;have n:=a0.a.gr K;have c1:=(qi x1).1;have c2:=(qi x2).1;have c3:=n.b1;have c4:=n.ps.wh;go_quiet((go_at_call 148;exact YT (Q.a _)));have a2:Y (Gr wr (wA.drewN nq)):=X (K.drewN _);have y1:(wA.drewN nq).heap[wr.heap.size]?=S (Z #[I L k] 3):=x1;have y2:(wA.drewN nq).heap[wr.heap.size+1]?=S (Z #[I Zg (z k).toNat] 5):=x2;have i:Al z wh fc b l B G r Bp E (wA.drewN nq):=n.gr ((Gr.refl wA).drewN _);have f5:(wA.drewN nq).heap.size=wr.heap.size+2:=a5;generalize wA.drewN nq=wq at a2 y1 y2 i f5 |-;clear n c1 c2 c3 c4 x1 x2 K a5 h5;cases g1
   .go_wp2_with fail;exact⟨gk-1,O,k+1,E,_,_,_,_,_,_,_,_,_,_,_,_,_,_,_,_,_,_,_,_,_,_,_,_,_,_,_,O,R,i,by rw[a6.a,y.a];simpa using hJ _ _ _ u.a (Fr.of_gr a2.a)⟩
   .have c1:=(qi y1).1;have c3:=i.b1;have a7:=X (bG (z:=z) (wh:=wh) (fc:=fc) (b:=b) (Bp:=Bp) k x (l3.a R) wq i.ps i.st);have f8:Y (∀t∈yF z wh fc b k,t<64):=X (λt ht=>C3 x (l3.a R) ht);have A:Y (aS=(yF z wh fc b k).flatMap (AB z k)):=X (by rw[y.a];rfl);clear y l3;generalize yF z wh fc b k=tl at a7 f8 A;have b6:=X i;clear i;go_wp2_with(go_at_call 224;refine a7.a.mono ?_;rintro e F ⟨gi,lb,C,rfl,p,h2,g3,b2,g5⟩);have d3:=Gr.trans a2.a p;have H:Al z wh fc b l B G r Bp E F:=b6.a.gr p;have g8:=hJ _ _ _ u.a (Fr.of_gr d3);have z1:=(ZE p y1);have z2:=(ZE p y2);have m1:∀D∈E,D<F.heap.size:=λD hD=>H.lt D (by simp[hD]);have k4:G<F.heap.size:=H.lt G WU;have b7:G<wr.heap.size:=a0.a.lt G WU;have l2:=ZR p;have d4:wr.heap.size+1<F.heap.size:=O;clear a7 p d3 y1 y2 c1 c3;generalize wr.heap.size=Bs at b7 z1 z2 d4 f5 |-;have m0:B<=F.heap.size:=O;have b3:∀j,C j->j=Bp\/j=0\/y9 B j F:=λj M=>by
     obtain h|h|h:=b2 j M
     .exact Zi h
     .exact Zj (Zi h)
     .exact Zj (Zj ⟨by have:=h.1;omega,h.2⟩)
    clear b2;refine Z9.1 (xj (n:=9) (gf:=gi) (lb:=lb) R h2 (g5 T d) d.cells g3 ZP (λ_=>R)
     (λl4 V=>Al z wh fc b l B G r Bp E V/\V.heap[Bs]?=S (Z #[I L k] 3)/\V.heap[Bs+1]?=S (Z #[I Zg (z k).toNat] 5)/\Fr (λj _=>C j) F V/\J (ye z wh fc b k++l4.flatMap (AB z k)) V)
     (λc _ V=>c=.ret/\zY B E V/\∃q,q <+: ye z wh fc b 64/\Jx q V)
     ?sI ?sX ⟨H,z1,z2,ZP,by simpa using g8⟩ ?rnd ?done ?stop)
    case sI=>exact λs V V' h f=>⟨H.below Zy h.1 f,f.same _ _ h.2.1 (Zi O),f.same _ _ h.2.2.1 (Zi O),h.2.2.2.1.ext f (λj o e _=>Zi (qB.1 e).1),qo hJ m0 _ _ _ h.2.2.2.2 f⟩
    case sX=>exact λc s V V' h f=>⟨h.1,h.2.1.fr f (λj o _ _ _ M=>Zi (m1 _ M)),h.2.2.elim λq hq=>⟨q,hq.1,qo b0 m0 _ _ _ hq.2 f⟩⟩
    case done =>rintro D V hD ⟨h1,_,_,_,g9⟩ hK;have h7:Y (ye z wh fc b (k+1)=ye z wh fc b k++tl.flatMap (AB z k)):=X (by rw[a6.a,A.a]);go_wp2_with fail;exact⟨gk-1,O,k+1,D :: E,_,_,_,_,_,_,_,_,_,_,_,_,_,_,_,_,_,_,_,_,_,_,_,_,_,_,_,O,R,h1.cons O (λh=>by have:=m1 D h;omega) hK,by rw[h7.a];exact g9⟩
    case stop =>rintro D c l4 V hD k5 ⟨rfl,h6,q,a3,a4⟩ hK;refine Z9.2 ?_;go_wp2_with fail;exact xc (T:=T) results223 d.cells (D :: E) V (jx h6 O (λh=>by have:=m1 D h;omega) hK) (λv w' f=>⟨⟨v,R⟩,Zj ⟨q,a3,b0 _ _ _ a4 f⟩⟩)
    case rnd=>
     intro l1 l4 t V k8 f9 hI hl;simp only[yh];gi_wp2;refine⟨ZP,?_⟩;intro V2 f2 g4 l0;obtain⟨a1,k1,k2,c6,g6⟩:=g4;have f7:t<64:=f8.a t (C9 f9);have cy:=(qi a1.yb).1;have d1:=(qi k1).1;have d2:=(qi k2).1;have h8:ye z wh fc b k++l4.flatMap (AB z k)++xT (jD (z k)) k t <+: ye z wh fc b 64:=by refine List.IsPrefix.trans ?_ d5.a;rw[qS,A.a];exact(Xq _).2 (qx0 (AB z k) f9)
     have h9:=X (AO (z k) k t f7 l B T (λj=>j=r\/j=Bp\/j=0) J Jx (ye z wh fc b 64) _ h8 hY V2 g6);have b4:=X a1;have n0:=X c6;have g0:=X k1;have g2:=X k2;clear a1 c6 k1 k2 hI hl f2;gi_wp2;refine⟨trivial,Xe l1 (ZY.2 (h9.a.mono ?_))⟩;intro e V4 h4;obtain⟨f4,h4⟩:=h4;have a8:∀j,y9 B j F->C j->y9 B j V2:=λj M hc=>⟨M.1,by obtain⟨c,ty,fr,q1,q2⟩:=M.2;exact⟨c,ty,fr,q1,n0.a.same _ _ q2 hc⟩⟩;have m2:Y (Fr (jM F.heap.size T C) V2 V4):=X (eR f4 d m0 (λj M=>by
      obtain h|h|h:=b3 j M
      .exact Zi UW
      .exact Zi UW
      .exact Zj (a8 j h M)))
     have b5:Y (Al z wh fc b l B G r Bp E V4):=X (b4.a.rnd d hB f4);have k0:Y (V4.heap[Bs]?=S (Z #[I L k] 3)):=X ((qu O WW g0.a).keep d f4 g0.a);have k3:Y (V4.heap[Bs+1]?=S (Z #[I Zg (z k).toNat] 5)):=X ((qu O WW g2.a).keep d f4 g2.a);have d0:Y (Fr (λj _=>C j) F V4):=X (n0.a.ext m2.a (λj o _ q=>Zi q));obtain⟨rfl,g7⟩|⟨rfl,q,a3,a4⟩:=h4
     .gi_wp2;exact⟨m2.a,b5.a,k0.a,k3.a,d0.a,by rw[Xj,<-qS];simpa[AB]using g7⟩
     .gi_wp2;exact⟨m2.a,R,b5.a.ms,q,a3,a4⟩
  .have P:k=64:=O;subst P;refine Z9.2 ?_;go_wp2_with fail;exact xc (T:=T) results223 d.cells E wr a0.a.ms (λv w' f=>⟨⟨v,R⟩,Zi (hJ _ _ _ u.a f)⟩)
def zN(z:I2):List Int:=(List.range 64).map λi=>((z i).toNat:Int)
theorem Br(z:I2)(wh:Bool):Lib.indexByte (Lib.bytesOf (zN z)) (vk wh)=xR z wh:=by
 have e:Lib.bytesOf (zN z)=(List.range 64).map z:=by unfold Lib.bytesOf zN;rw[List.map_map];apply List.map_congr_left;intro i _;simp
 have at':∀j,j<64->((List.range 64).map z)[j]?=S (z j):=λj a=>VM;rw[e];by_cases h:∃k,k<64/\z k=vk wh/\∀j,j<k->z j≠vk wh
 .obtain⟨k,l,m,o⟩:=h;rw[qkm (k:=k) (λj a=>by simpa using o j a) (by simpa using m) l];exact sx (λj a=>by rw[at' j O];intro d;exact o j a (qP d)) (by rw[at' k l,m])
 .have f:∀n,n<=64->∀j,j<n->z j≠vk wh:=by
   intro n;induction n with
   | zero=>intro _ j a;omega
   | succ n ih =>
    intro p j a d;by_cases g:j=n
    .subst g;exact h ⟨j,O,d,ih O⟩
    .exact ih O j O d
  rw[aC (λj a=>by simpa using f 64 Zy j a)];exact sw (λj a=>by
   have b:j<64:=VS
   rw[at' j b];intro d;exact f 64 Zy j b (qP d))
theorem gP(z:I2)(A:I0)(g:∀i,i<64->A[i]?=S (I Zg (z i).toNat))(wh:Bool)(w:I6) :
 ZL 154 #[Zc A,Za wh] w (I L (xR z wh)):=by
 have h:Bz z w.heap.size (w.alloc (Z A 67)):=n6 g (ZQ w _);have a:Y (∀b:Int,b=((vk wh).toNat:Int)->Calls prog 226 #[Zq (S ⟨w.heap.size,0,N⟩) 64 64,I Zg b] (w.alloc (Z A 67)) λe w'=>e=Zd (I L (xR z wh))/\w'=(w.alloc (Z A 67))):=X (λb f=>by refine Z1 (Any.bytes_IndexByte Tryz.lays187x w.heap.size 0 64 64 (zN z) b _ (by simp[zN]) (λi j=>by rw[Z2,h i j];simp[zN,j])) ?_;rw[f,<-Br];exact⟨WU,R⟩);clear g h;cases wh;have d:=X (a.a 107 R);rotate_left;have d:=X (a.a 75 R);all_goals
  clear a;go_enter func154,ntmps154;go_wp2_with(go_at_call 226;refine Z1 d.a ?_);go_ret;exact⟨R,ZN⟩
def yH(c u:UInt8):UInt8:=if u=0 then c else if kw c Zk then u-97+65 else u
theorem Fa:∀u:UInt8,IntKind.u8.wrap (IntKind.u8.wrap ((u.toNat:Int)-97)+65)=(((u-97+65:UInt8).toNat:Nat):Int):=by have:∀n:Fin 256,IntKind.u8.wrap (IntKind.u8.wrap (((UInt8.ofNat n.val).toNat:Int)-97)+65)=((((UInt8.ofNat n.val)-97+65:UInt8).toNat:Nat):Int):=WS;intro u;have:=this ⟨u.toNat,u.toNat_lt⟩;exact OY
theorem lq(c u:UInt8)(w:I6):Calls prog 189 #[I Zg c.toNat,I Zg u.toNat] w λe w'=>e=Zd (I Zg (yH c u).toNat)/\w'=w:=by
 have i:=X (λW=>qxy c Zk W);obtain⟨v,j⟩:∃v,Y (v=yH c u):=⟨_,X R⟩;have a:Y (v=if u=0 then c else if kw c Zk then u-97+65 else u):=j;rw[<-j.a];clear j;by_cases f:u=0
 .subst f;have b:Y (v=c):=X (by rw[a.a];simp);go_enter func189,ntmps189;go_wp2;go_ret;exact⟨Tc,R⟩
 .have m:((u.toNat:Int)==0)=Zl:=by rw[qM];intro h;apply f;apply q6.1;have:u.toNat=0:=O;rw[this];rfl
  obtain⟨g,l⟩:=Zo (kw c Zk);rw[l]at i a;have d:=Fa u;cases g
  .have b:Y (v=u):=X (by rw[a.a];simp[f]);clear a d;go_enter func189,ntmps189;go_wp2_with(go_at_call 148;refine Z1 (i.a _) ?_);go_ret;exact⟨Tc,R⟩
  .have b:Y (v=u-97+65):=X (by rw[a.a];simp[f]);generalize k:(u-97+65:UInt8)=n at d b;clear a k;go_enter func189,ntmps189;go_wp2_with(go_at_call 148;refine Z1 (i.a _) ?_);go_ret;exact⟨by rw[b.a,<-d];rfl,R⟩
def vW(z:I2)(i:Nat)(c:UInt8):I2:=λn=>if n=i then c else z n
def cT(z:I2)(A:I0):Prop:=A.size=64/\∀i,i<64->A[i]?=S (I Zg (z i).toNat)
theorem cT.set(h:cT z A)(i:Nat)(c:UInt8):cT (vW z i c) (A.setIfInBounds i (I Zg c.toNat)):=by
 refine⟨by rw[Array.size_setIfInBounds];exact h.1,λj a=>?_⟩;unfold vW;by_cases e:j=i
 .subst e;rw[Yu,qI R,qI (by rw[h.1];exact a),qI R]
 .rw[XO (λx=>e x.symm),qF e];exact h.2 j a
theorem cT.ones(h:cT z A):A.all (·.oneCell')=Zk:=by rw[Array.all_eq_true];intro i a;have:=h.2 i (by rw[<-h.1];exact a);exact OE
theorem wL(z:I2):cT z (zL z).toArray:=gu z
theorem xr{b:Nat}{t:TypeId}(h:V.heap[b]?=S (Z A t)):V.frozen? ⟨b,i,N⟩=Zl:=by simp[World.frozen?,h]
def zE(z:I2)(b:Int)(m:Mv):I2 :=
 let z1:=vW (vW z m.1 46) m.2.1 (yH (z m.1) m.2.2)
 if jD (z m.1)&&((m.2.1:Int)==b)then vW z1 (m.1/8*8+m.2.1%8) 46
 else if jA (z m.1)&&(m.2.1==m.1+2)then vW (vW z1 (m.1+1) (z1 (m.1+3))) (m.1+3) 46
 else if jA (z m.1)&&(m.2.1+2==m.1)then vW (vW z1 (m.1-1) (z1 (m.1-4))) (m.1-4) 46
 else z1
theorem mP(c:UInt8):jD c=Zk->jA c=Zl:=by unfold jD jA;simp only[Ym,YF,Bool.or_eq_false_iff,qM];omega
structure Pl(w:I6)(PA:I0)(f t:Nat)(u:UInt8)(W:I6):Prop where
 pa:W.heap[w.heap.size]?=S (Z PA 70)
 mv:W.heap[w.heap.size+1]?=S (Z (ZJ f t u) 87)
 rs:W.heap[w.heap.size+2]?=S (Z kQ 67)
 gr:Gr w W
theorem Pl.set{t:Nat}(h:Pl w PA f t u W)(i:Nat)(v:I7):Pl w PA f t u (W.setCell ⟨w.heap.size+3,i,N⟩ v):=by have a:Fr (λk _=>k≠w.heap.size+3) W (W.setCell ⟨w.heap.size+3,i,N⟩ v):=ZP.setCell _ (λo _ q=>q R);exact⟨a.same _ _ h.pa O,a.same _ _ h.mv O,a.same _ _ h.rs O,Yr h.gr (show w.heap.size<=w.heap.size+3 from O) _⟩
theorem Pl.drew{t:Nat}(h:Pl w PA f t u W):Pl w PA f t u W.drew:=⟨h.pa,h.mv,h.rs,h.gr.drew⟩
theorem qvj{g:Int}(r:jE z wh fc b h g PA)(f t:Nat)(u:UInt8)(hf:f<64)(ht:t<64)(Q:jA (z f)=Zk->t=f+2->f+3<64)(R:jA (z f)=Zk->t+2=f->4<=f)(w:I6) :
 Calls prog 98 #[Zc PA,Zc (ZJ f t u)] w λe w'=>∃A,e=Zd (Zc A)/\cT (zE z b (f,t,u)) A/\Gr w w':=by
 have hr:=X r;obtain⟨x1,x2,x3,x4⟩:=jG w (Z PA 70) (Z (ZJ f t u) 87) (Z kQ 67);have d0:Gr w (((w.alloc (Z PA 70)).alloc (Z (ZJ f t u) 87)).alloc (Z kQ 67)):=ZN.al.al;have d4:=Ps.of r x1;have b5:=d4.bd.range;clear r;obtain⟨i,hL⟩:∃i,Y (i=zL z):=⟨_,X rfl⟩;rw[<-hL.a]at b5;have hl:i.length=64:=by rw[hL.a];exact ub z
 have a9:(prog.info? 67).map (·.size)=S i.length:=by rw[hl];exact x7
 have b0:i.toArray.all (·.oneCell')=Zk:=by rw[hL.a];exact(wL z).ones
 have a4:i.toArray.size=64:=by simpa using hl
 go_enter func98,ntmps98;go_upto_region 2 with(first
  | (refine Yo rfl 67 _ rfl w.heap.size 0 rfl i _ b5 underlying67 rfl a9 ?_)
  | (refine ZU rfl 67 _ _ rfl (w.heap.size+3) i.toArray rfl rfl 67 kQ (by rw[<-x4];exact Zv) (by rw[a4];exact x7) (by rw[a4];rfl) b0 ?_))
 have f2:((((w.alloc (Z PA 70)).alloc (Z (ZJ f t u) 87)).alloc (Z kQ 67)).alloc (Z kQ 67)).heap[w.heap.size+3]?=S (Z kQ 67):=by rw[<-x4];exact Zv
 show Code.wp _ _ _ _ (((((w.alloc (Z PA 70)).alloc (Z (ZJ f t u) 87)).alloc (Z kQ 67)).alloc (Z kQ 67)).setRow (w.heap.size+3) i.toArray);have a3:=setRow_heap _ _ _ i.toArray _ _ f2;have d1:Gr w (((((w.alloc (Z PA 70)).alloc (Z (ZJ f t u) 87)).alloc (Z kQ 67)).alloc (Z kQ 67)).setRow (w.heap.size+3) i.toArray):=(d0.alloc _ _).setRow _ O _;have a8:Pl w PA f t u (((((w.alloc (Z PA 70)).alloc (Z (ZJ f t u) 87)).alloc (Z kQ 67)).alloc (Z kQ 67)).setRow (w.heap.size+3) i.toArray):=by
  have b6:Below (w.heap.size+3) (((w.alloc (Z PA 70)).alloc (Z (ZJ f t u) 87)).alloc (Z kQ 67)) (((((w.alloc (Z PA 70)).alloc (Z (ZJ f t u) 87)).alloc (Z kQ 67)).alloc (Z kQ 67)).setRow (w.heap.size+3) i.toArray):=by have:=((Gr.refl (((w.alloc (Z PA 70)).alloc (Z (ZJ f t u) 87)).alloc (Z kQ 67))).alloc kQ 67).setRow (w.heap.size+3) O i.toArray;unfold Gr at this;rwa[x4]at this
  exact⟨(Zz b6 O).trans x1,(Zz b6 O).trans x2,(Zz b6 O).trans x3,d1⟩
 generalize (((((w.alloc (Z PA 70)).alloc (Z (ZJ f t u) 87)).alloc (Z kQ 67)).alloc (Z kQ 67)).setRow (w.heap.size+3) i.toArray)=w4 at a3 a8 |-;have a5:Y (cT z i.toArray):=X (by rw[hL.a];exact wL z);clear x1 x2 x3 x4 d0 d1 d4 b5 hl a9 b0 a4 f2;generalize i.toArray=A4 at a3 a5;have f7:0<=(f:Int):=O;have f8:(f:Int)<64:=O;have f9:0<=(t:Int):=O;have g0:(t:Int)<64:=O;obtain⟨c1,c2,c3⟩:=qm a8.mv;have c4:=n6 a5.a.2 a3 f hf;have o4:=xr (i:=f) a3;go_upto_region 4 with fail;have H:=a8.set f (I Zg 46);have g9:=qv (i:=f) (v:=I Zg 46) a3;have a6:Y (cT (vW z f 46) (A4.setIfInBounds f (I Zg 46))):=X (a5.a.set f 46);show Code.wp _ _ _ _ (w4.setCell ⟨w.heap.size+3,f,N⟩ (I Zg 46));generalize w4.setCell ⟨w.heap.size+3,f,N⟩ (I Zg 46)=w5 at H g9 |-;generalize A4.setIfInBounds f (I Zg 46)=A5 at g9 a6;clear a8 a3 c1 c2 c3 c4 o4;have f1:=X (λW=>lq (z f) u W);obtain⟨c1,c2,c3⟩:=qm H.mv;have o5:w5.drew.frozen? ⟨w.heap.size+3,t,N⟩=Zl:=xr (V:=w5.drew) (i:=t) g9;have c5:w5.drew.cell? ⟨w.heap.size+3,t,N⟩=S (I Zg (vW z f 46 t).toNat):=n6 (W:=w5.drew) a6.a.2 g9 t ht;have a7:Y (∀w',Pl w PA f t u w'->Pl w PA f t u w'/\w'.cell? ⟨w.heap.size+1,1,N⟩=S (I L t)/\w'.cell? ⟨w.heap.size+1,2,N⟩=S (I Zg u.toNat)):=X (λw' h=>⟨h,(qm h.mv).2.1,(qm h.mv).2.2⟩);go_region_held3 (λw'=>Pl w PA f t u w'/\w'.cell? ⟨w.heap.size+1,1,N⟩=S (I L t)/\w'.cell? ⟨w.heap.size+1,2,N⟩=S (I Zg u.toNat)) (first|exact a7.a _ H.drew|exact a7.a _ (Pl.set H.drew _ _)|exact a7.a _ (And.left ‹_›)) (first|(go_at_call 189;refine(f1.a _).mono ?_;rintro e w6 ⟨rfl,rfl⟩));show Exit.then _ _ _ _ (w5.setCell ⟨w.heap.size+3,t,N⟩ (I Zg ((yH (z f) u).toNat:Int))).drew;have k:=(H.set t (I Zg ((yH (z f) u).toNat:Int))).drew;have l:(w5.setCell ⟨w.heap.size+3,t,N⟩ (I Zg ((yH (z f) u).toNat:Int))).drew.heap[w.heap.size+3]?=_:=qv (i:=t) (v:=I Zg ((yH (z f) u).toNat:Int)) g9;have n:Y (cT (vW (vW z f 46) t (yH (z f) u)) (A5.setIfInBounds t (I Zg ((yH (z f) u).toNat:Int)))):=X (a6.a.set t (yH (z f) u));generalize (w5.setCell ⟨w.heap.size+3,t,N⟩ (I Zg ((yH (z f) u).toNat:Int))).drew=w6 at k l |-;generalize A5.setIfInBounds t (I Zg ((yH (z f) u).toNat:Int))=F at l n;have m:Y (zE z b (f,t,u)=if jD (z f)&&((t:Int)==b)then vW (vW (vW z f 46) t (yH (z f) u)) (f/8*8+t%8) 46
  else if jA (z f)&&(t==f+2)then vW (vW (vW (vW z f 46) t (yH (z f) u)) (f+1) (vW (vW z f 46) t (yH (z f) u) (f+3))) (f+3) 46
  else if jA (z f)&&(t+2==f)then vW (vW (vW (vW z f 46) t (yH (z f) u)) (f-1) (vW (vW z f 46) t (yH (z f) u) (f-4))) (f-4) 46
  else vW (vW z f 46) t (yH (z f) u)):=X rfl
 generalize vW (vW z f 46) t (yH (z f) u)=q at n m;have g6:=X (λW=>xz (z f) W);have a2:=X (λW=>qjk (z f) W);have v:Y (jD (z f)=Zk->jA (z f)=Zl):=X (mP (z f));obtain⟨b1,b2,b3⟩:=qm k.mv;have b4:w6.cell? ⟨w.heap.size,69,N⟩=S (I L b):=by rw[Zs k.pa];exact hr.a.b
 clear H g9 a6 c1 c2 c3 o5 c5 a7 f1 a5 hL;obtain⟨pw,d5⟩:=Zo (jD (z f));obtain⟨kb,d2⟩:=Zo (jA (z f));rw[d5]at g6 m v;rw[d2]at a2 m Q R v;have a1:Y (∀(A:I0)(W:I6),cT (zE z b (f,t,u)) A->Pl w PA f t u W->W.heap[w.heap.size+3]?=S (Z A 67)->(prog.info? 67).map (·.size)=S A.size/\A.size=kQ.size/\A.all (·.oneCell')=Zk/\(W.setRow (w.heap.size+2) A).heap[w.heap.size+2]?=S (Z A 67)/\Gr w (W.setRow (w.heap.size+2) A)):=X (λA W ha hp hs=>⟨by rw[ha.1];exact x7,by rw[ha.1];rfl,ha.ones,setRow_heap _ _ _ A _ _ hp.rs,hp.gr.setRow _ O _⟩);by_cases d3:(pw&&((t:Int)==b))=Zk
 .obtain⟨rfl,b7⟩:pw=Zk/\((t:Int)==b)=Zk:=by simpa using d3
  have g8:Y (zE z b (f,t,u)=vW q (f/8*8+t%8) 46):=X (by rw[m.a,b7];rfl);have l1:(f/8*8+t%8)<64:=O;have o6:=xr (i:=(f/8*8+t%8)) l;have c6:=n6 n.a.2 l (f/8*8+t%8) l1;have a0:=qv (i:=(f/8*8+t%8)) (v:=I Zg 46) l;have y:Y (cT (zE z b (f,t,u)) (F.setIfInBounds (f/8*8+t%8) (I Zg 46))):=X (by rw[g8.a];exact n.a.set (f/8*8+t%8) 46);obtain⟨E,r2,r3,r4,r5⟩:=a1.a _ _ y.a (k.set (f/8*8+t%8) _) a0;have B:=(k.set (f/8*8+t%8) (I Zg 46)).rs;clear m Q R v;go_upto_region 11 with(go_at_call 121;refine(g6.a _).mono ?_;rintro e w' ⟨rfl,rfl⟩);show Code.wp _ _ _ _ (w'.setCell ⟨w.heap.size+3,(f/8*8+t%8),N⟩ (I Zg 46));generalize w'.setCell ⟨w.heap.size+3,(f/8*8+t%8),N⟩ (I Zg 46)=w7 at a0 r4 r5 B |-;generalize F.setIfInBounds (f/8*8+t%8) (I Zg 46)=A7 at a0 y E r2 r3 r4 r5;clear o6 c6 k l n b1 b2 b3 b4;go_wp2_with(first
   | (refine ZV rfl 67 _ rfl (w.heap.size+3) rfl 67 A7 (0,0) _ a0 underlying67 rfl E ?_)
   | (refine ZU rfl 67 _ _ rfl (w.heap.size+2) A7 rfl rfl 67 kQ B E r2.symm r3 ?_))
  exact ZS (v:=Zc A7) (Yp results98 _ _ (w.heap.size+2) 67 A7 (0,0) _ rfl r4 underlying67 rfl E) rfl ⟨_,rfl,y.a,r5⟩
 .cases pw
  .cases kb
   .have y:Y (cT (zE z b (f,t,u)) F):=X (by rw[show zE z b (f,t,u)=q from by rw[m.a];simp];exact n.a);exact IK
   .by_cases g7:t=f+2
    .have hb:=Q rfl g7;have g8:Y (zE z b (f,t,u)=vW (vW q (f+1) (q (f+3))) (f+3) 46):=X (by rw[m.a];simp[g7]);obtain⟨d,M⟩:∃p,Y (p=f+1):=⟨_,X rfl⟩;obtain⟨a,V⟩:∃p,Y (p=f+3):=⟨_,X rfl⟩;rw[<-M.a,<-V.a]at g8;have e1:IntKind.i64.wrap ((f:Int)+1)=(d:Int):=by rw[YO];have:=M.a;omega
     have e3:IntKind.i64.wrap ((f:Int)+3)=(a:Int):=by rw[YO];have:=V.a;omega
     have l1:d<64:=by have:=M.a;omega
     have l3:a<64:=by have:=V.a;omega
     have f5:a≠d:=by have:=M.a;have:=V.a;omega
     have i1:0<=(d:Int):=O;have i2:(d:Int)<64:=O;have i3:0<=(a:Int):=O;have i4:(a:Int)<64:=O;have hE:((t:Int)==(f:Int)+2)=Zk:=WX;clear m Q R v;go_upto_region 8 with(first|(go_at_call 121;refine(g6.a _).mono ?_;rintro e w' ⟨rfl,rfl⟩)|(go_at_call 120;refine(a2.a _).mono ?_;rintro e D ⟨rfl,rfl⟩));exact Zp
    .have f4:(t==f+2)=Zl:=by simpa using g7
     by_cases f0:t+2=f
     .have g7:=f0;have hb:=R rfl g7;have g8:Y (zE z b (f,t,u)=vW (vW q (f-1) (q (f-4))) (f-4) 46):=X (by rw[m.a];simp[g7,f4]);obtain⟨d,M⟩:∃p,Y (p=f-1):=⟨_,X rfl⟩;obtain⟨a,V⟩:∃p,Y (p=f-4):=⟨_,X rfl⟩;rw[<-M.a,<-V.a]at g8;have e1:IntKind.i64.wrap ((f:Int)-1)=(d:Int):=by rw[YO];have:=M.a;omega
      have e3:IntKind.i64.wrap ((f:Int)-4)=(a:Int):=by rw[YO];have:=V.a;omega
      have l1:d<64:=by have:=M.a;omega
      have l3:a<64:=by have:=V.a;omega
      have f5:a≠d:=by have:=M.a;have:=V.a;omega
      have i1:0<=(d:Int):=O;have i2:(d:Int)<64:=O;have i3:0<=(a:Int):=O;have i4:(a:Int)<64:=O;have f3:((t:Int)==(f:Int)+2)=Zl:=WX;have hE:((t:Int)==(f:Int)-2)=Zk:=WX;clear m Q R v;go_upto_region 10 with(first|(go_at_call 121;refine(g6.a _).mono ?_;rintro e w' ⟨rfl,rfl⟩)|(go_at_call 120;refine(a2.a _).mono ?_;rintro e D ⟨rfl,rfl⟩));exact Zp
     .have f3:((t:Int)==(f:Int)+2)=Zl:=WX;have f6:((t:Int)==(f:Int)-2)=Zl:=WX;have y:Y (cT (zE z b (f,t,u)) F):=X (by rw[show zE z b (f,t,u)=q from by rw[m.a];simp[g7,f0]];exact n.a);exact IK
  .have b7:((t:Int)==b)=Zl:=by simpa using d3
   obtain rfl:kb=Zl:=v.a rfl;have y:Y (cT (zE z b (f,t,u)) F):=X (by rw[show zE z b (f,t,u)=q from by rw[m.a];simp[b7]];exact n.a);obtain⟨E,r2,r3,r4,r5⟩:=a1.a _ _ y.a k l;have B:=(k).rs;clear m Q R v n;go_upto_region 11 with(first|(go_at_call 121;refine Z1 (g6.a _) ?_)|(go_at_call 120;refine Z1 (a2.a _) ?_));exact WC
structure Jd(w:I6)(PA A:I0)(Bp Bs:Nat)(W:I6):Prop where
 pa:W.heap[Bp]?=S (Z PA 70)
 sq:W.heap[Bs]?=S (Z A 67)
 gr:Gr w W
theorem Jd.next{a:Nat}{b:I6}(h:Jd w PA A Bp a W)(g:Gr W b):Jd w PA A Bp a b :=
 ⟨(ZE g h.pa),(ZE g h.sq),Gr.trans h.gr g⟩
theorem Cy{d:Array Oper}{op:Oper}{a:Act}{S:I6->Prop}(l:A.size=64)(i:Region.wanted op (yielded d a.tmps)=Zk)(x:Operand)(f:op.op=.load 67 x)(b:Nat)(k:a.eval x=ZI b)(e:∀w,S w->w.heap[b]?=some (Z A 67)):YieldsIf prog d S op (Zc A) a:=by have:=XW (P:=prog) i 67 x f b 0 k A.toList _ (λw h j v g=>by rw[Zs (e w h),Z2,<-qO];exact g) underlying67 rfl (by rw[x7];simp[l]);rwa[Yb]at this
theorem mt{g:Int}(r:jE z wh fc b h g PA)(f t:Nat)(u:UInt8)(V:f<64)(a6:t<64)(E:jA (z f)=Zk->t=f+2->f+3<64)(F:jA (z f)=Zk->t+2=f->4<=f)(y:Nat)(a7:y<64)(m:xR (zE z b (f,t,u)) wh=(y:Int))
 (Bp:Nat) (w:I6) (J:w.heap[Bp]?=S (Z PA 70)) (a1:vT w) :
 ZL 153 #[gJ (f,t,u),ZI Bp] w (Za (!(vL (zE z b (f,t,u)) y (!wh)))):=by
 simp only[gJ];have n:=X (λW=>qvj r f t u V a6 E F W);have D:(prog.info? 70).map (·.size)=S PA.size:=VU;have H:=r.wh;clear r E F;have G:(w.alloc (Z (ZJ f t u) 87)).heap[Bp]?=S (Z PA 70):=(YP _ _ _ (qB.1 J).1).trans J;have o:Gr w (w.alloc (Z (ZJ f t u) 87)):=ZN;obtain⟨c1,c2,c3⟩:=qm (ZQ w (Z (ZJ f t u) 87));go_enter func153,ntmps153;generalize Q:zE z b (f,t,u)=a2 at n m;go_upto_region 2 with(first
  | (refine ZV R 70 _ R Bp R 70 PA (0,0) _ G underlying70 rfl D ?_)
  | (go_at_call 98;refine(n.a _).mono ?_;rintro e d ⟨A,rfl,k,p⟩)
  | (refine ZU R 67 _ _ R d.heap.size A R R 67 kQ Zv (by rw[k.1];exact x7) (by rw[k.1];rfl) k.ones ?_))
 show Code.wp _ _ _ _ ((d.alloc (Z kQ 67)).setRow d.heap.size A);have i:=Gr.trans o p;have M:Jd w PA A Bp d.heap.size ((d.alloc (Z kQ 67)).setRow d.heap.size A):=by have q:Gr d ((d.alloc (Z kQ 67)).setRow d.heap.size A):=ZN.setRow _ Zy _;exact⟨(ZE (Gr.trans i q) J),setRow_heap _ _ _ A _ _ Zv,Gr.trans i q⟩
 generalize (d.alloc (Z kQ 67)).setRow d.heap.size A=w3 at M |-;generalize d.heap.size=a0 at M |-;have j:=X (λW=>gP a2 A k.2 wh W);rw[m]at j;have l:=X (λW a1=>ah a2 A k.1 k.2 y a7 (!wh) W a1);obtain⟨v,a3⟩:∃v,Y (v=vL a2 y (!wh)):=⟨_,X R⟩;rw[<-a3.a]at l;have a4:=k.1;have a5:=X Q;clear G o c1 c2 c3 n p i k m Q;refine ZT (S:=Jd w PA A Bp a0) WR (M.next ZO.drew) (λa=>?_);refine ty 0 (Zc A) R (Cy a4 Vb _ R a0 R (λ_ h=>h.sq)) a ?_;refine ty 1 (Zc A) R (Cy a4 Vb _ R a0 R (λ_ h=>h.sq)) a ?_;refine tq 2 (.pointer (S ⟨Bp,64,N⟩)) a ?_;refine ZB 3 (Za wh) R (λw P=>UF) a ?_;refine tq 5 (.pointer (S ⟨Bp,64,N⟩)) a ?_;refine ZB 6 (Za wh) R (λw P=>UF) a ?_;refine tq 7 (Za (!wh)) a ?_;refine rd 4 λK hK=>?_;go_simp;refine Z0 (j.a _) λwa x=>?_;refine hK.out _ _ (a.next x) λa=>?_;clear hK K x;refine rd 8 λK hK=>?_;go_simp;refine Z0 (l.a _ (a1.gr a.gr)) λwb B=>?_;refine hK.out _ _ (a.next B) λa=>?_;clear hK K B;refine tq 9 (Za (!v)) a ?_;refine rd 10 λK hK=>?_;go_simp;refine hK.out _ _ a λa=>?_;clear hK K;refine ZZ WR ?_ _;go_wp2_with fail;go_ret;exact⟨by rw[a3.a,<-a5.a];rfl,a.gr⟩
theorem aj(Bp:Nat)(w:I6):Calls prog 152 #[ZI Bp] w λe w'=>e=Zd (.func (.func 223) #[] #[ZI w.heap.size])/\w'.heap[w.heap.size]?=S (Z #[ZI Bp] 229)/\Gr w w':=by have b:∀(a:Fn)(first cap:I0)(w:I6),(Instr.makeFunc a first cap).run prog w=.ok (.func a first cap) w:=λ_ _ _ _=>R;go_enter func152,ntmps152;go_wp2;go_ret;exact⟨R,ZQ w _,ZN⟩
def uS(z:I2)(wh:Bool)(b:Int)(x:Mv):Bool:=!(vL (zE z b x) (xR (zE z b x) wh).toNat (!wh))
def yo(z:I2)(wh:Bool)(fc:I5)(b:Int):List Mv:=(ye z wh fc b 64).filter (uS z wh b)
structure lg(z:I2)(wh:Bool)(fc:I5)(b:Int):Prop where
 home:iN z wh fc
 k1:∀f t u,(f,t,u)∈ye z wh fc b 64->jA (z f)=Zk->t=f+2->f+3<64
 k2:∀f t u,(f,t,u)∈ye z wh fc b 64->jA (z f)=Zk->t+2=f->4<=f
 kg:∀x,x∈ye z wh fc b 64->∃y:Nat,y<64/\xR (zE z b x) wh=(y:Int)
theorem iI(e:iN z wh fc){x:Mv}(h:x∈ye z wh fc b 64):bi x:=by
 unfold ye nh at h;obtain⟨f,d,h⟩:=YX.1 h;have a:=qK.1 d;split at h
 .rename_i g;obtain⟨t,i,h⟩:=YX.1 h;exact bB a (C3 a (e f a g) i) h
 .cases h
theorem wJ(z:I2)(f k:Nat):(yj z f k).length<=8:=by
 have a:∀n x,(uW z (jU k) n x).length<=n:=by
  intro n;induction n with
  | zero=>intro x;simp[uW]
  | succ n ih =>
   intro x;unfold uW;split
   .have:=ih (nx x (jU k));split
    .simp;omega
    .simp
   .simp
 unfold yj;split
 .split
  .exact a 8 f
  .have:=a 8 f;simp only[Xt];unfold kq;omega
 .simp
theorem DY(z:I2)(wh:Bool)(fc:I5)(b:Int)(f:Nat):(yF z wh fc b f).length<=130:=by
 unfold yF;rw[qZ];have g:((zU z f 16).filter (yG z wh b f)).length<=16*8:=q7 (Y8 _ _) (jz WU λk _=>wJ z f k);have h:(if jD (z f)then cW z (yx wh f) (kq z (0,uM wh) f)else if jA (z f)then uz z wh fc f++pA z wh fc f else[]).length<=2:=by
  split
  .unfold cW;have a:=(List.takeWhile_prefix (λv=>z v==46) (l:=(kq z (0,uM wh) f).take (yx wh f))).length_le;have d:=List.length_take_le (yx wh f) (kq z (0,uM wh) f);have e:=wT wh f;omega
  .split
   .rw[qZ];have a:(uz z wh fc f).length<=1:=by unfold uz;split<;>simp
    have d:(pA z wh fc f).length<=1:=by unfold pA;split<;>simp
    omega
   .simp
 omega
theorem sY(z:I2)(wh:Bool)(fc:I5)(b:Int):(yo z wh fc b).length<=1000000:=by
 have h:(ye z wh fc b 64).length<=64*(130*4):=by
  unfold ye;refine jz WU λf _=>?_;unfold nh;split
  .exact jz (DY z wh fc b f) λt _=>pf _ _ _
  .simp
 have:=Y8 (uS z wh b) (ye z wh fc b 64);unfold yo;omega
theorem qzm(PA:I0)(w:I6):Calls prog 65 #[Zc PA] w λe w'=>∃h i Bf,e=Zd (.func (.func 155) #[] #[ZI i,ZI Bf])/\w'.heap[w.heap.size]?=S (Z PA 70)/\w'.heap[h]?=S (Z #[ZI w.heap.size] 229)/\w'.heap[i]?=S (Z #[.func (.func 223) #[] #[ZI h]] 141)/\w'.heap[Bf]?=S (Z #[.func (.func 153) #[] #[ZI w.heap.size]] 143)/\Gr w w':=by
 have l:∀(j:Fn)(first cap:I0)(w:I6),(Instr.makeFunc j first cap).run prog w=.ok (.func j first cap) w:=λ_ _ _ _=>R;have k:=ZQ w (Z PA 70);have d:Gr w (w.alloc (Z PA 70)):=ZN;go_enter func65,ntmps65;go_wp2_with(first
  | (go_at_call 152;refine Z0 (aj _ _) λo⟨g,f⟩=>?_)
  | (go_at_call 67;refine Z0 (dV _ _ _ _ _) λp⟨m,n,b⟩=>?_))
 go_ret;have a:=Gr.trans f b;rw[Z3]at g;exact⟨w.heap.size+1,_,_,R,(ZE a k),(ZE b g),m,n,Gr.trans d a⟩
theorem mkL{g:Int}(r:jE z wh fc b h g PA)(a:lg z wh fc b)(w:I6)(G:vT w) :
 iM 65 155 PA (yo z wh fc b) w where
 em:=YC func65 WR R
 ei:=YC func155 WR R
 ok:=λx j=>iI a.home (qV.1 j).1
 len:=sY z wh fc b
 go:=by
  intro T i W H;refine(qzm PA W).mono ?_;rintro e w' ⟨E,F,Bf,rfl,n,o,D,B,l⟩;have p:=Gr.trans H l;have d:=G.gr p;have v:=Ps.of r n;have q:=ak a.home E W.heap.size T i w' (qi o).1 v d;refine⟨_,_,R,l,?_,qkg q (YC func223 WR R) (YC func153 WR R) (z6.cells i) (λc fr=>z6.no i WW) ?_ F Bf (uS z wh b) D B ?_⟩
  .rintro k ((rfl|rfl|rfl)|rfl|rfl)
   .exact(qB.1 o).1
   .exact(qB.1 n).1
   .exact d.2
   .exact(qB.1 D).1
   .exact(qB.1 B).1
  .rintro k (rfl|rfl|rfl)
   .exact(qB.1 o).1
   .exact(qB.1 n).1
   .exact d.2
  .rintro⟨f,t,u⟩ j V A;obtain⟨y,J,m⟩:=a.kg _ j;have C:=iI a.home j;have:=mt r f t u C.1 C.2 (a.k1 f t u j) (a.k2 f t u j) y J m W.heap.size V (A.same _ _ n (Zj (Zi R))) (d.fr A (λ_=>Zj (Zj R)));have e:uS z wh b (f,t,u)=!(vL (zE z b (f,t,u)) y (!wh)):=by unfold uS;rw[m];rfl
   rw[e];exact this
end Go.Proofs.YtnfakamfmkhlbabGreatDoor.C
