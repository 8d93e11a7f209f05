import Derived.Test.YtnfakamfmkhlbabGreatDoorB24
set_option maxRecDepth 100000
set_option maxHeartbeats 4000000
set_option linter.all false
open Go.Value renaming int->I,bool->Za,string->Zb,agg->Zc,tuple->Ze,slice->Zq
open Go.IntKind renaming i64->L,u8->Zg,u64->Zh
open Go.Obj renaming cells->Z
open Go.Ending renaming returned->Zd
open Or renaming inl->Zi,inr->Zj
open Option renaming some->S,none->N
open Bool renaming true->Zk,false->Zl
open Decidable renaming decide->Zm
open Go.RowKit renaming Hid->Y
open Go renaming World->I6,Value->I7
namespace Go.Proofs.YtnfakamfmkhlbabGreatDoor.C
open Go.ChangeShapes Go.WideShapes Go.ChangeAt Go.RowKit Go.Shelf Go.Proofs.YtnfakamfmkhlbabGreatDoor.P Tryz
attribute [local go_sem] qd qe Oper.semAt_some
variable {z:I2}{wh:Bool}{b h m:Int}{PA A M:I0}{fc:I5}{w W a w' w1 V:I6}{f n i k g base d e l j x B Bp:Nat}{v:I7}{u:UInt8}{Q:Nat->Obj->Prop}{rs:I3}{y:I1}
theorem Pj{K:Act->I6->Prop}{Q:Exit->Act->I6->Prop}:∀e a w,Exit.then K (λ_ _ _=>False) e a w->Exit.then K Q e a w:=by intro e a w h;cases e<;>first|exact h|exact h.elim
theorem Px(t:I4)(ht:t.size<=1048576)(xs:I3)(hx:Kk t xs)(g n:Nat)(hn:n<=4096)(p:pH)(hp:xG atF=S p)(hc:xP p=Zk)(W:I6)(k:LbK m W)(hm:LC g n W)(n1:g<W.heap.size)(ag:N2 g)(d4:∀q,¬ N2 q->q<W.heap.size) :
 Calls prog 70 #[Zc #[svN g n],Zb t] W λe W'=>(∃v base,e=Zd v/\W.heap.size<=base/\W'.ownsRow base 9 1 v (runL 0 (LSt.of p,[]) xs).2.length ((runL 0 (LSt.of p,[]) xs).2.map Value.string))/\Fr (λq _=>q<W.heap.size/\q≠g) W W':=by
 have a9:Gr W (W.alloc (Z #[svN g n] 56)):=ZN;have M:=LSt.row_of hp;have hz:(jV p).size=72:=jE.size M;have ho:(jV p).all (·.oneCell')=Zk:=qx M;have b6:Y (ZL 62 #[Zb atF] (W.alloc (Z #[svN g n] 56)) (Ze #[Zc (jV p),Za Zk])):=X ((rY atF WW m _ (k.gr a9).ct.mx (k.gr a9).ct.ml).mono λe w' h=>by
  obtain⟨A,ok,h1,p0,h3,h4,h5⟩:=h.1.plain;cases ok with
  | true =>
   obtain⟨p',e1,e2⟩:=h4 R;rw[hp]at e1;rw[qP e1,<-e2];exact⟨h1,h.2⟩
  | false=>rw[hp]at h5;cases h5 R)
 generalize jV p=G at b6 hz ho M;have a7:(W.alloc (Z #[svN g n] 56)).heap[W.heap.size]?=S (Z #[svN g n] 56):=ZQ W _;unfold atF at b6;refine(ZY (n:=9)).1 ?_;refine callsIn_of_wp_marks func70 rfl trivial ?_ R;simp only[ntmps70,Nat.reduceAdd,Nat.reduceSub,Zr];refine Z9.2 ?_;go_upto_region 1 with fail;show Code.wp _ _ _ _ (W.alloc (Z #[svN g n] 56));generalize W.alloc (Z #[svN g n] 56)=W1 at a9 b6 a7 |-;go_upto_region 2 with(first
  | (go_at_call 62;refine b6.a.mono ?_;rintro e w1 ⟨rfl,f9⟩)
  | (refine ZC w1.heap.size G Zv hz ho ?_))
 have d2:=Gr.trans f9 (((Gr.refl w1).alloc zeroCells70 70).setRow _ Zy G);have b4:((w1.alloc (Z zeroCells70 70)).setRow w1.heap.size G).heap[w1.heap.size]?=S (Z G 70):=Zt (Z7 w1 _);generalize (w1.alloc (Z zeroCells70 70)).setRow w1.heap.size G=w3 at d2 b4 |-;have k8:W.heap.size<w1.heap.size:=by have:=(qB.1 a7).1;have:=ZR f9;omega
 generalize w1.heap.size=B5 at b4 k8 |-;have f4:=(ZE d2 a7);have k3:=Gr.trans a9 d2;clear b6 a9 f9 d2 a7;have a5:=X (MU G hz g n);have f7:=X (Hc 1 64 65 rfl g n);have d0:=X (Hc 2 60 61 rfl g n);have m0:=(qB.1 b4).1;have g1:Gr w3 w3.drew:=(Gr.refl w3).drew;have b5:w3.drew.heap[B5]?=S (Z G 70):=b4;have Q:w3.drew.heap[W.heap.size]?=S (Z #[svN g n] 56):=f4;have hG:=Gr.trans k3 g1;refine Code.wp_mono Pj ?_;refine ZT (S:=λW'=>W'.heap[B5]?=S (Z G 70)/\W'.heap[W.heap.size]?=S (Z #[svN g n] 56)/\Gr W W') WR ⟨b5,Q,hG⟩ (λu=>?_);generalize w3.drew=wd at b5 Q hG g1 u |-;have k4:(prog.info? 70).map (·.size)=S G.toList.length:=by rw[ZX,hz];exact jJ
 refine ty 0 (Zc G) R (wY k4 Vb _ R B5 R (λ_ h=>h.1)) u ?_;refine ZB 1 (Zc #[svN g n]) R (λw hw=>V0) u ?_;refine ZB 3 (Zc #[svN g n]) R (λw hw=>V0) u ?_;have keep:Y (∀A T,(A.heap[B5]?=S (Z G 70)/\A.heap[W.heap.size]?=S (Z #[svN g n] 56)/\Gr W A)->Gr A T->(T.heap[B5]?=S (Z G 70)/\T.heap[W.heap.size]?=S (Z #[svN g n] 56)/\Gr W T)):=X λA T h k=>⟨(ZE k h.1),(ZE k h.2.1),Gr.trans h.2.2 k⟩;have b7:∀A:I6,(A.alloc (Z zeroCells233 233)).heap[A.heap.size]?=S (Z zeroCells233 233):=λA=>ZQ A _;refine Xk (rs:=[2,6]) WR WU ?_;refine Yc R (λK hK=>?a0) (Yc R (λK hK=>?b0) Xb)
 case' a0=>
  go_simp;refine(f7.a _).mono ?_;rintro e w4 ⟨rfl,h2⟩;have z:=keep.a _ _ u h2;refine hK.out _ _ z λu=>?_;clear hK K h2 z;try simp only[py]
  refine Xk (rs:=[4,6]) WR WU ?_;refine Yc R (λK hK=>?a1) (Yc R (λK hK=>?b1) Xb)
 case' a1=>
  go_simp;refine(d0.a _).mono ?_;rintro e w5 ⟨rfl,h2⟩;have z:=keep.a _ _ u h2;refine hK.out _ _ z λu=>?_;clear hK K h2 z;try simp only[py]
  refine ty 5 (Zc (CQ G g n (Zq N 0 0))) R (BB Vb 233 #[(0,.tmp 14),(1,.tmp 16),(2,.tmp 18)] R _ Uc) u ?_;refine rd 6 λK hK=>?_;go_simp;have i:=b7 w5;have p7:B5<w5.heap.size:=(qB.1 u.1).1;refine hK.out _ _ (keep.a _ _ u ZN) λu=>?_;clear hK K;try simp only[py]
  generalize w5.alloc (Z zeroCells233 233)=wz at i u |-;generalize w5.heap.size=B at i p7 |-
 case' b1=>
  go_simp;have i:=b7 w4;have p7:B5<w4.heap.size:=(qB.1 u.1).1;refine hK.out _ _ (keep.a _ _ u ZN) λu=>?_;clear hK K;try simp only[py]
  generalize w4.alloc (Z zeroCells233 233)=wz at i u |-;generalize w4.heap.size=B at i p7 |-;refine rd 4 λK hK=>?_;go_simp;refine(d0.a _).mono ?_;rintro e wz ⟨rfl,h2⟩;have i:=(ZE h2 i);have z:=keep.a _ _ u h2;refine hK.out _ _ z λu=>?_;clear hK K h2 z;try simp only[py]
  refine ty 5 (Zc (CQ G g n (Zq N 0 0))) R (BB Vb 233 #[(0,.tmp 14),(1,.tmp 16),(2,.tmp 18)] R _ Uc) u ?_
 case' b0=>
  go_simp;have i:=b7 wd;have p7:B5<wd.heap.size:=(qB.1 u.1).1;refine hK.out _ _ (keep.a _ _ u ZN) λu=>?_;clear hK K;try simp only[py]
  generalize wd.alloc (Z zeroCells233 233)=wz at i u |-;generalize wd.heap.size=B at i p7 |-;refine rd 2 λK hK=>?_;go_simp;refine(f7.a _).mono ?_;rintro e w4 ⟨rfl,h2⟩;have i:=(ZE h2 i);have z:=keep.a _ _ u h2;refine hK.out _ _ z λu=>?_;clear hK K h2 z;try simp only[py]
  refine rd 4 λK hK=>?_;go_simp;refine(d0.a _).mono ?_;rintro e wz ⟨rfl,h2⟩;have i:=(ZE h2 i);have z:=keep.a _ _ u h2;refine hK.out _ _ z λu=>?_;clear hK K h2 z;try simp only[py]
  refine ty 5 (Zc (CQ G g n (Zq N 0 0))) R (BB Vb 233 #[(0,.tmp 14),(1,.tmp 16),(2,.tmp 18)] R _ Uc) u ?_
 all_goals
  refine rd 7 λK hK=>?_;rw[qI Vb];refine YQ 233 _ _ R B (CQ G g n (Zq N 0 0)) R R 233 _ i (by rw[Ja hz];exact SZ) (by rw[Ja hz];exact N4.symm) (L5 ho g n) ?_;have hL:=setRow_heap _ _ _ (CQ G g n (Zq N 0 0)) _ _ i;have c4:=u.2.2.setRow B O (CQ G g n (Zq N 0 0));refine hK.out _ _ ⟨by rw[Zu O];exact u.1,by rw[Zu O];exact u.2.1,c4⟩ (λu=>?_);clear hK K;try simp only[py]
  refine ZZ WR ?_ _;generalize wz.setRow B (CQ G g n (Zq N 0 0))=d at hL c4 |-;have f6:=X hL;have h6:=X c4;have m6:W.heap.size<B:=O
  have l3:=X (JL t ⟨#[10]⟩);clear u i hL c4 f7 d0 a5 keep b7 p7 b4 f4 k3 m0 g1 b5 Q hG;go_wp2_with(go_at_call 157;refine(l3.a _).mono ?_;rintro e wS ⟨rfl,hw⟩;rw[hw];clear hw);obtain⟨y0,y1,y2,y3⟩:=Rc d (Z #[I L 0] 3) (Z #[Zb t] 9) (Z #[Zb ⟨#[10]⟩] 9) (Z #[I L 0] 3);have g3:((((d.alloc (Z #[I L 0] 3)).alloc (Z #[Zb t] 9)).alloc (Z #[Zb ⟨#[10]⟩] 9)).alloc (Z #[I L 0] 3)).heap.size=d.heap.size+4:=WU
  have b2:Gr d ((((d.alloc (Z #[I L 0] 3)).alloc (Z #[Zb t] 9)).alloc (Z #[Zb ⟨#[10]⟩] 9)).alloc (Z #[I L 0] 3)):=ZN.al.al.al;have k9:=(qB.1 f6.a).1;have a3:=(Zz b2 k9).trans f6.a;have J:=Gr.trans h6.a b2;generalize (((d.alloc (Z #[I L 0] 3)).alloc (Z #[Zb t] 9)).alloc (Z #[Zb ⟨#[10]⟩] 9)).alloc (Z #[I L 0] 3)=b at y0 y1 y2 y3 g3 a3 J |-;have x:oj B g n b.heap.size:=⟨O,O,O,hn,Xd λh=>absurd (d4 _ h) O,ag,λq h=>Nat.lt_trans (d4 q h) O⟩;have h9:ux m B g n b.heap.size (LSt.of p) [] b:=⟨⟨G,M,⟨_,a3,R,Zi ⟨R,R⟩⟩,x.lc.st _ _ hm (Fr.of_gr J),hz⟩,LSt.ok_of hp hc,k.gr J,Zy⟩;have g5:Fr (λq _=>q<W.heap.size/\q≠g) W b:=Fr.of_gr J;have n3:=J6 hx;have f5:=X (L0 hx);have b3:=M6 t O xs hx (d.heap.size+1) (d.heap.size+1+1) (d.heap.size+1+2) O O TSt b y1 y2 y3;clear f6 h6 l3 b2 a3 J M hz ho hp hc k hm hx
  refine Z9.1 (Kv (n:=9) (gf:=273) (lb:=#[ZI (d.heap.size+1+1),ZI (d.heap.size+1),ZI (d.heap.size+1+2)]) R (YC func273 WR R) b3 (λo h=>by obtain⟨c,fr,rfl⟩:=h;rfl) (λq j=>by rcases j with rfl|rfl|rfl<;>omega) ZP (λ_=>R)
   (λy V=>ux m B g n b.heap.size (runL 0 (LSt.of p,[]) y).1 (runL 0 (LSt.of p,[]) y).2 V/\V.heap[d.heap.size]?=S (Z #[I L (y.length:Int)] 3)/\Fr (λq _=>q<W.heap.size/\q≠g) W V)
   (λ_ _ _=>False)
   ?sI (λ_ _ _ _ h _=>h) ⟨h9,y0,g5⟩ (λq e=>O) ?sD (λ_ _ _ _ h _=>h) ?rnd ?done (λ_ _ _ _ _ _ h _=>h.elim))
  case sI =>
   rintro s A T ⟨h1,p0,h3⟩ f;refine⟨h1.frq x f λq o j=>?_,f.same _ _ p0 (Zi O),Fr.trans h3 (Fr.mono f λq o _ j=>Zi O)⟩;obtain rfl|rfl|j|j:=j
   .exact Zi O
   .exact Zi O
   .exact Zi (x.lo _ j)
   .exact Zj j.2
  case sD =>
   rintro s A T ⟨h1,p0,h3⟩ f;refine⟨h1.frq x f λq o j=>?_,f.same _ _ p0 O,Fr.trans h3 (Fr.mono f λq o _ j=>O)⟩;obtain rfl|rfl|j|j:=j
   .omega
   .omega
   .have:=d4 _ j;omega
   .have:=j.1;omega
  case done =>
   rintro D V hD ⟨hS,hN,hF⟩ hK;obtain⟨PA,r1,r2⟩:=hS.w;obtain⟨v,h3,h4⟩:=r2.c;have c8:=L4 r2.pz h3 8;have c8:V.cell? ⟨B,80,N⟩=S v:=c8;have E:Y (∀o',(∃v' base,Ending.returned v=Zd v'/\W.heap.size<=base/\(V.putObj D o').ownsRow base 9 1 v' (runL 0 (LSt.of p,[]) xs).2.length ((runL 0 (LSt.of p,[]) xs).2.map Value.string))/\Fr (λq _=>q<W.heap.size/\q≠g) W (V.putObj D o')):=X λo'=>⟨⟨v,b.heap.size,R,O,uy h4 λq c fr e j=>(Xw (λe2=>by rw[e2,hK]at e;cases e)).trans e⟩,Fr.trans hF (Rg V D o' λo e q=>O)⟩;clear hS hN hF r1 r2 h3 h4;go_wp2_with fail;refine⟨WU,Zi ⟨_,_,R,YU hK,?_⟩⟩;refine⟨_,Wh R _ _ _,?_⟩;exact E.a _
  case rnd =>
   rintro l1 y a V a5 g4 ⟨hS,hN,hF⟩ hl;simp only;gi_wp2;refine⟨ZP,?_⟩;intro n5 f2 l4 l5;obtain⟨c6,c5,g6⟩:=l4;clear hS hN hF hl l5 f2;have m1:y.length+1<=xs.length:=by have:=g4.length_le;simpa using this
   have n2:=f5.a a (g4.subset WU);have d5:=HK y 0 (LSt.of p,[]);have f0:Y (runL 0 (LSt.of p,[]) (y++[a])=ev (y.length+1) (runL 0 (LSt.of p,[]) y) a):=X (by rw[HU,Z2]);have g2:Y ((((y++[a]).length:Nat):Int)=(y.length:Int)+1):=X WU;generalize y.length=r at c5 m1 d5 f0 g2;obtain⟨st,F⟩:∃st,st=runL 0 (LSt.of p,[]) y:=⟨_,R⟩;rw[<-F]at c6 d5 f0;obtain⟨n7,rs⟩:=st;simp only at c6 d5
   have l2:rs.length<=1900000000000:=by
    have:r*1000001<=1048577*1000001:=XT _ O;simp at d5;omega
   obtain⟨c1,c2⟩:=qi c5;have n4:IntKind.i64.wrap ((r:Int)+1)=(r:Int)+1:=Vc
   have fs:Fr (λq _=>q≠d.heap.size) n5 (n5.setCell ⟨d.heap.size,0,N⟩ (I L ((r:Int)+1))):=ZP.setCell _ (λo _ q=>q R)
   have k0:ux m B g n b.heap.size n7 rs (n5.setCell ⟨d.heap.size,0,N⟩ (I L ((r:Int)+1))):=c6.frq x fs λq o j=>by
    obtain rfl|rfl|j|j:=j
    .omega
    .omega
    .have:=d4 _ j;omega
    .have:=j.1;omega
   have h7:=jm (v:=I L ((r:Int)+1)) c5;have g7:Fr (λq _=>q<W.heap.size/\q≠g) W (n5.setCell ⟨d.heap.size,0,N⟩ (I L ((r:Int)+1))):=Fr.trans g6 (Fr.mono fs λq o _ j=>O)
   have h8:Fr (jM b.heap.size TSt (λq=>q=d.heap.size+1\/q=d.heap.size+1+1\/q=d.heap.size+1+2)) n5 (n5.setCell ⟨d.heap.size,0,N⟩ (I L ((r:Int)+1))):=Fr.mono fs λq o _ j=>by
    obtain j|j:=j
    .omega
    .have:=j.1;omega
   have a2:Y (∀A T,FrL B g b.heap.size A T->A.heap[d.heap.size]?=S (Z #[I L ((r:Int)+1)] 3)/\Fr (λq _=>q<W.heap.size/\q≠g) W A/\Fr (jM b.heap.size TSt (λq=>q=d.heap.size+1\/q=d.heap.size+1+1\/q=d.heap.size+1+2)) n5 A->T.heap[d.heap.size]?=S (Z #[I L ((r:Int)+1)] 3)/\Fr (λq _=>q<W.heap.size/\q≠g) W T/\Fr (jM b.heap.size TSt (λq=>q=d.heap.size+1\/q=d.heap.size+1+1\/q=d.heap.size+1+2)) n5 T):=X λA T f h=>by
    refine⟨f.same _ _ h.1 ⟨O,O,Zi O⟩,Fr.trans h.2.1 (Fr.mono f λq o _ j=>⟨O,j.2,Zi O⟩),Fr.trans h.2.2 (Fr.mono f λq o _ j=>?_)⟩;obtain j|j:=j
    .exact⟨O,O,Zi O⟩
    .have:=j.1;exact⟨O,O,Zj j.2⟩
   have H:Y (∀A f1,(f1=ev (r+1) (n7,rs) a)->ux m B g n b.heap.size f1.1 f1.2 A->(A.heap[d.heap.size]?=S (Z #[I L ((r:Int)+1)] 3)/\Fr (λq _=>q<W.heap.size/\q≠g) W A/\Fr (jM b.heap.size TSt (λq=>q=d.heap.size+1\/q=d.heap.size+1+1\/q=d.heap.size+1+2)) n5 A)->Fr (jM b.heap.size TSt (λq=>q=d.heap.size+1\/q=d.heap.size+1+1\/q=d.heap.size+1+2)) n5 A/\ux m B g n b.heap.size (runL 0 (LSt.of p,[]) (y++[a])).1 (runL 0 (LSt.of p,[]) (y++[a])).2 A/\A.heap[d.heap.size]?=S (Z #[I L ((y++[a]).length:Nat)] 3)/\Fr (λq _=>q<W.heap.size/\q≠g) W A):=X λA f1 e h1 p0=>by
    rw[e]at h1;rw[f0.a,g2.a];exact⟨p0.2.2,h1,p0.1,p0.2.1⟩
   have P:=X (YB h7 (YB g7 h8));have r3:=X k0;clear c6 c5 g6 fs k0 h7 g7 h8 F f0 g2 g4 f5 b3 h9 g5 y0 y1 y2 y3;by_cases he:a.data.toList=[]
   .have F:Y ((n7,rs)=ev (r+1) (n7,rs) a):=X (by unfold ev;rw[qI he]);have d3:a=⟨#[]⟩:=eu he;have E:=X (H.a _ _ F.a r3.a P.a);clear H P r3 a2 F he;subst d3;gi_wp2;refine⟨trivial,?_⟩;gi_wp2;exact E.a
   .obtain⟨b0,l0,a6⟩:=XI he;have d3:a=⟨(b0 :: l0).toArray⟩:=eu (by rw[a6]);have d1:=X (Rj x a O l2 _ r3.a);cases p8:doS n7 a.data.toList with
    | some q =>
     obtain⟨s',l⟩:=q;have F:Y ((s',rs++l)=ev (r+1) (n7,rs) a):=X VQ;have f8:Y (Calls prog 158 #[ZI B,Zb a] (n5.setCell ⟨d.heap.size,0,N⟩ (I L ((r:Int)+1))) λe W2=>e=Zd (Za Zk)/\ux m B g n b.heap.size s' (rs++l) W2/\FrL B g b.heap.size (n5.setCell ⟨d.heap.size,0,N⟩ (I L ((r:Int)+1))) W2):=X (d1.a.mono λe W2 h=>by rw[p8]at h;exact⟨h.1.1,h.1.2,h.2⟩);have a8:Y (∀A,ux m B g n b.heap.size s' (rs++l) A->FrL B g b.heap.size (n5.setCell ⟨d.heap.size,0,N⟩ (I L ((r:Int)+1))) A->_):=X λA h1 p0=>H.a A _ F.a h1 (a2.a _ _ p0 P.a);clear H P r3 a2 F he d1 p8 a6;subst d3;gi_wp2_with (refine⟨trivial,?_⟩;gi_at_call 158;refine((ZY.2 f8.a).inRound l1).mono ?_;rintro e W5 ⟨rfl,a4,r0⟩;have E:=X (a8.a _ a4 r0);clear a4 r0);exact E.a
    | none =>
     have F:Y ((n7,rs++[Me (r+1)])=ev (r+1) (n7,rs) a):=X VQ;have f8:Y (Calls prog 158 #[ZI B,Zb a] (n5.setCell ⟨d.heap.size,0,N⟩ (I L ((r:Int)+1))) λe W2=>e=Zd (Za Zl)/\ux m B g n b.heap.size n7 rs W2/\W2.cell? ⟨d.heap.size,0,N⟩=S (I L ((r:Int)+1))/\FrL B g b.heap.size (n5.setCell ⟨d.heap.size,0,N⟩ (I L ((r:Int)+1))) W2):=X (d1.a.mono λe W2 h=>by rw[p8]at h;exact⟨h.1.1,h.1.2,(qi (a2.a _ _ h.2 P.a).1).1,h.2⟩)
     have k5:Y (∀W',HG W'->ZL 160 #[I L ((r:Int)+1)] W' (Zb (kt (r+1)))):=X λW' k=>by
      rw[show((r:Int)+1)=((r+1:Nat):Int) from O];exact SY (r+1) O W' k
     have m2:(kt (r+1)).size<1000:=by
      have p0:=dz 18 (r+1) O;show(Lib.decDigits (r+1)).toArray.size<_;rw[Ya];omega
     have a8:Y (∀A,ux m B g n b.heap.size n7 (rs++[Me (r+1)]) A->FrL B g b.heap.size (n5.setCell ⟨d.heap.size,0,N⟩ (I L ((r:Int)+1))) A->_):=X λA h1 p0=>H.a A _ F.a h1 (a2.a _ _ p0 P.a);unfold Me at a8;generalize kt (r+1)=D1 at k5 m2 a8;have a1:∀W,(Op.stringOp .add ⟨#[101,114,114,111,114,32]⟩ D1).run prog W=.ok (Zb (⟨#[101,114,114,111,114,32]⟩++D1)) W:=λW=>cj _ D1 (by show 6+D1.size<_;omega) W;clear H P r3 a2 F he d1 p8 a6;subst d3
     gi_wp2_with (first
      | (refine⟨trivial,?_⟩;gi_at_call 158;refine((ZY.2 f8.a).inRound l1).mono ?_;rintro e W5 ⟨rfl,a4,n0,r0⟩;have f3:=X a4;have g8:=X r0;clear a4 r0)
      | (refine⟨trivial,?_⟩;gi_at_call 160;refine((ZY.2 (k5.a _ f3.a.k.pw)).inRound l1).mono ?_;rintro e W6 ⟨rfl,g0⟩;have k1:=X (f3.a.gr x g0);have g9:=X (FrL.trans g8.a (FrL.of g0));clear g0)
      | (refine⟨trivial,?_⟩;gi_at_call 159;refine((ZY.2 (LP x _ O _ k1.a)).inRound l1).mono ?_;rintro e W7 ⟨rfl,k2,h0⟩;have E:=X (a8.a _ k2 (FrL.trans g9.a h0));clear k2 h0))
     exact E.a
theorem Jz(t:I4)(L:t.size<=1048576)(b:I3)(G:Kk t b)(n:Nat)(C:n<=4096)(p:pH)(F:xG atF=S p)(E:xP p=Zk)(W:I6)(k:LbK m W)(d:∀q,¬ N2 q->q<W.heap.size) :
 Calls prog 39 #[I .i64 n,Zb t] W λe i=>(∃v base,e=Zd (Ze #[v,I .i64 0])/\W.heap.size<=base/\i.ownsRow base 9 1 v (runL 0 (LSt.of p,[]) b).2.length ((runL 0 (LSt.of p,[]) b).2.map Value.string))/\Gr W i:=by
 have x:=X (NW n C W k.wt);have a:Y (∀w1 r g,Pb r g n w1->W.heap.size<=g->Gr W w1->Calls prog 70 #[Zc #[svN g n],Zb t] w1 λe i=>(∃v base,e=Zd v/\W.heap.size<=base/\i.ownsRow base 9 1 v (runL 0 (LSt.of p,[]) b).2.length ((runL 0 (LSt.of p,[]) b).2.map Value.string))/\Gr W i):=X λw1 r g l M j=>by
  have B:g<w1.heap.size:=by obtain⟨Q,fr,J⟩:=(Mc g n C).ob _ l.m;exact(qB.1 J).1
  have f:=ZR j;refine(Px t L b G g n C p F E w1 (k.gr j) l.m B (Xd λh=>absurd (d _ h) O) (λq h=>qN (d q h) f)).mono ?_;rintro e i ⟨⟨v,base,rfl,z,y⟩,P⟩;exact⟨⟨v,base,R,q7 f z,y⟩,Below.trans j (P.below (n:=W.heap.size) f (λq o T=>⟨O,O⟩))⟩
 unfold svN at a;clear G F E k d;go_enter func39,ntmps39;go_wp2_with(first
  | (go_at_call 9;refine x.a.mono ?_;rintro e w1 ⟨⟨r,g,rfl,l,K,A⟩,j⟩;have c2:w1.cell? ⟨r,2,N⟩=S (Zq (S ⟨g,0,N⟩) n n):=(by rw[Zs l.c];rfl);have D:=X (a.a w1 r g l A j);clear l j)
  | (go_at_call 70;refine D.a.mono ?_;rintro e H ⟨⟨v,base,rfl,z,y⟩,u⟩;have w:Y ((∃v' base,Ending.returned (Ze #[v,I .i64 0])=Zd (Ze #[v',I .i64 0])/\W.heap.size<=base/\H.ownsRow base 9 1 v' (runL 0 (LSt.of p,[]) b).2.length ((runL 0 (LSt.of p,[]) b).2.map Value.string))/\Gr W H):=X ⟨⟨v,base,R,z,y⟩,u⟩;clear y u))
 go_ret2;exact w.a
theorem Kr(t:I4)(n:Int)(b:n<0\/4096<n)(W:I6):Calls prog 39 #[I L n,Zb t] W λe f=>e=Zd (Ze #[Zq N 0 0,I L 7])/\f=W:=by have a:=X (NV n b W);clear b;go_enter func39,ntmps39;go_wp2_with(go_at_call 9;refine Z0 a.a λw1 d=>?_;rw[d];clear d);exact MW
theorem dM(n:Nat)(h:n<=1000000000000000000)(w:I6):ZL 75 #[I Zh n] w (Zb ⟨(Lib.decDigits n).toArray⟩):=by
 go_enter func75,ntmps75;go_wp2;go_loopg [0,3] n (λr nn ss wr=>∃(m:Nat)(u:I4),m<=r/\r<=n/\nn=I Zh m/\ss=Zb u/\Lib.decDigits n=Lib.decDigits m++u.data.toList/\Gr w wr)
 case atStart=>exact⟨n,⟨#[]⟩,Zy,Zy,R,R,WU,ZO⟩
 case round=>
  obtain⟨m,u,K,J,rfl,rfl,a,l⟩:=hrel;have B:u.size<100000:=by have v:=dz 18 n O;have F:u.data.toList.length=u.size:=R;rw[a,qZ]at v;omega
  have b:=X a;have f:=X l;clear a l;by_cases G:9<m
  .obtain⟨d,x⟩:∃d:Nat,m%10=d:=⟨_,R⟩;obtain⟨q,y⟩:∃q:Nat,m/10=q:=⟨_,R⟩;have j:d<10:=O;have H:(m:Int).tmod 10=(d:Int):=Vu;have e:(m:Int).tdiv 10=(q:Int):=Uh;have A:(m:Int)%10=d:=O;have C:(m:Int)/10=q:=O;have p:IntKind.u64.wrap ((d:Int)+1)=(d:Int)+1:=Vh;have D:IntKind.u64.wrap (q:Int)=q:=Vh;have E:IntKind.u64.wrap (d:Int)=d:=Vh;have i:=Bb d j;have o:Y (Lib.decDigits n=Lib.decDigits q++((⟨#[UInt8.ofNat (48+d)]⟩:I4)++u).data.toList):=X (by
    rw[b.a,H5]
    conv=>lhs;arg 1;unfold Lib.decDigits
    rw[dif_neg O,y,x,qS];rfl)
   have z:q<m:=O;rw[eP]at i o;go_wp2;go_roundg q
   case measure=>omega
   case rel=>exact⟨q,_,Zy,O,R,R,o.a,f.a⟩
  .have g:m<10:=O;have p:IntKind.u64.wrap ((m:Int)+1)=(m:Int)+1:=Vh;have i:=Bb m g;have k:Y ((⟨#[48+UInt8.ofNat m]⟩:I4)++u=⟨(Lib.decDigits n).toArray⟩):=X (by
    have:(Lib.decDigits n).toArray=((⟨#[48+UInt8.ofNat m]⟩:I4)++u).data:=by
     rw[b.a];unfold Lib.decDigits;rw[Wf g,eP];apply Array.toList_inj.1;rw[H5];rfl
    rw[this])
   rw[eP]at i;go_wp2;go_ret;exact⟨by rw[<-k.a];rfl,f.a⟩
theorem LO{s:LSt}(i:s.row PA)(a:s.ok)(w:I6):ZL 73 #[Zc PA] w (Zb (xJ s.text)):=by
 obtain⟨p,n,f,d⟩:=fV a;obtain⟨c0,c1,c2,c3⟩:=t7 f;have l:p.half=s.h:=by rw[<-d];rfl
 have m:p.full=s.g:=by rw[<-d];rfl
 have j:-1<=s.b:=Ok.b0 a;have k:s.b<=63:=Ok.b1 a;exact Mw i O ⟨O,O⟩ ⟨O,O⟩ w
theorem TU{s:LSt}(o:s.ok)(d:Nat)(B:d+1<=3)(w:I6):Calls prog 167 #[Zb (xJ s.text),I L (d+1:Nat),I L 1] w λe w'=>(∃j cap,e=Zd (Ze #[Zq j (HQ d s.z s.wh s.fc s.b (jI s.mov)).length cap,I L 0])/\El2 j (HQ d s.z s.wh s.fc s.b (jI s.mov)) w')/\Gr w w':=by
 obtain⟨p,l,r,u⟩:=fV o;refine(KB (xJ s.text) (LSt.short o) _ _ w).mono ?_;rintro e w' ⟨h,y⟩;refine⟨?_,y⟩;obtain⟨k,g,_⟩|⟨q,_,_,n,_⟩|⟨q,_,_,_,n,_⟩|⟨q,v,mm,i,_,A,_,_,rfl,x⟩:=h
 .exfalso;obtain g|g:=g
  .exact absurd g.2 (by rw[l];simp)
  .obtain⟨_,q,a,b⟩:=g;rw[l]at a;rw[<-qP a,r]at b;cases b
 .exact absurd ⟨O,O⟩ n
 .exact absurd (Zi R) n
 .rw[l]at i;have i:=qP i;subst i;obtain rfl:mm=d:=O;have f:Cts w.heap.size v (HQ mm (LSt.of p).z (LSt.of p).wh (LSt.of p).fc (LSt.of p).b (jI (LSt.of p).mov)) w':=x;rw[u]at f;obtain⟨j,cap,rfl,_,m⟩:=Kg f;exact⟨j,cap,R,m⟩
theorem KV{a:Nat}{d:List I7}(h:W.ownsRow base 9 1 v k d)(f:a<=base):W.ownsRow a 9 1 v k d:=by
 refine⟨h.1,?_⟩;obtain e|⟨q,cap,cur,i,g,b⟩:=h.2
 .exact Zi e
 .exact Zj ⟨q,cap,cur,i,q7 f g,b⟩
theorem H4{e:List I7}(h:W.ownsRow base 9 1 v k e):∀q,v.ownBlock=S q->base<=q:=by exact O9
theorem J9{s:LSt}(A:s.row PA)(ho:s.ok)(d:Nat)(hd:d+1<=3)(w:I6) :
 Calls prog 164 #[Zc PA,I L (d+1:Nat)] w λe w'=>(∃v,e=Zd v/\w'.ownsRow w.heap.size 9 1 v (Hq d s).length ((Hq d s).map Value.string))/\Gr w w':=by
 have g8:(prog.info? 9).map (λi=>(i.zero,i.size,i.bytes))=S (S (Zb ⟨#[]⟩),1,16):=WR;obtain⟨i0,hi,f0,f1,f2⟩:=We g8;have d2:=X hi;clear hi g8;have hz:=jE.size A;have f9:=qx A;have b3:=X (λW=>LO A ho W);have P:=X (λW=>TU ho d hd W);have r:=MJ d s;have f6:s.paths (d+1)<=1000000000000000000:=pb hd s.z s.wh s.fc s.b;have b0:Y (∀c∈HQ d s.z s.wh s.fc s.b (jI s.mov),c.2<=1000000000000000000/\c.1.size<=5):=X λc hc=>PT hd hc;have f5:(HQ d s.z s.wh s.fc s.b (jI s.mov)).length<=1000000:=by unfold HQ;rw[YD,qj7];exact bu _ _ _ _
 have B:Y (Hq d s=(HQ d s.z s.wh s.fc s.b (jI s.mov)).map (λc=>c.1++xJ [32]++kt c.2)++[⟨#[115,117,109,32]⟩++kt (s.paths (d+1))]):=X (by unfold Hq;rw[show(⟨#[115,117,109,32]⟩:I4)=xJ [115,117,109,32]from R,kt,F6]);generalize HQ d s.z s.wh s.fc s.b (jI s.mov)=g1 at P r b0 f5 B;generalize s.paths (d+1)=M at r f6 B;generalize Hq d s=DT at B |-;generalize xJ s.text=T at b3 P;have a5:(w.alloc (Z PA 70)).heap[w.heap.size]?=S (Z PA 70):=ZQ w _;have a7:Gr w (w.alloc (Z PA 70)):=ZN;clear A ho;go_enter func164,ntmps164;go_upto_region 2 with fail;show Code.wp _ _ _ _ (w.alloc (Z PA 70));generalize w.alloc (Z PA 70)=w1 at a5 a7 |-;go_upto_region 3 with(first
  | (refine ZD w.heap.size PA a5 hz ?_)
  | (go_at_call 73;refine Z0 (b3.a _) λw2 c4=>?_)
  | (go_at_call 167;refine(P.a _).mono ?_;rintro e J ⟨⟨pp,cap,rfl,b7⟩,c5⟩))
 have hG:=Gr.trans a7 (Gr.trans c4 c5);have f7:=ZR hG;clear a7 c4 c5 a5 b3 P;have g7:=X b7;clear b7;go_wp2_with fail;go_loopg [5,8,9] g1.length (λgk ov sv iv wr=>∃(k:Nat)(v:I7),k+gk=g1.length/\iv=I L k/\ov=v/\sv=I Zh ((((g1.take k).map (·.2)).sum:Nat):Int)/\wr.ownsRow J.heap.size 9 1 v k (((g1.take k).map λc=>c.1++xJ [32]++kt c.2).map Value.string)/\Gr J wr)
 case atStart=>exact⟨0,Zq N 0 0,O,R,R,WU,⟨R,Zi ⟨R,R⟩⟩,ZO⟩
 case round=>
  obtain⟨k,v,k1,rfl,rfl,rfl,p,a9⟩:=hrel;have b1:(((g1.take k).map λc=>c.1++xJ [32]++kt c.2).map Value.string).length=k:=WX;by_cases Q:k<g1.length
  .obtain⟨V,hp,x0,x1⟩:=g7.a k Q;have f4:(k:Int)<(g1.length:Int):=O;have f8:0<=(k:Int):=O;have H:Y ((g1.take (k+1)).map (λc=>c.1++xJ [32]++kt c.2)=(g1.take k).map (λc=>c.1++xJ [32]++kt c.2)++[(g1[k]).1++xJ [32]++kt (g1[k]).2]):=X (by rw[Yd Q,Ys];rfl);have g3:((g1.take (k+1)).map (·.2)).sum=((g1.take k).map (·.2)).sum+(g1[k]).2:=by rw[Yd Q,Ys,List.sum_append];simp
   have d5:((g1.take (k+1)).map (·.2)).sum<=M:=by
    rw[<-r];conv=>rhs;rw[<-XQ (k+1) g1]
    rw[Ys,List.sum_append];omega
   obtain⟨b5,b4⟩:=b0.a g1[k] (Xs Q);generalize g1[k]=c at x0 x1 H b5 b4 g3;obtain⟨a,b⟩:=c;simp only at x0 x1 H b5 b4 g3;rw[g3]at d5;have a4:=X g3;clear g3;generalize ((g1.take k).map (·.2)).sum=sm at d5 a4 |-;have b6:Y (∀n,Gr J n->n.cell? ⟨V,k*2,N⟩=S (Zb a)):=X λn q=>(ZW q (Zx x0)).trans x0;have g6:Y (∀n,Gr J n->n.cell? ⟨V,k*2+1,N⟩=S (I Zh b)):=X λn q=>(ZW q (Zx x1)).trans x1;have D:Y (∀n,ZL 75 #[I Zh b] n (Zb (kt b))):=X λn=>dM b O n;have a6:(kt b).size<1000:=by have h2:=dz 18 b O;show(Lib.decDigits b).toArray.size<_;rw[Ya];omega
   generalize kt b=D8 at D a6 H;have a1:∀W,(Op.stringOp .add a ⟨#[32]⟩).run prog W=.ok (Zb (a++⟨#[32]⟩)) W:=λW=>cj a ⟨#[32]⟩ (by show a.size+1<_;omega) W;have a2:∀W,(Op.stringOp .add (a++⟨#[32]⟩) (D8)).run prog W=.ok (Zb (a++⟨#[32]⟩++D8)) W:=λW=>cj _ _ (by rw[Yn];show a.size+1+_<_;omega) W;have g0:IntKind.u64.wrap ((sm:Int)+b)=((sm+b:Nat):Int):=Vh;subst hp;have a8:Gr J wr.drew:=Gr.trans a9 (Gr.refl wr).drew;have x:wr.drew.ownsRow J.heap.size 9 1 u5 k (((g1.take k).map λc=>c.1++xJ [32]++kt c.2).map Value.string):=p;have a3:Y (((g1.take (k+1)).map λc=>c.1++xJ [32]++kt c.2).map Value.string=((g1.take k).map λc=>c.1++xJ [32]++kt c.2).map Value.string++[Zb (a++⟨#[32]⟩++D8)]):=X (by rw[H.a,Ys];rfl);clear H;generalize ((g1.take k).map λc=>c.1++xJ [32]++kt c.2).map Value.string=RS at x b1 a3;clear p x0 x1;go_upto_region 7 with fail;refine ZT (S:=λn=>Gr J n) WR a8 (λo=>?_);refine tq 0 u5 o ?_;refine tq 1 (Zq (S ⟨V,0,N⟩) g1.length cap) o ?_;refine tq 2 (I L k) o ?_;refine tq 3 (.pointer (S ⟨V,k*2,N⟩)) o ?_;refine tq 4 (.pointer (S ⟨V,k*2,N⟩)) o ?_;refine ZB 5 (Zb a) R (λw hw=>by have e0:=b6.a w hw;go_simp) o ?_;refine tq 6 (Zb (a++⟨#[32]⟩)) o ?_;refine tq 7 (Zq (S ⟨V,0,N⟩) g1.length cap) o ?_;refine tq 8 (I L k) o ?_;refine tq 9 (.pointer (S ⟨V,k*2,N⟩)) o ?_;refine tq 10 (.pointer (S ⟨V,k*2+1,N⟩)) o ?_;refine ZB 11 (I Zh b) R (λw hw=>by have e0:=g6.a w hw;go_simp) o ?_;refine rd 12 λK hK=>?_;go_simp;refine Z0 (D.a _) λg2 u=>?_;have m:=Gr.trans a8 u;have F:=uy x λq c fr e _=>(ZE u e);refine hK.out _ _ m λo=>?_;clear hK K;try simp only[py]
   refine tq 13 (Zb (a++⟨#[32]⟩++D8)) o ?_;refine rd 14 λK hK=>?_;go_simp;have f:=Gr.trans m ((Gr.refl g2).alloc #[Zb (a++⟨#[32]⟩++D8)] 9);have h:=F.alloc (Z #[Zb (a++⟨#[32]⟩++D8)] 9);have g4:∀j u',[Value.string (a++⟨#[32]⟩++D8)][j]?=S u'->(g2.alloc (Z #[Zb (a++⟨#[32]⟩++D8)] 9)).cell? ((⟨g2.heap.size,0,N⟩:Addr).add j)=S u':=Wp _ _ _;refine hK.out _ _ f λo=>?_;clear hK K;try simp only[py]
   refine rd 15 λK hK=>?_;rw[qI Vb];refine wp_append_own _ (.tmp 23) (.tmp 37) 43 rfl J.heap.size 9 i0 (Zb ⟨#[]⟩) 1 16 underlying43 d2.a f0 f1 f2 R WW u5 k RS R h ⟨g2.heap.size,0,N⟩ 1 1 [Zb (a++⟨#[32]⟩++D8)] R R g4 Vi Vk O (ZR f) ?_;intro v' w7 l g _;have y:Gr J w7:=Below.grown f g (ZR f) (H4 h);refine hK.out _ _ y λo=>?_;clear hK K;try simp only[py]
   refine tq 16 v' o ?_;refine ZZ WR ?_ _;have E:Y (w7.ownsRow J.heap.size 9 1 v' (k+1) (((g1.take (k+1)).map λc=>c.1++xJ [32]++kt c.2).map Value.string)):=X (by rw[a3.a];exact l);have y1:=g6.a w7 y;have d1:=X y;clear o l g y f h F m u g4 a8 x;go_wp2_with fail;go_roundg (gk-1)
   case measure=>omega
   case rel=>exact⟨k+1,v',O,Vg,R,by rw[a4.a,Int.natCast_add],E.a,d1.a⟩
  .have ek:k=g1.length:=O;have f4:¬ (k:Int)<(g1.length:Int):=O;have d4:((g1.take k).map (·.2)).sum=M:=by rw[ek,XA,r]
   rw[d4];have D:Y (∀n,ZL 75 #[I Zh M] n (Zb (kt M))):=X λn=>dM M O n;have a6:(kt M).size<1000:=by have h2:=dz 18 M O;show(Lib.decDigits M).toArray.size<_;rw[Ya];omega
   have g5:Y (DT.length=k+1/\DT.map Value.string=((g1.take k).map λc=>c.1++xJ [32]++kt c.2).map Value.string++[Zb (⟨#[115,117,109,32]⟩++kt M)]):=X (by
    rw[ek,XA,B.a];exact⟨WU,by rw[Ys];rfl⟩)
   generalize kt M=D8 at D a6 g5;generalize ((g1.take k).map λc=>c.1++xJ [32]++kt c.2).map Value.string=RS at p b1 g5;have a1:∀W,(Op.stringOp .add ⟨#[115,117,109,32]⟩ D8).run prog W=.ok (Zb (⟨#[115,117,109,32]⟩++D8)) W:=λW=>cj _ D8 (by show 4+D8.size<_;omega) W;have b2:=X p;have c6:=X a9;have f3:=X hG;clear p a9 B d4 g7 r b0 hG;go_wp2_with(first
    | (go_at_call 75;refine Z0 (D.a _) λg2 u=>?_;have m:=Gr.trans c6.a u;have f:=Gr.trans m ((Gr.refl g2).alloc #[Zb (⟨#[115,117,109,32]⟩++D8)] 9);have h:=(uy b2.a λq c fr e _=>(ZE u e)).alloc (Z #[Zb (⟨#[115,117,109,32]⟩++D8)] 9);have g4:∀j u',[Value.string (⟨#[115,117,109,32]⟩++D8)][j]?=S u'->(g2.alloc (Z #[Zb (⟨#[115,117,109,32]⟩++D8)] 9)).cell? ((⟨g2.heap.size,0,N⟩:Addr).add j)=S u':=Wp _ _ _;have G:=X h;have d0:=X f;have a0:=ZR f;clear h f m u)
    | (at_builtin;refine Xv _ R (.tmp 46) (.tmp 50) 43 rfl J.heap.size 9 i0 (Zb ⟨#[]⟩) 1 16 underlying43 d2.a f0 f1 f2 R WW u5 k RS R G.a ⟨g2.heap.size,0,N⟩ 1 1 [Zb (⟨#[115,117,109,32]⟩++D8)] R R g4 Vi Vk O a0 ?_;intro v' w7 l g d3;have E:Y ((∃v,Ending.returned v'=Zd v/\w7.ownsRow w.heap.size 9 1 v DT.length (DT.map Value.string))/\Gr w w7):=X ⟨⟨v',R,by rw[g5.a.1,g5.a.2];exact KV l f7⟩,Gr.trans f3.a (Below.grown d0.a g a0 (H4 G.a))⟩;clear l g d3))
   go_ret;exact E.a
def PlX(s:LSt)(tx:I4)(e:Ending):Prop:=match fd s tx with
 | some (s',_)=>∃P M Q,s'.row Q/\P.size=72/\M.size=3/\P.all (·.oneCell')=Zk/\M.all (·.oneCell')=Zk/\e=Zd (Ze #[Zc P,Zc M,Zc Q,I L 0])
 | none=>∃k P M Q,k≠0/\P.size=72/\M.size=3/\Q.size=72/\P.all (·.oneCell')=Zk/\M.all (·.oneCell')=Zk/\Q.all (·.oneCell')=Zk/\e=Zd (Ze #[Zc P,Zc M,Zc Q,I L k])
theorem PL{p:pH}{x:I4}(e:xG x=S p)(b:xP p=Zk)(y:Mv):y∈xC (xM p) p.white p.castle p.behind↔y∈(LSt.of p).mov:=by have a:=LSt.ok_of e b;exact EC (qkv b) (qkv (Ok.can a)) (Ok.b0 a) (Ok.b1 a) (λi d=>(fU _ d).symm) y
theorem Lr{s:LSt}(f:s.ok){k:Int}(h:iP (xJ s.text) k):False:=by
 obtain⟨p,d,e,_⟩:=fV f;obtain h|⟨_,q,a,b⟩:=h
 .exact absurd h.2 Oi
 .rw[d]at a;rw[<-qP a,e]at b;cases b
theorem Lm{s:LSt}(u:s.ok)(l:I4)(w:I6):Calls prog 51 #[Zb (xJ s.text),Zb l] w λe w'=>PlX s l e/\Gr w w':=by
 obtain⟨p,b,A,o⟩:=fV u;refine(eh (xJ s.text) l (LSt.short u) w).mono ?_;rintro e w' ⟨h,C⟩;refine⟨?_,C⟩;unfold PlX;obtain⟨k,P,M,Q,E,d,p1,p2,p3,p4,p5,p6,rfl⟩|⟨q,x,Q,m,_,f,v,g,rfl⟩:=h
 .have r:fd s l=N:=by
   unfold fd;obtain B|⟨_,q,_,_,f⟩|⟨_,q,x,m,_,f,v⟩:=d
   .exact(Lr u B).elim
   .rw[f]
   .rw[f];have n:=qP (b.symm.trans m);have a:¬ x∈s.mov:=λy=>v (by rw[<-n];exact(PL b A x).2 (by rw[o];exact y));show(if s.mov.any (λz=>z==x)=Zk then _ else N)=N;rw[qF];intro y;exact a (F8 y)
  rw[r];exact⟨k,P,M,Q,E,p1,p2,p3,p4,p5,p6,R⟩
 .have n:=qP (b.symm.trans m);subst n;have a:x∈s.mov:=by rw[<-o];exact(PL b A x).1 v
  have j:fd s l=S (s.aft x,[ex (s.aft x)]):=by unfold fd;rw[f];show(if s.mov.any (λz=>z==x)=Zk then _ else N)=_;rw[qI (qY.2 ⟨x,a,WU⟩)]
  rw[j];refine⟨jV p,z8 x,Q,?_,jE.size (jo b),R,qx (jo b),by simp[z8,Value.oneCell'],R⟩;rw[<-o];exact jE.castle g λi D=>by unfold kB;show _=(yC p.castle i&&_);rw[fU _ D]
def LoX(s:LSt)(tx:I4)(e:Ending):Prop :=
 (shortS s tx=N/\e=Zd (Ze #[Zb ⟨#[]⟩,I L 4])) ∨
 ∃x,x∈cU s.z s.wh s.fc s.b tx/\e=Zd (Ze #[Zb (xJ (yJ x)),I L 0])
theorem SR{s:LSt}(i:s.ok)(d:I4)(w:I6):Calls prog 29 #[Zb (xJ s.text),Zb d] w λe w'=>LoX s d e/\Gr w w':=by
 obtain⟨p,l,r,m⟩:=fV i;refine(mb (xJ s.text) d (LSt.short i) w).mono ?_;rintro e w' ⟨h,n⟩;refine⟨?_,n⟩;obtain⟨k,o,_⟩|⟨q,f,_,j,rfl⟩|⟨q,x,f,_,j,rfl⟩:=h
 .exact(Lr i o).elim
 .have g:=qP (l.symm.trans f);subst g;have a:cU (LSt.of p).z (LSt.of p).wh (LSt.of p).fc (LSt.of p).b d=[]:=j;rw[m]at a;exact Zi ⟨by unfold shortS;rw[a],R⟩
 .have g:=qP (l.symm.trans f);subst g;have a:x∈cU (LSt.of p).z (LSt.of p).wh (LSt.of p).fc (LSt.of p).b d:=j;rw[m]at a;exact Zj ⟨x,a,R⟩
theorem KN:∀k,k<64->uX ⟨(xQ k).toArray⟩=S k:=WS
theorem NY{S:I4}{b:Nat}(h:S.data.toList=uY f b u)(r:f<64)(v:b<64)(w:u∈U5):yn S=some (f,b,u):=by
 have l:(xQ f).length=2:=R;have m:(xQ b).length=2:=R;have i:uY f b u=xQ f++(xQ b++(if u=0 then[]else[u])):=by unfold uY;rw[qS]
 have x:S.extract 0 2=⟨(xQ f).toArray⟩:=by
  have:=JA S 0 2;rw[h,i,Wg O,Yk O,List.drop_zero]at this;cases j:S.extract 0 2 with
  | mk d=>rw[j]at this;simp at this |-;rw[<-this]
 have y:S.extract 2 4=⟨(xQ b).toArray⟩:=by
  have:=JA S 2 4;rw[h]at this;unfold uY at this;rw[Wg (by simp[l,m]),Yk (by simp[l,m]),List.drop_append_of_le_length O,List.drop_of_length_le O,Wj]at this;cases j:S.extract 2 4 with
  | mk d=>rw[j]at this;simp at this |-;rw[<-this]
 have g:S.size=(uY f b u).length:=by rw[<-h];exact ZX.symm
 have a:(uY f b u).length=if u=0 then 4 else 5:=by unfold uY;rw[qZ,qZ,l,m];split<;>rfl
 unfold yn;rw[x,y,KN f r,KN b v];by_cases u0:u=0
 .rw[qI u0]at a;rw[qI (Or.inl (g.trans a))];simp only;rw[rc (g.trans a),qI R,u0]
 .rw[qF u0]at a;rw[qI (Or.inr (g.trans a))];simp only;have q:=g.trans a;have o:4<S.size:=O;have n:S[4]=u:=by
   have p:4<S.data.toList.length:=by rw[ZX];exact o
   have:S.data.toList[4]=u:=by
    have e:uY f b u=xQ f++xQ b++[u]:=by unfold uY;rw[qF u0]
    simp only[h,e];rfl
   rw[<-this];rfl
  rw[rZ q,n];have:0<=Lib.indexByte uf u:=by have k:∀c∈U5,c≠0->0<=Lib.indexByte uf c:=WS;exact k u w u0
  exact qI (qJ this)
theorem QF{a:Nat}(b:f<64)(d:a<64)(e:u∈U5):yn (xJ (uY f a u))=S (f,a,u):=NY R b d e
theorem Hv{s:LSt}{d:I4}{x:Mv}(h:x∈cU s.z s.wh s.fc s.b d):x∈s.mov/\xJ (uj s.z s.wh s.fc s.b x)=d:=by unfold cU at h;obtain⟨a,b⟩:=qV.1 h;exact⟨a,q8 b⟩
theorem Qs{a b:I1}(h:xJ a=xJ b):a=b:=by have:=Xn (λx:I4=>x.data.toList) h;simpa[xJ]using this
theorem M9{s:LSt}(f:s.ok){a:I4}{x:Mv}(h:x∈cU s.z s.wh s.fc s.b a):shortS s a=S (s.aft x,[ex (s.aft x)]):=by
 unfold shortS;cases d:cU s.z s.wh s.fc s.b a with
 | nil=>rw[d]at h;cases h
 | cons y r =>
  have g:y∈cU s.z s.wh s.fc s.b a:=Oi
  obtain⟨i,j⟩:=Hv h;obtain⟨k,l⟩:=Hv g;have e:=De f i k (Qs (j.trans l.symm));rw[e]
theorem QH{s:LSt}(g:s.ok){x:Mv}(d:x∈s.mov):fd s (xJ (yJ x))=S (s.aft x,[ex (s.aft x)]):=by
 have e:yn (xJ (yJ x))=S x:=by obtain⟨f,t,u⟩:=x;obtain⟨a,b,c,_⟩:=Ok.mv g d;exact QF a b c
 unfold fd;rw[e];show(if s.mov.any (λz=>z==x)=Zk then _ else N)=_;rw[qI (qY.2 ⟨x,d,WU⟩)]
theorem QK:∀(n:Nat){t:I4}{g h:I3},t.size<=n->Kk t g->Kk t h->g=h:=by
 intro n;induction n with
 | zero =>
  intro t g h p k f;obtain⟨_,d⟩|⟨i,_,l,_⟩:=nc k
  .obtain⟨_,a⟩|⟨i,_,l,_⟩:=nc f
   .rw[d,a]
   .omega
  .omega
 | succ n ih =>
  intro t g h p k f;obtain⟨e,d⟩|⟨i,e,l,r,d,m⟩:=nc k
  .obtain⟨_,a⟩|⟨j,b,_⟩:=nc f
   .rw[d,a]
   .rw[e]at b;omega
  .obtain⟨b,a⟩|⟨j,b,q,u,a,o⟩:=nc f
   .rw[e]at b;omega
   .obtain rfl:i=j:=by rw[e]at b;omega
    rw[d,a,ih (by rw[Wu];omega) m o]
theorem RL(t:I4):∃a,Kk t a:=by obtain⟨a,b,d,e⟩:=KZ 10 t.data.toList;exact⟨a,b,d,e⟩
theorem P7(t:I4)(i:t.size<4294967281)(b:I3)(j:Kk t b)(w:I6):Calls prog 71 #[Zb t,I Zg 10] w λe w'=>∃v,e=Zd v/\yt w.heap.size v b w'/\Gr w w':=by refine(qvl t i 10 w).mono ?_;rintro e w' ⟨v,k,rfl,a,d,f,g,h⟩;have e:=QK t.size Zy ⟨f,d,g⟩ j;rw[e]at a;exact⟨v,R,a,h⟩
theorem J3{l:I1}(h:xG ⟨l.toArray⟩=N):posP l=N:=by unfold posP;rw[h]
theorem NJ{l:I1}{k:Int}(h:iP ⟨l.toArray⟩ k):posP l=N:=by
 obtain h|⟨_,q,a,b⟩:=h
 .exact J3 h.2
 .unfold posP;rw[a];show(if xP q=Zk then _ else N)=N;rw[qF (by rw[b];simp)]
theorem P6{l:I1}{p:pH}(h:xG ⟨l.toArray⟩=S p)(a:xP p=Zk):posP l=S p:=by unfold posP;rw[h];show(if xP p=Zk then _ else N)=_;rw[qI a]
theorem Q2(ws:List (I1))(g:ws≠[])(j:∀y∈ws,(32:UInt8)∉y):recP posP (Lib.join ws [32])=Pz posP ws :=by grind[ND,posP,J3,Kt,Q3]
theorem P5:∀(n:Nat) (r:List (I1)),r.length<=n->r.length%2=1->prs r=N:=by
 intro n;induction n with
 | zero=>intro r a b;omega
 | succ n ih =>
  intro r a b
  match r,a,b with
  | [_],_,_=>rfl
  | x :: y :: r,a,b =>
   have e:=ih r (by simp at a;omega) (by simp at b;omega);rw[prs,e];by_cases d:x.length=3/\isD x
   .rw[qI d];cases df 1 (x.drop 2)<;>cases kZ 9 y<;>rfl
   .rw[qF d]
theorem J4{l:I1}(h:kZ k l=S n):Lib.decDigits n=l/\n<10 ^ k:=by
 unfold kZ at h;split at h
 .rename_i f;obtain⟨a,b,c,d⟩:=f;have e:=qP h;rw[<-e];refine⟨Ek l (by intro q;subst q;simp at a) d c,?_⟩;exact qN (tP l.length l R d) (X8 O b)
 .cases h
theorem JB{l:I1}(h:df e l=S d):Lib.decDigits d=l/\e<=d/\d<=3:=by unfold df at h;obtain⟨a,b⟩:=X5.1 h;simp at b;exact⟨(J4 a).1,b.1,b.2⟩
def BA(x y:I1):Option (Nat × Nat):=if x.length=3/\isD x then(match df 1 (x.drop 2),kZ 9 y with|some d,S n=>S (d,n)|_,_=>N)else N
theorem H2(x y:I1)(r:List (I1)):prs (x :: y :: r)=match BA x y with|some c=>(prs r).map (c :: ·)|none=>N:=by grind[prs,BA,isD,df]
theorem NL{x:I1}{c:Nat × Nat}(h:BA x y=S c):x.length=3/\isD x/\df 1 (x.drop 2)=S c.1/\kZ 9 y=S c.2:=by grind[BA,df]
theorem Q7:∀(b:List (Nat × Nat)) (r:List (I1)),prs r=S b->r.length=2*b.length/\∀j (g:j<b.length),∃x y,r[2*j]?=S x/\r[2*j+1]?=S y/\BA x y=S b[j]:=by
 intro b;induction b with
 | nil =>
  intro r h
  match r,h with
  | [],_=>exact⟨R,λj g=>absurd g WU⟩
  | x :: y :: r,h =>
   rw[H2]at h;cases d:BA x y with
   | none=>rw[d]at h;cases h
   | some c =>
    rw[d]at h;obtain⟨a,_,f⟩:=Xp.1 h;cases f
 | cons c b ih =>
  intro r h
  match r,h with
  | x :: y :: r,h =>
   rw[H2]at h;cases d:BA x y with
   | none=>rw[d]at h;cases h
   | some c' =>
    rw[d]at h;obtain⟨a,n,f⟩:=Xp.1 h;injection f with f h3
    subst f h3;obtain⟨e,k⟩:=ih r n;refine⟨WX,λj g=>?_⟩;cases j with
    | zero=>exact⟨x,y,R,R,d⟩
    | succ j =>
     obtain⟨x',y',i,l,m⟩:=k j (by simpa using g);refine⟨x',y',?_,?_,m⟩
     .rw[show 2*(j+1)=2*j+1+1 from O];exact i
     .rw[show 2*(j+1)+1=2*j+1+1+1 from O];exact l
theorem NI{r:List (I1)}{x:I1}(f:r[2*j]?=S x)(g:r[2*j+1]?=S y):prs (r.drop (2*j))=match BA x y with|some c=>(prs (r.drop (2*(j+1)))).map (c :: ·)|none=>N:=by obtain⟨a,b⟩:=Z5.1 f;obtain⟨d,e⟩:=Z5.1 g;rw[XP a,XP d,b,e,H2,show 2*(j+1)=2*j+1+1 from O]
def R9(r:Option (pH × List (Nat × Nat)))(e:Ending):Prop:=match r with
 | some (p,tl)=>e=Zd (Ze #[Zb (fk (LSt.of p) tl),Za Zk])
 | none=>e=Zd (Ze #[Zb ⟨#[]⟩,Za Zl])
theorem uu(a b:I4)(h:a.size+b.size<100000000000)(W:I6):(Op.stringOp .add a b).run prog W=.ok (Zb (a++b)) W:=by exact Xy W a b (q7 (Nat.le_of_lt h) WW)
theorem Sn(x:I4):(⟨x.data.toList.toArray⟩:I4)=x:=R
theorem ME(a b c d:I4):(⟨(Lib.join [a.data.toList,b.data.toList,c.data.toList,d.data.toList] [32]++zoT).toArray⟩:I4)=a++⟨#[32]⟩++b++⟨#[32]⟩++c++⟨#[32]⟩++d++⟨#[32,48,32,49]⟩:=by apply eu;simp[Lib.join_cons,Lib.joinTail,zoT,ByteArray.data_append,Array.toList_append]
theorem MH{s:LSt}{a:List (Nat × Nat)}(b:j<a.length)(h:s.paths (a[j]).1=(a[j]).2):fk s (a.drop j)=fk s (a.drop (j+1)):=by rw[XP b];show(if s.paths (a[j]).1=(a[j]).2 then _ else _)=_;rw[qI h]
theorem MI{s:LSt}{a:List (Nat × Nat)}(b:j<a.length)(h:¬ s.paths (a[j]).1=(a[j]).2):fk s (a.drop j)=xJ ([102,97,105,108,32,68]++Lib.decDigits (a[j]).1++[32]++Lib.decDigits (s.paths (a[j]).1)):=by rw[XP b];show(if s.paths (a[j]).1=(a[j]).2 then _ else _)=_;rw[qF h];rfl
theorem Qv(x:I4)(h:x.size=3)(W:I6):(Instr.slice 9 (Zb x) N (S (I L 2)) N).run prog W=.ok (Zb ⟨(x.data.toList.take 2).toArray⟩) W:=by have e:(⟨(x.data.toList.take 2).toArray⟩:I4)=x.extract 0 2:=eu (by rw[Lib.extract_from_zero]);rw[e];exact run_slice_string_h W 9 x underlying9 L 2 O O
theorem LY(x:I4)(h:x.size=3)(W:I6):(Instr.slice 9 (Zb x) (S (I L 2)) N N).run prog W=.ok (Zb ⟨(x.data.toList.drop 2).toArray⟩) W:=by have e:(⟨(x.data.toList.drop 2).toArray⟩:I4)=x.extract 2 x.size:=eu (by rw[Lib.extract_to_end]);rw[e];exact run_slice_string_l W 9 x underlying9 L 2 O O
theorem Nm(c:UInt8):∀(b:List (I1)),∀y∈b,y.length<=(Lib.join b [c]).length:=λb=>by
 induction b with
 | nil=>intro y a;cases a
 | cons z r ih =>
  intro y a;cases r with
  | nil=>rw[Lib.join_one];rw[qT]at a;rw[a];exact Zy
  | cons u r =>
   have e:Lib.join (z :: u :: r) [c]=z++c :: Lib.join (u :: r) [c]:=V9
   rw[e,qZ,Yq];obtain rfl|a:=Yj.1 a
   .omega
   .have:=ih y a;omega
theorem NE{α:Type}(f:List UInt8->Option α){ws:List (I1)}(h:ws.length<4):Pz f ws=N:=by
 match ws,h with
 | [],_=>rfl
 | [_],_=>rfl
 | [_,_],_=>rfl
 | [_,_,_],_=>rfl
theorem Lf{α:Type}{f:List UInt8->Option α}{a b c d:I1}{r:List (I1)}{x:α}(h:f (Lib.join [a,b,c,d] [32]++zoT)=S x):Pz f (a :: b :: c :: d :: r)=(prs r).map (x,·):=by exact Io
theorem Lh{α:Type}{f:List UInt8->Option α}{a b c d:I1}{r:List (I1)}(h:f (Lib.join [a,b,c,d] [32]++zoT)=N):Pz f (a :: b :: c :: d :: r)=N:=by exact Io
theorem QP{e:I3}(h:¬ e.length<4):∃a b c d r,e=a :: b :: c :: d :: r:=by
 match e,h with
 | a :: b :: c :: d :: r,_=>exact⟨a,b,c,d,r,R⟩
 | [],h=>exact absurd WW h
 | [_],h=>exact absurd WU h
 | [_,_],h=>exact absurd WU h
 | [_,_,_],h=>exact absurd WU h
theorem JT(T:I4)(g:T.size<4294967281):∃(A:I0)(k:Int),A.size=72/\Y (A.all (·.oneCell')=Zk)/\((∃p,posP T.data.toList=S p/\(LSt.of p).ok/\(LSt.of p).row A/\k=0)\/(posP T.data.toList=N/\k≠0))/\Y (∀W,ZL 53 #[Zb T] W (Ze #[Zc A,I L k])):=by
 obtain⟨p,f,b,a⟩|⟨k,i,d,a⟩:=xy T
 .exact⟨jV p,0,jE.size (jo f),X (qx (jo f)),Zi ⟨p,P6 f b,LSt.ok_of f b,LSt.row_of f,R⟩,X λW=>(qvq T g W).mono λe w' h=>⟨a e h.1,h.2⟩⟩
 .exact⟨zeroCells70,k,xF,X xH,Zj ⟨NJ d,i⟩,X λW=>(qvq T g W).mono λe w' h=>⟨a e h.1,h.2⟩⟩
theorem RI{l:I1}:JW 9 999999999 l=match kZ 9 l with|some n=>(n:Int)|none=>-1:=by
 unfold JW;cases h:kZ 9 l with
 | none=>rfl
 | some n =>
  have:=(J4 h).2;rw[Option.filter_some,qI (qJ O)]
theorem TT(t:I4)(ht:t.size<=1048576)(w:I6):Calls prog 161 #[Zb t] w λe w'=>R9 (recP posP t.data.toList) e/\Gr w w':=by
 have r6:=X (qvl t O 32 w);obtain⟨y7,f7⟩:∃y7,Y (y7=recP posP t.data.toList):=⟨_,X R⟩;rw[<-f7.a];go_enter func161,ntmps161;go_upto_region 2 with(go_at_call 71;refine r6.a.mono ?_;rintro e w1 ⟨v,ys,rfl,hS,hn,h0,hj,g0⟩);obtain⟨pp,cap,rfl,n7,f9⟩:=l7 hS;have z9:∀y∈ys,y.size<=1048576:=λy hy=>by have:=Nm 32 (ys.map (·.data.toList)) y.data.toList (YL.2 ⟨y,hy,R⟩);rw[hj]at this;exact q7 this ht
 have hR:y7=Pz posP (ys.map (·.data.toList)):=by rw[f7.a,<-hj];exact Q2 _ (by simpa using h0) (λy hy=>by obtain⟨x,hx,rfl⟩:=YL.1 hy;exact hn x hx)
 have w6:ys.length<=1048577:=by have:=Hb 32 (ys.map (·.data.toList));rw[hj,YD]at this;have e:t.data.toList.length=t.size:=R;omega
 clear r6 hS hn h0 hj n7;by_cases h4:ys.length<4
 .have d0:=NE posP (ws:=ys.map (·.data.toList)) (by simpa using h4);have E:Y (y7=N):=X (hR.trans d0);have x1:(ys.length:Int)<4:=O;have t5:=X g0;clear g0 f9 z9 d0 hR f7;go_wp2_with fail;go_ret2;refine⟨?_,t5.a⟩;rw[E.a];rfl
 obtain⟨y0,y1,y2,y3,r,rfl⟩:=QP h4;obtain⟨y5,hL⟩:∃y5:Nat,y5=(y0 :: y1 :: y2 :: y3 :: r).length:=⟨_,R⟩;have h5:Y (y5=r.length+4):=X (by rw[hL];simp);rw[<-hL]at h4 w6 |-;obtain⟨P,v9,_⟩:=f9 0 WU;subst v9;have J:Y (∀g,Gr w1 g->∀i (x:I4),(y0 :: y1 :: y2 :: y3 :: r)[i]?=S x->g.cell? ⟨P,i,N⟩=S (Zb x)):=X λg q i x hx=>by obtain⟨hi,e⟩:=Z5.1 hx;obtain⟨g',e1,e2⟩:=f9 i hi;injection e1 with e1;injection e1 with e1 _ _;subst e1;rw[<-e];exact(ZW q (Zx e2)).trans e2
 have z0:=z9 y0 WU;have z1:=z9 y1 WU;have z2:=z9 y2 WU;have z3:=z9 y3 WU;have y8:Y (∀y∈r,y.size<=1048576):=X λy hy=>z9 y (by simp[hy]);have H:=ME y0 y1 y2 y3;have d0:y7=Pz posP (y0.data.toList :: y1.data.toList :: y2.data.toList :: y3.data.toList :: r.map (·.data.toList)):=hR;clear hR f7 f9 z9 hL;obtain⟨s1,e1⟩:∃s,s=y0++(⟨#[32]⟩:I4):=⟨_,R⟩;rw[<-e1]at H;have q1:s1.size=y0.size+1:=by rw[e1,Yn];rfl
 have a1:∀W,(Op.stringOp .add y0 ⟨#[32]⟩).run prog W=.ok (Zb s1) W:=λW=>by rw[e1];exact uu _ _ (by show _+1<_;omega) W
 obtain⟨s2,e2⟩:∃s,s=s1++y1:=⟨_,R⟩;rw[<-e2]at H;have q2:s2.size=s1.size+y1.size:=by rw[e2,Yn]
 have a2:∀W,(Op.stringOp .add s1 y1).run prog W=.ok (Zb s2) W:=λW=>by rw[e2];exact uu _ _ O W
 obtain⟨s3,e3⟩:∃s,s=s2++(⟨#[32]⟩:I4):=⟨_,R⟩;rw[<-e3]at H;have q3:s3.size=s2.size+1:=by rw[e3,Yn];rfl
 have a3:∀W,(Op.stringOp .add s2 ⟨#[32]⟩).run prog W=.ok (Zb s3) W:=λW=>by rw[e3];exact uu _ _ (by show _+1<_;omega) W
 obtain⟨s4,e4⟩:∃s,s=s3++y2:=⟨_,R⟩;rw[<-e4]at H;have q4:s4.size=s3.size+y2.size:=by rw[e4,Yn]
 have a4:∀W,(Op.stringOp .add s3 y2).run prog W=.ok (Zb s4) W:=λW=>by rw[e4];exact uu _ _ O W
 obtain⟨s5,e5⟩:∃s,s=s4++(⟨#[32]⟩:I4):=⟨_,R⟩;rw[<-e5]at H;have q5:s5.size=s4.size+1:=by rw[e5,Yn];rfl
 have a5:∀W,(Op.stringOp .add s4 ⟨#[32]⟩).run prog W=.ok (Zb s5) W:=λW=>by rw[e5];exact uu _ _ (by show _+1<_;omega) W
 obtain⟨s6,e6⟩:∃s,s=s5++y3:=⟨_,R⟩;rw[<-e6]at H;have q6:s6.size=s5.size+y3.size:=by rw[e6,Yn]
 have a6:∀W,(Op.stringOp .add s5 y3).run prog W=.ok (Zb s6) W:=λW=>by rw[e6];exact uu _ _ O W
 obtain⟨T,eT⟩:∃s,s=s6++(⟨#[32,48,32,49]⟩:I4):=⟨_,R⟩;rw[<-eT]at H;have qT:T.size=s6.size+4:=by rw[eT,Yn];rfl
 have aT:∀W,(Op.stringOp .add s6 ⟨#[32,48,32,49]⟩).run prog W=.ok (Zb T) W:=λW=>by rw[eT];exact uu _ _ (by show _+4<_;omega) W
 have n4:T.data.toList=Lib.join [y0.data.toList,y1.data.toList,y2.data.toList,y3.data.toList] [32]++zoT:=by rw[<-H]
 have g6:=X n4;obtain⟨A,k,hz,ho,h7,f0⟩:=JT T O;clear e1 e2 e3 e4 e5 e6 eT H n4;have a7:=X d0;clear d0;have x9:¬ (y5:Int)<4:=O;have l0:(0:Int)<(y5:Int):=O;have t2:¬ y5=0:=O;have t3:0<y5:=O;have l1:(1:Int)<(y5:Int):=O;have l2:(2:Int)<(y5:Int):=O;have l3:(3:Int)<(y5:Int):=O;have g1:=X g0;have k3:Gr w1 w1.drew:=(Gr.refl w1).drew;clear g0;go_upto_region 4 with fail;go_cut [5,6]from 19 to 41 (λs5 s6 wx=>∃B,s5=ZI B/\s6=I L k/\wx.heap[B]?=S (Z A 70)/\Gr w1 wx)
 case first=>
  refine ZT (S:=λg=>Gr w1 g) WR k3 (λb=>?_);generalize w1.drew=wd at k3 b |-;refine tq 0 (Zq (S ⟨P,0,N⟩) y5 cap) b ?_;refine tq 1 (ZI P) b ?_;refine ZB 2 (Zb y0) R (λw hw=>by have e0:=J.a w hw 0 y0 R;go_simp) b ?_;refine tq 3 (Zb s1) b ?_;refine tq 4 (Zq (S ⟨P,0,N⟩) y5 cap) b ?_;refine tq 5 (.pointer (S ⟨P,1,N⟩)) b ?_;refine ZB 6 (Zb y1) R (λw hw=>by have e0:=J.a w hw 1 y1 R;go_simp) b ?_;refine tq 7 (Zb s2) b ?_;refine tq 8 (Zb s3) b ?_;refine tq 9 (Zq (S ⟨P,0,N⟩) y5 cap) b ?_;refine tq 10 (.pointer (S ⟨P,2,N⟩)) b ?_;refine ZB 11 (Zb y2) R (λw hw=>by have e0:=J.a w hw 2 y2 R;go_simp) b ?_;refine tq 12 (Zb s4) b ?_;refine tq 13 (Zb s5) b ?_;refine tq 14 (Zq (S ⟨P,0,N⟩) y5 cap) b ?_;refine tq 15 (.pointer (S ⟨P,3,N⟩)) b ?_;refine ZB 16 (Zb y3) R (λw hw=>by have e0:=J.a w hw 3 y3 R;go_simp) b ?_;refine tq 17 (Zb s6) b ?_;refine tq 18 (Zb T) b ?_;clear a1 a2 a3 a4 a5 a6 aT;have n0:∀A:I6,(A.alloc (Z zeroCells70 70)).heap[A.heap.size]?=S (Z zeroCells70 70):=λA=>ZQ A _;refine Xk (rs:=[19,23]) WR WU ?_;refine Yc R (λK hK=>?a0) (Yc R (λK hK=>?b0) Xb)
  case' a0=>
   go_simp;refine(f0.a _).mono ?_;rintro e w3 ⟨rfl,kk⟩;refine hK.out _ _ (Gr.trans b kk) λb=>?_;clear hK K kk;try simp only[py]
   refine tq 20 (Ze #[Zc A,I L k]) b ?_;refine tq 21 (Zc A) b ?_;refine tq 22 (I L k) b ?_;refine rd 23 λK hK=>?_;go_simp;have F:=n0 w3;have f8:w1.heap.size<=w3.heap.size:=ZR b;refine hK.out _ _ (Gr.trans b ZN) λb=>?_;clear hK K;try simp only[py]
   generalize w3.alloc (Z zeroCells70 70)=wz at F b |-;generalize w3.heap.size=B at F f8 |-
  case' b0=>
   go_simp;have F:=n0 wd;have f8:w1.heap.size<=wd.heap.size:=ZR b;refine hK.out _ _ (Gr.trans b ZN) λb=>?_;clear hK K;try simp only[py]
   generalize wd.alloc (Z zeroCells70 70)=wy at F b |-;generalize wd.heap.size=B at F f8 |-;refine rd 19 λK hK=>?_;go_simp;refine(f0.a _).mono ?_;rintro e wz ⟨rfl,kk⟩;have F:=(ZE kk F);refine hK.out _ _ (Gr.trans b kk) λb=>?_;clear hK K kk;try simp only[py]
   refine tq 20 (Ze #[Zc A,I L k]) b ?_;refine tq 21 (Zc A) b ?_;refine tq 22 (I L k) b ?_
  all_goals
   refine rd 24 λK hK=>?_;rw[qI Vb];refine YQ 70 _ _ R B A R R 70 _ F (by rw[hz];exact q9) (by rw[hz];exact xF.symm) ho.a ?_;have hB:=setRow_heap _ _ _ A _ _ F;have b5:=b.setRow B f8 A;refine hK.out _ _ b5 λb=>?_;clear hK K;try simp only[py]
   refine tq 25 (I L k) b ?_;refine ZZ WR ?_ _;go_wp2_with fail;go_meet
   case rel=>exact⟨B,R,R,hB,b5⟩
 case rest=>
  obtain⟨B,rfl,rfl,hB,b5⟩:=hcut;generalize wc=w9 at hB b5 |-;have n1:=X hB;have c6:=X b5;clear hB b5 f0 k3 a1 a2 a3 a4 a5 a6 aT q1 q2 q3 q4 q5 q6 qT z0 z1 z2 z3;obtain⟨p,hp,g3,b4,hk⟩|⟨hp,hk⟩:=h7;rotate_left
  .have Q:Y (y7=N):=X (by rw[a7.a];exact Lh (by rw[<-g6.a];exact hp));have k2:(k != 0)=Zk:=Oo;clear hp hk J y8 ho hz a7 l0 t2 t3 l1 l2 l3;go_wp2_with fail;go_ret2;refine⟨?_,Gr.trans g1.a c6.a⟩;rw[Q.a];rfl
  subst hk;have Q:Y (y7=(prs (r.map (·.data.toList))).map (p,·)):=X (by rw[a7.a];exact Lf (by rw[<-g6.a];exact hp));clear a7 hp l0 t2 t3 l1 l2 l3;by_cases h2:r.length%2=1
  .have h6:Y (y7=N):=X (by rw[Q.a,P5 _ _ Zy (by simpa using h2)];rfl);have m1:(y5:Int)%2=1:=by have:=h5.a;omega
   have m2:(y5:Int).tmod 2=1:=Oe;have x0:=X g3;have w0:=X b4;clear g3 b4 J y8 Q ho hz;go_wp2_with fail;go_ret2;refine⟨?_,Gr.trans g1.a c6.a⟩;rw[h6.a];rfl
  obtain⟨m,hm⟩:∃m,Y (r.length=2*m):=⟨r.length/2,X O⟩;have m1:(y5:Int)%2=0:=by have:=h5.a;omega
  have m2:(y5:Int).tmod 2=0:=Oe;have g5:Y (∀d:Nat,d<=3->∀W,ZL 163 #[Zc A,I L d] W (I Zh ((LSt.of p).paths d:Nat))):=X λd hd W=>na d hd g3 b4 W;have g4:Y (∀d:Nat,d<=3->(LSt.of p).paths d<=1000000000000000000):=X λd hd=>pb hd _ _ _ _;have n3:Y (y5=2*m+4):=X (by have:=h5.a;have:=hm.a;omega);clear g3 b4 h2 ho;have V:Y (∀g,Gr w9 g->∀j (x:I4),r[j]?=S x->g.cell? ⟨P,j+4,N⟩=S (Zb x)):=X λg q j x hx=>J.a g (Gr.trans c6.a q) (j+4) x hx;clear J;go_wp2_with fail;clear m1 m2;go_loopg [8] m (λgk iv wr=>∃(j i:Nat),j+gk=m/\Y (i=2*j+4)/\iv=I L i/\(∃f,prs (r.map (·.data.toList))=(prs ((r.map (·.data.toList)).drop (2*j))).map (f++·))/\wr=w9)
  case atStart=>exact⟨0,4,O,X R,R,⟨[],WU⟩,R⟩
  case round=>
   obtain⟨j,i,k1,hi,rfl,⟨f,As⟩,w5⟩:=hrel;have s9:=w5.symm;subst s9;have x4:0<=(i:Int):=O;have G:=hi.a;have r7:=hm.a;have b6:=n3.a;by_cases v3:j<m
   .obtain⟨x,hx⟩:∃x,r[2*j]?=S x:=⟨r[2*j]' O,Yf _⟩;obtain⟨y,hy⟩:∃y,r[2*j+1]?=S y:=⟨r[2*j+1]' O,Yf _⟩;obtain⟨i1,r2⟩:∃i1,i1=i+1:=⟨_,R⟩;obtain⟨i2,t9⟩:∃i2,i2=i+2:=⟨_,R⟩;have cx:w9.cell? ⟨P,i,N⟩=S (Zb x):=by rw[G];exact V.a _ ZO _ x hx
    have cy:w9.cell? ⟨P,i1,N⟩=S (Zb y):=by rw[r2,G];exact V.a _ ZO _ y hy
    have v1:IntKind.i64.wrap ((i:Int)+1)=(i1:Int):=Vc;have v2:IntKind.i64.wrap ((i:Int)+2)=(i2:Int):=Vc;have b0:(i:Int)<y5:=O;have b1:(i1:Int)<y5:=O;have b2:0<=(i1:Int):=O;have y4:=y8.a x (Wm hx);have w7:=y8.a y (Wm hy);have z5:Y (prs ((r.map (·.data.toList)).drop (2*j))=match BA x.data.toList y.data.toList with|some c=>(prs ((r.map (·.data.toList)).drop (2*(j+1)))).map (c :: ·)|none=>N):=X (NI (by rw[YN,hx];rfl) (by rw[YN,hy];rfl));have g2:Y (BA x.data.toList y.data.toList=N->y7=N):=X λh=>by rw[Q.a,As,z5.a,h];rfl
    have l4:=X As;have z:Y (y7=N->R9 y7 (Zd (Ze #[Zb ⟨#[]⟩,Za Zl]))/\Gr w w9):=X λh=>⟨Us,Gr.trans g1.a c6.a⟩;have m0:x.data.toList.length=x.size:=R;have r3:Y (i2=2*(j+1)+4):=X O;clear As hx hy G r7 b6 r2 t9 hi;by_cases c5:x.size=3;rotate_left
    .have E:=X (g2.a (by unfold BA;rw[qF];rintro⟨a,_⟩;exact c5 a));have h3:((x.size:Int) != 3)=Zk:=V3;clear cy v1 v2 b1 b2 m0;go_wp2_with fail;go_ret2;exact z.a E.a
    have h3:((x.size:Int) != 3)=Zl:=by rw[bne_eq_false_iff_eq];omega
    have sA:=Qv x c5;have sB:=LY x c5;by_cases hD:isD x.data.toList;rotate_left
    .have E:=X (g2.a (by unfold BA;rw[qF];rintro⟨_,a⟩;exact hD a));have hq:(x.data.toList.take 2==[59,68])=Zl:=by rw[qM];exact hD
     generalize x.data.toList.take 2=xa at sA hq;clear cy v1 v2 b1 b2 sB m0 hD;go_wp2_with fail;go_ret2;exact z.a E.a
    have hq:(x.data.toList.take 2==[59,68])=Zk:=by rw[YF];exact hD
    generalize x.data.toList.take 2=xa at sA hq;have l:Y (∀W,Calls prog 162 #[Zb ⟨(x.data.toList.drop 2).toArray⟩,I L 1] W λe w'=>e=Zd (I L (depI 1 (x.data.toList.drop 2)))/\w'=W):=X λW=>pn _ Um 1 W;have D:Y (∀W,Calls prog 199 #[Zb y,I L 9,I L 999999999] W λe w'=>e=Zd (I L (JW 9 999999999 y.data.toList))/\w'=W):=X λW=>ry 9 999999999 O y Vk W;rw[RI]at D;unfold depI at l;have M:Y (BA x.data.toList y.data.toList=match df 1 (x.data.toList.drop 2),kZ 9 y.data.toList with|some d,S n=>S (d,n)|_,_=>N):=X (by unfold BA;rw[qI ⟨c5,hD⟩]<;>cases df 1 (x.data.toList.drop 2)<;>cases kZ 9 y.data.toList<;>rfl);generalize x.data.toList.drop 2=xb at sB l M;clear hD m0;cases hd:df 1 xb with
    | none =>
     have E:=X (g2.a (by rw[M.a,hd]));rw[hd]at l;cases u:kZ 9 y.data.toList with
     | none =>
      rw[u]at D;clear hd u
      go_wp2_with(first
       | (go_at_call 162;refine(l.a _).mono ?_;rintro e wq ⟨rfl,rfl⟩)
       | (go_at_call 199;refine(D.a _).mono ?_;rintro e wq ⟨rfl,rfl⟩))
      go_ret2;exact z.a E.a
     | some nn =>
      rw[u]at D;clear hd u
      go_wp2_with(first
       | (go_at_call 162;refine(l.a _).mono ?_;rintro e wq ⟨rfl,rfl⟩)
       | (go_at_call 199;refine(D.a _).mono ?_;rintro e wq ⟨rfl,rfl⟩))
      go_ret2;exact z.a E.a
    | some d =>
     rw[hd]at l;have x2:¬ (d:Int)<0:=O
     cases u:kZ 9 y.data.toList with
     | none =>
      have E:=X (g2.a (by rw[M.a,hd,u]));rw[u]at D;clear hd u
      go_wp2_with(first
       | (go_at_call 162;refine(l.a _).mono ?_;rintro e wq ⟨rfl,rfl⟩)
       | (go_at_call 199;refine(D.a _).mono ?_;rintro e wq ⟨rfl,rfl⟩))
      go_ret2;exact z.a E.a
     | some nn =>
      have v4:Y (prs (r.map (·.data.toList))=(prs ((r.map (·.data.toList)).drop (2*(j+1)))).map ((f++[(d,nn)])++·)):=X (by
       rw[l4.a,z5.a,M.a,hd,u];cases prs ((r.map (·.data.toList)).drop (2*(j+1)))<;>simp)
      rw[u]at D;have x5:¬ (nn:Int)<0:=O
      clear hd u
      go_wp2_with(first
       | (go_at_call 162;refine(l.a _).mono ?_;rintro e wq ⟨rfl,rfl⟩)
       | (go_at_call 199;refine(D.a _).mono ?_;rintro e wq ⟨rfl,rfl⟩))
      go_roundg (gk-1)
      case measure=>omega
      case rel=>exact⟨j+1,i2,O,r3,R,⟨_,v4.a⟩,R⟩
   .have k9:prs (r.map (·.data.toList))=S f:=by rw[As,Ws (by rw[YD];omega)];simp[prs]
    obtain⟨s0,n5⟩:=Q7 f _ k9;rw[YD]at s0;have h6:Y (y7=S (p,f)):=X (by rw[Q.a,k9];rfl);have a8:=X n5;have s7:Y (f.length=m):=X O;have b0:¬ (i:Int)<y5:=O;clear As k9 n5 Q G r7 b6 s0 hi;go_wp2_with fail;clear b0;go_loopg [7,11] m (λgk ov iv w8=>∃(j i:Nat)(o:I1),j+gk=m/\Y (i=2*j+4)/\iv=I L i/\ov=Zb ⟨o.toArray⟩/\((o=[112,97,115,115]/\fk (LSt.of p) f=fk (LSt.of p) (f.drop j))\/((o==[112,97,115,115])=Zl/\(⟨o.toArray⟩:I4)=fk (LSt.of p) f))/\Gr w9 w8)
    case atStart=>exact⟨0,4,[112,97,115,115],O,X R,R,R,Zi ⟨R,R⟩,ZO⟩
    case round=>
     obtain⟨y6,i3,o,k2,r4,rfl,rfl,h8,b7⟩:=hrel;have z:Y (∀g,Gr w9 g->∀o:I1,(⟨o.toArray⟩:I4)=fk (LSt.of p) f->R9 y7 (Zd (Ze #[Zb ⟨o.toArray⟩,Za Zk]))/\Gr w g):=X λg q o h=>⟨by rw[h6.a];show _=_;rw[h],Gr.trans (Gr.trans g1.a c6.a) q⟩;have a9:=X b7;have G:=r4.a;have b6:=n3.a;have k8:=s7.a;by_cases v3:y6<m;rotate_left
     .have b0:¬ (i3:Int)<y5:=O;have k5:Y ((⟨o.toArray⟩:I4)=fk (LSt.of p) f):=X (by
       obtain⟨rfl,h⟩|⟨_,h⟩:=h8
       .rw[h,Ws O];rfl
       .exact h)
      clear h8 b7 a8 g5 g4 V y8 G b6 k8;go_wp2_with fail;go_ret2;exact z.a _ a9.a _ k5.a
     have b0:(i3:Int)<y5:=O;obtain⟨rfl,d1⟩|⟨x8,d1⟩:=h8;rotate_left
     .have k5:=X d1;clear d1 b7 a8 g5 g4 V y8 G b6 k8;go_wp2_with fail;go_ret2;exact z.a _ a9.a _ k5.a
     obtain⟨xl,yl,hx,hy,M⟩:=a8.a y6 O;obtain⟨x,t0,rfl⟩:∃x,r[2*y6]?=S x/\x.data.toList=xl:=by rw[YN]at hx;exact Xp.1 hx
     obtain⟨y,m6,rfl⟩:∃y,r[2*y6+1]?=S y/\y.data.toList=yl:=by rw[YN]at hy;exact Xp.1 hy
     have k4:y6<f.length:=O;have f2:Y ((LSt.of p).paths (f[y6]).1=(f[y6]).2->fk (LSt.of p) (f.drop y6)=fk (LSt.of p) (f.drop (y6+1))):=X λh=>MH k4 h;have d3:Y (¬ (LSt.of p).paths (f[y6]).1=(f[y6]).2->fk (LSt.of p) (f.drop y6)=xJ ([102,97,105,108,32,68]++Lib.decDigits (f[y6]).1++[32]++Lib.decDigits ((LSt.of p).paths (f[y6]).1))):=X λh=>MI k4 h;obtain⟨t4,_,f5,f6⟩:=NL M;generalize f[y6]=c at f2 d3 f5 f6 M;obtain⟨d,nn⟩:=c;simp only at f2 d3 f5 f6;obtain⟨h9,x3,p0⟩:=JB f5;have c5:x.size=3:=t4;have u:=(J4 f6).2;obtain⟨i4,r5⟩:∃i1,i1=i3+1:=⟨_,R⟩;obtain⟨i5,v0⟩:∃i2,i2=i3+2:=⟨_,R⟩;have g7:Y (∀g,Gr w9 g->g.cell? ⟨P,i3,N⟩=S (Zb x)):=X λg q=>by rw[G];exact V.a _ q _ x t0
     have g8:Y (∀g,Gr w9 g->g.cell? ⟨P,i4,N⟩=S (Zb y)):=X λg q=>by rw[r5,G];exact V.a _ q _ y m6
     have cx:=g7.a _ b7;have v1:IntKind.i64.wrap ((i3:Int)+1)=(i4:Int):=Vc;have v2:IntKind.i64.wrap ((i3:Int)+2)=(i5:Int):=Vc;have b1:(i4:Int)<y5:=O;have b2:0<=(i4:Int):=O;have b3:0<=(i3:Int):=O;have w7:=y8.a y (Wm m6);have sB:=LY x c5;have l:Y (∀W,Calls prog 162 #[Zb ⟨(x.data.toList.drop 2).toArray⟩,I L 1] W λe w'=>e=Zd (I L d)/\w'=W):=X λW=>(pn _ Um 1 W).mono λe w' h=>⟨by rw[h.1,Jr];unfold depI;rw[f5],h.2⟩;have D:Y (∀W,Calls prog 199 #[Zb y,I L 9,I L 999999999] W λe w'=>e=Zd (I L nn)/\w'=W):=X λW=>(ry 9 999999999 O y Vk W).mono λe w' h=>⟨by rw[h.1,RI,f6],h.2⟩;have z5:=X (g5.a d p0);have f1:=g4.a d p0;have t1:(x.data.toList.drop 2).length<=1:=by rw[List.length_drop];omega
     rw[<-h9]at t1;rw[<-h9]at sB l;have v5:Y (∀g,Gr w9 g->g.heap[B]?=S (Z A 70)):=X λg q=>(Zz q (xe n1.a)).trans n1.a;have n2:=v5.a _ b7;have d2:=X d1;have h1:Y (i5=2*(y6+1)+4):=X O;clear hx hy t0 m6 M t4 f5 f6 h9 b7 a8 g5 g4 V y8 k4 d1 G b6 k8 r5 v0 r4 u;by_cases c4:(LSt.of p).paths d=nn
     .have w2:Y (fk (LSt.of p) f=fk (LSt.of p) (f.drop (y6+1))):=X (d2.a.trans (f2.a c4));clear f2 d3;rw[c4]at z5;have nq:((nn:Int) != (nn:Int))=Zl:=WU;have s8:IntKind.i64.wrap (nn:Int)=nn:=Vc;clear c4 f1;go_wp2_with(first
       | (go_at_call 162;refine(l.a _).mono ?_;rintro e wq ⟨rfl,rfl⟩)
       | (go_at_call 163;refine(z5.a _).mono ?_;rintro e wz ⟨rfl,d4⟩;have z4:=Gr.trans a9.a d4;have cy:=g8.a _ z4;have k0:=X z4;clear d4 z4)
       | (go_at_call 199;refine(D.a _).mono ?_;rintro e wq ⟨rfl,f3⟩;have f4:=f3.symm;subst f4;clear f3)
       | (refine ZD B A n2 hz ?_))
      go_roundg (gk-1)
      case measure=>omega
      case rel=>exact⟨y6+1,i5,[112,97,115,115],O,h1,R,R,Zi ⟨R,w2.a⟩,k0.a⟩
     .have l5:Y ((⟨([102,97,105,108,32,68]++Lib.decDigits d++[32]++Lib.decDigits ((LSt.of p).paths d)).toArray⟩:I4)=fk (LSt.of p) f):=X (d2.a.trans (d3.a c4)).symm;have p7:Y (∀g,ZL 75 #[I Zh ((LSt.of p).paths d:Nat)] g (Zb ⟨(Lib.decDigits ((LSt.of p).paths d)).toArray⟩)):=X λg=>dM _ f1 g;have p8:=dz 18 ((LSt.of p).paths d) O;have nq:((((LSt.of p).paths d:Nat):Int) != (nn:Int))=Zk:=V3;have s8:IntKind.i64.wrap (((LSt.of p).paths d:Nat):Int)=(((LSt.of p).paths d:Nat):Int):=Vc;generalize (LSt.of p).paths d=pv at z5 l5 p7 p8 nq s8 f1 c4;have a1:∀W,(Op.stringOp .add ⟨#[102,97,105,108,32,68]⟩ ⟨(Lib.decDigits d).toArray⟩).run prog W=.ok (Zb ⟨([102,97,105,108,32,68]++Lib.decDigits d).toArray⟩) W:=λW=>by have e:=uu ⟨#[102,97,105,108,32,68]⟩ ⟨(Lib.decDigits d).toArray⟩ (by show 6+(Lib.decDigits d).toArray.size<_;rw[Ya];omega) W;rw[e];congr 2
      have a2:∀W,(Op.stringOp .add ⟨([102,97,105,108,32,68]++Lib.decDigits d).toArray⟩ ⟨#[32]⟩).run prog W=.ok (Zb ⟨([102,97,105,108,32,68]++Lib.decDigits d++[32]).toArray⟩) W:=λW=>by have e:=uu ⟨([102,97,105,108,32,68]++Lib.decDigits d).toArray⟩ ⟨#[32]⟩ (by show(List.toArray _).size+1<_;rw[Ya,qZ];simp only[Yq,XN];omega) W;rw[e];congr 2
      have a3:∀W,(Op.stringOp .add ⟨([102,97,105,108,32,68]++Lib.decDigits d++[32]).toArray⟩ ⟨(Lib.decDigits pv).toArray⟩).run prog W=.ok (Zb ⟨([102,97,105,108,32,68]++Lib.decDigits d++[32]++Lib.decDigits pv).toArray⟩) W:=λW=>by have e:=uu ⟨([102,97,105,108,32,68]++Lib.decDigits d++[32]).toArray⟩ ⟨(Lib.decDigits pv).toArray⟩ (by show(List.toArray _).size+(List.toArray _).size<_;rw[Ya,Ya,qZ,qZ];simp only[Yq,XN];omega) W;rw[e];congr 2
      have hF:([102,97,105,108,32,68]++Lib.decDigits d++[32]++Lib.decDigits pv==[112,97,115,115])=Zl:=R;generalize [102,97,105,108,32,68]++Lib.decDigits d++[32]++Lib.decDigits pv=F4 at a3 l5 hF;generalize [102,97,105,108,32,68]++Lib.decDigits d++[32]=F3 at a2 a3;generalize [102,97,105,108,32,68]++Lib.decDigits d=F2 at a1 a2;generalize Lib.decDigits d=xd at a1 sB l t1;clear c4 f2 d3 p8 d2;go_upto_region 23 with(first
       | (go_at_call 162;refine(l.a _).mono ?_;rintro e wq ⟨rfl,rfl⟩)
       | (go_at_call 163;refine(z5.a _).mono ?_;rintro e wz ⟨rfl,d4⟩;have z4:=Gr.trans a9.a d4;have cy:=g8.a _ z4;have k0:=X z4;clear d4 z4)
       | (go_at_call 199;refine(D.a _).mono ?_;rintro e wq ⟨rfl,f3⟩;have f4:=f3.symm;subst f4;clear f3)
       | (refine ZD B A n2 hz ?_))
      have g9:Gr w9 wz.drew:=Gr.trans k0.a (Gr.refl wz).drew;refine ZT (S:=λg=>Gr w9 g) WR g9 (λb=>?_);refine tq 0 (Zq (S ⟨P,0,N⟩) y5 cap) b ?_;refine tq 1 (I L i3) b ?_;refine tq 2 (.pointer (S ⟨P,i3,N⟩)) b ?_;refine ZB 3 (Zb x) R (λw hw=>by have e0:=g7.a w hw;go_simp) b ?_;refine tq 4 (Zb ⟨xd.toArray⟩) b ?_;refine tq 5 (Zb ⟨F2.toArray⟩) b ?_;refine tq 6 (Zb ⟨F3.toArray⟩) b ?_;refine tq 7 (I Zh pv) b ?_;refine rd 8 λK hK=>?_;go_simp;refine(p7.a _).mono ?_;rintro e w4 ⟨rfl,r0⟩;have d5:=Gr.trans b r0;refine hK.out _ _ d5 λb=>?_;clear hK K;try simp only[py]
      refine tq 9 (Zb ⟨F4.toArray⟩) b ?_;refine tq 10 (Zb ⟨F4.toArray⟩) b ?_;refine ZZ WR ?_ _;have r1:=X d5;clear b d5 r0 g9;go_wp2_with fail;go_roundg (gk-1)
      case measure=>omega
      case rel=>exact⟨y6+1,i5,F4,O,h1,R,R,Zj ⟨hF,l5.a⟩,r1.a⟩
def PX(s:LSt)(c a:I1)(b:Bool):Option (I3):=if b=Zk then
  (if(c==[101,112,100])=Zk then(recP posP a).map λq=>[fk (LSt.of q.1) q.2]
  else if(c==[112,101,114,102,116])=Zk then(df 0 a).map λd=>[kt (s.paths d)]
  else if(c==[99,111,109,112,97,114,101])=Zk then(df 0 a).map λd=>[⟨#[115,97,109,101,32]⟩++kt (s.paths d)]
  else if(c==[100,105,118,105,100,101])=Zk then(df 1 a).map λd=>Hq (d-1) s
  else N)
 else(ox s c).map (·.2)
def pF(base:Nat)(r:Option (I3))(e:Ending)(w':I6):Prop:=match r with
 | none=>e=Zd (Zq N 0 0)
 | some l=>∃v,e=Zd v/\l≠[]/\yt base v l w'
theorem NO(W:I6)(S:I4)(base:Nat)(h:base<=W.heap.size):yt base (Zq (some ⟨W.heap.size,0,N⟩) 1 1) [S] (W.alloc (Z #[Zb S] 9)) :=
 ⟨R,Zj ⟨W.heap.size,1,_,R,h,ZQ W _,Zy,WW,R,R⟩⟩
theorem Qb{S:I4}{r:Option (I3)}(b:r=some [S])(h:base<=W.heap.size)(a:Gr w W):pF base r (Zd (Zq (some ⟨W.heap.size,0,N⟩) 1 1)) (W.alloc (Z #[Zb S] 9))/\Gr w (W.alloc (Z #[Zb S] 9)):=by subst b;exact⟨⟨_,R,WU,NO W S base h⟩,Gr.trans a ZN⟩
theorem Ho(y:I1):∀a:List (I1),a≠[]->Lib.join (a++[y]) [32]=Lib.join a [32]++[32]++y
 | [],h=>absurd R h
 | [x],_=>by rw[List.singleton_append,jo2,Lib.join_one,Lib.join_one];simp
 | x :: z :: r,_=>by
  have e:=Ho y (z :: r) WU;rw[YA,YA,jo2,jo2,<-YA,e];simp
theorem Jb:∀a:List (I1),(∀x∈a,x.length<=5)->(Lib.join a [32]).length<=6*a.length
 | [],_=>by simp[Lib.join]
 | [x],h=>by rw[Lib.join_one];have:=h x WU;simp;omega
 | x :: z :: r,h=>by
  have e:=Jb (z :: r) (λq b=>h q (by simp at b |-;right;exact b));have:=h x WU;rw[jo2,qZ,Yq];simp only[Yq]at e |-;omega
theorem Qq(x:Mv):yJ x≠[]:=by
 obtain⟨f,t,u⟩:=x;intro h;have:(uY f t u).length=0:=by rw[show uY f t u=[]from h];rfl
 unfold uY at this;simp[xQ]at this
theorem MZ{s:LSt}(a:s.ok):yY s.z s.wh s.fc s.b=jI s.mov:=qk3 (Ok.good a) (Ok.b0 a) (Ok.b1 a)
theorem LA{s:LSt}(l:s.row PA)(S:s.ok)(a:I1)(w:I6) :
 Calls prog 74 #[Zc PA,Zb ⟨#[109,111,118,101,115]⟩,Zb ⟨a.toArray⟩,Za Zl] w λe w'=>pF w.heap.size (some [KY s]) e w'/\Gr w w':=by
 have hz:=jE.size l;have n:Y (∀W:I6,Calls prog 54 #[Zc PA] W λe w'=>∃v,e=Zd v/\np W.heap.size v (jI s.mov) w'/\Gr W w'):=X λW=>by rw[<-MZ S];exact JD S l W
 have D:Y (∀x∈jI s.mov,bi x):=X λx hx=>zg _ _ _ _ x ((xq _).mem_iff.1 hx);have b4:(jI s.mov).length<=20480:=by rw[<-MZ S];exact iW _ _ _ _ 64
 have m:Y (KY s=if jI s.mov=[]then⟨#[110,111,110,101]⟩else xJ (Lib.join ((jI s.mov).map yJ) [32])):=X (by
  have:jI s.mov=[]↔s.mov=[]:=by rw[<-Yz,<-Yz,qj7]
  unfold KY;by_cases h:s.mov=[]
  .rw[qI h,qI (this.2 h)];rfl
  .rw[qF h,qF (λq=>h (this.1 q))])
 generalize jI s.mov=i at n D b4 m;generalize KY s=MT at m |-;have G:(w.alloc (Z PA 70)).heap[w.heap.size]?=some (Z PA 70):=ZQ w _;have H:Gr w (w.alloc (Z PA 70)):=ZN;have a4:=qx l;clear l S;go_enter func74,ntmps74;go_upto_region 1 with fail;generalize w.alloc (Z PA 70)=w1 at G H |-;go_upto_region 3 with(first
  | (refine ZD w.heap.size PA G hz ?_)
  | (go_at_call 54;refine(n.a _).mono ?_;rintro e w2 ⟨v,rfl,hv,M⟩;obtain⟨pp,cap,rfl,a5,b3⟩:=bt hv))
 have a0:=X (Gr.trans H M);have p:=X b3;clear n hv H M G b3 a4;go_wp2_with fail;go_loopg [10,11] i.length (λgk sv iv wr=>∃(k:Nat)(o:I1),k+gk=i.length/\iv=I L k/\sv=Zb ⟨o.toArray⟩/\o=Lib.join ((i.take k).map yJ) [32]/\Gr w2 wr)
 case atStart=>exact⟨0,[],O,R,R,by simp[Lib.join],ZO⟩
 case round=>
  obtain⟨k,o,k1,rfl,rfl,b,d⟩:=hrel;have E:o.length<=200000:=by have:=Jb ((i.take k).map yJ) (λx hx=>by obtain⟨q,_,rfl⟩:=YL.1 hx;exact wg q);rw[<-b,YD,Xt]at this;omega
  by_cases b2:k<i.length
  .obtain⟨g,rfl,V,x1,x2⟩:=p.a k b2;have j:g<w2.heap.size:=Zx V;have V:=(ZW d j).trans V;have x1:=(ZW d j).trans x1;have x2:=(ZW d j).trans x2;have B:bi i[k]:=D.a _ (Xs _);have A:i.take (k+1)=i.take k++[i[k]]:=Yd b2;have a3:(k:Int)<(i.length:Int):=O;have a6:0<=(k:Int):=O;generalize i[k]=y at V x1 x2 B A;obtain⟨f,t,u⟩:=y;have hN:Y (∀W,ZL 55 #[Zc (ZJ f t u)] W (Zb ⟨(yJ (f,t,u)).toArray⟩)):=X (λW=>mZ f t B.1 B.2 u W);have Q:=wg (f,t,u);have F:=X d;by_cases a1:k=0
   .have z:Y (yJ (f,t,u)=Lib.join ((i.take (k+1)).map yJ) [32]):=X (by rw[A,a1];simp[Lib.join_one]);have J:o=[]:=by rw[b,a1];simp[Lib.join]
    subst J;have a2:∀W,(Op.stringOp .add ⟨#[]⟩ ⟨(yJ (f,t,u)).toArray⟩).run prog W=.ok (Zb ⟨(yJ (f,t,u)).toArray⟩) W:=λW=>by have e:=uu ⟨#[]⟩ ⟨(yJ (f,t,u)).toArray⟩ (by show 0+(yJ (f,t,u)).toArray.size<_;rw[Ya];omega) W;rw[e];congr 2
    generalize yJ (f,t,u)=T5 at hN z a2 Q;subst a1;clear b d B A E j;go_wp2_with(go_at_call 55;refine Z0 (hN.a _) λw3 b0=>?_);go_roundg (gk-1)
    case measure=>omega
    case rel=>exact⟨1,_,O,R,R,z.a,Gr.trans F.a b0⟩
   .have z:Y (o++[32]++yJ (f,t,u)=Lib.join ((i.take (k+1)).map yJ) [32]):=X (by
     rw[A,Ys];show _=Lib.join ((i.take k).map yJ++[yJ (f,t,u)]) [32]
     rw[Ho _ _ (by
      intro h;have:(i.take k).length=0:=by rw[<-YD (f:=yJ),h];rfl
      rw[Xt]at this;omega),<-b])
    have a7:(0:Int)<(k:Int):=O;have a2:∀W,(Op.stringOp .add ⟨o.toArray⟩ ⟨#[32]⟩).run prog W=.ok (Zb ⟨(o++[32]).toArray⟩) W:=λW=>by have e:=uu ⟨o.toArray⟩ ⟨#[32]⟩ (by show o.toArray.size+1<_;rw[Ya];omega) W;rw[e];congr 2
    have a9:∀W,(Op.stringOp .add ⟨(o++[32]).toArray⟩ ⟨(yJ (f,t,u)).toArray⟩).run prog W=.ok (Zb ⟨(o++[32]++yJ (f,t,u)).toArray⟩) W:=λW=>by have e:=uu ⟨(o++[32]).toArray⟩ ⟨(yJ (f,t,u)).toArray⟩ (by show(o++[32]).toArray.size+(yJ (f,t,u)).toArray.size<_;rw[Ya,Ya,qZ];show o.length+1+_<_;omega) W;rw[e];congr 2
    generalize o++[32]++yJ (f,t,u)=o2 at z a9;generalize o++[32]=o1 at a2 a9;generalize yJ (f,t,u)=T5 at hN a9 Q;clear b d B A E j a1;go_wp2_with(go_at_call 55;refine Z0 (hN.a _) λw3 b0=>?_);go_roundg (gk-1)
    case measure=>omega
    case rel=>exact⟨k+1,_,O,Vg,R,z.a,Gr.trans F.a b0⟩
  .have ek:k=i.length:=O;have a3:¬ (k:Int)<(i.length:Int):=O;have C:=Gr.trans a0.a d;have P:=ZR C;have K:=X C;rw[ek,XA]at b;by_cases T:i=[]
   .have J:o=[]:=by rw[b,T];simp[Lib.join]
    subst J;have b1:Y (some [MT]=some [(⟨#[110,111,110,101]⟩:I4)]):=X (by rw[m.a,qI T]);clear b d m D p E C;go_wp2_with fail;go_ret;exact Qb b1.a P K.a
   .have b1:Y (some [MT]=some [(⟨o.toArray⟩:I4)]):=X (by rw[m.a,qF T,b];rfl);have a8:(o==[])=Zl:=by rw[qM,b];obtain⟨x,r,hr⟩:=XI T;rw[hr,YM,Lib.join_cons];intro h;exact Qq x (List.append_eq_nil_iff.1 h).1
    clear b d m D p E C;go_wp2_with fail;go_ret;exact Qb b1.a P K.a
theorem Lq(z:I2)(c:Bool)(n:Int):yO z c n=0\/yO z c n=1\/yO z c n=2\/yO z c n=3:=by
 unfold yO;split
 .split<;>simp
 .split<;>simp
theorem TR(w:I6):(Instr.index 238 (Zc #[Zb ⟨#[111,112,101,110]⟩,Zb ⟨#[109,97,116,101]⟩,Zb ⟨#[115,116,97,108,101,109,97,116,101]⟩,Zb ⟨#[100,101,97,100]⟩]) (I L 0)).run prog w=.ok (Zb ⟨#[111,112,101,110]⟩) w:=WR
theorem TQ(w:I6):(Instr.index 238 (Zc #[Zb ⟨#[111,112,101,110]⟩,Zb ⟨#[109,97,116,101]⟩,Zb ⟨#[115,116,97,108,101,109,97,116,101]⟩,Zb ⟨#[100,101,97,100]⟩]) (I L 1)).run prog w=.ok (Zb ⟨#[109,97,116,101]⟩) w:=WR
theorem TO(w:I6):(Instr.index 238 (Zc #[Zb ⟨#[111,112,101,110]⟩,Zb ⟨#[109,97,116,101]⟩,Zb ⟨#[115,116,97,108,101,109,97,116,101]⟩,Zb ⟨#[100,101,97,100]⟩]) (I L 2)).run prog w=.ok (Zb ⟨#[115,116,97,108,101,109,97,116,101]⟩) w:=WR
theorem TN(w:I6):(Instr.index 238 (Zc #[Zb ⟨#[111,112,101,110]⟩,Zb ⟨#[109,97,116,101]⟩,Zb ⟨#[115,116,97,108,101,109,97,116,101]⟩,Zb ⟨#[100,101,97,100]⟩]) (I L 3)).run prog w=.ok (Zb ⟨#[100,101,97,100]⟩) w:=WR
theorem ixo{a:Int}(h:a=0\/a=1\/a=2\/a=3)(w:I6):(Instr.index 238 (Zc #[Zb ⟨#[111,112,101,110]⟩,Zb ⟨#[109,97,116,101]⟩,Zb ⟨#[115,116,97,108,101,109,97,116,101]⟩,Zb ⟨#[100,101,97,100]⟩]) (I L a)).run prog w=.ok (Zb ⟨(rx a).toArray⟩) w:=by
 obtain rfl|rfl|rfl|rfl:=h
 .exact TR w
 .exact TQ w
 .exact TO w
 .exact TN w
theorem NM{a:Int}(h:a=0\/a=1\/a=2\/a=3):(rx a).length<=9:=by rcases h with rfl|rfl|rfl|rfl<;>decide
theorem MX{s:LSt}(f:s.row PA)(o:s.ok)(a:I1)(w:I6) :
 Calls prog 74 #[Zc PA,Zb ⟨#[108,111,111,107]⟩,Zb ⟨a.toArray⟩,Za Zl] w λe w'=>pF w.heap.size (S [HD s]) e w'/\Gr w w':=by
 have K:=jE.size f;obtain⟨c0,c1,c2,c3⟩:=Ok.clk o;obtain⟨G,H⟩:=Ok.king o;have d:Y (∀W:I6,ZL 112 #[Zc PA] W (Zc (xB (kz s.z s.wh) (s.mov.length:Int) (yO s.z (kz s.z s.wh) (s.mov.length:Int))))):=X (λW=>eL f (Ok.good o) (Ok.b0 o) (Ok.b1 o) c0 c1 c2 c3 G H W);have b:Y (HD s=xJ (rx (yO s.z (kz s.z s.wh) (s.mov.length:Int))++if kz s.z s.wh=Zk then[32,99,104,101,99,107]else[])):=X R;have v:=Lq s.z (kz s.z s.wh) (s.mov.length:Int);generalize yO s.z (kz s.z s.wh) (s.mov.length:Int)=n at d b v;generalize kz s.z s.wh=j at d b;generalize (s.mov.length:Int)=u at d;generalize HD s=E at b |-;have k:(w.alloc (Z PA 70)).heap[w.heap.size]?=S (Z PA 70):=ZQ w _;have l:Gr w (w.alloc (Z PA 70)):=ZN;have C:=qx f;clear f o c0 c1 c2 c3 G H;go_enter func74,ntmps74;go_upto_region 1 with fail;generalize w.alloc (Z PA 70)=w1 at k l |-;go_upto_region 15 with(first
  | (refine ZD w.heap.size PA k K ?_)
  | (go_at_call 112;refine Z0 (d.a _) λg q=>?_;have D:=Z7 g (Z #[Za Zl,I L 0,I L 0] 186))
  | (refine ZU R 186 _ _ R g.heap.size (xB j u n) R R 186 #[Za Zl,I L 0,I L 0] (by with_reducible exact D) vI R (xw _ _ _) ?_))
 have m:Gr g ((g.alloc (Z #[Za Zl,I L 0,I L 0] 186)).setRow g.heap.size (xB j u n)):=ZN.setRow _ Zy _;have h:((g.alloc (Z #[Za Zl,I L 0,I L 0] 186)).setRow g.heap.size (xB j u n)).heap[g.heap.size]?=S (Z (xB j u n) 186):=Zt D;generalize (g.alloc (Z #[Za Zl,I L 0,I L 0] 186)).setRow g.heap.size (xB j u n)=P at m h |-;generalize g.heap.size=F at h |-;have M:P.cell? ⟨F,0,N⟩=S (Za j):=by rw[Zs h];rfl
 have T:P.cell? ⟨F,2,N⟩=S (I L n):=by rw[Zs h];rfl
 have y:=Gr.trans l (Gr.trans q m);have r:=ZR y;have p:=X y;clear l q m k h d C D y;have A:=ixo v;have B:=NM v;clear v;generalize rx n=i at A B b;cases j
 .have x:Y (S [E]=S [(⟨i.toArray⟩:I4)]):=X (by rw[b.a];simp[xJ]);clear b;go_wp2_with fail;go_ret;exact Qb x.a r p.a
 .have x:Y (S [E]=S [(⟨(i++[32,99,104,101,99,107]).toArray⟩:I4)]):=X (by rw[b.a];simp[xJ]);have J:∀W,(Op.stringOp .add ⟨i.toArray⟩ ⟨#[32,99,104,101,99,107]⟩).run prog W=.ok (Zb ⟨(i++[32,99,104,101,99,107]).toArray⟩) W:=λW=>by have e:=uu ⟨i.toArray⟩ ⟨#[32,99,104,101,99,107]⟩ (by show i.toArray.size+6<_;rw[Ya];omega) W;rw[e];congr 2
  generalize i++[32,99,104,101,99,107]=Q at x J;clear b;go_wp2_with fail;go_ret;exact Qb x.a r p.a
end Go.Proofs.YtnfakamfmkhlbabGreatDoor.C
