import Derived.Test.YtnfakamfmkhlbabGreatDoorB8
set_option maxRecDepth 100000
set_option maxHeartbeats 4000000
set_option linter.all false
open Go.Value renaming int->I,bool->Za,string->Zb,agg->Zc,tuple->Ze,slice->Zq
open Go.IntKind renaming i64->L,u8->Zg,u64->Zh
open Go.Obj renaming cells->Z
open Go.Ending renaming returned->Zd
open Or renaming inl->Zi,inr->Zj
open Option renaming some->S,none->N
open Bool renaming true->Zk,false->Zl
open Decidable renaming decide->Zm
open Go.RowKit renaming Hid->Y
open Go renaming World->I6,Value->I7
namespace Go.Proofs.YtnfakamfmkhlbabGreatDoor.C
open Go.ChangeShapes Go.WideShapes Go.ChangeAt Go.RowKit Go.Shelf Go.Proofs.YtnfakamfmkhlbabGreatDoor.P Tryz
attribute [local go_sem] qd qe Oper.semAt_some
variable {z:I2}{wh:Bool}{b h m:Int}{PA A M:I0}{fc:I5}{w W a w' w1 V:I6}{f n i k g base d e l j x B Bp:Nat}{v:I7}{u:UInt8}{Q:Nat->Obj->Prop}{rs:I3}{y:I1}
def cW(z:I2)(most:Nat)(xs:List Nat):List Nat:=(xs.take most).takeWhile λv=>z v==46
theorem ue{p:Nat->Bool}:∀(l:List Nat),(∀v∈l,p v=Zk)->∀r,(l++r).takeWhile p=l++r.takeWhile p:=by simp_all
theorem ld{most:Nat}{a f:List Nat}{y:Nat}(h:a++[y] <+: f)(i:∀v∈a,z v=46)(l:a.length<=most)(d:a.length=most\/z y≠46):cW z most f=a:=by
 obtain⟨r,rfl⟩:=h;have b:∀v∈a,(z v==46)=Zk:=λv j=>by rw[i v j];rfl
 unfold cW;rw[qS,List.take_append];by_cases e:a.length=most
 .rw[Yk O,show most-a.length=0 from O,List.take_zero,ue a b];simp
 .obtain d|d:=d
  .exact absurd d e
  .obtain⟨k,g⟩:∃k,most-a.length=k+1:=⟨most-a.length-1,O⟩;rw[Yk O,g,ue a b];simp[d]
theorem Cq{most:Nat}{a e:List Nat}{y:Nat}(h:a++[y] <+: e)(f:∀v∈a,z v=46)(i:a.length<most)(g:z y=46):a++[y] <+: cW z most e:=by
 obtain⟨r,rfl⟩:=h;have d:∀v∈a++[y],(z v==46)=Zk:=λv b=>by
  obtain b|b:=Yi.1 b
  .rw[f v b];rfl
  .rw[qT.1 b,g];rfl
 unfold cW;rw[List.take_append,Yk WX,ue _ d];exact Xz _ _
theorem Ez{most:Nat}{a:List Nat}(d:∀v∈a,z v=46)(b:a.length<=most):cW z most a=a:=by unfold cW;rw[Yk b];have:=ue a (p:=λv=>z v==46) (λv e=>by rw[d v e];rfl) [];exact OY
structure Ah(z:I2)(wh:Bool)(fc:I5)(b:Int)(f:Nat)(a c:Int)(most B1 B2 B3 B4 Bp:Nat)(W:I6):Prop where
 b1:W.cell? ⟨B1,0,N⟩=some (ZI Bp)
 b2:W.cell? ⟨B2,0,N⟩=some (I L f)
 b3:W.cell? ⟨B3,0,N⟩=some (I L a)
 b3':W.cell? ⟨B3,1,N⟩=some (I L c)
 b4:W.cell? ⟨B4,0,N⟩=some (I L most)
 ps:Ps z wh fc b Bp W
theorem Ah.fr{a c:Int}{most m:Nat}{n:I6}(h:Ah z wh fc b f a c most i j l m Bp W)(g:Fr Q W n)(d:∀k o,(k=i\/k=j\/k=l\/k=m\/k=Bp)->W.heap[k]?=some o->Q k o):Ah z wh fc b f a c most i j l m Bp n :=
 ⟨g.cell h.b1 (λo e=>d _ o WU e),g.cell h.b2 (λo e=>d _ o WU e),g.cell h.b3 (λo e=>d _ o WU e),g.cell h.b3' (λo e=>d _ o WU e),g.cell h.b4 (λo e=>d _ o WU e),h.ps.fr g (λo e=>d _ o WU e)⟩
theorem Ah.gr{a c:Int}{most:Nat}{k:I6}(h:Ah z wh fc b f a c most d e i j Bp W)(g:Gr W k):Ah z wh fc b f a c most d e i j Bp k:=h.fr (Q:=λ_ _=>True) (Fr.of_gr g) (λ_ _ _ _=>trivial)
theorem Ah.lt{a c:Int}{most:Nat}(h:Ah z wh fc b f a c most d e g i Bp W):∀k,(k=d\/k=e\/k=g\/k=i\/k=Bp)->k<W.heap.size:=by
 rintro k (rfl|rfl|rfl|rfl|rfl)
 .exact Zx h.b1
 .exact Zx h.b2
 .exact Zx h.b3
 .exact Zx h.b4
 .exact h.ps.lt
theorem wS(hf:f<64){a c:Int}(g9:small (a,c))(g6:a≠0\/c≠0){most:Nat}(k2:most<=2){K L E B4:Nat}(T:Obj->Prop)(r:z6 T)(w:I6)(hw:Ah z wh fc b f a c most K L E B4 Bp w) :
 It prog 315 #[ZI K,ZI L,ZI E,ZI B4] yh T (λk=>k=K\/k=L\/k=E\/k=B4\/k=Bp) (cW z most (kq z (a,c) f)) w:=by
 intro l B J Jx W f0 hB hJ c6 hY h0;have hW:=hw.fr f0 (λk o hk _=>hk);clear f0 hw;refine(ZY (n:=9)).1 ?_;refine callsIn_of_wp_marks func315 rfl trivial ?_ R;simp only[ntmps315,Nat.reduceAdd,Nat.reduceSub,Zr];refine Z9.2 ?_;obtain⟨x1,x2⟩:=x6 W (Z #[.func (.yield l) #[] #[]] 255) (Z #[I .i64 0] 3);have k9:Gr W ((W.alloc (Z #[.func (.yield l) #[] #[]] 255)).alloc (Z #[I .i64 0] 3)):=ZN.al;have a8:((W.alloc (Z #[.func (.yield l) #[] #[]] 255)).alloc (Z #[I .i64 0] 3)).heap.size=W.heap.size+2:=WU;go_upto_region 2 with fail;generalize ((W.alloc (Z #[.func (.yield l) #[] #[]] 255)).alloc (Z #[I .i64 0] 3))=w2 at x1 x2 k9 a8 |-;have m:=hW.gr k9;have c1:=m.b1;have c2:=m.b2;have c3:=m.b3;have c4:=m.b3';have a4:Y (∀w',Gr w2 w'->Gr w2 w'/\w'.cell? ⟨K,0,N⟩=some (ZI Bp)/\w'.cell? ⟨L,0,N⟩=some (I .i64 f)/\w'.cell? ⟨E,0,N⟩=some (I .i64 a)/\w'.cell? ⟨E,1,N⟩=some (I .i64 c)):=X (λw' g=>⟨g,(m.gr g).b1,(m.gr g).b2,(m.gr g).b3,(m.gr g).b3'⟩);have d5:=X (λW=>dB Bp f a c W);go_region_held3 (λw'=>Gr w2 w'/\w'.cell? ⟨K,0,N⟩=some (ZI Bp)/\w'.cell? ⟨L,0,N⟩=some (I .i64 f)/\w'.cell? ⟨E,0,N⟩=some (I .i64 a)/\w'.cell? ⟨E,1,N⟩=some (I .i64 c)) (first|exact a4.a _ ZO.drew|exact a4.a _ ‹_›) (first|(go_at_call 147;refine(d5.a _).mono ?_;rintro e w6 ⟨rfl,Q,d2,f5⟩;have P:=Gr.trans (Gr.refl w2).drew d2));go_wp2_with fail;have a3:=Gr.trans k9 P;have M:=hW.gr a3;have f6:w2.drew.heap.size=W.heap.size+2:=a8;rw[f6]at Q f5;have g3:=hJ _ _ _ h0 (Fr.of_gr a3);have k0:=(ZE P x1);have k1:=(ZE P x2);have g8:W.heap.size+2+3<=w6.heap.size:=O;have H:=hW.lt;have l5:Bp<W.heap.size:=hW.ps.lt;clear f5 d2 P a3 x1 x2 k9 a8 f6 m c1 c2 c3 c4 a4 d5 hW h0;generalize W.heap.size=p at hB Q g8 k0 k1 l5 H |-;have d3:=M.lt;have f7:=Q.wk M.ps.bd;have l2:B<=w6.heap.size:=O;have f1:∀{D:Nat}{V:I6},w6.heap.size<=D->V.heap[D]?=some (.deferred (some []))->zY B [D] V:=λhD hK=>⟨WU,λD' c5=>by rw[qT]at c5;subst c5;exact⟨O,hK⟩⟩;refine Z9.1 (xj (n:=9) (gf:=220) (lb:=wkA (p+2)) R (YC func220 WR R)
  (dC z f hf a c g9 g6 (p+2+1) (p+2+2) (p+2) Bp T w6 f7) r.cells (by rintro j (rfl|rfl|rfl|rfl);exact O;exact O;exact O;exact M.ps.lt) ZP (λ_=>R)
  (λd V=>Ah z wh fc b f a c most K L E B4 Bp V/\ap Bp f a c (p+2) V/\V.heap[p]?=some (Z #[.func (.yield l) #[] #[]] 255)/\V.heap[p+1]?=some (Z #[I .i64 (d.length:Int)] 3)/\(∀v∈d,z v=46)/\d.length<=most/\J d V)
  (λk _ V=>k=.ret/\(J (cW z most (kq z (a,c) f)) V\/∃q,q <+: cW z most (kq z (a,c) f)/\Jx q V))
  ?sI ?sX ⟨M,Q,k0,k1,λv hv=>absurd hv XC,Nat.zero_le _,g3⟩ ?rnd ?done ?stop)
 case sI=>exact λs V V' h g=>⟨h.1.fr g (λk o hk _=>Zi (d3 k hk)),⟨g.same _ _ h.2.1.b0 (Zi O),g.same _ _ h.2.1.b1 (Zi O),g.same _ _ h.2.1.b2 (Zi O)⟩,g.same _ _ h.2.2.1 (Zi O),g.same _ _ h.2.2.2.1 (Zi O),h.2.2.2.2.1,h.2.2.2.2.2.1,qo hJ l2 _ _ _ h.2.2.2.2.2.2 g⟩
 case sX=>exact λk s V V' h g=>⟨h.1,h.2.imp (λh=>qo hJ l2 _ _ _ h g) (λh=>h.elim λq n=>⟨q,n.1,qo c6 l2 _ _ _ n.2 g⟩)⟩
 case done =>rintro D V hD ⟨_,_,_,_,x,A,g4⟩ hK;have e:=X (Ez x A);clear x A;go_wp2_with fail;exact xc (T:=T) results315 r.cells [D] V (f1 hD hK) (λv w' g=>⟨⟨v,R⟩,Zi (by rw[e.a];exact hJ _ _ _ g4 g)⟩)
 case stop =>rintro D k d V hD h6 ⟨rfl,g5⟩ hK;refine Z9.2 ?_;go_wp2_with fail;exact xc (T:=T) results315 r.cells [D] V (f1 hD hK) (λv w' g=>⟨⟨v,R⟩,g5.imp (λh=>hJ _ _ _ h g) (λh=>h.elim λq n=>⟨q,n.1,c6 _ _ _ n.2 g⟩)⟩)
 case rnd=>
  intro l1 d y V h8 l0 hI hl;simp only[yh];gi_wp2;refine⟨ZP,?_⟩;intro V2 f2 g1 h9;obtain⟨m,a0,a9,a5,x,A,a2⟩:=g1;have f8:y<64:=ce hf (C9 l0);have k5:0<=(y:Int):=O;have k8:(y:Int)<64:=O;have d1:=m.b1;have d4:=m.b4;have dy:=m.ps.bd y f8;have dm:=(qi a5).1;have h7:=(qi a9).1;have b6:=X m;have i:=X a0;have a1:=X a9;have l4:=X a5;have u:=X x;clear m a0 a9 a5 x hI hl f2;by_cases n:d.length=most
  .have e:=X (ld l0 u.a A (Zi n));rw[n]at dm;exact Iz
  .have g7:d.length<most:=O;have k3:((d.length:Int)==(most:Int))=Zl:=WX;by_cases G:z y=46
   .have hz:((z y).toNat:Int)=46:=by rw[G];rfl
    rw[hz]at dy;have a7:=Cq l0 u.a g7 G;obtain⟨fn,tmps,C,S,f9,hR⟩:=jb (m':=8) (hY d y V2 a7 a2);have h2:(Instr.yield l #[I .i64 y]).run prog V2=.ok (.round l fn tmps C S) V2:=f9;clear f9;have f3:=X a7;clear a7;gi_wp2;have d0:RoundIn (Fence.wide.inRound l1) 8 prog l fn tmps C S V2 (λe W'=>Fr (jM B T (λk=>k=K\/k=L\/k=E\/k=B4\/k=Bp)) V2 W'/\((e=Zd (Za Zk)/\J (d++[y]) W')\/(e=Zd (Za Zl)/\Jx (d++[y]) W'))):=hR;clear hR;refine d0.mono ?_;clear d0 h2;intro e F h4;obtain⟨f4,h4⟩:=h4;have b5:Fr (jM w6.heap.size T (λj=>j=p+2+1\/j=p+2+2\/j=p+2\/j=Bp)) V2 F:=eR f4 r l2 (by
     rintro j (rfl|rfl|rfl|rfl)
     .exact Zj (qu O WW i.a.b1)
     .exact Zj (qu O WW i.a.b2)
     .exact Zj (qu O WW i.a.b0)
     .exact Zi WU)
    obtain⟨rfl,g2⟩|⟨rfl,h1⟩:=h4
    .have b7:Ah z wh fc b f a c most K L E B4 Bp F:=b6.a.fr f4 (λk o hk _=>Zi hk);have l3:ap Bp f a c (p+2) F:=⟨(qu O WW i.a.b0).keep r f4 i.a.b0,(qu O WW i.a.b1).keep r f4 i.a.b1,(qu O WW i.a.b2).keep r f4 i.a.b2⟩;have h3:=(qu O WW a1.a).keep r f4 a1.a;have a6:=(qu O WW l4.a).keep r f4 l4.a;obtain⟨m1,m2⟩:=qi a6;have h5:=b7.lt;have k4:IntKind.i64.wrap ((d.length:Int)+1)=(d.length:Int)+1:=Vc;have fs:Fr (λk o=>k≠p+1) F (F.setCell ⟨p+1,0,N⟩ (I .i64 ((d.length:Int)+1))):=ZP.setCell _ (λo _ q=>q R);have g0:Y (Fr (jM w6.heap.size T (λj=>j=p+2+1\/j=p+2+2\/j=p+2\/j=Bp)) V2 (F.setCell ⟨p+1,0,N⟩ (I .i64 ((d.length:Int)+1)))/\Ah z wh fc b f a c most K L E B4 Bp (F.setCell ⟨p+1,0,N⟩ (I .i64 ((d.length:Int)+1)))/\ap Bp f a c (p+2) (F.setCell ⟨p+1,0,N⟩ (I .i64 ((d.length:Int)+1)))/\(F.setCell ⟨p+1,0,N⟩ (I .i64 ((d.length:Int)+1))).heap[p]?=some (Z #[.func (.yield l) #[] #[]] 255)/\(F.setCell ⟨p+1,0,N⟩ (I .i64 ((d.length:Int)+1))).heap[p+1]?=some (Z #[I .i64 ((d++[y]).length:Int)] 3)/\(∀v∈d++[y],z v=46)/\(d++[y]).length<=most/\J (d++[y]) (F.setCell ⟨p+1,0,N⟩ (I .i64 ((d.length:Int)+1)))):=X (by
      refine⟨b5.setCell _ ?_,b7.fr fs (λk o hk e he=>?_),⟨fs.same _ _ l3.b0 O,fs.same _ _ l3.b1 O,fs.same _ _ l3.b2 O⟩,fs.same _ _ h3 O,?_,?_,WX,hJ _ _ _ g2 (ZP.setCell _ ?_)⟩
      .rintro o-(q|q)
       .simp only at q;obtain q|q|q|q:=q
        .omega
        .omega
        .omega
        .have:=l5;omega
       .have:=q.1;simp only at this;omega
      .subst he;have:=H _ hk;omega
      .rw[jm a6];simp
      .intro v hv;obtain hv|hv:=Yi.1 hv
       .exact u.a v hv
       .rw[qT.1 hv];exact G
      .intro o e q;rw[a6]at e;cases e;obtain q|q:=q
       .simp only at q;omega
       .exact r.no WW q)
     gi_wp2;exact g0.a
    .gi_wp2;exact⟨b5,R,Zj ⟨_,f3.a,h1⟩⟩
   .have e:=X (ld l0 u.a A (Zj G));have hz:(((z y).toNat:Int) != 46)=Zk:=by simp only[qU];intro h;apply G;apply q6.1;have:(z y).toNat=46:=O;rw[this];rfl
    exact Iz
def zL(z:I2):List I7:=(List.range 64).map λi=>I Zg (z i).toNat
theorem ub(z:I2):(zL z).length=64:=by simp[zL]
theorem Cw(z:I2)(i:Nat)(a:i<64):(zL z)[i]?=some (I Zg (z i).toNat):=by simp[zL,a]
theorem gu(z:I2):(zL z).toArray.size=64/\∀i,i<64->(zL z).toArray[i]?=some (I Zg (z i).toNat):=⟨by simp[ub],λi a=>by rw[Xu];exact Cw z i a⟩
theorem DU(z:I2):∀v∈zL z,v.oneCell'=Zk:=by intro v a;obtain⟨i,_,rfl⟩:=YL.1 a;rfl
theorem Bz.range{a:Nat}(h:Bz z a w):w.rangeAt a 0 (zL z):=λj v b=>by
 have d:j<64:=by
  have:=(Z5.1 b).1
  rwa[ub]at this
 rw[Cw z j d]at b;rw[Z2,<-b];exact h j d
def kC(k s:Int)(i:Nat):Nat:=(k+(i:Int)*s).toNat
def wn(z:I2)(k s:Int)(n:Nat):Bool:=(List.range n).all λi=>z (kC k s (i+1))==46
def DD(z:I2)(wh:Bool)(k s:Int):Bool:=(List.range 3).all λi=>!(vL z (kC k s i) (!wh))
def az(z:I2)(wh:Bool)(k s:Int)(n:Nat):Bool:=wn z k s n&&DD z wh k s
theorem Da{k s:Int}(a:s=1\/s=-1)(b:0<=k)(d:k<=63)(e:0<=k+((n:Int)+1)*s)(f:k+((n:Int)+1)*s<=63)(g:i<=n+1):k+(i:Int)*s=(kC k s i:Nat)/\kC k s i<64/\((kC k s i:Nat):Int)+s=k+((i+1:Nat):Int)*s/\(i<=n->((kC k s i:Nat):Int)≠k+((n:Int)+1)*s):=by grind[kC]
theorem qxs(h:Ps z wh fc b Bp w)(hS:vT w)(k s:Int)(n:Nat)(hs:s=1\/s=-1)(hn:1<=n)(h0:0<=k)(h1:k<=63)(h2:0<=k+((n:Int)+1)*s)(h3:k+((n:Int)+1)*s<=63) :
 ZL 317 #[ZI Bp,I L k,I L (k+((n:Int)+1)*s),I L s] w (Za (az z wh k s n)):=by
 have d:=X (λi K=>Da (i:=i) (n:=n) hs h0 h1 h2 h3 K);have b5:-1<=s:=O;have b6:s<=1:=O;have a5:Y (k+s=(kC k s 1:Nat)):=X (by have:=(d.a 1 O).1;omega);obtain⟨E,hE⟩:∃E,Y (E=wn z k s n):=⟨_,X R⟩;obtain⟨Q,hQ⟩:∃Q,Y (Q=DD z wh k s):=⟨_,X R⟩;have hB:Y (az z wh k s n=(E&&Q)):=X (by rw[hE.a,hQ.a];rfl);have H:Y (E=(List.range n).all λi=>z (kC k s (i+1))==46):=hE;have c6:Y (Q=(List.range 3).all λi=>!(vL z (kC k s i) (!wh))):=hQ;rw[hB.a];have u:Y (k+((n:Int)+1)*s=(kC k s (n+1):Nat)):=X (by have:=(d.a (n+1) O).1;simpa using this);generalize hr:k+((n:Int)+1)*s=r at h2 h3 d u |-;clear hr hE hQ hB;have e1:wrap64 (k+s)=k+s:=Ti;have d2:=X h;have a7:=X hS;clear h hS;have hu:=underlying67;have hl:=ub z;have T:(prog.info? 67).map (·.size)=some (zL z).length:=by rw[hl];exact x7
 have a2:=DU z;generalize hz:zL z=d3 at hl T a2;have a0:=X hz;clear hz;go_enter func317,ntmps317;go_wp2;go_loopg [9] n (λg v wr=>∃j:Nat,j+g=n/\v=I L (kC k s (j+1):Nat)/\wr=w/\∀i,i<j->z (kC k s (i+1))=46)
 case atStart=>exact⟨0,O,by rw[a5.a],R,λi K=>absurd K (Yy i)⟩
 case round=>
  obtain⟨j,k1,rfl,rfl,d0⟩:=hrel;have q:=X d0;clear d0;obtain⟨-,M,q3,q4⟩:=d.a (j+1) O;have q5:=(d.a (j+1+1));by_cases b1:j<n
  .have D:=q4 O;have J:=(q5 O).1;rw[<-q3]at J;have o:=d2.a.bd (kC k s (j+1)) M;have b0:Y (z (kC k s (j+1))=z (kC k s (j+1))):=X R;generalize hy:kC k s (j+1)=y at M q3 D J o |-;have d5:=X hy;clear hy q3 q4 q5 b0;have c4:0<=(y:Int):=O;have c5:(y:Int)<64:=O;have b7:wrap64 ((y:Int)+s)=(y:Int)+s:=Ti;have b4:((y:Int) != r)=Zk:=qU.2 D;by_cases f:z y=46
   .have hz:((z y).toNat:Int)=46:=T1;rw[hz]at o;have b3:=X J;clear J D;go_wp2;go_roundg (gk-1)
    case measure=>omega
    case rel=>exact⟨j+1,O,by rw[b3.a],R,λi K=>by
     by_cases e:i=j
     .subst e;rw[d5.a];exact f
     .exact q.a i O⟩
   .have hz:(((z y).toNat:Int) != 46)=Zk:=by simp only[qU];intro h;apply f;apply q6.1;have:(z y).toNat=46:=O;rw[this];rfl
    have a3:Y (E=Zl):=X (by rw[H.a,Wv];exact⟨j,qK.2 b1,by rw[d5.a];simpa using f⟩);clear J D f;go_wp2;go_ret;exact⟨by rw[a3.a];rfl,ZO⟩
  .have ej:j=n:=O;subst ej;have a4:Y (E=Zk):=X (by rw[H.a,qW];intro i K;rw[q.a i (qK.1 K)];rfl);have b2:(((kC k s (j+1):Nat):Int) != r)=Zl:=by rw[u.a];simp
   have p:=X (λ(x:Nat)(J:x<64) W hS=>ah z (zL z).toArray (gu z).1 (gu z).2 x J (!wh) W hS);rw[a0.a]at p;clear u M q3 q4 q5 H q;go_wp2;clear b2;go_loopg [10,27] 3 (λg _ v w2=>∃i:Nat,i+g=3/\v=I L i/\Gr wr w2/\∀m,m<i->vL z (kC k s m) (!wh)=Zl)
   case atStart=>exact⟨0,O,R,ZO,λm hm=>absurd hm (Yy m)⟩
   case round=>
    obtain⟨i,i1,rfl,A,d1⟩:=hrel;have G:=X d1;clear d1;by_cases a9:i<3
    .obtain⟨q1,M,-,-⟩:=d.a i O;have hp:-2<=(i:Int)*s/\(i:Int)*s<=2:=by
      obtain rfl|rfl:=hs
      .simp only[Int.mul_one];omega
      .simp only[Int.mul_neg,Int.mul_one];omega
     have e2:IntKind.i64.wrap ((i:Int)*s)=(i:Int)*s:=Vc;have e3:IntKind.i64.wrap (k+(i:Int)*s)=((kC k s i:Nat):Int):=by rw[q1,YO];omega
     have a:=d2.a.gr A;have a1:=a.wh;have d4:=a.bd.range;rw[a0.a]at d4;have P:=a7.a.gr A;have F:=a.lt;have V:Y (∀w',Gr wr w'->Gr wr w'/\w'.rangeAt Bp 0 d3/\w'.cell? ⟨Bp,64,N⟩=some (Za wh)):=X (λw' g=>⟨g,λj v hv=>(ZW g (p:=⟨Bp,0+j,N⟩) F).trans (d4 j v hv),(ZW g (p:=⟨Bp,64,N⟩) F).trans a1⟩);have B:Y (vL z (kC k s i) (!wh)=Zl->∀m,m<i+1->vL z (kC k s m) (!wh)=Zl):=X (λh m hm=>by
      by_cases e:m=i
      .subst e;exact h
      .exact G.a m O)
     have C:Y (vL z (kC k s i) (!wh)=Zk->Q=Zl):=X (λh=>by rw[c6.a,Wv];exact⟨i,qK.2 a9,by rw[h];simp⟩);have l:=X (λW g=>p.a (kC k s i) M W (P.gr g));generalize kC k s i=y at M e3 B C l;obtain⟨v,hv⟩:=Zo (vL z y (!wh));rw[hv]at B C l;clear q1 p P a;go_upto_region 9 with fail;go_region_held3 (λw'=>Gr wr w'/\w'.rangeAt Bp 0 d3/\w'.cell? ⟨Bp,64,N⟩=some (Za wh)) (first|exact V.a _ ZO.drew|exact V.a _ ‹_›) (first|(go_at_call 64;refine Z0 (l.a _ (vy ‹_›)) λw6 a8=>?_;have S:=Gr.trans (vy ‹_›) a8));cases v
     .go_wp2;go_roundg (gk-1)
      case measure=>omega
      case rel=>exact⟨i+1,O,Vg,Gr.trans A S,B.a (by trivial)⟩
     .go_wp2;go_ret;exact⟨by rw[C.a (by trivial),XU];rfl,Gr.trans A S⟩
    .have ei:i=3:=O;subst ei;have a6:Y (Q=Zk):=X (by rw[c6.a,qW];intro m hm;rw[G.a m (qK.1 hm)];rfl);go_wp2;go_ret;exact⟨by rw[a4.a,a6.a];rfl,A⟩
theorem gO:∀t,t<64->kP.getLsbD t=(Zm (t/8=0)||decide (t/8=7)):=WS
theorem AN(c:UInt8)(f t:Nat)(x:t<64)(k:(jD c&&kP.getLsbD t)=Zl)(l B:Nat)(T:Obj->Prop)(C:Nat->Prop)(J q:List Mv->I6->Prop)(d:List Mv)(W:I6)
    (w:YieldAt Fence.wide 0 prog l (vr (f,t,0)) W λe g=>Fr (jM B T C) W g/\((e=Zd (Za Zk)/\J (d++[(f,t,0)]) g)\/(e=Zd (Za Zl)/\q (d++[(f,t,0)]) g))) :
    Calls prog 225 #[I Zg c.toNat,I L f,I L t,.func (.yield l) #[] #[]] W λe g=>Fr (jM B T C) W g/\((e=Zd (Za Zk)/\J (d++[(f,t,0)]) g)\/(e=Zd (Za Zl)/\q (d++[(f,t,0)]) g)):=by
  obtain⟨v,tmps,b,i,r,hR⟩:=w
  have p:=X (λW=>xz c W)
  have y:(Instr.yield l #[Zc #[I L f,I L t,I Zg 0]]).run prog W=.ok (.round l v tmps b i) W:=r
  clear r
  rw[gO t x]at k
  refine(ZY (n:=1)).1 ?_
  refine callsIn_of_wp func225 rfl trivial ?_ R
  simp only[ntmps225,Nat.reduceAdd,Nat.reduceSub,Zr]
  generalize jD c=z at p k
  cases z
  . clear k
    gi_wp2_with (first
      | (refine⟨trivial,?_⟩;gi_at_call 121;refine(ZY.2 (p.a _)).mono ?_;rintro e w' ⟨rfl,rfl⟩)
      | (with_reducible refine YB (zw _) ?_))
    all_goals first
      | (refine hR.mono ?_
         rintro e W3 ⟨j,⟨rfl,h⟩|⟨rfl,a⟩⟩
         . gi_wp2
           go_ret
           exact⟨j,Zi ⟨R,h⟩⟩
         . gi_wp2
           go_ret
           exact⟨j,Zj ⟨R,a⟩⟩)
      | (exfalso;rename_i A u m D;exact absurd m VD)
      | (exfalso;rename_i A u m;exact absurd m VD)
  . have o:t/8≠0/\t/8≠7:=by simpa using k
    have E:((t:Int)/8 != 0)=Zk:=by simp only[qU];omega
    have F:((t:Int)/8 != 7)=Zk:=by simp only[qU];omega
    clear k o
    gi_wp2_with (first
      | (refine⟨trivial,?_⟩;gi_at_call 121;refine(ZY.2 (p.a _)).mono ?_;rintro e w' ⟨rfl,rfl⟩)
      | (with_reducible refine YB (zw _) ?_))
    refine hR.mono ?_
    rintro e W3 ⟨j,⟨rfl,h⟩|⟨rfl,a⟩⟩
    . gi_wp2
      go_ret
      exact⟨j,Zi ⟨R,h⟩⟩
    . gi_wp2
      go_ret
      exact⟨j,Zj ⟨R,a⟩⟩
theorem GU(w:I6):(Instr.index 9 (Zb ⟨#[113,114,98,110]⟩) (I L 0)).run prog w=.ok (I Zg 113) w:=WR
theorem GT(w:I6):(Instr.index 9 (Zb ⟨#[113,114,98,110]⟩) (I L 1)).run prog w=.ok (I Zg 114) w:=WR
theorem GS(w:I6):(Instr.index 9 (Zb ⟨#[113,114,98,110]⟩) (I L 2)).run prog w=.ok (I Zg 98) w:=WR
theorem GR(w:I6):(Instr.index 9 (Zb ⟨#[113,114,98,110]⟩) (I L 3)).run prog w=.ok (I Zg 110) w:=WR
theorem Bi(k:Nat)(a:k<4)(w:I6):(Instr.index 9 (Zb ⟨#[113,114,98,110]⟩) (I L k)).run prog w=.ok (I Zg (uA k).toNat) w:=by
 have:k=0\/k=1\/k=2\/k=3:=O;obtain rfl|rfl|rfl|rfl:=this
 .exact GU w
 .exact GT w
 .exact GS w
 .exact GR w
theorem oD(c:UInt8)(E:jD c=Zk)(f t:Nat)(S:t<64)(y:kP.getLsbD t=Zk)(l B:Nat)(T:Obj->Prop)(C:Nat->Prop)(J A:List Mv->I6->Prop)(a:List Mv)(W:I6)
 (K:∀k r,k<4->J (a++(List.range k).map λi=>(f,t,uA i)) r->YieldAt Fence.wide 0 prog l (vr (f,t,uA k)) r λe d=>Fr (jM B T C) r d/\((e=Zd (Za Zk)/\J (a++(List.range (k+1)).map λi=>(f,t,uA i)) d)\/(e=Zd (Za Zl)/\A (a++(List.range (k+1)).map λi=>(f,t,uA i)) d))) (Q:J a W) :
 Calls prog 225 #[I Zg c.toNat,I L f,I L t,.func (.yield l) #[] #[]] W λe d=>Fr (jM B T C) W d/\((e=Zd (Za Zk)/\J (a++(List.range 4).map λi=>(f,t,uA i)) d)\/(e=Zd (Za Zl)/\∃k,k<4/\A (a++(List.range (k+1)).map λi=>(f,t,uA i)) d)):=by
 have F:=X (λW=>xz c W);rw[E]at F;clear E;rw[gO t S]at y;have z:t/8=0\/t/8=7:=by simpa using y
 clear y;refine(ZY (n:=1)).1 ?_;refine callsIn_of_wp func225 rfl trivial ?_ R;simp only[ntmps225,Nat.reduceAdd,Nat.reduceSub,Zr];have o:∀{n:Prop},(∀q:Int,(q=0\/q=7)->(t:Int)/8=q->n)->n:=λh=>h _ O R;refine o λq x M=>?_;clear o z;obtain rfl|rfl:=x;all_goals
  gi_wp2_with (first
   | (refine⟨trivial,?_⟩;gi_at_call 121;refine(ZY.2 (F.a _)).mono ?_;rintro e w' ⟨rfl,rfl⟩)
   | (with_reducible refine YB (zw _) ?_))
  gi_loopw [9,28] (λ_ p wr=>∃k:Nat,k<=4/\p=I L k/\J (a++(List.range k).map λi=>(f,t,uA i)) wr/\Fr (jM B T C) w' wr) (λ_ p _=>4-(intOf p).toNat)
  case atStart=>exact⟨0,O,R,by simpa using Q,ZP⟩
  case round =>
   obtain⟨k,P,rfl,j,u⟩:=hrel;by_cases v:k<4
   .have a0:=Bi k v;obtain⟨H,tmps,b,g,G,hR⟩:=K k wr v j;have V:(Instr.yield l #[Zc #[I L f,I L t,I Zg (uA k).toNat]]).run prog wr=.ok (.round l H tmps b g) wr:=G;clear G;gi_wp2;refine hR.mono ?_;rintro e W3 ⟨D,⟨rfl,w⟩|⟨rfl,m⟩⟩
    .gi_wp2;go_roundw
     case rel=>exact⟨k+1,O,Vg,w,u.trans D⟩
     case measure=>simp only[intOf];omega
    .gi_wp2;go_ret;exact⟨u.trans D,Zj ⟨R,k,v,m⟩⟩
   .have:k=4:=O
    subst this;gi_wp2;go_ret;exact⟨u,Zi ⟨R,j⟩⟩
theorem AO(c:UInt8)(f t:Nat)(D:t<64)(l B:Nat)(T:Obj->Prop)(C:Nat->Prop)(J v:List Mv->I6->Prop)(w d:List Mv)(a:d++xT (jD c) f t <+: w)
 (A:∀g x n,g++[x] <+: w->J g n->YieldAt Fence.wide 0 prog l (vr x) n λe b=>Fr (jM B T C) n b/\((e=Zd (Za Zk)/\J (g++[x]) b)\/(e=Zd (Za Zl)/\v (g++[x]) b)))
 (W:I6) (z:J d W) :
 Calls prog 225 #[I Zg c.toNat,I L f,I L t,.func (.yield l) #[] #[]] W λe b=>Fr (jM B T C) W b/\((e=Zd (Za Zk)/\J (d++xT (jD c) f t) b)\/(e=Zd (Za Zl)/\∃q,q <+: w/\v q b)):=by
 by_cases y:(jD c&&kP.getLsbD t)=Zk
 .have m:=y;rw[qH]at m;have F:xT (jD c) f t=(List.range 4).map λi=>((f,t,uA i):Mv):=by unfold xT;rw[y,qI R];rfl
  rw[F]at a |-;have u:∀k,k<4->d++(List.range (k+1)).map (λi=>((f,t,uA i):Mv)) <+: w:=λk p=>(Xq d).2 (pj f t k p) |>.trans a;refine(oD c m.1 f t D m.2 l B T C J v d W (λk n p G=>?_) z).mono ?_
  .have:=A (d++(List.range k).map λi=>(f,t,uA i)) (f,t,uA k) n (by
    have:=u k p
    rwa[YI,Ys,<-qS]at this) G
   rw[YI,Ys,<-qS];exact this
  .rintro e b ⟨o,⟨h,j⟩|⟨h,k,p,j⟩⟩
   .exact⟨o,Zi ⟨h,j⟩⟩
   .exact⟨o,Zj ⟨h,_,u k p,j⟩⟩
 .have r:(jD c&&kP.getLsbD t)=Zl:=by simpa using y
  have E:xT (jD c) f t=[(f,t,0)]:=by unfold xT;rw[r];rfl
  rw[E]at a |-;refine(AN c f t D r l B T C J v d W (A d _ W a z)).mono ?_;rintro e b ⟨o,⟨h,j⟩|⟨h,j⟩⟩
  .exact⟨o,Zi ⟨h,j⟩⟩
  .exact⟨o,Zj ⟨h,_,a,j⟩⟩
section
variable {n:Nat}{P:Program}{md:Region.Mode}{ops:Array Oper}{Q:Exit->Act->I6->Prop}{S:I6->Prop}
def yA(n:Nat)(P:Program)(md:Region.Mode)(ops:Array Oper)(Q:Exit->Act->I6->Prop)(S:I6->Prop):Nat->Array Bool->Act->I6->Prop
 | 0,b,a,w=>Region.ready md ops b=[]/\Q .normal a w
 | f+1,b,a,w=>(Region.ready md ops b=[]->Q .normal a w)/\∀i∈Region.ready md ops b,wpOpIn Fence.wide n P ops Q i (λa' w'=>S w'/\yA n P md ops Q S f (b.setIfInBounds i Zk) a' w') a w
theorem yA.any:∀{f:Nat}{d:Array Bool}{a:Act}{w:I6},yA n P md ops Q S f d a w->wpAnyIn Fence.wide n P md ops Q f d a w
 | 0,_,_,_,h=>h
 | _+1,_,_,_,h=>⟨h.1,λi b=>wpOpIn_mono (λ_ _ k=>yA.any k.2) (h.2 i b)⟩
theorem eF{o:Oper}{d:Option Tmp}{A:Act->Prop}{K:Act->I6->Prop}{a:Act}(m:∀a u,A a->A (a.put o.dst u))(hD:∀x,A { a with defers:=x :: a.defers })(y:A a)
 (p:∀(b:Act)(u:I7),(b.put d v).put o.dst u=(b.put o.dst u).put d v) (j:∀c b w,Q (.panic c) (b.put d v) w->Q (.panic c) b w) :
 ∀r,o.uponIn Fence.wide n P (a.put d v) K Q r->o.uponIn Fence.wide n P a (λk w'=>A k/\K (k.put d v) w') Q r:=by
 have one:∀u w',K ((a.put d v).put o.dst u) w'->A (a.put o.dst u)/\K ((a.put o.dst u).put d v) w':=λu w' h=>⟨m a u y,by rw[<-p];exact h⟩;rintro(⟨x,w'⟩|⟨x,w'⟩)
 .cases x with
  | value u=>exact one u w'
  | skip=>exact one undef w'
  | defer x =>
   intro h;have q:K (({ a with defers:=x :: a.defers }.put d v).put o.dst undef) w':=by rw[<-Act.put_defers];exact h
   exact⟨m _ _ (hD x),by rw[<-p];exact q⟩
  | enter f args =>
   intro h;refine⟨h.1,h.2.mono λe g i=>?_⟩;cases e with
   | returned u=>exact one u g i
   | panicked c=>exact j _ _ _ i
   | outgrown=>exact i
  | row row args=>exact λh=>⟨h.1,h.2.mono λu g i=>one u g i⟩
  | round l f tmps assign body =>
   intro h;refine⟨h.1,h.2.mono λe g i=>?_⟩;cases e with
   | returned u=>exact one u g i
   | panicked c=>exact j _ _ _ i
   | outgrown=>exact i
  | _=>exact id
 .cases x with
  | panic u=>exact j _ _ _
  | _=>exact id
theorem pc{o:Oper}{a:Act}{K:Act->I6->Prop}(g:ops[i]?=some o)(j:YieldsIf P ops S o v a)(f:S w)(h:K (a.put o.dst v) w):wpOpIn Fence.wide n P ops Q i K a w:=by
 refine wpOpIn_step g λd hK=>?_;obtain⟨b,e⟩|⟨b,rfl⟩:=j
 .rw[qI b];refine⟨λ_ _=>trivial,?_⟩;show o.uponIn Fence.wide n P a d Q ((o.semAt N a.eval).run P w);rw[Oper.semAt_none,e w f];exact hK _ _ h
 .rw[qF (by rw[b];decide)];exact⟨λ_ _=>trivial,hK _ _ h⟩
theorem sB{d e:Oper}{a:Act}{K:Act->I6->Prop}(B:ops[j]?=some e)(f:d.apart ops e=Zk)(g:∀cs b,d.op≠.select cs b)(i:∀cs b,e.op≠.select cs b)
 (z:∀c b w,Q (.panic c) (b.put d.dst v) w->Q (.panic c) b w) (l:YieldsIf P ops S d v a) (h:wpOpIn Fence.wide n P ops Q j K (a.put d.dst v) w) :
 wpOpIn Fence.wide n P ops Q j (λm w'=>YieldsIf P ops S d v m/\K (m.put d.dst v) w') a w:=by
 obtain⟨o,p,q⟩:=Oper.apart_spec f;have r:∀b u,YieldsIf P ops S d v b->YieldsIf P ops S d v (b.put e.dst u):=λb u k=>k.of_same (execOp_put d g b e.dst u q) (wanted_put d b e.dst u q);unfold wpOpIn at h |-;rw[B]at h |-;simp only at h |-;rw[wanted_put e a d.dst v o]at h;by_cases y:Region.wanted e (yielded ops a.tmps)=Zk
 .rw[qI y]at h |-;have A:e.semAt N (a.put d.dst v).eval=e.semAt N a.eval:=by rw[Oper.semAt_none,Oper.semAt_none,execOp_put e i a d.dst v o]
  refine⟨λ_ _=>trivial,eF r (λx=>l.of_same R R) l (λb u=>Act.put_comm b v u p) z _ ?_⟩;have:=h.2;rwa[show Fence.wide.round=N from R,A]at this
 .rw[qF y]at h |-;exact⟨λ_ _=>trivial,r _ _ l,by rw[<-Act.put_comm a v undef p];exact h.2⟩
theorem yA.take{q:Oper}(F:ops[i]?=some q)(a1:Region.noSelect ops=Zk)(a3:∀c b w,Q (.panic c) (b.put q.dst v) w->Q (.panic c) b w) :
 ∀{f:Nat}{a0:Array Bool}{a:Act}{w:I6},(∀j o,ops[j]?=some o->j≠i->a0.getD j Zk=Zl->(∀e∈o.after,Region.binds md e=Zk->e.on≠i)->q.apart ops o=Zk) →
  i∈Region.ready md ops a0->YieldsIf P ops S q v a->S w->yA n P md ops Q S f (a0.setIfInBounds i Zk) (a.put q.dst v) w->yA n P md ops Q S (f+1) a0 a w:=by
 intro f;induction f with
 | zero =>
  intro a0 a w _ m E r H;refine⟨λh=>(by rw[h]at m;cases m),λj D=>?_⟩;by_cases e:j=i
  .subst e;exact pc F E r ⟨r,H⟩
  .have:=ready_mono D e;rw[H.1]at this;cases this
 | succ f ih =>
  intro a0 a w d m E r H;refine⟨λh=>(by rw[h]at m;cases m),λj D=>?_⟩;by_cases e:j=i
  .subst e;exact pc F E r ⟨r,H⟩
  .obtain⟨C,o,l,y⟩:=mem_ready.1 D;have g:=(mem_ready.1 m).1
   have J:∀x∈o.after,Region.binds md x=Zk->x.on≠i:=λx W T K=>by
    have p:=y x W T;rw[K]at p;by_cases B:i<a0.size
    .simp only[Array.getD,B,Wf]at p g;rw[g]at p;cases p
    .simp only[Array.getD,B,dif_neg,not_false_eq_true]at p;cases p
   refine wpOpIn_mono ?_ (sB l (d j o l e C J) (λcs b=>Region.noSelect_spec a1 i q cs b F) (λcs b=>Region.noSelect_spec a1 j o cs b l) a3 E (H.2 j (ready_mono D e)));rintro a5 w' ⟨M,u,a2⟩;refine⟨u,ih (λk ok V G A a4=>d k ok V G ?_ a4) (ready_mono m (λh=>e h.symm)) M u ?_⟩
   .by_cases z:j=k
    .subst z;exact C
    .rw[getD_set_ne Zk z]at A;exact A
   .rw[Array.setIfInBounds_comm _ _ e];exact a2
theorem ng{d:Oper}{L:Array Bool}{a:Act}(e:ops[i]?=some d)(m:Region.noSelect ops=Zk)(k:Region.free md ops L i=Zk)(l:(Region.ready md ops L).contains i=Zk)
 (g:∀c b w,Q (.panic c) (b.put d.dst v) w->Q (.panic c) b w) (o:YieldsIf P ops S d v a) (j:S w) (h:yA n P md ops Q S f (L.setIfInBounds i Zk) (a.put d.dst v) w):yA n P md ops Q S (f+1) L a w :=
 yA.take e m g (Region.free_spec e k) (by simpa using l) o j h
theorem yb(i:Nat)(v:I7){d:Oper}{L:Array Bool}{a e:Act}(j:S w)(h:yA n P md ops Q S f (L.setIfInBounds i Zk) e w)(m:ops[i]?=some d:=by rfl)(k:a.put d.dst v=e:=by conv=>lhs;simp only[py])(q:YieldsIf P ops S d v a:=by exact Or.inl ⟨by rfl,λw r=>(by go_simp)⟩)
 (p:Region.noSelect ops=Zk:=by kernel_rfl) (l:Region.free md ops L i=Zk:=by kernel_rfl) (o:(Region.ready md ops L).contains i=Zk:=by kernel_rfl)
 (g:∀c b w,Q (.panic c) (b.put d.dst v) w->Q (.panic c) b w:=by exact λ_ _ _ h=>h):yA n P md ops Q S (f+1) L a w:=ng m p l o g q j (k▸h)
theorem xm{b:Oper}{L:Array Bool}{a:Act}(o:ops[i]?=some b)(l:Region.ready md ops L=[i])
 (h:∀K:Act->I6->Prop,(∀d w',S w'->(S w'->yA n P md ops Q S f (L.setIfInBounds i Zk) d w')->K d w')->if Region.wanted b (yielded ops a.tmps)=Zk then Oper.wpIn Fence.wide n P b a w K Q else(∀g,b.about P w a.eval=some g->Fence.wide.fn g)/\K (a.put b.dst undef) w):yA n P md ops Q S (f+1) L a w :=
 ⟨λe=>(by rw[l]at e;cases e),λj k=>by rw[l,qT]at k;subst k;exact wpOpIn_step o λK hK=>h K λd w' m p=>hK _ _ ⟨m,p m⟩⟩
theorem FH{d:Array Bool}{a:Act}(b:Region.ready md ops d=[])(h:Q .normal a w):∀f,yA n P md ops Q S f d a w
 | 0=>⟨b,h⟩
 | _+1=>⟨λ_=>h,by rw[b];simp⟩
theorem qza{a:Act}(d:P.follows .mixedOrders=Zk)(b:S w.drew)(h:S w.drew->yA n P .any ops Q S ops.size (Array.replicate ops.size Zl) a w.drew):(Code.region e ops Zk).wpIn Fence.wide n P Q a w :=
 wpIn_region_any d (h b).any
end
theorem ya{P:Program}{e:Region.Mode}{d:Array Oper}{Q:Exit->Act->I6->Prop}{S:I6->Prop}(i:Nat)(v:I7){g:Oper}{L:Array Bool}{a j:Act}(k:d[i]?=some g)(u:YieldsIf P d S g v a)(m:S w)(h:yA n P e d Q S f (L.setIfInBounds i Zk) j w)(o:a.put g.dst v=j:=by conv=>lhs;simp only[py])
 (r:Region.noSelect d=Zk:=by kernel_rfl) (p:Region.free e d L i=Zk:=by kernel_rfl) (q:(Region.ready e d L).contains i=Zk:=by kernel_rfl)
 (l:∀c b w,Q (.panic c) (b.put g.dst v) w->Q (.panic c) b w:=by exact λ_ _ _ h=>h):yA n P e d Q S (f+1) L a w:=yA.take k r l (Region.free_spec k p) Ul u m (o▸h)
def jC(wh:Bool):Nat:=if wh then 0 else 2
def uz(z:I2)(wh:Bool)(fc:I5)(k:Nat):List Nat:=if fc (jC wh)&&az z wh (k:Int) 1 2 then[k+2]else[]
def pA(z:I2)(wh:Bool)(fc:I5)(k:Nat):List Nat:=if fc (jC wh+1)&&az z wh (k:Int) (-1) 3 then[k-2]else[]
structure Cg(z:I2)(wh:Bool)(fc:I5)(b:Int)(k B1 B2 B3 Bp:Nat)(W:I6):Prop where
 b1:W.cell? ⟨B1,0,N⟩=S (ZI Bp)
 b2:W.cell? ⟨B2,0,N⟩=S (I L (jC wh:Int))
 b3:W.cell? ⟨B3,0,N⟩=S (I L k)
 ps:Ps z wh fc b Bp W
 st:vT W
theorem Cg.fr{l:I6}(h:Cg z wh fc b k d f i Bp W)(g:Fr Q W l)(a:∀k o,(k=d\/k=f\/k=i\/k=Bp\/k=0)->W.heap[k]?=S o->Q k o):Cg z wh fc b k d f i Bp l :=
 ⟨g.cell h.b1 (λo e=>a _ o WU e),g.cell h.b2 (λo e=>a _ o WU e),g.cell h.b3 (λo e=>a _ o WU e),h.ps.fr g (λo e=>a _ o WU e),⟨λj v m=>g.cell (h.st.1 j v m) (λo e=>a _ o WU e),qN h.st.2 g.size⟩⟩
theorem Cg.gr{a:Nat}{f:I6}(h:Cg z wh fc b k a d e Bp W)(g:Gr W f):Cg z wh fc b k a d e Bp f:=h.fr (Q:=λ_ _=>True) (Fr.of_gr g) (λ_ _ _ _=>trivial)
theorem sA{J b:List Nat->I6->Prop}{a:List Nat}{e:Ending}(h:Fr Q V W/\((e=Zd (Za Zk)/\J a W)\/(e=Zd (Za Zl)/\b a W))):∃v:Bool,e=Zd (Za v)/\Fr Q V W/\(match v with|true=>J a W|false=>b a W):=by grind
def HM(X:Act->I6->Prop):Exit->Act->I6->Prop
 | .normal,a,w=>X a w
 | _,_,_=>False
def Cs0(l B1 B2 B3:Nat)(r:Bool)(a:Act):Prop:=∃u4 u5 u6 u7 u8 u9 u10 u11 u12 u13 u14 u15 u16 u17 u18 u19 u20 u21 u22 u23 u25 u26 u27 u28 u29 u30 u31 u32 u33 u34 u35 u36 u37 u38 u39 u40 u41 u42 u43 u44 u45:I7,a={ tmps:=#[.func (.yield l) #[] #[],ZI B1,ZI B2,ZI B3,u4,u5,u6,u7,u8,u9,u10,u11,u12,u13,u14,u15,u16,u17,u18,u19,u20,u21,u22,u23,Za r,u25,u26,u27,u28,u29,u30,u31,u32,u33,u34,u35,u36,u37,u38,u39,u40,u41,u42,u43,u44,u45],defers:=[] }
def Cs1(l B1 B2 B3:Nat)(r:Bool)(a:Act):Prop:=∃u4 u5 u6 u7 u8 u9 u10 u11 u12 u13 u14 u15 u16 u17 u18 u19 u20 u21 u22 u23 u24 u25 u26 u27 u28 u29 u30 u31 u32 u33 u34 u35 u36 u37 u38 u39 u40 u41 u42 u43 u44:I7,a={ tmps:=#[.func (.yield l) #[] #[],ZI B1,ZI B2,ZI B3,u4,u5,u6,u7,u8,u9,u10,u11,u12,u13,u14,u15,u16,u17,u18,u19,u20,u21,u22,u23,u24,u25,u26,u27,u28,u29,u30,u31,u32,u33,u34,u35,u36,u37,u38,u39,u40,u41,u42,u43,u44,Za r],defers:=[] }
def CsE(Cx:I6->Prop)(J Jx:List Nat->I6->Prop)(xs all:List Nat)(r:Bool)(w:I6):Prop:=(r=Zl/\Cx w/\J xs w)\/(r=Zk/\∃q,q <+: all/\Jx q w)
def CsQ0(l B1 B2 B3:Nat)(Cx:I6->Prop)(J Jx:List Nat->I6->Prop)(xs all:List Nat)(a:Act)(w:I6):Prop:=∃r,Cs0 l B1 B2 B3 r a/\CsE Cx J Jx xs all r w
def CsQ1(l B1 B2 B3:Nat)(Cx:I6->Prop)(J Jx:List Nat->I6->Prop)(xs all:List Nat)(a:Act)(w:I6):Prop:=∃r,Cs1 l B1 B2 B3 r a/\CsE Cx J Jx xs all r w
theorem d9{B1 B2 B3:Nat}{r:Bool}{u4 u5 u6 u7 u8 u9 u10 u11 u12 u13 u14 u15 u16 u17 u18 u19 u20 u21 u22 u23 u25 u26 u27 u28 u29 u30 u31 u32 u33 u34 u35 u36 u37 u38 u39 u40 u41 u42 u43 u44 u45:I7}:Cs0 l B1 B2 B3 r { tmps:=#[.func (.yield l) #[] #[],ZI B1,ZI B2,ZI B3,u4,u5,u6,u7,u8,u9,u10,u11,u12,u13,u14,u15,u16,u17,u18,u19,u20,u21,u22,u23,Za r,u25,u26,u27,u28,u29,u30,u31,u32,u33,u34,u35,u36,u37,u38,u39,u40,u41,u42,u43,u44,u45],defers:=[] }:=⟨u4,u5,u6,u7,u8,u9,u10,u11,u12,u13,u14,u15,u16,u17,u18,u19,u20,u21,u22,u23,u25,u26,u27,u28,u29,u30,u31,u32,u33,u34,u35,u36,u37,u38,u39,u40,u41,u42,u43,u44,u45,R⟩
theorem d8{B1 B2 B3:Nat}{r:Bool}{u4 u5 u6 u7 u8 u9 u10 u11 u12 u13 u14 u15 u16 u17 u18 u19 u20 u21 u22 u23 u24 u25 u26 u27 u28 u29 u30 u31 u32 u33 u34 u35 u36 u37 u38 u39 u40 u41 u42 u43 u44:I7}:Cs1 l B1 B2 B3 r { tmps:=#[.func (.yield l) #[] #[],ZI B1,ZI B2,ZI B3,u4,u5,u6,u7,u8,u9,u10,u11,u12,u13,u14,u15,u16,u17,u18,u19,u20,u21,u22,u23,u24,u25,u26,u27,u28,u29,u30,u31,u32,u33,u34,u35,u36,u37,u38,u39,u40,u41,u42,u43,u44,Za r],defers:=[] }:=⟨u4,u5,u6,u7,u8,u9,u10,u11,u12,u13,u14,u15,u16,u17,u18,u19,u20,u21,u22,u23,u24,u25,u26,u27,u28,u29,u30,u31,u32,u33,u34,u35,u36,u37,u38,u39,u40,u41,u42,u43,u44,R⟩
theorem cE{L M n:Nat}(hk:k<64)(a1:(fc (jC wh)||fc (jC wh+1))=Zk->k=4\/k=60)(T:Obj->Prop)(w:I6)(d:Cg z wh fc b k L M n Bp w) :
 It prog 316 #[ZI L,ZI M,ZI n] yh T (λk=>k=L\/k=M\/k=n\/k=Bp\/k=0) (uz z wh fc k++pA z wh fc k) w:=by
 intro l B J Jx W f0 hB hJ b4 hY h0;have hW:=d.fr f0 (λk o hk _=>hk);clear f0 d;have b5:jC wh=0\/jC wh=2:=by cases wh<;>simp[jC]
 have G:Y (uz z wh fc k=if fc (jC wh)&&az z wh (k:Int) 1 2 then[k+2]else[]):=X R;have E:Y (pA z wh fc k=if fc (jC wh+1)&&az z wh (k:Int) (-1) 3 then[k-2]else[]):=X R;generalize uz z wh fc k=Rs at hY G |-;generalize pA z wh fc k=Ms at hY E |-;obtain⟨F0,j⟩:=Zo (fc (jC wh));obtain⟨F1,m⟩:=Zo (fc (jC wh+1));rw[j]at G;rw[m]at E;refine(ZY (n:=9)).1 ?_;refine callsIn_of_wp func316 rfl trivial ?_ R;simp only[ntmps316,Nat.reduceAdd,Nat.reduceSub,Zr];refine wpIn_seq (wpIn_seq (wpIn_mono (Q:=HM (CsQ0 l L M n (Cg z wh fc b k L M n Bp) J Jx Rs (Rs++Ms))) ?reg0 ?rest0))
 case reg0=>
  have P:=hW.gr ZO.drew;have x:=hJ _ _ _ h0 (Fr.of_gr (Gr.refl W).drew);have hh:F0=Zk->k=4\/k=60:=λe=>a1 (by rw[j,e];rfl);clear hW h0 a1 E m;have a7:0<=(jC wh:Int):=O;have a8:(jC wh:Int)<4:=O;refine qza (S:=Cg z wh fc b k L M n Bp) WR P (λf=>?_);generalize W.drew=Wd at f x |-;clear P;cases F0
  .refine ya 0 (ZI Bp) R (Zi ⟨Vb,λw d=>W9⟩) f ?_;refine ya 1 (I .i64 (jC wh:Int)) R (Zi ⟨Vb,λw d=>W9⟩) f ?_;refine yb 2 (ZI Bp) f ?_;refine yb 3 (.pointer (S ⟨Bp,65,N⟩)) f ?_;refine yb 4 (.pointer (S ⟨Bp,65+jC wh,N⟩)) f ?_;refine ya 5 (Za Zl) R (Zi ⟨Vb,λw d=>W9⟩) f ?_;refine yb 6 (Za Zl) f ?_;refine ya 7 (undef) R (Zj ⟨WR,R⟩) f ?_;refine ya 8 (undef) R (Zj ⟨WR,R⟩) f ?_;refine ya 9 (undef) R (Zj ⟨WR,R⟩) f ?_;refine ya 10 (undef) R (Zj ⟨WR,R⟩) f ?_;refine xm (i:=11) R WR (λK hK=>?_);rw[qF VF];refine⟨λ_ _=>trivial,hK _ _ f (λf=>?_)⟩;clear hK K;simp only[py];refine yb 12 (Za Zl) f ?_;refine yb 13 (Za Zl) f ?_;refine ya 14 (undef) R (Zj ⟨WR,R⟩) f ?_;refine ya 15 (undef) R (Zj ⟨WR,R⟩) f ?_;refine ya 16 (undef) R (Zj ⟨WR,R⟩) f ?_;refine xm (i:=17) R WR (λK hK=>?_);rw[qF VF];refine⟨λ_ _=>trivial,hK _ _ f (λf=>?_)⟩;clear hK K;simp only[py];refine ya 18 (undef) R (Zj ⟨WR,R⟩) f ?_;refine yb 19 (Za Zl) f ?_;refine FH WR ?_ _;exact⟨Zl,d9,Zi ⟨R,f,by rw[G.a];simpa using x⟩⟩
  .have a4:k=4\/k=60:=hh R;have y:=X (λW (P:Cg z wh fc b k L M n Bp W)=>qxs P.ps P.st (k:Int) 1 2 (Zi R) O O O O O);have e3:(k:Int)+(((2:Nat):Int)+1)*1=(k:Int)+3:=O;have w3:IntKind.i64.wrap ((k:Int)+3)=(k:Int)+3:=Vc;obtain⟨t,ht⟩:∃t,Y (t=k+2):=⟨_,X R⟩;have w2:IntKind.i64.wrap ((k:Int)+2)=(t:Int):=by rw[YO];have:=ht.a;omega
   rw[e3]at y;clear e3 a4;obtain⟨v,hv⟩:=Zo (az z wh (k:Int) 1 2);rw[hv]at y G;cases v
   .refine ya 0 (ZI Bp) R (Zi ⟨Vb,λw d=>W9⟩) f ?_;refine ya 1 (I .i64 (jC wh:Int)) R (Zi ⟨Vb,λw d=>W9⟩) f ?_;refine yb 2 (ZI Bp) f ?_;refine yb 3 (.pointer (S ⟨Bp,65,N⟩)) f ?_;refine yb 4 (.pointer (S ⟨Bp,65+jC wh,N⟩)) f ?_;refine ya 5 (Za Zk) R (Zi ⟨Vb,λw d=>W9⟩) f ?_;refine yb 6 (Za Zk) f ?_;refine ya 7 (ZI Bp) R (Zi ⟨Vb,λw d=>W9⟩) f ?_;refine ya 8 (I .i64 k) R (Zi ⟨Vb,λw d=>W9⟩) f ?_;refine ya 9 (I .i64 k) R (Zi ⟨Vb,λw d=>W9⟩) f ?_;refine yb 10 (I .i64 ((k:Int)+3)) f ?_;refine xm (i:=11) R WR (λK hK=>?_);go_simp;refine⟨trivial,(ZY.2 (y.a _ f)).mono ?_⟩;rintro e wc ⟨rfl,p⟩;refine hK _ _ (f.gr p) (λf=>?_);clear hK K;have D:=hJ _ _ _ x (Fr.of_gr p);refine yb 12 (Za Zl) f ?_;refine yb 13 (Za Zl) f ?_;refine ya 14 (undef) R (Zj ⟨WR,R⟩) f ?_;refine ya 15 (undef) R (Zj ⟨WR,R⟩) f ?_;refine ya 16 (undef) R (Zj ⟨WR,R⟩) f ?_;refine xm (i:=17) R WR (λK hK=>?_);rw[qF VF];refine⟨λ_ _=>trivial,hK _ _ f (λf=>?_)⟩;clear hK K;simp only[py];refine ya 18 (undef) R (Zj ⟨WR,R⟩) f ?_;refine yb 19 (Za Zl) f ?_;refine FH WR ?_ _;exact⟨Zl,d9,Zi ⟨R,f,by rw[G.a];simpa using D⟩⟩
   .have H:Rs=[t]:=by rw[G.a,ht.a];rfl
    have b7:[]++[t] <+: Rs++Ms:=by rw[H];exact⟨Ms,R⟩
    have V:=X H;have A:=X b7;clear H b7;refine ya 0 (ZI Bp) R (Zi ⟨Vb,λw d=>W9⟩) f ?_;refine ya 1 (I .i64 (jC wh:Int)) R (Zi ⟨Vb,λw d=>W9⟩) f ?_;refine yb 2 (ZI Bp) f ?_;refine yb 3 (.pointer (S ⟨Bp,65,N⟩)) f ?_;refine yb 4 (.pointer (S ⟨Bp,65+jC wh,N⟩)) f ?_;refine ya 5 (Za Zk) R (Zi ⟨Vb,λw d=>W9⟩) f ?_;refine yb 6 (Za Zk) f ?_;refine ya 7 (ZI Bp) R (Zi ⟨Vb,λw d=>W9⟩) f ?_;refine ya 8 (I .i64 k) R (Zi ⟨Vb,λw d=>W9⟩) f ?_;refine ya 9 (I .i64 k) R (Zi ⟨Vb,λw d=>W9⟩) f ?_;refine yb 10 (I .i64 ((k:Int)+3)) f ?_;refine xm (i:=11) R WR (λK hK=>?_);go_simp;refine⟨trivial,(ZY.2 (y.a _ f)).mono ?_⟩;rintro e wc ⟨rfl,p⟩;refine hK _ _ (f.gr p) (λf=>?_);clear hK K;have D:=hJ _ _ _ x (Fr.of_gr p);obtain⟨fn,tmps,u,c6,c5,a2⟩:=jb (m':=8) (hY [] (t) wc A.a D);have a9:(Instr.yield l #[I .i64 (t:Nat)]).run prog wc=.ok (.round l fn tmps u c6) wc:=c5;clear c5;refine yb 12 (Za Zk) f ?_;refine yb 13 (Za Zk) f ?_;refine yb 14 (.func (.yield l) #[] #[]) f ?_;refine ya 15 (I .i64 k) R (Zi ⟨Vb,λw d=>W9⟩) f ?_;refine yb 16 (I .i64 t) f ?_;refine xm (i:=17) R WR (λK hK=>?_);go_simp;refine RoundIn.mono (F:=Fence.wide) a2 ?_;intro e w4 h4;obtain⟨vb,rfl,f4,c4⟩:=sA h4;refine hK _ _ (f.fr f4 (λ_ _ h _=>Zi h)) (λf=>?_);clear hK K;refine yb 18 (Za (!vb)) f ?_;refine yb 19 (Za (!vb)) f ?_;refine FH WR ?_ _;cases vb
    .exact⟨Zk,d9,Zj ⟨R,_,A.a,c4⟩⟩
    .exact⟨Zl,d9,Zi ⟨R,f,by rw[V.a];exact c4⟩⟩
 case rest0=>
  intro e a w i;cases e with
  | normal =>
   obtain⟨r,a3,hE⟩:=i;obtain⟨u4,u5,u6,u7,u8,u9,u10,u11,u12,u13,u14,u15,u16,u17,u18,u19,u20,u21,u22,u23,u25,u26,u27,u28,u29,u30,u31,u32,u33,u34,u35,u36,u37,u38,u39,u40,u41,u42,u43,u44,u45,rfl⟩:=a3;obtain⟨rfl,a0,Q⟩|⟨rfl,q,a5,a6⟩:=hE
   .clear hW h0 G;gi_wp2;refine(wpIn_mono (Q:=HM (CsQ1 l L M n (Cg z wh fc b k L M n Bp) J Jx (Rs++Ms) (Rs++Ms))) ?reg1 ?rest1)
    case reg1 =>
     have P:=a0.gr ZO.drew;have x:=hJ _ _ _ Q (Fr.of_gr (Gr.refl w).drew);have hh:F1=Zk->k=4\/k=60:=λe=>a1 (by rw[m,e];simp);clear a0 Q a1 j;have a7:0<=(jC wh:Int)+1:=O
     have a8:(jC wh:Int)+1<4:=O
     have b0:IntKind.i64.wrap ((jC wh:Int)+1)=(jC wh:Int)+1:=Vc
     have b6:((jC wh:Int)+1).toNat=jC wh+1:=O
     refine qza (S:=Cg z wh fc b k L M n Bp) WR P (λf=>?_);generalize w.drew=Wd at f x |-;clear P;cases F1
     .refine ya 0 (ZI Bp) R (Zi ⟨Vb,λw d=>W8⟩) f ?_;refine ya 1 (I .i64 (jC wh:Int)) R (Zi ⟨Vb,λw d=>W8⟩) f ?_;refine yb 2 (I .i64 ((jC wh:Int)+1)) f ?_;refine yb 3 (ZI Bp) f ?_;refine yb 4 (.pointer (S ⟨Bp,65,N⟩)) f ?_;refine yb 5 (.pointer (S ⟨Bp,65+(jC wh+1),N⟩)) f ?_;refine ya 6 (Za Zl) R (Zi ⟨Vb,λw d=>W8⟩) f ?_;refine yb 7 (Za Zl) f ?_;refine ya 8 (undef) R (Zj ⟨WR,R⟩) f ?_;refine ya 9 (undef) R (Zj ⟨WR,R⟩) f ?_;refine ya 10 (undef) R (Zj ⟨WR,R⟩) f ?_;refine ya 11 (undef) R (Zj ⟨WR,R⟩) f ?_;refine xm (i:=12) R WR (λK hK=>?_);rw[qF VF];refine⟨λ_ _=>trivial,hK _ _ f (λf=>?_)⟩;clear hK K;simp only[py];refine yb 13 (Za Zl) f ?_;refine yb 14 (Za Zl) f ?_;refine ya 15 (undef) R (Zj ⟨WR,R⟩) f ?_;refine ya 16 (undef) R (Zj ⟨WR,R⟩) f ?_;refine ya 17 (undef) R (Zj ⟨WR,R⟩) f ?_;refine xm (i:=18) R WR (λK hK=>?_);rw[qF VF];refine⟨λ_ _=>trivial,hK _ _ f (λf=>?_)⟩;clear hK K;simp only[py];refine ya 19 (undef) R (Zj ⟨WR,R⟩) f ?_;refine yb 20 (Za Zl) f ?_;refine FH WR ?_ _;exact⟨Zl,d8,Zi ⟨R,f,by rw[E.a];simpa using x⟩⟩
     .have a4:k=4\/k=60:=hh R;have y:=X (λW (P:Cg z wh fc b k L M n Bp W)=>qxs P.ps P.st (k:Int) (-1) 3 (Zj R) O O O O O);have e3:(k:Int)+(((3:Nat):Int)+1)*(-1)=(k:Int)-4:=O
      have w3:IntKind.i64.wrap ((k:Int)-4)=(k:Int)-4:=Vc
      obtain⟨t,ht⟩:∃t,Y (t=k-2):=⟨_,X R⟩;have w2:IntKind.i64.wrap ((k:Int)-2)=(t:Int):=by rw[YO];have:=ht.a;omega
      rw[e3]at y;clear e3 a4;obtain⟨v,hv⟩:=Zo (az z wh (k:Int) (-1) 3);rw[hv]at y E;cases v
      .refine ya 0 (ZI Bp) R (Zi ⟨Vb,λw d=>W8⟩) f ?_;refine ya 1 (I .i64 (jC wh:Int)) R (Zi ⟨Vb,λw d=>W8⟩) f ?_;refine yb 2 (I .i64 ((jC wh:Int)+1)) f ?_;refine yb 3 (ZI Bp) f ?_;refine yb 4 (.pointer (S ⟨Bp,65,N⟩)) f ?_;refine yb 5 (.pointer (S ⟨Bp,65+(jC wh+1),N⟩)) f ?_;refine ya 6 (Za Zk) R (Zi ⟨Vb,λw d=>W8⟩) f ?_;refine yb 7 (Za Zk) f ?_;refine ya 8 (ZI Bp) R (Zi ⟨Vb,λw d=>W8⟩) f ?_;refine ya 9 (I .i64 k) R (Zi ⟨Vb,λw d=>W8⟩) f ?_;refine ya 10 (I .i64 k) R (Zi ⟨Vb,λw d=>W8⟩) f ?_;refine yb 11 (I .i64 ((k:Int)-4)) f ?_;refine xm (i:=12) R WR (λK hK=>?_);go_simp;refine⟨trivial,(ZY.2 (y.a _ f)).mono ?_⟩;rintro e wc ⟨rfl,p⟩;refine hK _ _ (f.gr p) (λf=>?_);clear hK K;have D:=hJ _ _ _ x (Fr.of_gr p);refine yb 13 (Za Zl) f ?_;refine yb 14 (Za Zl) f ?_;refine ya 15 (undef) R (Zj ⟨WR,R⟩) f ?_;refine ya 16 (undef) R (Zj ⟨WR,R⟩) f ?_;refine ya 17 (undef) R (Zj ⟨WR,R⟩) f ?_;refine xm (i:=18) R WR (λK hK=>?_);rw[qF VF];refine⟨λ_ _=>trivial,hK _ _ f (λf=>?_)⟩;clear hK K;simp only[py];refine ya 19 (undef) R (Zj ⟨WR,R⟩) f ?_;refine yb 20 (Za Zl) f ?_;refine FH WR ?_ _;exact⟨Zl,d8,Zi ⟨R,f,by rw[E.a];simpa using D⟩⟩
      .have H:Ms=[t]:=by rw[E.a,ht.a];rfl
       have b7:Rs++[t] <+: Rs++Ms:=by rw[H];exact List.prefix_rfl
       have V:=X H;have A:=X b7;clear H b7;refine ya 0 (ZI Bp) R (Zi ⟨Vb,λw d=>W8⟩) f ?_;refine ya 1 (I .i64 (jC wh:Int)) R (Zi ⟨Vb,λw d=>W8⟩) f ?_;refine yb 2 (I .i64 ((jC wh:Int)+1)) f ?_;refine yb 3 (ZI Bp) f ?_;refine yb 4 (.pointer (S ⟨Bp,65,N⟩)) f ?_;refine yb 5 (.pointer (S ⟨Bp,65+(jC wh+1),N⟩)) f ?_;refine ya 6 (Za Zk) R (Zi ⟨Vb,λw d=>W8⟩) f ?_;refine yb 7 (Za Zk) f ?_;refine ya 8 (ZI Bp) R (Zi ⟨Vb,λw d=>W8⟩) f ?_;refine ya 9 (I .i64 k) R (Zi ⟨Vb,λw d=>W8⟩) f ?_;refine ya 10 (I .i64 k) R (Zi ⟨Vb,λw d=>W8⟩) f ?_;refine yb 11 (I .i64 ((k:Int)-4)) f ?_;refine xm (i:=12) R WR (λK hK=>?_);go_simp;refine⟨trivial,(ZY.2 (y.a _ f)).mono ?_⟩;rintro e wc ⟨rfl,p⟩;refine hK _ _ (f.gr p) (λf=>?_);clear hK K;have D:=hJ _ _ _ x (Fr.of_gr p);obtain⟨fn,tmps,u,c6,c5,a2⟩:=jb (m':=8) (hY Rs (t) wc A.a D);have a9:(Instr.yield l #[I .i64 (t:Nat)]).run prog wc=.ok (.round l fn tmps u c6) wc:=c5;clear c5;refine yb 13 (Za Zk) f ?_;refine yb 14 (Za Zk) f ?_;refine yb 15 (.func (.yield l) #[] #[]) f ?_;refine ya 16 (I .i64 k) R (Zi ⟨Vb,λw d=>W8⟩) f ?_;refine yb 17 (I .i64 t) f ?_;refine xm (i:=18) R WR (λK hK=>?_);go_simp;refine RoundIn.mono (F:=Fence.wide) a2 ?_;intro e w4 h4;obtain⟨vb,rfl,f4,c4⟩:=sA h4;refine hK _ _ (f.fr f4 (λ_ _ h _=>Zi h)) (λf=>?_);clear hK K;refine yb 19 (Za (!vb)) f ?_;refine yb 20 (Za (!vb)) f ?_;refine FH WR ?_ _;cases vb
       .exact⟨Zk,d8,Zj ⟨R,_,A.a,c4⟩⟩
       .exact⟨Zl,d8,Zi ⟨R,f,by rw[V.a];exact c4⟩⟩
    case rest1 =>
     clear a0 Q;intro e a w i;cases e with
     | normal =>
      obtain⟨r,a3,hE⟩:=i;obtain⟨u4,u5,u6,u7,u8,u9,u10,u11,u12,u13,u14,u15,u16,u17,u18,u19,u20,u21,u22,u23,u24,u25,u26,u27,u28,u29,u30,u31,u32,u33,u34,u35,u36,u37,u38,u39,u40,u41,u42,u43,u44,rfl⟩:=a3;obtain⟨rfl,a0,Q⟩|⟨rfl,q,a5,a6⟩:=hE
      .gi_wp2;go_end0;exact⟨⟨_,R⟩,Zi Q⟩
      .gi_wp2;exact ZS (XS R _ _ _) R ⟨⟨_,R⟩,Zj ⟨q,a5,a6⟩⟩
     | ret=>exact i.elim
     | exit id=>exact i.elim
     | goto t=>exact i.elim
     | panic c=>exact i.elim
     | outgrown=>exact i.elim
   .gi_wp2;exact ZS (XS R _ _ _) R ⟨⟨_,R⟩,Zj ⟨q,a5,a6⟩⟩
  | ret=>exact i.elim
  | exit id=>exact i.elim
  | goto t=>exact i.elim
  | panic c=>exact i.elim
  | outgrown=>exact i.elim
end Go.Proofs.YtnfakamfmkhlbabGreatDoor.C
