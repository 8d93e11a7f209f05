import Derived.Test.YtnfakamfmkhlbabGreatDoorC4
set_option maxRecDepth 100000
set_option maxHeartbeats 4000000
set_option linter.all false
open Go.Value renaming int->I,bool->Za,string->Zb,agg->Zc,tuple->Ze,slice->Zq
open Go.IntKind renaming i64->L,u8->Zg,u64->Zh,wrap->a_
open Go.Obj renaming cells->Z
open Go.Ending renaming returned->Zd
open Or renaming inl->Zi,inr->Zj
open Option renaming some->S,none->N
open Bool renaming true->Zk,false->Zl
open Decidable renaming decide->Zm
open Go.RowKit renaming Hid->Y
open Go renaming World->I6,Value->I7,Calls->i_,undef->m_
open Go.Proofs.Tryz renaming zeroCells70->b_,prog->c_
open Go.Lib renaming decDigits->d_,indexByte->e_,join->f_,cut->g_
open List renaming range->h_
open UInt8 renaming ofNat->j_
open Go.Op renaming stringOp->k_
open Go.Instr renaming index->l_
open Go.Code renaming wp->n_
namespace Go.Proofs.YtnfakamfmkhlbabGreatDoor.C
open Go.ChangeShapes Go.WideShapes Go.ChangeAt Go.RowKit Go.Shelf Tryz
attribute [local go_sem] qd qe Oper.semAt_some
variable {z:I2}{wh:Bool}{b h m:Int}{PA A M:I0}{fc:I5}{w W a w' w1 V:I6}{f n i k g base d e l j x B Bp:Nat}{v:I7}{u:UInt8}{Q:Nat->Obj->Prop}{rs:I3}{y:I1}
def zC:I0:=#[I L 0,I L 0,I Zg 0]
structure Tm(w W:I6):Prop where
 ps:W.heap[w.heap.size]?=S (Z b_ 70)
 mv:W.heap[w.heap.size+1]?=S (Z zC 87)
 lt:w.heap.size+1<W.heap.size
 gr:Gr w W
def Tm.next(h:Tm w W)(g:Gr W a):Tm w a:=⟨(Zz g (Nat.lt_of_succ_lt h.lt)).trans h.ps,(Zz g h.lt).trans h.mv,qN h.lt (ZR g),o_ h.gr g⟩
def Tm.start(w:I6):Tm w ((w.alloc (Z b_ 70)).alloc (Z zC 87)):=by obtain⟨a,b⟩:=x6 w (Z b_ 70) (Z zC 87);exact⟨a,b,UA,ZN.al⟩
def vP:zC.all (·.oneCell')=Zk:=by simp[zC,Value.oneCell']
def Tm.out(h:Tm w W)(A M:I0):((W.setRow w A).setRow (w+1) M).heap[w.heap.size]?=Z A 70/\((W.setRow w A).setRow (w+1) M).heap[w.heap.size+1]?=Z M 87/\Gr w ((W.setRow w A).setRow (w+1) M):=⟨by rw[Zu O];exact Zt h.ps,Zt (by rw[Zu O];exact h.mv),(h.gr.setRow _ Zy _).setRow _ O _⟩
def Tm.second(h:Tm w W)(A:I0):(W.setRow w A).heap[w.heap.size+1]?=Z zC 87:=by rw[Zu O];exact h.mv
structure T2(w:I6)(b1:Nat)(A:I0)(b2:Nat)(M:I0)(W:I6):Prop where
 tm:Tm w W
 p:W.heap[b1]?=S (Z A 70)
 lp:b1<W.heap.size
 m:W.heap[b2]?=S (Z M 87)
 lm:b2<W.heap.size
def T2.next{b:Nat}(h:T2 w b A d M W)(g:Gr W a):T2 w b A d M a:=⟨h.tm.next g,(Zz g h.lp).trans h.p,qN h.lp (ZR g),(Zz g h.lm).trans h.m,qN h.lm (ZR g)⟩
structure T3(w:I6)(b1:Nat)(A:I0)(b2:Nat)(M:I0)(W:I6):Prop where
 ps:∃R,R.size=72/\W.heap[w.heap.size]?=S (Z R 70)
 mv:∃R,R.size=3/\W.heap[w.heap.size+1]?=S (Z R 87)
 gr:Gr w W
 p:W.heap[b1]?=S (Z A 70)
 lp:b1<W.heap.size
 m:W.heap[b2]?=S (Z M 87)
 lm:b2<W.heap.size
 h1:w.heap.size+1<b1
 h2:w.heap.size+1<b2
def T3.of{a b:Nat}(h:T2 w a A b M W)(d:w+1<a)(e:w+1<b):T3 w a A b M W:=⟨⟨_,xF,h.tm.ps⟩,⟨_,R,h.tm.mv⟩,h.tm.gr,h.p,h.lp,h.m,h.lm,d,e⟩
def T3.c0{b a:Nat}{x:Nat×Nat×UInt8}(h:T3 w b A a (z8 x) W):W.cell? a=(x.1:Int):=VV
def T3.c1{b a:Nat}{x:Nat×Nat×UInt8}(h:T3 w b A a (z8 x) W):W.cell? ⟨a,1,N⟩=(x.2.1:Int):=VV
def T3.c2{b a:Nat}{x:Nat×Nat×UInt8}(h:T3 w b A a (z8 x) W):W.cell? ⟨a,2,N⟩=I Zg (x.2.2.toNat:Int):=VV
def T2.c0{b a:Nat}{x:Nat×Nat×UInt8}(h:T2 w b A a (z8 x) W):W.cell? a=(x.1:Int):=VV
def T2.c1{b a:Nat}{x:Nat×Nat×UInt8}(h:T2 w b A a (z8 x) W):W.cell? ⟨a,1,N⟩=(x.2.1:Int):=VV
def T2.c2{b a:Nat}{x:Nat×Nat×UInt8}(h:T2 w b A a (z8 x) W):W.cell? ⟨a,2,N⟩=I Zg (x.2.2.toNat:Int):=VV
def t7{p:pH}(h:xP p=Zk):0<=p.half/\p.half<=65535/\0<=p.full/\p.full<=65535:=by unfold xP k6 cK at h;simp only[qH]at h;obtain⟨_,⟨⟨⟨⟨_,_⟩,_⟩,_⟩,a⟩,_⟩:=h;unfold zP at a;simp only[qH,qG]at a;omega
def o8(x:I4):Zm (0<=dJ x)=(uX x).isSome:=by grind[dJ,uX,qJ]
def EA{s:I4}(h:s.size=4\/s.size=5):(yn s).isSome=(Zm (0<=dJ (s.extract 0 2))&&Zm (0<=dJ (s.extract 2 4))&&(aw (s.extract 4 s.size)).2):=by
 rw[o8,o8];rw[yn,qI h];cases uX (s.extract 0 2)with
 | none=>rfl
 | some f=>
  cases uX (s.extract 2 4)with
  | none=>rfl
  | some t=>
   simp only;cases (aw (s.extract 4 s.size)).2<;>rfl
def cY(s:I4)(w:I6):i_ c_ 103 #[s] w λe w'=>e=Zd ((yn s).isSome)/\w'=w:=by
 by_cases f:s.size=4\/s.size=5
 .have d:=EA f;generalize (yn s).isSome=V at d|-;have l:=λW=>zb (s.extract 0 2) W;have m:=λW=>zb (s.extract 2 4) W;generalize dJ (s.extract 0 2)=v at d l;generalize dJ (s.extract 2 4)=y at d m;obtain⟨q,j⟩:=Zo (Zm (0<=v));obtain⟨r,k⟩:=Zo (Zm (0<=y));rw[j,k]at d;obtain h|h:=f
  .rw[rc h]at d;have o:((s.size:Int)!=4)=Zl:=Us;have p:((s.size:Int)==4)=Zk:=Us;have A:(4:Int)<=(s.size:Int):=O;cases q<;>cases r <;>
    (go_in
     go_upto_region 4 with(go_at_call 104;refine Z1 (l _) ?_);go_upto_region 5 with(go_at_call 104;refine Z1 (m _) ?_);go_wp2;go_ret;exact⟨by rw[d];rfl,R⟩)
  have C:4<s.size:=O;rw[rZ h]at d;have n:=λW=>xa ⟨#[113,114,98,110]⟩ WS s[4] W;obtain⟨u,g⟩:=Zo (Zm (0<=e_ uf s[4]));rw[g]at d;have i:Zm ((0:Int)<=e_ (⟨#[113,114,98,110]⟩:I4).data.toList s[4])=u:=g;generalize e_ (⟨#[113,114,98,110]⟩:I4).data.toList s[4]=B at n i;have o:((s.size:Int)!=4)=Zk:=Us;have p:((s.size:Int)!=5)=Zl:=Us;have D:((s.size:Int)==4)=Zl:=Us;have A:(4:Int)<(s.size:Int):=O;cases q<;>cases r<;>cases u <;>
   (go_in
    go_upto_region 4 with(go_at_call 104;refine Z1 (l _) ?_);go_upto_region 5 with(go_at_call 104;refine Z1 (m _) ?_);go_wp2_with(go_at_call 111;refine Z1 (n _) ?_);go_ret;exact⟨by rw[d];rfl,R⟩)
 have z:yn s=N:=by rw[yn,qF f]
 rw[z];have o:((s.size:Int)!=4)=Zk:=V3;have p:((s.size:Int)!=5)=Zk:=V3;go_in;go_wp2;exact WB
def Cf(fc:I5)(f t n k:Nat):cM fc f t n k=kB fc f t n k:=by unfold cM kB toB E6 pP;simp only[lS];cases Zm ((f:Int)=xY k)<;>cases Zm ((f:Int)=zD k)<;>cases Zm ((t:Int)=xY k)<;>cases Zm ((t:Int)=zD k)<;>rfl
def Es(wh:Bool){g:Int}(a:g<=65535):Ce wh g=kj wh g:=by grind[Ce,kj,qJ,qR,qE]
def Er(z:I2)(b:Int)(f t:Nat)(a:h<=65535):Cd z b f t h=kK z f t h:=by grind[Cd,kK,iQ,uP,dR,vE,qJ,qE,qR]
def Ev{t:Nat}(a:j9 z wh fc b f t u=Zk):oA z wh f t=vK z f t:=by
 unfold oA vK oZ AW;rw[dR];by_cases c:vE (z f)=0
 .rw[qJ c,Xc,Xc];unfold j9 at a;rw[qH,qI c]at a;have a:=a.2;unfold BD at a;have h:uI f t=xK wh\/(uI f t=2*xK wh/\f%8=t%8):=by
   by_cases i:xS (zI z) 0 (xK wh) (f:Int) (t:Int)=Zk
   .exact Zi (lW i)
   rw[qF i]at a;unfold DC at a;simp only[qH,Ym,qG]at a;obtain⟨⟨j,_⟩,g|g⟩:=a
   .exact Zi g
   exact Zj ⟨g.1.1,j⟩
  obtain e|⟨e,k⟩:=h
  .rw[e];cases wh<;>rfl
  cases wh
  .have d:uI f t=-2:=e;rw[d];show(f:Int)+8*xK Zl=(((f+t)/2:Nat):Int);unfold uI at d;unfold xK;simp only[qR,YH];omega
  have d:uI f t=2:=e;rw[d];show(f:Int)+8*xK Zk=(((f+t)/2:Nat):Int);unfold uI at d;unfold xK;simp only[YS];omega
 rw[qE c];rfl
def vi:(c_.info? 125).map (·.size)=S 3:=WR
def Du(x:Nat×Nat×UInt8):(z8 x).all (·.oneCell')=Zk:=by simp[z8,Value.oneCell']
def aa:c_.built 125 []=zC:=WR
def qkx(f t:Int):c_.built 125 [(0,f),(1,t)]=S #[I L f,I L t,I Zg 0]:=WR
def qq2(tmps:I0)(w:I6)(g:Nat)(A M Q:I0)(n:tmps.getD 4 m_=ZI g)(h:tmps.getD 5 m_=ZI (g+1))(i:tmps.getD 6 m_=ZI (g+2))(j:w.heap[g]?=Z A 70) (k:w.heap[g+1]?=Z M 125) (l:w.heap[g+2]?=Z Q 70) (a:A.size=72) (m:M.size=3) (q:Q.size=72):(results Tryz.f51 tmps).run c_ w=.ok (Ze #[A,M,Q,tmps.getD 7 m_]) w:=by
 have e:tmps[4]?.getD m_=ZI g:=by simpa using n
 have b:tmps[5]?.getD m_=ZI (g+1):=Vq;have d:tmps[6]?.getD m_=ZI (g+2):=by simpa using i
 simp[results,results51,e,b,d,asAddr,run_loadVar_row w g _ 70 A _ _ j s_ rfl (by rw[a];exact q9),run_loadVar_row w (g+1) _ 125 M _ _ k underlying125 rfl (by rw[m];exact vi),run_loadVar_row w (g+2) _ 70 Q _ _ l s_ rfl (by rw[q];exact q9)]
def o7{s:I4}(h:uX s=n):n<64:=by grind[uX]
def AX:∀c:UInt8,0<=e_ uf c->c∈U5:=vg WS
def mV{t:I4}(h:yn t=S (f,d,u)):dJ (t.extract 0 2)=(f:Int)/\dJ (t.extract 2 4)=(d:Int)/\f<64/\d<64/\u∈U5/\((t.size=4/\u=0)\/(∃h:t.size=5,u=t[4])):=by
 unfold yn at h;split at h
 case isFalse=>cases h
 case isTrue h45=>
  split at h
  case h_2=>cases h
  case h_1 a b ea eb=>
   split at h
   case isFalse=>cases h
   case isTrue hd=>
    injection h with h;injection h with h1 h;injection h with h2 h3;subst h1 h2;refine⟨by rw[dJ,ea],by rw[dJ,eb],o7 ea,o7 eb,?_,?_⟩
    .obtain e|e:=h45
     .rw[rc e]at h3;rw[<-h3];decide
     rw[rZ e]at h3 hd;rw[<-h3];exact AX _ (q8 hd)
    obtain e|e:=h45
    .rw[rc e]at h3;exact Zi ⟨e,h3.symm⟩
    rw[rZ e]at h3;exact Zj ⟨e,h3.symm⟩
structure T4(w:I6)(b1:Nat)(A:I0)(W:I6):Prop where
 r1:∃R,R.size=72/\W.heap[w.heap.size]?=S (Z R 70)
 r2:∃R,R.size=3/\W.heap[w.heap.size+1]?=S (Z R 125)
 r3:∃R,R.size=72/\W.heap[w.heap.size+2]?=S (Z R 70)
 gr:Gr w W
 p:W.heap[b1]?=S (Z A 70)
 lo:w.heap.size+2<b1
def T4.next{b:Nat}(h:T4 w b A W)(g:Gr W a):T4 w b A a:=by obtain⟨i,l,d⟩:=h.r1;obtain⟨j,m,e⟩:=h.r2;obtain⟨k,n,f⟩:=h.r3;exact⟨⟨i,l,(Zz g (xe d)).trans d⟩,⟨j,m,(Zz g (xe e)).trans e⟩,⟨k,n,(Zz g (xe f)).trans f⟩,o_ h.gr g,(Zz g (xe h.p)).trans h.p,h.lo⟩
def T4.put1{a:Nat}(h:T4 w a A W)(o:I0)(k:o.size=72):T4 w a A (W.setRow w o):=by obtain⟨m,n,g⟩:=h.r1;obtain⟨b,e,i⟩:=h.r2;obtain⟨d,f,j⟩:=h.r3;have l:=h.lo;exact⟨⟨o,k,Zt g⟩,⟨b,e,Od⟩,⟨d,f,Oc⟩,h.gr.setRow _ Zy _,VJ,l⟩
def T4.put2{a:Nat}(h:T4 w a A W)(o:I0)(k:o.size=3):T4 w a A (W.setRow (w+1) o):=by obtain⟨b,e,g⟩:=h.r1;obtain⟨m,n,i⟩:=h.r2;obtain⟨d,f,j⟩:=h.r3;have l:=h.lo;exact⟨⟨b,e,by rw[Zu O];exact g⟩,⟨o,k,Zt i⟩,⟨d,f,Oc⟩,h.gr.setRow _ O _,VJ,l⟩
def T4.put3{a:Nat}(h:T4 w a A W)(o:I0)(k:o.size=72):T4 w a A (W.setRow (w+2) o):=by obtain⟨b,e,g⟩:=h.r1;obtain⟨d,f,i⟩:=h.r2;obtain⟨m,n,j⟩:=h.r3;have l:=h.lo;exact⟨⟨b,e,by rw[Zu O];exact g⟩,⟨d,f,Od⟩,⟨o,k,Zt j⟩,h.gr.setRow _ O _,VJ,l⟩
def T4.far{a:Nat}(h:T4 w a A W)(B:Nat)(o:I0)(m:w+2<B)(n:B≠a):T4 w a A (W.setRow B o):=by obtain⟨b,f,j⟩:=h.r1;obtain⟨d,g,k⟩:=h.r2;obtain⟨e,i,l⟩:=h.r3;exact⟨⟨b,f,Oc⟩,⟨d,g,by rw[Zu O];exact k⟩,⟨e,i,by rw[Zu O];exact l⟩,h.gr.setRow _ O _,VJ,h.lo⟩
structure T5(w:I6)(b1:Nat)(A:I0)(B:Nat)(M:I0)(W:I6):Prop where
 t:T4 w b1 A W
 m:W.heap[B]?=S (Z M 125)
 lm:w.heap.size+2<B
 ne:B≠b1
def T5.next{b:Nat}(h:T5 w b A B M W)(g:Gr W a):T5 w b A B M a:=⟨h.t.next g,(Zz g (xe h.m)).trans h.m,h.lm,h.ne⟩
def T5.put1{a:Nat}(h:T5 w a A B M W)(d:I0)(b:d.size=72):T5 w a A B M (W.setRow w d):=⟨h.t.put1 d b,UO,h.lm,h.ne⟩
def T5.put2{a:Nat}(h:T5 w a A B M W)(d:I0)(b:d.size=3):T5 w a A B M (W.setRow (w+1) d):=⟨h.t.put2 d b,UO,h.lm,h.ne⟩
def T5.put3{a:Nat}(h:T5 w a A B M W)(d:I0)(b:d.size=72):T5 w a A B M (W.setRow (w+2) d):=⟨h.t.put3 d b,UO,h.lm,h.ne⟩
def T5.new{a:Nat}(h:T4 w a A W):T5 w a A W M ((W.alloc (Z zC 125)).setRow W M):=by have:=xe h.p;have:=h.lo;exact⟨h.next (ZN.setRow _ Zy _),Zt Zv,O,O⟩
def T5.turn{b:Nat}(h:T5 w b A B (z8 (f,d,0)) W)(u:UInt8):T5 w b A B (z8 (f,d,u)) (W.setCell ⟨B,2,N⟩ (I Zg u.toNat)):=by have a:Fr (λk _=>k≠B) W (W.setCell ⟨B,2,N⟩ (I Zg u.toNat)):=ZP.setCell _ (λo _ q=>q R);obtain⟨e,j,r⟩:=h.t.r1;obtain⟨g,l,v⟩:=h.t.r2;obtain⟨i,n,x⟩:=h.t.r3;have y:=h.lm;have ne:=h.ne;refine⟨⟨⟨e,j,a.same _ _ r O⟩,⟨g,l,a.same _ _ v O⟩,⟨i,n,a.same _ _ x O⟩,Yr h.t.gr (show w<=B from O) _,a.same _ _ h.t.p O,h.t.lo⟩,qv h.m,y,ne⟩
def T5.c0{a:Nat}{x:Nat×Nat×UInt8}(h:T5 w a A B (z8 x) W):W.cell? B=(x.1:Int):=VV
def T5.c1{a:Nat}{x:Nat×Nat×UInt8}(h:T5 w a A B (z8 x) W):W.cell? ⟨B,1,N⟩=(x.2.1:Int):=VV
def T5.c2{a:Nat}{x:Nat×Nat×UInt8}(h:T5 w a A B (z8 x) W):W.cell? ⟨B,2,N⟩=I Zg (x.2.2.toNat:Int):=VV
def pJ(s t:I4)(e:Ending):Prop:=
 (∃k P M Q,k≠0/\iO s t k/\P.size=72/\M.size=3/\Q.size=72/\P.all (·.oneCell')=Zk/\M.all (·.oneCell')=Zk/\Q.all (·.oneCell')=Zk/\e=Zd (Ze #[Zc P,Zc M,Zc Q,I L k])) ∨
 (∃p x Q,xG s=S p/\xP p=Zk/\yn t=S x/\x∈xC (xM p) p.white p.castle p.behind/\jE (zE (xM p) p.behind x) (!p.white) (kB p.castle x.1 x.2.1 4) (vK (xM p) x.1 x.2.1) (kK (xM p) x.1 x.2.1 p.half) (kj p.white p.full) Q/\e=Zd (Ze #[Zc (jV p),Zc (z8 x),Zc Q,I L 0]))
def bT{g:Int}(e:kJ z wh fc b)(n:h<=65535)(l:g<=65535){t:Nat}(j:f<64)(k:t<64)(q:u∈U5)(a:vo z wh fc b f t u=Zk){Q:I0}(r:jE (ua z wh fc b f t u) (!wh) (cM fc f t 4) (oA z wh f t) (Cd z b f t h) (Ce wh g) Q):jE (zE z b (f,t,u)) (!wh) (kB fc f t 4) (vK z f t) (kK z f t h) (kj wh g) Q:=by unfold vo at a;rw[qH]at a;obtain⟨i,o,m,p,d⟩:=(qjy e j k q).1 a.1;rw[pC e o j k m p d,Ev a.1,Er _ _ _ _ n,Es _ l]at r;exact jE.castle r λi _=>Cf _ _ _ _ _
def eh(s t:I4)(hs:s.size<4294967281)(w:I6):i_ c_ 51 #[Zb s,Zb t] w λe w'=>pJ s t e/\Gr w w':=by
 obtain⟨y1,y2,y3,y4⟩:=jG w (Z b_ 70) (Z zC 125) (Z b_ 70);have G:Gr w (((w.alloc (Z b_ 70)).alloc (Z zC 125)).alloc (Z b_ 70)):=ZN.al.al;have h1:Y (∀W,i_ c_ 53 #[Zb s] W λe w'=>zA s e/\Gr W w'):=X (λW=>qvq s hs W);have a4:=X (λW=>cY t W);obtain⟨p,hr,F,d0⟩|⟨k,hk,b0,d0⟩:=xy s
 .have h2:Y (∀W,ZL 53 #[Zb s] W (Ze #[Zc (jV p),I L 0])):=X (λW=>(h1.a W).mono λe w' h=>⟨d0 e h.1,h.2⟩);have y:=jo hr;have g:=y.size;have r:=X (qx y);obtain⟨hC,a0,a1⟩:=Fp hr F;obtain⟨c0,c1,c2,c3⟩:=t7 F;have a6:Y (∀(f b:Nat)(u:UInt8),f<64->b<64->u∈U5->∀W,ZL 105 #[Zc (jV p),Zc (ZJ f b u)] W (Za (vo (xM p) p.white p.castle p.behind f b u))):=X λf b u i v H W=>qjj y hC a0 a1 c0 c1 c2 c3 f b i v u H W;have V:Y (∀(f b:Nat)(u:UInt8),f<64->b<64->u∈U5->∀W,i_ c_ 106 #[Zc (jV p),Zc (ZJ f b u)] W λe w'=>∃Q,e=Zd (Zc Q)/\jE (ua (xM p) p.white p.castle p.behind f b u) (!p.white) (cM p.castle f b 4) (oA (xM p) p.white f b) (Cd (xM p) p.behind f b p.half) (Ce p.white p.full) Q/\Gr W w'):=X λf b u i v H W=>qxg y f b i v u H c0 c1 c2 c3 W;have J:Y (yn t=N->pJ s t (Zd (Ze #[Zc (jV p),Zc zC,Zc (jV p),I L 1]))):=X (λe=>Zi ⟨1,_,_,_,WW,Zj (Zi ⟨R,p,hr,F,e⟩),g,R,g,r.a,vP,r.a,R⟩);have d2:Y (∀f b u,yn t=S (f,b,u)->f<64->b<64->u∈U5->vo (xM p) p.white p.castle p.behind f b u=Zl->pJ s t (Zd (Ze #[Zc (jV p),Zc (z8 (f,b,u)),Zc (jV p),I L 4]))):=X (λf b u e i v H q=>Zi ⟨4,_,_,_,WW,Zj (Zj ⟨R,p,_,hr,F,e,λhx=>by
   rw[(C8 hC a0 a1 i v H).2 ((je hC a0 a1 _).2 hx)]at q;cases q⟩),g,R,g,r.a,Du _,r.a,R⟩)
  have d1:Y (∀f b u,yn t=S (f,b,u)->f<64->b<64->u∈U5->vo (xM p) p.white p.castle p.behind f b u=Zk->∀Q,jE (ua (xM p) p.white p.castle p.behind f b u) (!p.white) (cM p.castle f b 4) (oA (xM p) p.white f b) (Cd (xM p) p.behind f b p.half) (Ce p.white p.full) Q->pJ s t (Zd (Ze #[Zc (jV p),Zc (z8 (f,b,u)),Zc Q,I L 0]))):=X (λf b u e i v H q Q hQ=>Zj ⟨p,_,Q,hr,F,e,(je hC a0 a1 _).1 ((C8 hC a0 a1 i v H).1 q),bT hC c1 c3 i v H q hQ,R⟩);generalize jV p=A at h2 g r a6 V J d2 d1;go_in;go_upto_region 1 with fail;show n_ _ _ _ _ (((w.alloc (Z b_ 70)).alloc (Z zC 125)).alloc (Z b_ 70));generalize (((w.alloc (Z b_ 70)).alloc (Z zC 125)).alloc (Z b_ 70))=w0 at y1 y2 y3 y4 G|-;go_upto_region 4 with(first|(go_at_call 53;refine Z0 (h2.a _) λn a3=>?_)|(refine ZC n.heap.size A Zv g r.a ?_));have a2:Gr n ((n.alloc (Z b_ 70)).setRow n.heap.size A):=((q_ n).alloc b_ 70).setRow n.heap.size Zy A;have j:T4 w n.heap.size A ((n.alloc (Z b_ 70)).setRow n.heap.size A):=by have hg:=o_ a3 a2;have c4:=ZR a3;exact⟨⟨_,xF,(Zz hg (xe y1)).trans y1⟩,⟨_,R,(Zz hg (xe y2)).trans y2⟩,⟨_,xF,(Zz hg (xe y3)).trans y3⟩,o_ G hg,Zt (Z7 n _),O⟩
  show n_ _ _ _ _ ((n.alloc (Z b_ 70)).setRow n.heap.size A);generalize (n.alloc (Z b_ 70)).setRow n.heap.size A=w4 at j|-;generalize n.heap.size=D at j|-;cases hm:yn t with
  | none=>
   have z:=X (J.a hm);rw[hm]at a4;go_upto_region 6 with(go_at_call 103;refine Z1 (a4.a _) ?_);have d:T4 w D A _:=j.next ZO.drew;refine ZT (S:=T4 w D A) WR d (λa=>?_);refine ty 0 (Zc A) R (zy g Vb _ R D R (λ_ h=>qy h.p)) a ?_;refine ty 1 (Zc zC) R (BB Vb 125 #[] R zC (by simp only[List.map_toArray,Wi];exact aa)) a ?_;refine ty 2 (Zc A) R (zy g Vb _ R D R (λ_ h=>qy h.p)) a ?_;refine rd 3 λK hK=>?_
   rw[qI Vb];obtain⟨R1,r1,r2⟩:=a.r1;refine YQ 70 _ _ R w.heap.size A R R 70 R1 r2 V5 (by rw[g,r1]) r.a ?_;refine hK.out _ _ (a.put1 A g) λa=>?_
   try simp only[py]
   refine rd 4 λK hK=>?_
   rw[qI Vb];obtain⟨R2,r3,r4⟩:=a.r2;refine YQ 125 _ _ R (w.heap.size+1) zC R R 125 R2 r4 vi (by rw[r3];rfl) vP ?_;refine hK.out _ _ (a.put2 zC R) λa=>?_
   try simp only[py]
   refine rd 5 λK hK=>?_
   rw[qI Vb];obtain⟨R3,r5,r6⟩:=a.r3;refine YQ 70 _ _ R (w.heap.size+2) A R R 70 R3 r6 V5 (by rw[g,r5]) r.a ?_;refine hK.out _ _ (a.put3 A g) λa=>?_
   try simp only[py]
   refine rd 6 λK hK=>?_
   go_simp;refine hK.out _ _ (a) λa=>?_
   try simp only[py]
   refine ZZ WR ?_ _;have P:=X a.gr;go_wp2;exact ZS (v:=Ze #[Zc A,Zc zC,Zc A,I L 1]) (qq2 _ _ w.heap.size A zC A R R R VK Ue (Zt r6) g R g) R ⟨z.a,P.a⟩
  | some x=>
   obtain⟨f,b,u⟩:=x;obtain⟨e1,e2,i,v,H,b2⟩:=mV hm;have k1:Y (∀W,i_ c_ 104 #[Zb (t.extract 0 2)] W λe w'=>e=Zd (I L f)/\w'=W):=X (λW=>by rw[<-e1];exact zb _ W);have k2:Y (∀W,i_ c_ 104 #[Zb (t.extract 2 4)] W λe w'=>e=Zd (I L b)/\w'=W):=X (λW=>by rw[<-e2];exact zb _ W);have M:=X (a6.a f b u i v H);have a5:=X (V.a f b u i v H);have h4:=X (d2.a f b u hm i v H);have b1:=X (d1.a f b u hm i v H);rw[hm]at a4;have l4:(4:Int)<=(t.size:Int):=by rcases b2 with⟨e,_⟩|⟨e,_⟩<;>omega
   have E:=X b2;generalize vo (xM p) p.white p.castle p.behind f b u=LG at M h4 b1;go_upto_region 7 with(go_at_call 103;refine Z1 (a4.a _) ?_);go_cut [11]from 13 (λb3 wx=>∃B,b3=ZI B/\T5 w D A B (z8 (f,b,0)) wx)
   case first=>
    have T:T4 w D A w4.drew:=j.next ZO.drew;refine ZT (S:=T4 w D A) WR T (λa=>?_);refine tq 0 (Zb t) a ?_;refine ZB 1 (Zb (t.extract 0 2)) R (λw' o=>by go_simp;try(intro hx;omega)) a ?_;refine tq 3 (Zb t) a ?_;refine ZB 4 (Zb (t.extract 2 4)) R (λw' o=>by go_simp;try(intro hx;omega)) a ?_;refine Xk (rs:=[2,7]) WR WU ?_;refine Yc R (λK hK=>?_) (Yc R (λK hK=>?_) Xb)
    .go_simp;refine Z1 (k1.a _) ?_;refine hK.out _ _ a λa=>?_
     try simp only[py]
     refine Xk (rs:=[5,7]) WR WU ?_;refine Yc R (λK hK=>?_) (Yc R (λK hK=>?_) Xb)
     .go_simp;refine Z1 (k2.a _) ?_;refine hK.out _ _ a λa=>?_
      try simp only[py]
      refine ty 6 (Zc (z8 (f,b,0))) R (BB Vb 125 #[(0,.tmp 33),(1,.tmp 36)] R (z8 (f,b,0)) V6) a ?_;refine rd 7 λK hK=>?_
      go_simp;refine hK.out _ _ (a.next ZN) λa=>?_
      try simp only[py]
      refine rd 8 λK hK=>?_
      rw[qI Vb];refine YQ 125 _ _ R w4.heap.size (z8 (f,b,0)) R R 125 zC Zv vi R (Du _) ?_;refine hK.out _ _ (a.far w4.heap.size _ U7 (Nat.ne_of_gt (xe j.p))) λa=>?_
      try simp only[py]
      refine ZZ WR ?_ _;go_wp2;go_meet
      case rel=>exact⟨_,R,T5.new T⟩
     go_simp;refine hK.out _ _ (a.next ZN) λa=>?_
     try simp only[py]
     refine rd 5 λK hK=>?_
     go_simp;refine Z1 (k2.a _) ?_;refine hK.out _ _ a λa=>?_
     try simp only[py]
     refine ty 6 (Zc (z8 (f,b,0))) R (BB Vb 125 #[(0,.tmp 33),(1,.tmp 36)] R (z8 (f,b,0)) V6) a ?_;refine rd 8 λK hK=>?_
     rw[qI Vb];refine YQ 125 _ _ R w4.heap.size (z8 (f,b,0)) R R 125 zC Zv vi R (Du _) ?_;refine hK.out _ _ (a.far w4.heap.size _ U7 (Nat.ne_of_gt (xe j.p))) λa=>?_
     try simp only[py]
     refine ZZ WR ?_ _;go_wp2;go_meet
     case rel=>exact⟨_,R,T5.new T⟩
    go_simp;refine hK.out _ _ (a.next ZN) λa=>?_
    try simp only[py]
    refine rd 2 λK hK=>?_
    go_simp;refine Z1 (k1.a _) ?_;refine hK.out _ _ a λa=>?_
    try simp only[py]
    refine rd 5 λK hK=>?_
    go_simp;refine Z1 (k2.a _) ?_;refine hK.out _ _ a λa=>?_
    try simp only[py]
    refine ty 6 (Zc (z8 (f,b,0))) R (BB Vb 125 #[(0,.tmp 33),(1,.tmp 36)] R (z8 (f,b,0)) V6) a ?_;refine rd 8 λK hK=>?_
    rw[qI Vb];refine YQ 125 _ _ R w4.heap.size (z8 (f,b,0)) R R 125 zC Zv vi R (Du _) ?_;refine hK.out _ _ (a.far w4.heap.size _ U7 (Nat.ne_of_gt (xe j.p))) λa=>?_
    try simp only[py]
    refine ZZ WR ?_ _;go_wp2;go_meet
    case rel=>exact⟨_,R,T5.new T⟩
   case rest=>
    obtain⟨B,rfl,l⟩:=hcut;obtain⟨q5,a7⟩:=Zo ((t.size:Int)==5);go_upto_if 40 with fail;go_cut [11]from 41 to 43 (λb3 wx=>b3=ZI B/\T5 w D A B (z8 (f,b,u)) wx)
    case first=>
     cases q5
     .have a9:u=0:=by
       obtain⟨e,H⟩|⟨e,H⟩:=E.a
       .exact H
       rw[e]at a7;cases a7
      subst a9;have b4:=X l;go_wp2;go_meet
      case rel=>exact⟨R,b4.a⟩
     have c5:4<t.size:=(by have:=q8 a7;omega);have a9:u=t[4]:=by
      obtain⟨e,H⟩|⟨e,H⟩:=E.a
      .omega
      exact H
     have c2:=l.c2;have c6:_:=xr (i:=2) l.m;have l5:(4:Int)<(t.size:Int):=O
     have hn:=X (l.turn u);rw[a9]at hn;go_wp2;go_meet
     case rel=>exact⟨R,by rw[a9];exact hn.a⟩
    case rest=>
     obtain⟨rfl,l⟩:=hcut;have c0:=l.c0;have c1:=l.c1;have c2:=l.c2;have y:=X (vF l.t.p)
     go_upto_region 11 with(first|(go_at_call 105;refine Z0 (M.a _) λw8 b5=>?_)|(refine ql Vb _ R D R g y.a ?_));have l:=l.next b5;cases LG
     .have z:=X (h4.a R);go_upto_region 12 with fail;have d:T5 w D A B (z8 (f,b,u)) _:=l.next ZO.drew;refine ZT (S:=T5 w D A B (z8 (f,b,u))) WR d (λa=>?_);refine ty 0 (Zc A) R (zy g Vb _ R D R (λ_ h=>qy h.t.p)) a ?_;refine ZB 1 (Zc (z8 (f,b,u))) R (λw' o=>V1) a ?_;refine ty 2 (Zc A) R (zy g Vb _ R D R (λ_ h=>qy h.t.p)) a ?_;refine rd 3 λK hK=>?_
      rw[qI Vb];obtain⟨R1,r1,r2⟩:=a.t.r1;refine YQ 70 _ _ R w.heap.size A R R 70 R1 r2 V5 (by rw[g,r1]) r.a ?_;refine hK.out _ _ (a.put1 A g) λa=>?_
      try simp only[py]
      refine rd 4 λK hK=>?_
      rw[qI Vb];obtain⟨R2,r3,r4⟩:=a.t.r2;refine YQ 125 _ _ R (w.heap.size+1) (z8 (f,b,u)) R R 125 R2 r4 vi (by rw[r3];rfl) (Du _) ?_;refine hK.out _ _ (a.put2 (z8 (f,b,u)) R) λa=>?_
      try simp only[py]
      refine rd 5 λK hK=>?_
      rw[qI Vb];obtain⟨R3,r5,r6⟩:=a.t.r3;refine YQ 70 _ _ R (w.heap.size+2) A R R 70 R3 r6 V5 (by rw[g,r5]) r.a ?_;refine hK.out _ _ (a.put3 A g) λa=>?_
      try simp only[py]
      refine rd 6 λK hK=>?_
      go_simp;refine hK.out _ _ (a) λa=>?_
      try simp only[py]
      refine ZZ WR ?_ _;have P:=X a.t.gr;go_wp2;exact ZS (v:=Ze #[Zc A,Zc (z8 (f,b,u)),Zc A,I L 4]) (qq2 _ _ w.heap.size A (z8 (f,b,u)) A R R R VK Ue (Zt r6) g R g) R ⟨z.a,P.a⟩
     have h0:=X (b1.a R);go_upto_region 13 with fail;have d:T5 w D A B (z8 (f,b,u)) _:=l.next ZO.drew;refine ZT (S:=T5 w D A B (z8 (f,b,u))) WR d (λa=>?_);refine ty 0 (Zc A) R (zy g Vb _ R D R (λ_ h=>qy h.t.p)) a ?_;refine ZB 1 (Zc (z8 (f,b,u))) R (λw' o=>V1) a ?_;refine ty 2 (Zc A) R (zy g Vb _ R D R (λ_ h=>qy h.t.p)) a ?_;refine ZB 3 (Zc (z8 (f,b,u))) R (λw' o=>V1) a ?_;refine rd 4 λK hK=>?_
     go_simp;refine(a5.a _).mono ?_;rintro e wb ⟨Q,rfl,hQ,b6⟩;have a8:=hQ.size;have b7:=qx hQ;have z:=X (h0.a Q hQ);refine hK.out _ _ (a.next b6) λa=>?_
     try simp only[py]
     refine rd 5 λK hK=>?_
     rw[qI Vb];obtain⟨R1,r1,r2⟩:=a.t.r1;refine YQ 70 _ _ R w.heap.size A R R 70 R1 r2 V5 (by rw[g,r1]) r.a ?_;refine hK.out _ _ (a.put1 A g) λa=>?_
     try simp only[py]
     refine rd 6 λK hK=>?_
     rw[qI Vb];obtain⟨R2,r3,r4⟩:=a.t.r2;refine YQ 125 _ _ R (w.heap.size+1) (z8 (f,b,u)) R R 125 R2 r4 vi (by rw[r3];rfl) (Du _) ?_;refine hK.out _ _ (a.put2 (z8 (f,b,u)) R) λa=>?_
     try simp only[py]
     refine rd 7 λK hK=>?_
     rw[qI Vb];obtain⟨R3,r5,r6⟩:=a.t.r3;refine YQ 70 _ _ R (w.heap.size+2) Q R R 70 R3 r6 (by rw[a8];exact q9) (by rw[a8,r5]) b7 ?_;refine hK.out _ _ (a.put3 Q a8) λa=>?_
     try simp only[py]
     refine rd 8 λK hK=>?_
     go_simp;refine hK.out _ _ (a) λa=>?_
     try simp only[py]
     refine ZZ WR ?_ _;have P:=X a.t.gr;go_wp2;exact ZS (v:=Ze #[Zc A,Zc (z8 (f,b,u)),Zc Q,I L 0]) (qq2 _ _ w.heap.size A (z8 (f,b,u)) Q R R R VK Ue (Zt r6) g R a8) R ⟨z.a,P.a⟩
 have h2:Y (∀W,ZL 53 #[Zb s] W (Ze #[Zc b_,I L k])):=X (λW=>(h1.a W).mono λe w' h=>⟨d0 e h.1,h.2⟩);have z:Y (pJ s t (Zd (Ze #[Zc b_,Zc zC,Zc b_,I L k]))):=X (Zi ⟨k,_,_,_,hk,Zi b0,xF,R,xF,xH,vP,xH,R⟩);have k2:(k !=0)=Zk:=Oo;go_in;go_upto_region 1 with fail;show n_ _ _ _ _ (((w.alloc (Z b_ 70)).alloc (Z zC 125)).alloc (Z b_ 70));generalize (((w.alloc (Z b_ 70)).alloc (Z zC 125)).alloc (Z b_ 70))=w0 at y1 y2 y3 y4 G|-;go_upto_region 3 with(first|(go_at_call 53;refine Z0 (h2.a _) λn a3=>?_)|(refine ZC n.heap.size b_ Zv xF xH ?_));have a2:Gr n ((n.alloc (Z b_ 70)).setRow n.heap.size b_):=((q_ n).alloc b_ 70).setRow n.heap.size Zy _;have j:T4 w n.heap.size b_ ((n.alloc (Z b_ 70)).setRow n.heap.size b_):=by have hg:=o_ a3 a2;have c4:=ZR a3;exact⟨⟨_,xF,(Zz hg (xe y1)).trans y1⟩,⟨_,R,(Zz hg (xe y2)).trans y2⟩,⟨_,xF,(Zz hg (xe y3)).trans y3⟩,o_ G hg,Zt (Z7 n _),O⟩
 show n_ _ _ _ _ ((n.alloc (Z b_ 70)).setRow n.heap.size b_);generalize (n.alloc (Z b_ 70)).setRow n.heap.size b_=w4 at j|-;generalize n.heap.size=D at j|-;have g:=xF;have d:T4 w D b_ _:=j.next ZO.drew;refine ZT (S:=T4 w D b_) WR d (λa=>?_);refine ty 0 (Zc b_) R (zy g Vb _ R D R (λ_ h=>qy h.p)) a ?_;refine ty 1 (Zc zC) R (BB Vb 125 #[] R zC (by simp only[List.map_toArray,Wi];exact aa)) a ?_;refine ty 2 (Zc b_) R (zy g Vb _ R D R (λ_ h=>qy h.p)) a ?_;refine tq 3 (I L k) a ?_;refine rd 4 λK hK=>?_;rw[qI Vb];obtain⟨R1,r1,r2⟩:=a.r1;refine YQ 70 _ _ R w.heap.size b_ rfl R 70 R1 r2 V5 (by rw[g,r1]) xH ?_;refine hK.out _ _ (a.put1 b_ g) λa=>?_;try simp only[py]
 refine rd 5 λK hK=>?_;rw[qI Vb];obtain⟨R2,r3,r4⟩:=a.r2;refine YQ 125 _ _ R (w.heap.size+1) zC R R 125 R2 r4 vi (by rw[r3];rfl) vP ?_;refine hK.out _ _ (a.put2 zC R) λa=>?_;try simp only[py]
 refine rd 6 λK hK=>?_;rw[qI Vb];obtain⟨R3,r5,r6⟩:=a.r3;refine YQ 70 _ _ R (w.heap.size+2) b_ rfl R 70 R3 r6 V5 (by rw[g,r5]) xH ?_;refine hK.out _ _ (a.put3 b_ g) λa=>?_;try simp only[py]
 refine rd 7 λK hK=>?_;go_simp;refine hK.out _ _ (a) λa=>?_;try simp only[py]
 refine ZZ WR ?_ _;have P:=X a.gr;go_wp2;exact ZS (v:=Ze #[Zc b_,Zc zC,Zc b_,I L k]) (qq2 _ _ w.heap.size b_ zC b_ rfl R R VK Ue (Zt r6) g R g) R ⟨z.a,P.a⟩
def GK:∀c:UInt8,vG c=(Zm (vE c=1)||decide (vE c=2)):=vg WS
def fO(c:UInt8):Bool:=Zm (vE c=0)||decide (vE c=3)||decide (vE c=4)
def rT:∀c:UInt8,ew c=Zk->(yB c||vG c)=!fO c:=vg WS
def GQ(c:UInt8):vE c=-1\/vE c=0\/vE c=1\/vE c=2\/vE c=3\/vE c=4\/vE c=5:=by have:=rn c;unfold vE;split<;>omega
def lK(z:I2)(k:Nat):Nat:=((h_ k).filter λi=>fO (z i)).length
def sy(z:I2)(k:Nat):lK z (k+1)=lK z k+if fO (z k)then 1 else 0:=by unfold lK;rw[YI,YJ,qZ];cases h:fO (z k)<;>simp[h]
def Ec(z:I2)(k:Nat):lK z k<=k:=by have:=Y8 (λi=>fO (z i)) (h_ k);unfold lK;exact OY
def tS(b:xO z=Zk):uw z=(Zm (((lK z 64:Nat):Int)=0)&&Zm (((ws z 64:Nat):Int)<=1)):=by
 by_cases h:∀j,j<64->(yB (z j)||vG (z j))=Zk
 .have f:lK z 64=0:=by rw[lK,Yz,X1];intro i d;have d:=qK.1 d;have:=rT (z i) (ji b d);rw[h i d]at this;intro e;rw[e]at this;cases this
  rw[tU h,qJ (show((lK z 64:Nat):Int)=0 from O)];rfl
 have:∃j,j<64/\(yB (z j)||vG (z j))=Zl:=by
  refine Xd λg=>h λj a=>?_;cases e:(yB (z j)||vG (z j))with
  | true=>rfl
  | false=>exact w_ ⟨j,a,e⟩ g
 obtain⟨j,a,e⟩:=this;have l:lK z 64≠0:=by
  unfold lK;intro f;rw[Yz,X1]at f;have:=rT (z j) (ji b a);rw[e]at this;apply f j (qK.2 a);cases k:fO (z j)with
  | true=>rfl
  | false=>rw[k]at this;cases this
 rw[tT a e,qE (show ¬((lK z 64:Nat):Int)=0 from O)];rfl
def CP(a:xO z=Zk)(d:0<=xR z wh)(e:xR z wh<=63):kz z wh=zM z (xR z wh) (!wh):=by grind[xR,kz,xu]
structure Ss(w:I6)(PA:I0)(n:Int)(W:I6):Prop where
 pa:W.heap[w.heap.size]?=S (Z PA 70)
 rs:W.heap[w.heap.size+1]?=S (Z (xB Zl 0 0) 186)
 st:∃c,W.heap[w.heap.size+2]?=S (Z (xB c n 0) 186)
 gr:Gr w W
def Ss.next{n:Int}(h:Ss w PA n W)(g:Gr W a):Ss w PA n a:=by obtain⟨c,b⟩:=h.st;exact⟨ZE g h.pa,ZE g h.rs,⟨c,ZE g b⟩,o_ h.gr g⟩
def Ss.set{n:Int}(h:Ss w PA n W)(v:Bool):Ss w PA n (W.setCell ⟨w+2,0,N⟩ v):=by obtain⟨c,b⟩:=h.st;have a:Fr (λk _=>k≠w.heap.size+2) W (W.setCell ⟨w+2,0,N⟩ v):=ZP.setCell _ (λo _ q=>q R);exact⟨a.same _ _ h.pa O,a.same _ _ h.rs O,⟨v,qv b⟩,Yr h.gr (show w<=w.heap.size+2 from O) _⟩
def oy(w:I6)(PA:I0):Ss w PA 0 ((((w.alloc (Z PA 70)).alloc (Z (xB Zl 0 0) 186)).alloc (Z (xB Zl 0 0) 186)).setRow (w+2) (xB Zl 0 0)):=by obtain⟨a,b,d,e⟩:=jG w (Z PA 70) (Z (xB Zl 0 0) 186) (Z (xB Zl 0 0) 186);exact⟨by rw[Zu O];exact a,by rw[Zu O];exact b,⟨Zl,Zt d⟩,ZN.al.al.setRow _ O _⟩
def Ss.num(h:Ss w PA 0 W)(n:Int):Ss w PA n (W.setCell ⟨w+2,1,N⟩ n):=by obtain⟨c,b⟩:=h.st;have a:Fr (λk _=>k≠w.heap.size+2) W (W.setCell ⟨w+2,1,N⟩ n):=ZP.setCell _ (λo _ q=>q R);exact⟨a.same _ _ h.pa O,a.same _ _ h.rs O,⟨c,qv b⟩,Yr h.gr (show w<=w.heap.size+2 from O) _⟩
def eL{g:Int}(r:jE z wh fc b h g PA)(hC:kJ z wh fc b)(g4:-1<=b)(g5:b<=63)(h0:0<=h)(h1:h<=65535)(g0:0<=g)(g1:g<=65535)(k0:0<=xR z wh)(k1:xR z wh<=63)(w:I6):ZL 112 #[PA] w (bx z wh fc b):=by
 have hz:=r.size;have a2:=X (λW=>Dv r W);obtain⟨qs,qA⟩:=FN r;have D:Y (∀W:I6,i_ c_ 54 #[PA] W λe w'=>∃v,e=Zd v/\np W v (yY z wh fc b) w'/\Gr W w'):=X λW=>ai r hC g4 g5 h0 h1 g0 g1 W;have A:(yY z wh fc b).length=(xC z wh fc b).length:=by rw[qk3 hC g4 g5];exact(xq _).length_eq
 have P:(xC z wh fc b).length<=20480:=by rw[<-A];exact iW _ _ _ _ 64
 have g3:Y (∀W:I6,ZL 193 #[(PA.toList.take 64).toArray,xK wh] W (xR z wh)):=X λW=>qzo _ _ qA wh W;have f8:Y (∀W:I6,ZL 192 #[(PA.toList.take 64).toArray,xR z wh,xK (!wh)] W (kz z wh)):=X λW=>by rw[CP hC.ok k0 k1];exact ju _ _ qs qA _ k0 k1 (!wh) W
 have b4:Y (a_ L (-(xK wh))=xK (!wh)):=X Vn;have p:Y (bx z wh fc b=xB (kz z wh) ((xC z wh fc b).length:Int) (yO z (kz z wh) ((xC z wh fc b).length:Int))):=X R;have a:=X (tS hC.ok);have b5:=X (λi hi=>r.sq i hi);have J:=oy w PA;rw[<-A]at p P;generalize bx z wh fc b=V at p|-;generalize xR z wh=y at g3 f8 k0 k1;generalize kz z wh=f at f8 p;generalize yY z wh fc b=ys at D A p P;clear r hC g4 g5 h0 h1 g0 g1 qs qA A;unfold ZL;go_in;go_upto_region 2 with(refine ZU R 186 _ _ R (w+2) (xB Zl 0 0) R R 186 (xB Zl 0 0) (jG w _ _ _).2.2.1 vI R (xw _ _ _) ?_);show n_ _ _ _ _ ((((w.alloc (Z PA 70)).alloc (Z (xB Zl 0 0) 186)).alloc (Z (xB Zl 0 0) 186)).setRow (w+2) (xB Zl 0 0));generalize ((((w.alloc (Z PA 70)).alloc (Z (xB Zl 0 0) 186)).alloc (Z (xB Zl 0 0) 186)).setRow (w+2) (xB Zl 0 0))=w2 at J|-;have Q:=X (qy J.pa);go_upto_region 3 with(first|(go_at_call 54;refine(D.a _).mono ?_;rintro e w3 ⟨v,rfl,b3,a4⟩;obtain⟨pp,cap,rfl,f0,d5⟩:=bt b3;clear d5 b3)|(refine ql Vb _ R w R hz Q.a ?_));have T:=J.next a4;obtain⟨c3,g6⟩:=T.st;have d1:w3.cell? ⟨w+2,1,N⟩=I L 0:=by rw[qn g6];rfl
 have d2:w3.frozen? ⟨w+2,1,N⟩=Zl:=xr g6;have f9:=T.num ((ys.length:Nat):Int);clear J a4 Q D T g6;go_upto_region 4 with fail;generalize w3.setCell ⟨w+2,1,N⟩ ((ys.length:Nat))=w4 at f9|-;clear d1 d2;generalize ((ys.length:Nat):Int)=n at f9 p;have x:=f9.next ZO.drew;refine ZT (S:=Ss w PA n) WR x (λj=>?_);clear x f9;refine tq 0 (ZI w) j ?_;refine ty 1 ((PA.toList.take 64).toArray) R (DB hz Vb _ R w R (λ_ h=>qy h.pa)) j ?_;refine tq 2 (ZI w) j ?_;refine ty 3 ((PA.toList.take 64).toArray) R (DB hz Vb _ R w R (λ_ h=>qy h.pa)) j ?_;refine ty 4 PA R (zy hz Vb _ R w R (λ_ h=>qy h.pa)) j ?_;refine ty 7 PA R (zy hz Vb _ R w R (λ_ h=>qy h.pa)) j ?_;refine rd 5 λK hK=>?_;go_simp;refine Z0 (a2.a _) λf5 a5=>?_;refine hK.out _ _ (j.next a5) λj=>?_;clear hK K;try simp only[py]
 refine rd 6 λK hK=>?_;go_simp;refine Z0 (g3.a _) λf6 a6=>?_;refine hK.out _ _ (j.next a6) λj=>?_;clear hK K;try simp only[py]
 refine rd 8 λK hK=>?_;go_simp;refine Z0 (a2.a _) λf7 a7=>?_;refine hK.out _ _ (j.next a7) λj=>?_;clear hK K;try simp only[py]
 refine ZB 9 (xK (!wh)) R (λw _=>by go_simp;exact b4.a) j ?_;refine rd 10 λK hK=>?_;go_simp;refine Z0 (f8.a _) λg2 a8=>?_;refine hK.out _ _ (j.next a8) λj=>?_;clear hK K;try simp only[py]
 refine tq 11 (ZI (w+2)) j ?_;refine rd 12 λK hK=>?_;obtain⟨c,hc⟩:=j.st;have d0:g2.cell? ⟨w+2,0,N⟩=Za c:=by rw[qn hc];rfl
 have d1:g2.frozen? ⟨w+2,0,N⟩=Zl:=xr hc;go_simp;refine hK.out _ _ (j.set f) λj=>?_;clear hK K;try simp only[py]
 refine ZZ WR ?_ _;have d:(g2.setCell ⟨w+2,0,N⟩ f).heap[w.heap.size+2]?=Z (xB f n 0) 186:=qv hc;have u:=j;clear j d0 d1 hc a2 g3 f8 b4 k0 k1;generalize g2.setCell ⟨w+2,0,N⟩ f=H at d u|-;have a3:Y (∀k,k<64->H.cell? ⟨w,k,N⟩=I Zg (z k).toNat):=X λk hk=>by rw[qn u.pa];exact b5.a k hk
 have c0:H.cell? ⟨w+2,0,N⟩=Za f:=by rw[qn d];rfl
 have c1:H.cell? ⟨w+2,1,N⟩=I L n:=by rw[qn d];rfl
 have c2:H.cell? ⟨w+2,2,N⟩=I L 0:=by rw[qn d];rfl
 have f2:H.frozen? ⟨w+2,2,N⟩=Zl:=xr d;have F:=X d;have B:=X u.rs;have g7:=X u.gr;have G:Y (∀o:Int,(H.setCell ⟨w+2,2,N⟩ o).heap[w.heap.size+2]?=Z (xB f n o) 186):=X λo=>qv d;have m:Y (∀o:Int,(H.setCell ⟨w+2,2,N⟩ o).heap[w.heap.size+1]?=Z (xB Zl 0 0) 186):=X λo=>by have fs:Fr (λk _=>k≠w.heap.size+2) H (H.setCell ⟨w+2,2,N⟩ o):=ZP.setCell _ (λo _ q=>q R);exact fs.same _ _ u.rs O
 have E:Y (∀o:Int,Gr w (H.setCell ⟨w+2,2,N⟩ o)):=X λo=>Yr u.gr (show w<=w.heap.size+2 from O) _;clear u d b5;go_wp2;go_loopg [5,6,7] 64 (λg l hv i wr=>∃k:Nat,k+g=64/\i=k/\l=(ws z k:Nat)/\hv=(lK z k:Nat)/\wr=H)
 case atStart=>exact⟨0,R,R,R,R,R⟩
 case round=>
  obtain⟨k,k1,rfl,rfl,rfl,b6⟩:=hrel;have b7:=b6.symm;subst b7;clear b6;by_cases b0:k<64
  .have f1:=a3.a k b0;have f3:0<=(k:Int):=O;have f4:(k:Int)<64:=O;have b1:=EH z k;have b2:=Ec z k;have hl:=sU z k;have hh:=sy z k;have a9:=X (λW=>zp (z k) W);rw[GK]at hl;unfold fO at hh;rcases GQ (z k)with e|e|e|e|e|e|e;all_goals
    rw[e]at hl hh a9;simp at hl hh;have d3:=X hl;have c6:=X hh;clear hl hh e p a c0 c1 c2 f2;go_wp2_with(go_at_call 107;refine Z0 (a9.a _) λw' hw=>?_;have d4:=hw.symm;subst d4;clear hw);go_roundg (gk-1)
    case measure=>omega
    case rel=>exact⟨k+1,O,Vg,by rw[d3.a]<;>go_num,by rw[c6.a]<;>go_num,R⟩
  .have ek:k=64:=O;subst ek;clear b0 a3;obtain⟨x1,c4⟩:=Zo (((lK z 64:Nat):Int)==0);obtain⟨x2,c5⟩:=Zo (Zm (((ws z 64:Nat):Int)<=1));obtain⟨n0,a1⟩:=Zo (n==0);have a0:Y (uw z=(x1&&x2)):=X (by rw[a.a,c5,<-c4];rfl);cases n0
   .have en:Y (¬n=0):=X (by intro h;rw[h]at a1;cases a1);cases x1
    .exact WK
    .cases x2
     .exact WK
     .skip;have M:Y (V=xB f n 3):=X Uj;clear p a;go_wp2_with(first|(refine ZV R 186 _ R (w+2) R 186 (xB f n 3) (0,0) _ (G.a 3) underlying186 rfl vI ?_)|(refine ZU R 186 _ _ R (w+1) (xB f n 3) R R 186 (xB Zl 0 0) (m.a 3) vI R (xw _ _ _) ?_));exact ZS (v:=(xB f n 3)) (Yp results112 _ _ (w+1) 186 (xB f n 3) (0,0) _ R (Zt (m.a 3)) underlying186 rfl vI) R ⟨by rw[M.a],Gr.setRow (E.a 3) _ O _⟩
   .have en:Y (n=0):=X (by simpa using a1);clear c4 c5;cases f
    .skip;have M:Y (V=xB Zl n 2):=X (by rw[p.a];unfold yO;rw[qI en.a];rfl);clear p a;go_wp2_with(first|(refine ZV R 186 _ R (w+2) R 186 (xB Zl n 2) (0,0) _ (G.a 2) underlying186 rfl vI ?_)|(refine ZU R 186 _ _ R (w+1) (xB Zl n 2) R R 186 (xB Zl 0 0) (m.a 2) vI R (xw _ _ _) ?_));exact ZS (v:=(xB Zl n 2)) (Yp results112 _ _ (w+1) 186 (xB Zl n 2) (0,0) _ R (Zt (m.a 2)) underlying186 rfl vI) R ⟨by rw[M.a],Gr.setRow (E.a 2) _ O _⟩
    .skip;have M:Y (V=xB Zk n 1):=X (by rw[p.a];unfold yO;rw[qI en.a];rfl);clear p a;go_wp2_with(first|(refine ZV R 186 _ R (w+2) R 186 (xB Zk n 1) (0,0) _ (G.a 1) underlying186 rfl vI ?_)|(refine ZU R 186 _ _ R (w+1) (xB Zk n 1) R R 186 (xB Zl 0 0) (m.a 1) vI R (xw _ _ _) ?_));exact ZS (v:=(xB Zk n 1)) (Yp results112 _ _ (w+1) 186 (xB Zk n 1) (0,0) _ R (Zt (m.a 1)) underlying186 rfl vI) R ⟨by rw[M.a],Gr.setRow (E.a 1) _ O _⟩
def qA(A:I0)(d n:Int):I0:=A++#[I L d,I L n]
def F_(g n:Nat):I7:=Zq (S g) n n
structure Mq(g n:Nat)(Q:I0)(b2 b3:Nat)(w W:I6):Prop where
 m:W.heap[b2]?=S (Z #[F_ g n] 56)
 q:W.heap[b3]?=S (Z Q 117)
 gr:Gr w W
def Mq.next{Q:I0}{b:Nat}(h:Mq g n Q b d w W)(k:Gr W a):Mq g n Q b d w a:=⟨(Zz k (xe h.m)).trans h.m,(Zz k (xe h.q)).trans h.q,o_ h.gr k⟩
def Mq.c{Q:I0}{a b:Nat}(h:Mq g n Q a b w W):W.cell? a=F_ g n:=by rw[qn h.m];rfl
structure Ms(g n:Nat)(Q S:I0)(b2 b3:Nat)(w W:I6):Prop where
 mq:Mq g n Q b2 b3 w W
 s:W.heap[g]?=some (Z S 168)
def Ms.next{Q S:I0}{b:Nat}(h:Ms g n Q S b d w W)(k:Gr W a):Ms g n Q S b d w a:=⟨h.mq.next k,(Zz k (xe h.s)).trans h.s⟩
def Ms.put{Q S:I0}{a b:Nat}(h:Ms g n Q S a b w W)(e:B≠g)(f:B≠a)(i:B≠b)(d:w<=B)(j:I0):Ms g n Q S a b w (W.setRow B j):=⟨⟨by rw[Zu O];exact h.mq.m,by rw[Zu O];exact h.mq.q,h.mq.gr.setRow _ d _⟩,by rw[Zu O];exact h.s⟩
def xA(f:Nat):UInt8:=j_ (97+f%8)
def xI(f:Nat):UInt8:=j_ (49+f/8)
theorem zF(f:Nat):xQ f=[xA f,xI f]:=R
def vz(c:UInt8):UInt8:=if 97<=c/\c<=122 then c-32 else c
def kX(i:Nat):UInt8:=[80,78,66,82,81,75].getD i 0
def jX(M:List Mv)(z:I2)(f t:Nat):List Mv:=M.filter λy=>Zm (y.2.1=t)&&!decide (y.1=f)&&Zm (z y.1=z f)
def iT(L:List Mv)(f:Nat):I1:=if L.isEmpty=Zk then[]else if L.all (λy=>!decide (y.1%8=f%8))=Zk then[xA f]else if L.all (λy=>!decide (y.1/8=f/8))=Zk then[xI f]else xQ f
def z7(f t:Nat)(u:UInt8):I1:=(if f%8=t%8 then[]else[xA f,120])++xQ t++(if u=0 then[]else[61,vz u])
def zQ(M:List Mv)(z:I2)(f t:Nat):I1:=vz (z f)::(iT (jX M z f t) f++(if z t=46 then[]else[120])++xQ t)
def jR(M:List Mv)(z:I2)(x:Mv):I1:=
 if jA (z x.1)=Zk/\x.2.1=x.1+2 then[79,45,79]else if jA (z x.1)=Zk/\x.2.1+2=x.1 then[79,45,79,45,79]
 else if jD (z x.1)=Zk then z7 x.1 x.2.1 x.2.2 else zQ M z x.1 x.2.1
def oQ:∀c:UInt8,Lib.upperB c=vz c:=by have:∀n,n<256->Lib.upperB (j_ n)=vz (j_ n):=WS;intro c;have:=this c.toNat (by have:=c.toNat_lt;omega);rwa[UInt8.ofNat_toNat]at this
def gV(c:UInt8)(l:c.toNat<128)(w:I6):ZL 202 #[I Zg c.toNat] w (xJ [vz c]):=by
 have a:=qq4 (w.alloc (Z #[I Zg c.toNat] 5)) ⟨w,0,N⟩ 1 [c] (by
  intro i n;rw[X2,Z2,Z8 _ _ _ _ R];have:i=0:=by simp at n;omega
  subst this;rfl)
 have g:(convert 145 9 (Zq (S w) 1 1)).run c_ (w.alloc (Z #[I Zg c.toNat] 5))=.ok (Zb ⟨#[c]⟩) (w.alloc (Z #[I Zg c.toNat] 5)):=a;have f:∀W,ZL 250 #[Zb ⟨#[c]⟩] W (xJ [vz c]):=λW=>(Tryz.strings_ToUpper_ascii ⟨#[c]⟩ W (by show 1<=_;decide) (by
  intro j b h;have o:j=0:=by have:=(Z5.1 h).1;simp at this;omega
  subst o;have:c=b:=qP h;rw[<-this];exact l)).mono λe w' k=>⟨by rw[k.1];show Zd (Zb ⟨[Lib.upperB c].toArray⟩)=_;rw[oQ];rfl,k.2⟩
 have d:=(q_ w).alloc #[I Zg c.toNat] 5;unfold ZL;go_in;go_wp2_with(go_at_call 250;refine Z0 (f _) λw' m=>?_);go_ret;exact⟨R,o_ d m⟩
def qxp(n:Nat)(h:n<64)(w:I6):ZL 69 #[n] w (xJ [xA n,xI n]):=(gI n h w).mono λ_ _ k=>⟨k.1,k.2.gr⟩
def xb(x y:I1)(h:x.length+y.length<=100)(W:I6):(k_ .add (xJ x) (xJ y)).run c_ W=.ok (xJ (x++y)) W:=by
 rw[<-F6];exact Xy W _ _ (by
  have a:(xJ x).size=x.length:=by show x.toArray.size=_;simp
  have b:(xJ y).size=y.length:=by show y.toArray.size=_;simp
  rw[a,b];exact q7 h WW)
def dS(f t:Nat)(V:f<64)(a9:t<64)(u:UInt8)(b0:u.toNat<128)(w:I6):ZL 122 #[ZJ f t u] w (xJ (z7 f t u)):=by
 have m:=X (λW=>qxp f V W);have v:=X (λW=>qxp t a9 W);have r:=X (λW=>gV u b0 W);have k:Y (∀w',Gr (w.alloc (Z (ZJ f t u) 87)) w'->_):=X (λw' g=>(sO g).2);have z:=X ((q_ w).alloc (ZJ f t u) 87);unfold ZL;go_in;go_upto_region 1 with fail;generalize w.alloc (Z (ZJ f t u) 87)=w1 at k z|-;obtain⟨c0,c1,c2⟩:=k.a _ ZO;go_upto_region 2 with(go_at_call 69;refine Z0 (v.a _) λw2 n=>?_);obtain⟨d0,d1,d2⟩:=k.a _ n;have i:=X (o_ z.a n);have o:=X n;have J:=X (λW=>xb [xA f] [120] WU W);have B:=X (λW=>xb ([xA f]++[120]) [xA t,xI t] WU W);have K:=X (λW=>xb [61] [vz u] WU W);have C:=X (λW=>xb [xA t,xI t] ([61]++[vz u]) WU W);have D:=X (λW=>xb ([xA f]++[120]++[xA t,xI t]) ([61]++[vz u]) WU W);have Q:(xJ [xA f,xI f]).extract 0 1=xJ [xA f]:=R;have sz:(xJ [xA f,xI f]).size=2:=R;have E:Y (f%8=t%8->u=0->xJ (z7 f t u)=xJ [xA t,xI t]):=X (λa b=>by unfold z7;rw[qI a,qI b];rfl);have F:Y (f%8=t%8->u≠0->xJ (z7 f t u)=xJ ([xA t,xI t]++([61]++[vz u]))):=X (λa b=>by unfold z7;rw[qI a,qF b];rfl);have G:Y (f%8≠t%8->u=0->xJ (z7 f t u)=xJ ([xA f]++[120]++[xA t,xI t])):=X (λa b=>by unfold z7;rw[qF a,qI b];rfl);have H:Y (f%8≠t%8->u≠0->xJ (z7 f t u)=xJ ([xA f]++[120]++[xA t,xI t]++([61]++[vz u]))):=X (λa b=>by unfold z7;rw[qF a,qF b];rfl);generalize xJ ([xA f]++[120]++[xA t,xI t]++([61]++[vz u]))=S5 at D H;generalize xJ ([xA f]++[120]++[xA t,xI t])=P at B D G;generalize xJ ([xA t,xI t]++([61]++[vz u]))=b1 at C F;generalize xJ ([xA f]++[120])=a6 at J B;generalize xJ ([61]++[vz u])=a5 at K C D;generalize xJ [vz u]=T at K r;generalize xJ [xA f,xI f]=NF at Q sz m;generalize xJ [xA f]=a8 at Q J;generalize xJ [xA t,xI t]=a7 at B C E v|-;have b2:∀W,(k_ .add a8 ⟨#[120]⟩).run c_ W=.ok a6 W:=J.a;have a0:∀W,(k_ .add a6 a7).run c_ W=.ok P W:=B.a;have a1:∀W,(k_ .add ⟨#[61]⟩ T).run c_ W=.ok a5 W:=K.a;have a2:∀W,(k_ .add a7 a5).run c_ W=.ok b1 W:=C.a;have a3:∀W,(k_ .add P a5).run c_ W=.ok S5 W:=D.a;have A:u=0\/((u.toNat:Int)!=0)=Zk:=by
  by_cases e:u=0
  .exact Zi e
  exact Zj (qU.2 (λq=>e (q6.1 Ul)))
 by_cases a4:f%8=t%8
 .have M:(f:Int)%8=t%8:=O;obtain d|d:=A
  .have h:=X (E a4 d);subst d;go_wp2;go_ret;exact⟨by rw[h.a];rfl,i⟩
  have l:u≠0:=λq=>by rw[q]at d;cases d
  have h:=X (F a4 l);go_upto_region 6 with(go_at_call 202;refine Z0 (r _) λw4 j=>?_);have y:=X (o_ i.a j);go_wp2;go_ret;exact⟨by rw[h.a];rfl,y.a⟩
 have M:¬(f:Int)%8=t%8:=O;go_upto_region 4 with(go_at_call 69;refine Z0 (m _) λw3 x=>?_);obtain⟨k0,k1,k2⟩:=k _ (o_ o x);have p:=X (o_ i.a x);obtain d|d:=A
 .have h:=X (G.a a4 d);subst d;go_wp2;go_ret;exact⟨by rw[h.a];rfl,p.a⟩
 have l:u≠0:=λq=>by rw[q]at d;cases d
 have h:=X (H a4 l);go_upto_region 6 with(go_at_call 202;refine Z0 (r.a _) λw4 j=>?_);have y:=X (o_ p.a j);go_wp2;go_ret;exact⟨by rw[h.a];rfl,y.a⟩
def bS{P:Program}{row:String}{args:I0}{R:I7->I6->Prop}(h:Rows P row args w R):RowsIn Fence.wide n P row args w R:=λc cs _=>
 let ⟨v,w',r,s⟩:=h c cs
 ⟨v,w',r,stepsIn_wide.2 s⟩
def li{P:Program}{b:Array Oper}{Q:Exit->Act->I6->Prop}{K j:Act->I6->Prop}{a:Act}(q:¬LetsOut Q)(u:∀o c,b[i]?=S o->o.op≠.defer c)(hK:∀a w,K a w->j a w)(h:wpOp P b Q i K a w):wpOpIn (Fence.wide.inRound l) n P b Q i j a w:=by
 unfold wpOp at h;unfold wpOpIn;cases k:b[i]? with
 | none=>rw[k]at h;exact hK _ _ h
 | some o=>
  rw[k]at h;simp only at h|-;split
  .rename_i m;simp only[m,YS]at h;obtain h|⟨_,h⟩:=h
   case inr=>exact w_ h q
   refine⟨λ_ _=>x_,?_⟩;show Oper.uponIn (Fence.wide.inRound l) n P o a j Q (Sem.run P (Oper.semAt (S l) a.eval o) w);rw[Oper.semAt_some l _ o (λc=>u o c k)];unfold Oper.wp at h;generalize (execOp _ _).run _ _=r at h;cases r with
   | ok x w'=>
    cases x<;>simp only[Oper.upon]at h
    case value v=>exact hK _ _ h
    case skip=>exact hK _ _ h
    case defer d=>exact hK _ _ h
    case enter f args=>
     refine⟨λh=>Ub,Xe l (ZY.2 (i_.mono h λe p g=>?_))⟩;cases e with
     | returned v=>exact hK _ _ g
     | panicked c=>exact g
     | outgrown=>exact g
    case row row args=>exact⟨λh=>Ub,bS (Rows.mono h λv p g=>hK _ _ g)⟩
   | halt x w'=>
    cases x<;>simp only[Oper.upon]at h
    case panic v=>exact h
  rename_i m;simp only[m]at h;exact⟨λ_ _=>x_,hK _ _ h⟩
theorem qz4{P:Program}{e:Array Oper}{Q:Exit->Act->I6->Prop}{j:Region.Mode}(f:¬LetsOut Q)(g:∀(i:Nat)(o:Oper)(c:Call),e[i]?=o->o.op≠.defer c):∀(b:Nat)(d:Array Bool)(a:Act)(w:I6),wpAny P j e Q b d a w->wpAnyIn (Fence.wide.inRound l) n P j e Q b d a w
 | 0,_,_,_,h=>h
 | b+1,_,_,_,h=>⟨h.1,λi k=>li f (g i) (qz4 f g b _) (h.2 i k)⟩
def iz(o:Oper):Bool:=match o.op with
 | .defer _=>Zl
 | _=>Zk
def jf{P:Program}{b:Array Oper}{Q:Exit->Act->I6->Prop}{S:I6->Prop}{m:Nat}{a:Act}(j:P.follows .mixedOrders=Zk)(d:¬LetsOut Q)(g:b.toList.all iz=Zk)(e:S w.drew)(h:S w.drew->wpAnyH P .any b Q S b.size (Array.replicate b.size Zl) a w.drew):(Code.region m b Zk).wpIn (Fence.wide.inRound l) n P Q a w:=by refine wpIn_region_any j (qz4 d (λi o c k f=>?_) _ _ _ _ (wpAny_of_held _ _ _ _ (h e)));have:=qW.1 g o (by have:=Wm (show b.toList[i]?=some o by rw[qO];exact k);exact this);rw[iz,f]at this;cases this
def wh3(a c d:Bool)(f:Nat):I1:=if a=Zl then[]else if c=Zl then[xA f]else if d=Zl then[xI f]else[xA f,xI f]
def C0(L:List Mv)(f:Nat):iT L f=wh3 (!L.isEmpty) (L.any λy=>Zm (y.1%8=f%8)) (L.any λy=>Zm (y.1/8=f/8)) f:=by
 have h:∀p:Mv->Bool,(L.all (λy=>!p y)=Zk)↔(L.any p=Zl):=λp=>by rw[qW,XD];simp
 unfold iT wh3;simp only[h,Bool.not_eq_false'];rfl
def eo{a:List Mv}{t:Nat}{y:Mv}(h:¬(y.2.1=t/\y.1≠f/\z y.1=z f)):jX (a++[y]) z f t=jX a z f t:=by grind[jX]
def BL{a:List Mv}{t:Nat}{y:Mv}(h:y.2.1=t/\y.1≠f/\z y.1=z f):jX (a++[y]) z f t=jX a z f t++[y]:=by grind[jX]
structure W4(Bx b0 y1 y2 f t:Nat)(Z1 Zf:Int)(W:I6):Prop where
 a0:W.cell? Bx=S (I L y1)
 a1:W.cell? ⟨Bx,1,N⟩=S (I L y2)
 m0:W.cell? ⟨b0+1+1,0,N⟩=S (I L f)
 m1:W.cell? ⟨b0+1+1,1,N⟩=S (I L t)
 q1:W.cell? ⟨b0+1,y1,N⟩=S (I Zg Z1)
 q2:W.cell? ⟨b0+1,f,N⟩=S (I Zg Zf)
structure Wq(w:I6)(S0 b0:Nat)(PA M:I0)(a c d:Bool)(V:I6):Prop where
 pa:V.heap[b0+1]?=S (Z PA 70)
 mv:V.heap[b0+1+1]?=S (Z M 87)
 o:V.heap[b0+1+1+1]?=S (Z #[Za a] 4)
 fl:V.heap[b0+1+1+1+1]?=S (Z #[Za c] 4)
 rk:V.heap[b0+1+1+1+1+1]?=S (Z #[Za d] 4)
 gr:Gr w V
 sz:S0<=V.heap.size
def Wq.same{a c d:Bool}{V':I6}(h:Wq w f e PA M a c d V)(g:Gr w V')(i:V<=V'.heap.size)(b:∀k o,k<e+6->V.heap[k]?=S o->V'.heap[k]?=S o):Wq w f e PA M a c d V':=⟨b _ _ O h.pa,b _ _ O h.mv,b _ _ O h.o,b _ _ O h.fl,b _ _ O h.rk,g,q7 h.sz i⟩
def Wq.drew{b:Nat}{a c d:Bool}(h:Wq w b e PA M a c d V):Wq w b e PA M a c d V.drew:=⟨h.pa,h.mv,h.o,h.fl,h.rk,h.gr.drew,h.sz⟩
def Wq.setO{b:Nat}{a c d:Bool}(f:b=w)(h:Wq w e b PA M a c d V)(v:Bool):Wq w e b PA M v c d (V.setCell ⟨b+1+1+1,0,N⟩ v):=by
 refine⟨?_,?_,jm h.o,?_,?_,Yr h.gr (show w<=b+1+1+1 from O) _,U3⟩;all_goals rw[Yg _ _ _ _ U4]
 .exact h.pa
 .exact h.mv
 .exact h.fl
 exact h.rk
def Wq.setF{b:Nat}{a c d:Bool}(f:b=w)(h:Wq w e b PA M a c d V)(v:Bool):Wq w e b PA M a v d (V.setCell ⟨b+1+1+1+1,0,N⟩ v):=by
 refine⟨?_,?_,?_,jm h.fl,?_,Yr h.gr (show w<=b+1+1+1+1 from O) _,U3⟩;all_goals rw[Yg _ _ _ _ U4]
 .exact h.pa
 .exact h.mv
 .exact h.o
 exact h.rk
def Wq.setR{b:Nat}{a c d:Bool}(f:b=w)(h:Wq w e b PA M a c d V)(v:Bool):Wq w e b PA M a c v (V.setCell ⟨b+1+1+1+1+1,0,N⟩ v):=by
 refine⟨?_,?_,?_,?_,jm h.rk,Yr h.gr (show w<=b+1+1+1+1+1 from O) _,U3⟩;all_goals rw[Yg _ _ _ _ U4]
 .exact h.pa
 .exact h.mv
 .exact h.o
 exact h.fl
def oK(w:I6)(PA M:I0):Wq w 0 w PA M Zl Zl Zl ((((((w.alloc (Z jP 74)).alloc (Z PA 70)).alloc (Z M 87)).alloc (Z #[Zl] 4)).alloc (Z #[Zl] 4)).alloc (Z #[Zl] 4)):=by have g:Gr w ((((((w.alloc (Z jP 74)).alloc (Z PA 70)).alloc (Z M 87)).alloc (Z #[Zl] 4)).alloc (Z #[Zl] 4)).alloc (Z #[Zl] 4)):=ZN.al.al.al.al.al;refine⟨?_,?_,?_,?_,?_,g,Nat.zero_le _⟩<;>(simp only[World.alloc,Array.getElem?_push,Array.size_push];simp)
def lj{g:Int}(r:jE z wh fc b h g PA)(k9:xO z=Zk)(h8:-1<=b)(h9:b<=63)(f t:Nat)(hf:f<64)(u:UInt8)(w:I6)(hT:jF w)(hC:jQ w):ZL 203 #[jP,PA,ZJ f t u] w (xJ (iT (jX (xC z wh fc b) z f t) f)):=by
 rw[C0];obtain⟨va,b7⟩:=Zn (!(jX (xC z wh fc b) z f t).isEmpty);obtain⟨vc,c4⟩:=Zn ((jX (xC z wh fc b) z f t).any λy=>Zm (y.1%8=f%8));obtain⟨vd,c5⟩:=Zn ((jX (xC z wh fc b) z f t).any λy=>Zm (y.1/8=f/8));rw[b7.a,c4.a,c5.a];have d3:=zg z wh fc b;have a6:=X (oK w PA (ZJ f t u));have a7:Y (((((((w.alloc (Z jP 74)).alloc (Z PA 70)).alloc (Z (ZJ f t u) 87)).alloc (Z #[Zl] 4)).alloc (Z #[Zl] 4)).alloc (Z #[Zl] 4)).heap.size=w.heap.size+6):=X WU;have a8:Y (((((((w.alloc (Z jP 74)).alloc (Z PA 70)).alloc (Z (ZJ f t u) 87)).alloc (Z #[Zl] 4)).alloc (Z #[Zl] 4)).alloc (Z #[Zl] 4)).cell? ⟨w,1,N⟩=S (.func (.func 61) #[] #[])):=X (by have g1:Gr (w.alloc (Z jP 74)) ((((((w.alloc (Z jP 74)).alloc (Z PA 70)).alloc (Z (ZJ f t u) 87)).alloc (Z #[Zl] 4)).alloc (Z #[Zl] 4)).alloc (Z #[Zl] 4)):=ZN.al.al.al.al;have e1:=(YG g1 w Vj).trans (ZQ w _);rw[Zs e1];rfl);have l0:=r.size;have d2:(c_.info? 70).map (·.size)=S PA.toList.length:=by rw[ZX,l0];exact jJ
 refine(ZY (n:=9)).1 ?_;refine callsIn_of_wp_marks func203 rfl x_ ?_ R;simp only[ntmps203,Nat.reduceAdd,Nat.reduceSub,Zr];apply Z9.2;go_upto_region 2 with fail;generalize ((((((w.alloc (Z jP 74)).alloc (Z PA 70)).alloc (Z (ZJ f t u) 87)).alloc (Z #[Zl] 4)).alloc (Z #[Zl] 4)).alloc (Z #[Zl] 4))=w0 at a6 a7 a8|-;have c1:=a8.a;have f8:=a6.a.gr;have l2:=a7.a;go_wp2_with(first|(go_at_call 61;refine(zk PA _).mono ?_;rintro e a0 ⟨rfl,b6,b4⟩)|(refine ZV R 70 _ R (w+1) R 70 PA (0,0) _ a6.a.pa s_ rfl (by rw[ZX]at d2;exact d2) ?_));have a5:=o_ f8 b4;have b5:=qxq r k9 h8 h9 w0 (λ_=>False) (λ_ q=>q.elim) a0 b6 (hT.gr a5) (hC.gr a5);have h0:=ZR b4;have k0:=(qB.1 b6).1;have d4:Wq w a0 w PA (ZJ f t u) Zl Zl Zl a0:=by have q:=a6.a.same (V':=a0) a5 h0 (λk o hk ho=>(ZE b4 ho));exact⟨q.pa,q.mv,q.o,q.fl,q.rk,q.gr,Zy⟩
 have n2:=hT.2;have n1:=hC.2;rw[l2]at b6 h0 k0 b5;refine Z9.1 (xj (n:=9) (gf:=128) (lb:=#[ZI (w+6)]) R (YC func128 WR R) b5 (λ_ h=>h.elim) (by rintro k (rfl|rfl|rfl)<;>omega) ZP (λ_=>R)
  (λH V=>Wq w a0 w PA (ZJ f t u) (!(jX H z f t).isEmpty) ((jX H z f t).any λy=>Zm (y.1%8=f%8)) ((jX H z f t).any λy=>Zm (y.1/8=f/8)) V)
  (λ_ _ _=>False)
  ?sI (λ_ _ _ _ h _=>h) d4 ?rnd ?done (λ_ _ _ _ _ _ h _=>h.elim))
 case sI=>exact λs A A' h q=>h.same (u_ h.gr (q.below (n:=w) (ZR h.gr) (λk o hk=>Zi O))) q.size (λk o hk ho=>q.same _ _ ho (Zi O))
 case done=>
  rintro D V hD hV hK;have l:=(qi hV.o).1;have a2:=(qi hV.fl).1;have a3:=(qi hV.rk).1;obtain⟨x0,x1,x2⟩:=qm hV.mv;have k5:=X hV.gr;rw[b7.a]at l;rw[c4.a]at a2;rw[c5.a]at a3;have sz:(xJ [xA f,xI f]).size=2:=R;have m6:(xJ [xA f,xI f]).extract 0 1=xJ [xA f]:=R;have n0:(xJ [xA f,xI f]).extract 1 2=xJ [xI f]:=R;have hN:=X (λW=>qxp f hf W);have f5:Y (∀W,Gr V W->W.heap[D]?=S (.deferred (S []))/\Gr w W):=X λW gW=>⟨ZE gW hK,o_ k5.a gW⟩;go_upto_region 9 with(go_at_call 69;refine Z0 (hN.a _) λw5 a4=>?_);obtain⟨n4,d1⟩:=f5.a _ a4;have b1:=(ZW a4 (Zx l)).trans l;have b2:=(ZW a4 (Zx a2)).trans a2;have b3:=(ZW a4 (Zx a3)).trans a3;have m1:=X d1;cases va with
  | false=>
   go_wp2;refine⟨WU,Zi ⟨_,_,R,YU n4,?_⟩⟩;exact⟨_,Wh R _ _ _,R,u_ m1.a (XZ (w:=a0) (n₀:=w) O _ D _ _ hD n4 R R)⟩
  | true=>
   cases vc with
   | false=>
    go_wp2;refine⟨WU,Zi ⟨_,_,R,YU n4,?_⟩⟩;exact⟨_,Wh R _ _ _,R,u_ m1.a (XZ (w:=a0) (n₀:=w) O _ D _ _ hD n4 R R)⟩
   | true=>
    cases vd with
    | false=>
     go_wp2;refine⟨WU,Zi ⟨_,_,R,YU n4,?_⟩⟩;exact⟨_,Wh R _ _ _,R,u_ m1.a (XZ (w:=a0) (n₀:=w) O _ D _ _ hD n4 R R)⟩
    | true=>
     go_wp2;refine⟨WU,Zi ⟨_,_,R,YU n4,?_⟩⟩;exact⟨_,Wh R _ _ _,R,u_ m1.a (XZ (w:=a0) (n₀:=w) O _ D _ _ hD n4 R R)⟩
 case rnd=>
  rintro l1 H ⟨G,K,a1⟩ V l4 hx hV hl;have k8:l1<V:=hl.elim λr hr=>(qB.1 hr).1;simp only[vr,gJ];gi_wp2;refine⟨ZP.alloc _,?_⟩;intro J f2 Q n3;have kx:J.heap[V.heap.size]?=Z (ZJ G K a1) 87:=f2.same _ _ (ZQ V _) O;have h4:=hV.sz;generalize V.heap.size=M at kx k8 h4|-;have f9:=d3 _ (hx.subset (List.mem_append_right _ (qT.2 R)));have h1:G<64:=f9.1;have P:Y (W4 M w G K f t ((z G).toNat:Int) ((z f).toNat:Int) J.drew):=X ⟨(qm (show J.drew.heap[M]?=_ from kx)).1,(qm (show J.drew.heap[M]?=_ from kx)).2.1,(qm (show J.drew.heap[w.heap.size+1+1]?=_ from Q.mv)).1,(qm (show J.drew.heap[w.heap.size+1+1]?=_ from Q.mv)).2.1,by rw[Zs (show J.drew.heap[w.heap.size+1]?=_ from Q.pa)];exact r.sq G h1,by rw[Zs (show J.drew.heap[w.heap.size+1]?=_ from Q.pa)];exact r.sq f hf⟩;have n5:z G=z f↔((z G).toNat:Int)=((z f).toNat:Int):=⟨λq=>by rw[q],λq=>q6.1 O⟩;have m1:Y (∀W a c d,Wq w a0 w PA (ZJ f t u) a c d W->Fr (λk _=>k≠w.heap.size+1+1+1/\k≠w.heap.size+1+1+1+1/\k≠w.heap.size+1+1+1+1+1) J W->a=(!(jX (H++[(G,K,a1)]) z f t).isEmpty)->c=((jX (H++[(G,K,a1)]) z f t).any λy=>Zm (y.1%8=f%8))->d=((jX (H++[(G,K,a1)]) z f t).any λy=>Zm (y.1/8=f/8)) →
   Fr (jM a0 (λ_=>False) (λk=>k=w.heap.size+6\/k=2\/k=3)) J W/\Wq w a0 w PA (ZJ f t u) (!(jX (H++[(G,K,a1)]) z f t).isEmpty) ((jX (H++[(G,K,a1)]) z f t).any λy=>Zm (y.1%8=f%8)) ((jX (H++[(G,K,a1)]) z f t).any λy=>Zm (y.1/8=f/8)) W):=X (λW a c d hW hF e1 e2 e3=>by
   subst e1 e2 e3;refine⟨hF.mono ?_,hW⟩;rintro k o-(q|q)
   .rcases q with q|q|q<;>omega
   have:=q.1;omega)
  have a9:=X Q;have l5:¬(64<=(G:Int)):=O;have m2:¬(64<=(f:Int)):=O;obtain⟨oc,f3⟩:=Zn ((jX H z f t).any λy=>Zm (y.1%8=f%8));obtain⟨od,f4⟩:=Zn ((jX H z f t).any λy=>Zm (y.1/8=f/8));obtain⟨T,f0⟩:=Zn (oc||decide (G%8=f%8));obtain⟨nd,f1⟩:=Zn (od||decide (G/8=f/8));have b0:Wq w a0 w PA (ZJ f t u) (!(jX H z f t).isEmpty) oc od J.drew:=by rw[<-f3.a,<-f4.a];exact Q.drew
  have n7:=b0.setO R Zk;have p0:=n7.setF R T;have f7:=X (p0.setR R nd);have k3:(J.drew.setCell ⟨w+1+1+1,0,N⟩ Zk).heap[M]?=Z (ZJ G K a1) 87:=by rw[Yg _ _ _ _ WX];exact kx
  have k4:((J.drew.setCell ⟨w+1+1+1,0,N⟩ Zk).setCell ⟨w+1+1+1+1,0,N⟩ T).heap[M]?=Z (ZJ G K a1) 87:=by rw[Yg _ _ _ _ WX];exact k3
  obtain⟨oa,g9⟩:∃oa,J.drew.cell? ⟨w+1+1+1,0,N⟩=Za oa:=⟨_,(qi b0.o).1⟩;have g0:J.drew.frozen? ⟨w+1+1+1,0,N⟩=Zl:=(qi b0.o).2;have g1:((J.setCell ⟨w+1+1+1,0,N⟩ Zk).drew).cell? ⟨w+1+1+1+1,0,N⟩=Za oc:=(qi n7.fl).1;have g2:((J.setCell ⟨w+1+1+1,0,N⟩ Zk).drew).frozen? ⟨w+1+1+1+1,0,N⟩=Zl:=(qi n7.fl).2;have g3:(((J.setCell ⟨w+1+1+1,0,N⟩ Zk).setCell ⟨w+1+1+1+1,0,N⟩ T).drew).cell? ⟨w+1+1+1+1+1,0,N⟩=Za od:=(qi p0.rk).1;have g4:(((J.setCell ⟨w+1+1+1,0,N⟩ Zk).setCell ⟨w+1+1+1+1,0,N⟩ T).drew).frozen? ⟨w+1+1+1+1+1,0,N⟩=Zl:=(qi p0.rk).2;have g5:((J.setCell ⟨w+1+1+1,0,N⟩ Zk).drew).cell? M=I L G:=(qm k3).1;have g6:(((J.setCell ⟨w+1+1+1,0,N⟩ Zk).setCell ⟨w+1+1+1+1,0,N⟩ T).drew).cell? M=I L G:=(qm k4).1;have g7:((J.setCell ⟨w+1+1+1,0,N⟩ Zk).drew).cell? ⟨w+1+1,0,N⟩=I L f:=(qm n7.mv).1;have g8:(((J.setCell ⟨w+1+1+1,0,N⟩ Zk).setCell ⟨w+1+1+1+1,0,N⟩ T).drew).cell? ⟨w+1+1,0,N⟩=I L f:=(qm p0.mv).1;have d0:Y (Wq w a0 w PA (ZJ f t u) Zk T nd ((((J.setCell ⟨w+1+1+1,0,N⟩ Zk).setCell ⟨w+1+1+1+1,0,N⟩ T).setCell ⟨w+1+1+1+1+1,0,N⟩ nd).drew)):=X (show Wq w a0 w PA (ZJ f t u) Zk T nd (((J.drew.setCell ⟨w+1+1+1,0,N⟩ Zk).setCell ⟨w+1+1+1+1,0,N⟩ T).setCell ⟨w+1+1+1+1+1,0,N⟩ nd)from f7.a);have f6:Y (Fr (λk _=>k≠w.heap.size+1+1+1/\k≠w.heap.size+1+1+1+1/\k≠w.heap.size+1+1+1+1+1) J ((((J.setCell ⟨w+1+1+1,0,N⟩ Zk).setCell ⟨w+1+1+1+1,0,N⟩ T).setCell ⟨w+1+1+1+1+1,0,N⟩ nd).drew)):=X (Fr.drew ((((Fr.refl _ J).setCell _ (λo _ q=>q.1 R)).setCell _ (λo _ q=>q.2.1 R)).setCell _ (λo _ q=>q.2.2 R)));have l3:∀n:Nat,a_ L (n:Int)=a_ L (n:Int):=λ_=>R;generalize h6:((z G).toNat:Int)=Z1 at P n5;generalize h7:((z f).toNat:Int)=Zf at P n5;by_cases hA:K=t
  .have h2:(K:Int)=t:=O;by_cases hB:G=f
   .have h3:(G:Int)=f:=O;have m0:Y (jX (H++[(G,K,a1)]) z f t=jX H z f t):=X (eo λq=>q.2.1 hB);gi_wp2;refine jf (S:=W4 M w G K f t Z1 Zf) WR (λ⟨_,_,h⟩=>h) WR P.a (λj=>?_);refine ZB 0 (.pointer (S ⟨M,1,N⟩)) R (λw i=>WV) j ?_;refine ZB 1 K R (λw i=>WV) j ?_;refine ZB 2 (.pointer (S ⟨w+1+1,1,N⟩)) R (λw i=>WV) j ?_;refine ZB 3 t R (λw i=>WV) j ?_;refine ZB 4 Zk R (λw i=>WV) j ?_;refine ZB 5 Zk R (λw i=>WV) j ?_;refine ZB 6 (ZI M) R (λw i=>WV) j ?_;refine ZB 7 G R (λw i=>WV) j ?_;refine ZB 8 (ZI (w+1+1)) R (λw i=>WV) j ?_;refine ZB 9 f R (λw i=>WV) j ?_;refine ZB 10 Zl R (λw i=>WV) j ?_;exact WL
   have h3:¬(G:Int)=f:=O;by_cases hZ:z G=z f
   .have h5:=n5.1 hZ;have c6:Y (jX (H++[(G,K,a1)]) z f t=jX H z f t++[(G,K,a1)]):=X (BL ⟨hA,hB,hZ⟩);gi_wp2;refine jf (S:=W4 M w G K f t Z1 Zf) WR (λ⟨_,_,h⟩=>h) WR P.a (λj=>?_);refine ZB 0 (.pointer (S ⟨M,1,N⟩)) R (λw i=>WV) j ?_;refine ZB 1 K R (λw i=>WV) j ?_;refine ZB 2 (.pointer (S ⟨w+1+1,1,N⟩)) R (λw i=>WV) j ?_;refine ZB 3 t R (λw i=>WV) j ?_;refine ZB 4 Zk R (λw i=>WV) j ?_;refine ZB 5 Zk R (λw i=>WV) j ?_;refine ZB 6 (ZI M) R (λw i=>WV) j ?_;refine ZB 7 G R (λw i=>WV) j ?_;refine ZB 8 (ZI (w+1+1)) R (λw i=>WV) j ?_;refine ZB 9 f R (λw i=>WV) j ?_;refine ZB 10 Zk R (λw i=>WV) j ?_;refine ZB 11 Zk R (λw i=>WV) j ?_;refine ZB 12 Zk R (λw i=>WV) j ?_;refine ZB 13 (ZI M) R (λw i=>WV) j ?_;refine ZB 14 G R (λw i=>WV) j ?_;refine ZB 15 (ZI (w+1)) R (λw i=>WV) j ?_;refine ZB 16 (.pointer (S ⟨w+1,G,N⟩)) R (λw i=>WV) j ?_;refine ZB 17 (I Zg Z1) R (λw i=>WV) j ?_;refine ZB 18 (ZI (w+1+1)) R (λw i=>WV) j ?_;refine ZB 19 f R (λw i=>WV) j ?_;refine ZB 20 (ZI (w+1)) R (λw i=>WV) j ?_;refine ZB 21 (.pointer (S ⟨w+1,f,N⟩)) R (λw i=>WV) j ?_;refine ZB 22 (I Zg Zf) R (λw i=>WV) j ?_;refine ZB 23 Zk R (λw i=>WV) j ?_;refine ZB 24 Zk R (λw i=>WV) j ?_;refine ZZ WR ?_ _;have k1:(oc=Zk/\T=Zk)\/(oc=Zl/\((G:Int)%8==(f:Int)%8)=Zk/\T=Zk)\/(oc=Zl/\((G:Int)%8==(f:Int)%8)=Zl/\T=Zl):=by
     have:=f0.a;cases oc
     .by_cases q:G%8=f%8
      .exact Zj (Zi ⟨R,UP,Tr⟩)
      exact Zj (Zj ⟨R,Vp,Tr⟩)
     exact Zi ⟨R,by rw[<-this];rfl⟩
    have k2:(od=Zk/\nd=Zk)\/(od=Zl/\((G:Int)/8==(f:Int)/8)=Zk/\nd=Zk)\/(od=Zl/\((G:Int)/8==(f:Int)/8)=Zl/\nd=Zl):=by
     have:=f1.a;cases od
     .by_cases q:G/8=f/8
      .exact Zj (Zi ⟨R,UP,Tr⟩)
      exact Zj (Zj ⟨R,Vp,Tr⟩)
     exact Zi ⟨R,by rw[<-this];rfl⟩
    have d5:=X (m1.a _ _ _ _ d0.a f6.a (by rw[c6.a];cases jX H z f t<;>rfl) (by rw[c6.a,List.any_append,f3.a,<-f0.a];simp) (by rw[c6.a,List.any_append,f4.a,<-f1.a];simp));rcases k1 with⟨rfl,rfl⟩|⟨rfl,e6,rfl⟩|⟨rfl,e6,rfl⟩<;>obtain⟨rfl,rfl⟩|⟨rfl,e7,rfl⟩|⟨rfl,e7,rfl⟩:=k2;all_goals
     gi_wp2;exact d5.a
   have h5:¬Z1=Zf:=λq=>hZ (n5.2 q);have m0:Y (jX (H++[(G,K,a1)]) z f t=jX H z f t):=X (eo λq=>hZ q.2.2);gi_wp2;refine jf (S:=W4 M w G K f t Z1 Zf) WR (λ⟨_,_,h⟩=>h) WR P.a (λj=>?_);refine ZB 0 (.pointer (S ⟨M,1,N⟩)) R (λw i=>WV) j ?_;refine ZB 1 K R (λw i=>WV) j ?_;refine ZB 2 (.pointer (S ⟨w+1+1,1,N⟩)) R (λw i=>WV) j ?_;refine ZB 3 t R (λw i=>WV) j ?_;refine ZB 4 Zk R (λw i=>WV) j ?_;refine ZB 5 Zk R (λw i=>WV) j ?_;refine ZB 6 (ZI M) R (λw i=>WV) j ?_;refine ZB 7 G R (λw i=>WV) j ?_;refine ZB 8 (ZI (w+1+1)) R (λw i=>WV) j ?_;refine ZB 9 f R (λw i=>WV) j ?_;refine ZB 10 Zk R (λw i=>WV) j ?_;refine ZB 11 Zk R (λw i=>WV) j ?_;refine ZB 12 Zk R (λw i=>WV) j ?_;refine ZB 13 (ZI M) R (λw i=>WV) j ?_;refine ZB 14 G R (λw i=>WV) j ?_;refine ZB 15 (ZI (w+1)) R (λw i=>WV) j ?_;refine ZB 16 (.pointer (S ⟨w+1,G,N⟩)) R (λw i=>WV) j ?_;refine ZB 17 (I Zg Z1) R (λw i=>WV) j ?_;refine ZB 18 (ZI (w+1+1)) R (λw i=>WV) j ?_;refine ZB 19 f R (λw i=>WV) j ?_;refine ZB 20 (ZI (w+1)) R (λw i=>WV) j ?_;refine ZB 21 (.pointer (S ⟨w+1,f,N⟩)) R (λw i=>WV) j ?_;refine ZB 22 (I Zg Zf) R (λw i=>WV) j ?_;refine ZB 23 Zl R (λw i=>WV) j ?_;refine ZB 24 Zl R (λw i=>WV) j ?_;refine ZZ WR ?_ _;gi_wp2;exact m1.a _ _ _ _ a9.a.drew (Fr.drew ZP) Ud Ud Ud
  have m0:Y (jX (H++[(G,K,a1)]) z f t=jX H z f t):=X (eo λq=>hA q.1);have h2:¬((K:Int)=t):=O;gi_wp2;refine jf (S:=W4 M w G K f t Z1 Zf) WR (λ⟨_,_,h⟩=>h) WR P.a (λj=>?_);refine ZB 0 (.pointer (S ⟨M,1,N⟩)) R (λw i=>WV) j ?_;refine ZB 1 K R (λw i=>WV) j ?_;refine ZB 2 (.pointer (S ⟨w+1+1,1,N⟩)) R (λw i=>WV) j ?_;refine ZB 3 t R (λw i=>WV) j ?_;refine ZB 4 Zl R (λw i=>WV) j ?_;refine ZB 5 Zl R (λw i=>WV) j ?_;refine ZA 6 j ?_;refine ZA 7 j ?_;refine ZA 8 j ?_;refine ZA 9 j ?_;refine ZA 10 j ?_;exact WL
structure pZ(z:I2)(wh:Bool)(fc:I5)(b:Int)(f t:Nat)(u:UInt8)(i:Nat):Prop where
 hf:f<64
 ht:t<64
 hu:u∈U5
 hi:i<6
 hc:jB (z f)=((bg wh+i:Nat):Int)
 go:j9 z wh fc b f t u=Zk
 tu:(f,t,u)∈xT (Zm (i=0)) f t
def um(d:kJ z wh fc b)(m:-1<=b)(n:b<=63){t:Nat}(r:(f,t,u)∈xC z wh fc b):∃i,pZ z wh fc b f t u i:=by
 have o:=(qV.1 ((je d m n _).2 r)).1;obtain⟨i,w,x,y,e,k,j,l,h,p,g⟩:=(Ay d).1 o;injection e with e1 e;injection e with e2 e3;subst e1 e2 e3;obtain⟨v,e,_,q⟩:=wX g;injection e with _ e;injection e with _ e;have a:u∈U5:=by rw[e];rcases q with rfl|rfl|rfl|rfl|rfl<;>decide
 exact⟨i,j,l,a,k,h,(qjy d j l a).2 ⟨i,k,h,p,g⟩,g⟩
def pZ.u0{t:Nat}(h:pZ z wh fc b f t u i)(a:i≠0):u=0:=by obtain⟨v,e,d,_⟩:=wX h.tu;injection e with _ e;injection e with _ e;rw[e];exact d VS
def oR:∀p,p<12->vz (yQ p)=kX (p%6):=WS
def pZ.cap{t:Nat}(h:pZ z wh fc b f t u i):vz (z f)=kX i:=by have d:=h.hi;have a:bg wh=0\/bg wh=6:=UM;rw[jn (p:=bg wh+i) O h.hc,oR _ O];congr 1;omega
theorem F4(M:List Mv){t:Nat}(h:pZ z wh fc b f t u i):(i=5/\t=f+2/\jR M z (f,t,u)=[79,45,79])\/(i=5/\t+2=f/\jR M z (f,t,u)=[79,45,79,45,79])\/(i=0/\jR M z (f,t,u)=z7 f t u)\/(i≠0/\jR M z (f,t,u)=zQ M z f t):=by
 obtain⟨j,k⟩:=zj h.hi h.hc;unfold jR;simp only[j,k,qG];by_cases a:i=5
 .by_cases e:t=f+2
  .exact Zi ⟨a,e,by rw[qI ⟨a,e⟩]⟩
  by_cases g:t+2=f
  .exact Zj (Zi ⟨a,g,by rw[qF (λq=>e q.2),qI ⟨a,g⟩]⟩)
  exact Zj (Zj (Zj ⟨O,by rw[qF (λq=>e q.2),qF (λq=>g q.2),qF O]⟩))
 by_cases d:i=0
 .exact Zj (Zj (Zi ⟨d,by rw[qF (λq=>a q.1),qF (λq=>a q.1),qI d]⟩))
 exact Zj (Zj (Zj ⟨d,by rw[qF (λq=>a q.1),qF (λq=>a q.1),qF d]⟩))
def tM:∀a,a<8->∀b,b<8->j_ (97+a)=j_ (97+b)->a=b:=WS
def ri:∀a,a<8->∀b,b<8->j_ (49+a)=j_ (49+b)->a=b:=WS
def gY:∀a,a<8->∀b,b<8->j_ (97+a)≠j_ (49+b):=WS
def FR:∀a,a<8->∀i,i<6->j_ (97+a)≠kX i/\j_ (97+a)≠79:=WS
def dO:∀a,a<8->j_ (49+a)≠120/\j_ (49+a)≠43/\j_ (49+a)≠35:=WS
def E9:∀i,i<6->kX i≠79:=WS
def CV:∀i,i<6->∀j,j<6->kX i=kX j->i=j:=WS
def FZ:∀u∈U5,∀v∈U5,u≠0->v≠0->vz u=vz v->u=v:=WS
def oS:∀u∈U5,vz u≠43/\vz u≠35:=WS
def gZ(h:xA f=xA g):f%8=g%8:=tM _ O _ O h
def mL(a:f<64)(b:g<64)(h:xI f=xI g):f/8=g/8:=ri _ O _ O h
def jw(f t:Nat)(u:UInt8):∃g l,z7 f t u=xA g::l:=by
 unfold z7;split
 .exact⟨t,_,R⟩
 exact⟨f,_,R⟩
def pZ.pawn{t:Nat}(g:kJ z wh fc b)(h:pZ z wh fc b f t u 0):(f%8≠t%8->((t/8:Nat):Int)-((f/8:Nat):Int)=xK wh)/\(f%8=t%8->oB z wh f t):=by
 have k:=g.pw wh f h.hf (by simpa using h.hc);have i:vE (z f)=0:=by simpa using ro h.hi h.hc
 have e:=h.go;unfold j9 at e;rw[qH,qI i]at e;have a:=e.2;unfold BD at a;cases d:xS (zI z) 0 (xK wh) (f:Int) (t:Int)with
 | true=>
  refine⟨λ_=>?_,λq=>?_⟩
  .have:=gE d;omega
  exact w_ (show(t:Int)%8=f%8 from O) (qze d)
 | false=>
  rw[d]at a;simp only[qR,YH]at a;have j:=(ir h.hf h.ht k).1 a;rw[qH,qH,qG]at a;exact⟨λq=>w_ a.1.1 q,λ_=>j⟩
def lI(h:jB (z n)=((bg wh+i:Nat):Int)):z n≠46:=λe=>by
 rw[e,xp]at h;omega
def r9{t:Nat}(e:kJ z wh fc b)(h:pZ z wh fc b f t u 0)(i:pZ z wh fc b g t u 0)(p:f%8=g%8):f=g:=by
 have q:=h.hf;have r:=i.hf;have v:=e.pw wh f h.hf (by simpa using h.hc);have w:=e.pw wh g i.hf (by simpa using i.hc);by_cases l:f%8=t%8
 .have a:=(h.pawn e).2 l;have d:=(i.pawn e).2 O;have nx:=lI h.hc;have m:=lI i.hc;unfold oB fw vQ at a d;cases wh
  .simp only[qR,YH,qG]at a d;rcases a with⟨k,j⟩|⟨n,k,j,o⟩<;>obtain⟨c1,c2⟩|⟨c0,c1,c2,c3⟩:=d
   .omega
   .exact w_ (by rw[show f=g-8*1 from O];exact c2) nx
   .exact w_ (by rw[show g=f-8*1 from O];exact j) m
   omega
  simp only[YS,qG]at a d;rcases a with⟨k,j⟩|⟨n,k,j,o⟩<;>obtain⟨c1,c2⟩|⟨c0,c1,c2,c3⟩:=d
  .omega
  .exact w_ (by rw[show f=g+8*1 from O];exact c2) nx
  .exact w_ (by rw[show g=f+8*1 from O];exact j) m
  omega
 have a:=(h.pawn e).1 l;have d:=(i.pawn e).1 O;omega
def mQ{t s:Nat}{v:UInt8}(j:t<64)(i:s<64)(k:u∈U5)(l:v∈U5)(h:z7 f t u=z7 g s v):f%8=g%8/\t=s/\u=v:=by
 have b:∀{t s:Nat}{u v:UInt8},t<64->s<64->u∈U5->v∈U5->xQ t++(if u=0 then[]else[61,vz u])=xQ s++(if v=0 then[]else[61,vz v])->t=s/\u=v:=by
  intro t s u v j i k l h;rw[zF,zF]at h;simp only[YA,Wj,X7]at h;obtain⟨n,o,d⟩:=h;refine⟨Fm _ j _ i (by rw[zF,zF,n,o]),?_⟩;by_cases a:u=0<;>by_cases c:v=0
  .rw[a,c]
  .rw[qI a,qF c]at d;cases d
  .rw[qF a,qI c]at d;cases d
  rw[qF a,qF c]at d;simp only[X7,and_true,true_and]at d;exact FZ u k v l a c d
 unfold z7 at h;rw[qS,qS]at h;by_cases a:f%8=t%8<;>by_cases c:g%8=s%8
 .rw[qI a,qI c]at h;obtain⟨e,m⟩:=b j i k l h;exact⟨by rw[a,c,e],e,m⟩
 .rw[qI a,qF c,zF t]at h;simp only[YA,Wj,X7]at h;exact w_ h.2.1 (dO (t/8) O).1
 .rw[qF a,qI c,zF s]at h;simp only[YA,Wj,X7]at h;exact w_ h.2.1.symm (dO (s/8) O).1
 rw[qF a,qF c]at h;simp only[YA,Wj,X7,true_and]at h;obtain⟨e,m⟩:=b j i k l h.2;exact⟨gZ h.1,e,m⟩
def lk{L L':List Mv}{x y:Mv}(i:f<64)(j:g<64)(r:x.1=f)(k:y.1=g)(b:y∈L)(d:x∈L')(h:iT L f=iT L' g):f=g:=by
 have n:¬L.isEmpty=Zk:=by cases L with|nil=>cases b|cons a l=>simp
 have o:¬L'.isEmpty=Zk:=by cases L' with|nil=>cases d|cons a l=>simp
 unfold iT at h;rw[qF n,qF o]at h;have m:L.all (λy=>!decide (y.1%8=f%8))=Zk->g%8≠f%8:=λq=>by have:=qW.1 q y b;simpa[k]using this
 have p:L.all (λy=>!decide (y.1/8=f/8))=Zk->g/8≠f/8:=λq=>by have:=qW.1 q y b;simpa[k]using this
 split at h
 .rename_i q;have e:=m q;split at h
  .injection h with h _;exact w_ (gZ h).symm e
  split at h
  .injection h with h _;exact w_ h (gY (f%8) O (g/8) O)
  exact O7
 split at h
 .rename_i q;have e:=p q;split at h
  .injection h with h _;exact w_ h.symm (gY (g%8) O (f/8) O)
  split at h
  .injection h with h _;exact w_ (mL i j h).symm e
  exact O7
 split at h
 .exact O7
 split at h
 .exact O7
 exact Fm _ i _ j h
def CI{a c:I1}{t s:Nat}(d:t<64)(b:s<64)(h:a++xQ t=c++xQ s):a=c/\t=s:=by have:=XR h (by rw[zF,zF];rfl);exact⟨this.1,Fm _ d _ b this.2⟩
def wF(r:kJ z wh fc b)(H:-1<=b)(p:b<=63){x y:Mv}(J:x∈xC z wh fc b)(K:y∈xC z wh fc b)(h:jR (xC z wh fc b) z x=jR (xC z wh fc b) z y):x=y:=by
 obtain⟨f,t,u⟩:=x;obtain⟨g,s,v⟩:=y;obtain⟨i,d⟩:=um r H p J;obtain⟨j,k⟩:=um r H p K;have B:i=5->j=5->f=g:=λa c=>FO (r.k1 wh) d.hf k.hf (by rw[<-a];exact d.hc) (by rw[<-c];exact k.hc);have F:=d.u0;have G:=k.u0;have w:=d.hi;have A:=k.hi;rcases F4 (xC z wh fc b) d with⟨m,a1,o⟩|⟨m,a1,o⟩|⟨m,o⟩|⟨m,o⟩<;>rcases F4 (xC z wh fc b) k with⟨c1,c2,c3⟩|⟨c1,c2,c3⟩|⟨c1,c3⟩|⟨c1,c3⟩<;>rw[o,c3]at h
 .rw[B m c1,show t=s by have:=B m c1;omega,F O,G O]
 .cases h
 .exact Ih
 .exact IA
 .cases h
 .rw[B m c1,show t=s by have:=B m c1;omega,F O,G O]
 .exact Ih
 .exact IA
 .exact Im
 .exact Im
 .obtain⟨V,P,Q⟩:=mQ d.ht k.ht d.hu k.hu h;subst m c1 P Q;rw[r9 r d k V]
 .obtain⟨q,l,e⟩:=jw f t u;unfold zQ at h;rw[e,k.cap]at h;injection h with h _;exact w_ h (FR (q%8) O j A).1
 .exact IF
 .exact IF
 .obtain⟨q,l,e⟩:=jw g s v;unfold zQ at h;rw[e,d.cap]at h;injection h with h _;exact w_ h.symm (FR (q%8) O i w).1
 unfold zQ at h;injection h with ha C;rw[d.cap,k.cap]at ha;have E:=CV i w j A ha;obtain⟨C,e⟩:=CI d.ht k.ht C;subst E e;have D:=(XR C R).1;have M:z f=z g:=by have T:bg wh=0\/bg wh=6:=UM;rw[jn (p:=bg wh+i) O d.hc,jn (p:=bg wh+i) O k.hc]
 have W:=F m;have a0:=G m;subst W a0;by_cases n:f=g
 .rw[n]
 have:=lk (x:=(f,t,0)) (y:=(g,t,0)) d.hf k.hf R R (L:=jX (xC z wh fc b) z f t) (L':=jX (xC z wh fc b) z g t)
  (qV.2 ⟨K,by simp[M,Ne.symm n]⟩) (qV.2 ⟨J,by simp[M,n]⟩) D
 exact w_ this n
def gl(M:List Mv){t:Nat}(h:pZ z wh fc b f t u i):∃l c,jR M z (f,t,u)=l++[c]/\c≠43/\c≠35:=by
 have j:=h.ht;have d:∀a:I1,∃l c,a++xQ t=l++[c]/\c≠43/\c≠35:=λa=>⟨a++[xA t],xI t,by rw[zF,qS];rfl,(dO (t/8) O).2⟩;rcases F4 M h with⟨_,_,e⟩|⟨_,_,e⟩|⟨_,e⟩|⟨_,e⟩<;>rw[e]
 .exact⟨[79,45],79,R,WW,WW⟩
 .exact⟨[79,45,79,45],79,R,WW,WW⟩
 .unfold z7;by_cases g:u=0
  .rw[qI g,Yh];exact d _
  rw[qF g];exact⟨_,vz u,by rw[show([61,vz u]:I1)=[61]++[vz u]from R,<-qS],oS u h.hu⟩
 rw[zQ,<-YA];exact d _
def mC(p:kJ z wh fc b)(n:-1<=b)(o:b<=63){x y:Mv}(w:x∈xC z wh fc b)(A:y∈xC z wh fc b){g k:I1}(q:g=[]\/g=[43]\/g=[35])(r:k=[]\/k=[43]\/k=[35])(h:jR (xC z wh fc b) z x++g=jR (xC z wh fc b) z y++k):x=y:=by
 obtain⟨i,F⟩:=um (f:=x.1) (t:=x.2.1) (u:=x.2.2) p n o w;obtain⟨j,G⟩:=um (f:=y.1) (t:=y.2.1) (u:=y.2.2) p n o A;obtain⟨l,c,D,c1,c2⟩:=gl (xC z wh fc b) F;obtain⟨m,d,E,B,C⟩:=gl (xC z wh fc b) G;have v:jR (xC z wh fc b) z x=jR (xC z wh fc b) z y:=by
  have a:=D;have e:=E;rcases q with rfl|rfl|rfl<;>obtain rfl|rfl|rfl:=r
  .simpa using h
  .rw[a,Yh]at h;exact w_ (List.singleton_inj.1 (XR h R).2) c1
  .rw[a,Yh]at h;exact w_ (List.singleton_inj.1 (XR h R).2) c2
  .rw[e,Yh]at h;exact w_ (List.singleton_inj.1 (XR h R).2).symm B
  .exact(XR h R).1
  .exact(XR h R).1
  .rw[e,Yh]at h;exact w_ (List.singleton_inj.1 (XR h R).2).symm C
  .exact(XR h R).1
  exact(XR h R).1
 exact wF p n o w A v
structure Bq(w:I6)(PA:I0)(W:I6):Prop where
 c0:W.cell? w.heap.size=S (.func (.func 60) #[] #[])
 c1:W.cell? ⟨w.heap.size,1,N⟩=S (.func (.func 61) #[] #[])
 pa:W.heap[w.heap.size+1]?=S (Z PA 70)
 gr:Gr w W
def Bq.next(h:Bq w PA W)(g:Gr W a):Bq w PA a:=⟨(ZW g (Ye W _ h.c0)).trans h.c0,(ZW g (Ye W _ h.c1)).trans h.c1,ZE g h.pa,o_ h.gr g⟩
def ac(w:I6)(PA:I0):Bq w PA ((w.alloc (Z jP 74)).alloc (Z PA 70)):=by obtain⟨a,b⟩:=x6 w (Z jP 74) (Z PA 70);exact⟨by rw[Zs a];rfl,by rw[Zs a];rfl,b,ZN.al⟩
def aZ{g:Int}(r:jE z wh fc b h g PA)(y:xO z=Zk)(B:-1<=b)(D:b<=63)(w:I6)(G:jF w)(F:jQ w):ZL 125 #[jP,PA] w (!(xC z wh fc b).isEmpty):=by
 have l:=mkS r y B D w G F;have v:(c_.info? 70).map (·.size)=S PA.size:=VU;have m:=ac w PA;obtain⟨⟨f,t,u⟩,p⟩:=Zn ((xC z wh fc b).headD (0,0,0));have a:∀(lb:I0)(C:Nat->Prop)(W:I6),(∀k,C k->k<W.heap.size)->It c_ 128 lb vr (λ_=>False) C (xC z wh fc b) W->ZL 66 #[.func (.func 128) #[] lb] W (Ze #[ZJ f t u,!(xC z wh fc b).isEmpty]):=λlb C W d i=>(qzv i l.ei d).mono λe w' k=>⟨by rw[k.1,p.a];rfl,k.2⟩;generalize (!(xC z wh fc b).isEmpty)=K at a|-;simp only[jP,zG]at m|-;unfold ZL;go_in;go_upto_region 1 with fail;show n_ _ _ _ _ ((w.alloc (Z #[.func (.func 60) #[] #[],.func (.func 61) #[] #[]] 74)).alloc (Z PA 70));generalize (w.alloc _).alloc _=M at m|-;have c1:=m.c1;have A:=m.pa;have j:=m.gr;go_upto_region 2 with(first|(go_at_call 61;refine(l.go (λ_=>False) (λ_ q=>q.elim) _ j).mono ?_;rintro e J ⟨lb,C,rfl,n,d,i⟩)|(go_at_call 66;refine Z0 (a lb C _ d i) λH o=>?_)|(refine ZV R 70 _ R (w+1) R 70 PA (0,0) _ A s_ rfl v ?_));have E:=o_ (o_ (o_ j n) o) ((q_ H).alloc (ZJ f t u) 87);go_wp2;go_ret;exact⟨R,E⟩
def fe(c n:Bool):I1:=if c=Zl then[]else if n=Zk then[43]else[35]
def fZ{g:Int}(r:jE z wh fc b h g PA)(o:xO z=Zk)(p:-1<=b)(q:b<=63)(y:0<=xR z wh)(A:xR z wh<=63)(w:I6)(x:jF w)(v:jQ w):ZL 59 #[jP,PA] w (xJ (fe (kz z wh) (!(xC z wh fc b).isEmpty))):=by
 have a:=λW=>fp r o y A W;have d:=λW (u:Gr w W)=>aZ r o p q W (x.gr u) (v.gr u);have j:(c_.info? 70).map (·.size)=S PA.size:=VU;have k:=ac w PA;generalize (!(xC z wh fc b).isEmpty)=e at d|-;generalize kz _ _=c at a|-;simp only[jP,zG]at k a d|-;cases c with
 | false=>
  unfold ZL;go_in;go_upto_region 1 with fail;show n_ _ _ _ _ ((w.alloc (Z #[.func (.func 60) #[] #[],.func (.func 61) #[] #[]] 74)).alloc (Z PA 70));generalize (w.alloc _).alloc _=B at k|-;have c0:=k.c0;have c1:=k.c1;have f:=k.pa
  go_wp2_with(first|(go_at_call 124;refine Z0 (a _) λC l=>?_)|(refine ZV R 70 _ R (w+1) R 70 PA (0,0) _ f s_ rfl j ?_));have m:=o_ k.gr l;go_ret;exact⟨R,m⟩
 | true=>
  unfold ZL;go_in;go_upto_region 1 with fail;show n_ _ _ _ _ ((w.alloc (Z #[.func (.func 60) #[] #[],.func (.func 61) #[] #[]] 74)).alloc (Z PA 70));generalize (w.alloc _).alloc _=B at k|-;have c0:=k.c0;have c1:=k.c1;have f:=k.pa
  go_upto_region 3 with(first|(go_at_call 124;refine Z0 (a _) λC l=>?_)|(refine ZV R 70 _ R (w+1) R 70 PA (0,0) _ f s_ rfl j ?_));have i:=k.next l;have c0:=i.c0;have c1:=i.c1;have f:=i.pa;cases e with
  | false=>
   go_wp2_with(first|(go_at_call 125;refine Z0 (d _ i.gr) λD n=>?_)|(refine ZV R 70 _ R (w+1) R 70 PA (0,0) _ f s_ rfl j ?_));have m:=o_ i.gr n;go_ret;exact⟨R,m⟩
  | true=>
   go_wp2_with(first|(go_at_call 125;refine Z0 (d _ i.gr) λD n=>?_)|(refine ZV R 70 _ R (w+1) R 70 PA (0,0) _ f s_ rfl j ?_));have m:=o_ i.gr n;go_ret;exact⟨R,m⟩
theorem gz(L:List Mv)(f:Nat):(iT L f).length<=2:=by
 unfold iT;by_cases a:L.isEmpty=Zk
 .rw[qI a];simp
 rw[qF a];by_cases b:L.all (λy=>!decide (y.1%8=f%8))=Zk
 .rw[qI b];simp
 rw[qF b];by_cases d:L.all (λy=>!decide (y.1/8=f/8))=Zk
 .rw[qI d];simp
 rw[qF d,zF];simp
structure Bm(w:I6)(PA M:I0)(W:I6):Prop where
 c0:W.cell? w.heap.size=S (.func (.func 60) #[] #[])
 c1:W.cell? ⟨w.heap.size,1,N⟩=S (.func (.func 61) #[] #[])
 pa:W.heap[w.heap.size+1]?=S (Z PA 70)
 mv:W.heap[w.heap.size+1+1]?=S (Z M 87)
 gr:Gr w W
def Bm.next(h:Bm w PA M W)(g:Gr W a):Bm w PA M a:=⟨(ZW g (Ye W _ h.c0)).trans h.c0,(ZW g (Ye W _ h.c1)).trans h.c1,ZE g h.pa,ZE g h.mv,o_ h.gr g⟩
def Bm.start(w:I6)(PA M:I0):Bm w PA M (((w.alloc (Z jP 74)).alloc (Z PA 70)).alloc (Z M 87)):=by have e:Gr (w.alloc (Z jP 74)) (((w.alloc (Z jP 74)).alloc (Z PA 70)).alloc (Z M 87)):=ZN.al;have a:=(YG e w Vj).trans (ZQ w _);obtain⟨b,d⟩:=x6 (w.alloc (Z jP 74)) (Z PA 70) (Z M 87);rw[Z3]at b d;exact⟨by rw[Zs a];rfl,by rw[Zs a];rfl,b,d,o_ ZN e⟩
def Bm.cells{g:Int}{t:Nat}(a:f<64)(d:t<64)(r:jE z wh fc b h g PA)(q:Bm w PA (ZJ f t u) W):W.cell? w=S (.func (.func 60) #[] #[])/\W.cell? ⟨w,1,N⟩=S (.func (.func 61) #[] #[])/\W.heap[w.heap.size+1]?=Z PA 70/\W.cell? ⟨w+1+1,0,N⟩=I L f/\W.cell? ⟨w+1+1,1,N⟩=I L t/\W.cell? ⟨w+1+1,2,N⟩=I Zg u.toNat/\W.cell? ⟨w+1,f,N⟩=I Zg (z f).toNat/\W.cell? ⟨w+1,t,N⟩=I Zg (z t).toNat:=by obtain⟨e,i,j⟩:=qm q.mv;exact⟨q.c0,q.c1,q.pa,e,i,j,by rw[Zs q.pa];exact r.sq f a,by rw[Zs q.pa];exact r.sq t d⟩
def qke{g:Int}(r:jE z wh fc b h g PA)(L:xO z=Zk)(F:-1<=b)(G:b<=63)(f t:Nat)(l:f<64)(m:t<64)(u:UInt8)(hz:(z f).toNat<128)(w:I6)(hT:jF w)(hC:jQ w):ZL 123 #[jP,PA,ZJ f t u] w (xJ (zQ (xC z wh fc b) z f t)):=by
 have H:=X (λW=>gV (z f) hz W);have n:=X (λW (gW:Gr w W)=>lj r L F G f t l u W (hT.gr gW) (hC.gr gW));have hN:=X (λW=>qxp t m W);have b2:(c_.info? 70).map (·.size)=S PA.toList.length:=U1;have a9:=Bm.start w PA (ZJ f t u);have J:(iT (jX (xC z wh fc b) z f t) f).length<=2:=gz _ _;have b1:(z t=46/\((z t).toNat:Int)=46)\/(z t≠46/\((z t).toNat:Int)≠46):=by
  by_cases e:z t=46
  .exact Zi ⟨e,Tg⟩
  exact Zj ⟨e,λq=>e (q6.1 (by have:(46:UInt8).toNat=46:=R;omega))⟩
 unfold zQ;generalize iT (jX (xC z wh fc b) z f t) f=wt at n J|-;have M:=X (λW=>xb [vz (z f)] wt WX W);have T:=X (λW=>xb ([vz (z f)]++wt) [120] WX W);have a7:=X (λW=>xb ([vz (z f)]++wt) [xA t,xI t] WX W);have a6:=X (λW=>xb ([vz (z f)]++wt++[120]) [xA t,xI t] WX W);have P:Y (z t=46->xJ (vz (z f)::(wt++(if z t=46 then[]else[120])++xQ t))=xJ ([vz (z f)]++wt++[xA t,xI t])):=X (λa=>by rw[qI a,Yh];rfl);have Q:Y (z t≠46->xJ (vz (z f)::(wt++(if z t=46 then[]else[120])++xQ t))=xJ ([vz (z f)]++wt++[120]++[xA t,xI t])):=X (λa=>by rw[qF a];rfl);obtain⟨RS,E⟩:=Zn (xJ (vz (z f)::(wt++(if z t=46 then[]else[120])++xQ t)));rw[E.a]at P Q|-;generalize xJ ([vz (z f)]++wt++[120]++[xA t,xI t])=S4 at a6 Q;generalize xJ ([vz (z f)]++wt++[xA t,xI t])=S3 at a7 P;generalize xJ ([vz (z f)]++wt++[120])=S2 at T a6;generalize xJ ([vz (z f)]++wt)=a8 at M T a7;generalize xJ [vz (z f)]=UC at M H;generalize xJ wt=WT at M n;generalize xJ [xA t,xI t]=b0 at a7 a6 hN;have a1:∀W,(k_ .add UC WT).run c_ W=.ok a8 W:=M.a;have a2:∀W,(k_ .add a8 ⟨#[120]⟩).run c_ W=.ok S2 W:=T.a;have a3:∀W,(k_ .add a8 b0).run c_ W=.ok S3 W:=a7.a;have a4:∀W,(k_ .add S2 b0).run c_ W=.ok S4 W:=a6.a;have a0:¬(64<=(f:Int)):=O;have a5:¬(64<=(t:Int)):=O;simp only[jP,zG]at a9 n|-;unfold ZL;go_in;go_upto_region 1 with fail;show n_ _ _ _ _ (((w.alloc (Z #[.func (.func 60) #[] #[],.func (.func 61) #[] #[]] 74)).alloc (Z PA 70)).alloc (Z (ZJ f t u) 87));generalize (((w.alloc (Z #[.func (.func 60) #[] #[],.func (.func 61) #[] #[]] 74)).alloc (Z PA 70)).alloc (Z (ZJ f t u) 87))=wA at a9|-;refine ZT (S:=Bm w PA (ZJ f t u)) WR (a9.next ZO.drew) (λd=>?_);refine ZB 0 (ZI (w+1+1)) R (λw i=>Vm) d ?_;refine ZB 1 (I .i64 f) R (λw i=>Vm) d ?_;refine ZB 2 (ZI (w+1)) R (λw i=>Vm) d ?_;refine ZB 3 (.pointer (S ⟨w+1,f,N⟩)) R (λw i=>Vm) d ?_;refine ZB 4 (I Zg (z f).toNat) R (λw i=>Vm) d ?_;refine ZB 6 (Zc #[.func (.func 60) #[] #[],.func (.func 61) #[] #[]]) R (λw i=>Vm) d ?_;refine ty 7 PA R (wY b2 Vb _ R (w+1) R (λ_ h=>h.pa)) d ?_;refine ZB 8 (ZJ f t u) R (λw i=>Vm) d ?_;refine rd 5 λK hK=>?_;go_simp;refine Z0 (H.a _) λwc k=>?_;refine hK.out _ _ (d.next k) λd=>?_;try simp only[py]
 refine rd 9 λK hK=>?_;go_simp;refine Z0 (n.a _ d.gr) λwc k=>?_;refine hK.out _ _ (d.next k) λd=>?_;try simp only[py]
 refine ZB 10 a8 R (λw i=>Vm) d ?_;refine rd 11 λK hK=>?_;go_simp;refine hK.out _ _ d λd=>?_;try simp only[py]
 refine ZZ WR ?_ _;obtain⟨c0,c1,A,p,v,y,cf,o⟩:=Bm.cells l m r d;obtain⟨V,e2⟩|⟨V,e2⟩:=b1
 .have D:=X (P.a V);exact O0
 have D:=X (Q.a V);exact O0
def cm{g:Int}(r:jE z wh fc b h g PA)(E:xO z=Zk)(C:-1<=b)(D:b<=63)(f t:Nat)(a0:f<64)(M:t<64)(u:UInt8)(a5:u.toNat<128)(hz:(z f).toNat<128)(w:I6)(a2:jF w)(a1:jQ w):ZL 58 #[jP,PA,ZJ f t u] w (xJ (jR (xC z wh fc b) z (f,t,u))):=by
 have j:=X (λW=>qjk (z f) W);have n:=X (λW=>xz (z f) W);have B:=X (λW=>dS f t a0 M u a5 W);have y:=X (λW (Q:Gr w W)=>qke r E C D f t a0 M u hz W (a2.gr Q) (a1.gr Q));have A:(c_.info? 70).map (·.size)=S PA.size:=VU;have H:=X (Bm.start w PA (ZJ f t u));have v:Y (jA (z f)=Zk->t=f+2->xJ (jR (xC z wh fc b) z (f,t,u))=⟨#[79,45,79]⟩):=X (λa c=>by unfold jR;rw[qI ⟨a,c⟩];rfl);have x:Y (jA (z f)=Zk->t≠f+2->t+2=f->xJ (jR (xC z wh fc b) z (f,t,u))=⟨#[79,45,79,45,79]⟩):=X (λa c d=>by unfold jR;rw[qF (λq=>c q.2),qI ⟨a,d⟩];rfl);have l:Y (¬(jA (z f)=Zk/\t=f+2)->¬(jA (z f)=Zk/\t+2=f)->jD (z f)=Zk->xJ (jR (xC z wh fc b) z (f,t,u))=xJ (z7 f t u)):=X (λa c d=>by unfold jR;rw[qF a,qF c,qI d]);have m:Y (¬(jA (z f)=Zk/\t=f+2)->¬(jA (z f)=Zk/\t+2=f)->jD (z f)=Zl->xJ (jR (xC z wh fc b) z (f,t,u))=xJ (zQ (xC z wh fc b) z f t)):=X (λa c d=>by unfold jR;rw[qF a,qF c,qF Oi]);have a6:¬(64<=(f:Int)):=O;have w2:a_ L ((f:Int)+2)=(f:Int)+2:=Vc;have w3:a_ L ((f:Int)-2)=(f:Int)-2:=Vc;generalize xJ (jR (xC z wh fc b) z (f,t,u))=RS at v x l m|-;generalize xJ (z7 f t u)=PW at B l;generalize xJ (zQ (xC z wh fc b) z f t)=PC at y m;generalize jA (z f)=kv at j v x l m;generalize jD (z f)=V at n l m;simp only[jP,zG]at H y|-;unfold ZL;go_in;go_upto_region 1 with fail;show n_ _ _ _ _ (((w.alloc (Z #[.func (.func 60) #[] #[],.func (.func 61) #[] #[]] 74)).alloc (Z PA 70)).alloc (Z (ZJ f t u) 87));generalize (((w.alloc (Z #[.func (.func 60) #[] #[],.func (.func 61) #[] #[]] 74)).alloc (Z PA 70)).alloc (Z (ZJ f t u) 87))=wA at H|-;obtain⟨c0,c1,T,m0,m1,m2,cf,a3⟩:=Bm.cells a0 M r H.a;have F:=X T;have i:=X H.a.gr;go_upto_region 2 with fail;have a7:Y (∀(P:Prop),P->P):=X λ_ p=>p;cases kv with
 | true=>
  by_cases G:t=f+2
  .have a4:(t:Int)=f+2:=O
   have o:=X (v R G);go_wp2_with(go_at_call 120;apply Z1 (j _));go_ret;exact⟨Un,i⟩
  have a4:¬(t:Int)=f+2:=O
  by_cases J:t+2=f
  .have K:(t:Int)=f-2:=O
   have o:=X (x R G J);go_wp2_with(go_at_call 120;apply Z1 (j _));go_ret;exact⟨Un,i⟩
  have K:¬(t:Int)=f-2:=O
  cases V with
  | true=>
   have o:=X (l (λq=>G q.2) (λq=>J q.2) R)
   go_wp2_with(first|(go_at_call 120;apply Z1 (j _))|(go_at_call 121;apply Z1 (n _))|(go_at_call 122;refine Z0 (B _) λe k=>?_));go_ret;exact⟨Un,o_ i k⟩
  | false=>
   have o:=X (m (λq=>G q.2) (λq=>J q.2) R)
   go_wp2_with(first|(go_at_call 120;apply Z1 (j _))|(go_at_call 121;apply Z1 (n _))|(go_at_call 123;refine Z0 (y _ i) λe k=>?_)|(refine ZV R 70 _ R (w+1) R 70 PA (0,0) _ F.a s_ rfl A ?_));go_ret;exact⟨Un,o_ i k⟩
 | false=>
  cases V with
  | true=>
   have o:=X (l (λq=>by cases q.1) (λq=>by cases q.1) R)
   go_wp2_with(first|(go_at_call 120;apply Z1 (j _))|(go_at_call 121;apply Z1 (n _))|(go_at_call 122;refine Z0 (B _) λe k=>?_));go_ret;exact⟨Un,o_ i k⟩
  | false=>
   have o:=X (m (λq=>by cases q.1) (λq=>by cases q.1) R)
   go_wp2_with(first|(go_at_call 120;apply Z1 (j _))|(go_at_call 121;apply Z1 (n _))|(go_at_call 123;refine Z0 (y _ i) λe k=>?_)|(refine ZV R 70 _ R (w+1) R 70 PA (0,0) _ F.a s_ rfl A ?_));go_ret;exact⟨Un,o_ i k⟩
def pX(z:I2)(wh:Bool)(fc:I5)(b:Int)(x:Mv):I1:=fe (kz (zE z b x) (!wh)) (!(xC (zE z b x) (!wh) (kB fc x.1 x.2.1 4) (vK z x.1 x.2.1)).isEmpty)
def uj(z:I2)(wh:Bool)(fc:I5)(b:Int)(x:Mv):I1:=jR (xC z wh fc b) z x++pX z wh fc b x
def d6(c n:Bool):fe c n=[]\/fe c n=[43]\/fe c n=[35]:=by cases c<;>cases n<;>simp[fe]
def De{g:Int}(o:Ok z wh fc b h g){x y:Mv}(a:x∈xC z wh fc b)(d:y∈xC z wh fc b)(e:uj z wh fc b x=uj z wh fc b y):x=y:=mC o.good o.b0 o.b1 a d (d6 _ _) (d6 _ _) e
def Ok.king{g:Int}(o:Ok z wh fc b h g):0<=xR z wh/\xR z wh<=63:=by obtain⟨y,a,_,e⟩:=js (o.good.k1 wh);omega
def ae(M:List Mv){t:Nat}(h:pZ z wh fc b f t u i):(jR M z (f,t,u)).length<=10:=by grind[F4,z7,qZ,zF,zQ,gz,jX]
def fE:∀p,p<12->(yQ p).toNat<128:=WS
def oW:∀u∈U5,u.toNat<128:=WS
def pZ.small{t:Nat}(h:pZ z wh fc b f t u i):(z f).toNat<128:=by have d:=h.hi;have a:bg wh=0\/bg wh=6:=UM;rw[jn (p:=bg wh+i) O h.hc];exact fE _ O
def pe{g:Int}(r:jE z wh fc b h g PA)(o:Ok z wh fc b h g)(f t:Nat)(u:UInt8)(B:(f,t,u)∈xC z wh fc b)(w:I6)(a0:jF w)(H:jQ w)(a5:vJ w):ZL 32 #[jP,PA,ZJ f t u] w (xJ (uj z wh fc b (f,t,u))):=by
 obtain⟨i,a1⟩:=um o.good o.b0 o.b1 B;have o':=o.next B;obtain⟨p,q,hu,v,x⟩:=o.mv B;obtain⟨P,a3,T,V⟩:=o.clk;have m:=λW (l:Gr w W)=>cm r o.lay o.b0 o.b1 f t p q u (oW u hu) a1.small W (a0.gr l) (H.gr l);have J:=λW (l:Gr w W)=>iJ r f t u p q v x P a3 T V W (a5.gr l);have n:∀(Q:I0) W,Gr w W->jE (zE z b (f,t,u)) (!wh) (kB fc f t 4) (vK z f t) (kK z f t h) (kj wh g) Q->ZL 59 #[jP,Q] W (xJ (pX z wh fc b (f,t,u))):=λQ W l rQ=>fZ rQ o'.lay o'.b0 o'.b1 o'.king.1 o'.king.2 W (a0.gr l) (H.gr l);have k:(c_.info? 70).map (·.size)=S PA.toList.length:=U1;have M:=Bm.start w PA (ZJ f t u);have a7:(pX z wh fc b (f,t,u)).length<=1:=by unfold pX;rcases d6 (kz (zE z b (f,t,u)) (!wh)) (!(xC (zE z b (f,t,u)) (!wh) (kB fc f t 4) (vK z f t)).isEmpty)with e|e|e<;>(rw[e];simp)
 have y:=λW=>xb (jR (xC z wh fc b) z (f,t,u)) (pX z wh fc b (f,t,u)) (by have:=ae (xC z wh fc b) a1;omega) W;unfold uj;generalize xJ (jR (xC z wh fc b) z (f,t,u)++pX z wh fc b (f,t,u))=a2 at y|-;generalize xJ _=a6 at y m;generalize xJ _=a8 at y n;have a4:=y;simp only[jP,zG]at M m n|-;unfold ZL;go_in;go_upto_region 1 with fail;show n_ _ _ _ _ (((w.alloc (Z #[.func (.func 60) #[] #[],.func (.func 61) #[] #[]] 74)).alloc (Z PA 70)).alloc (Z (ZJ f t u) 87));generalize ((w.alloc (Z #[.func (.func 60) #[] #[],.func (.func 61) #[] #[]] 74)).alloc (Z PA 70)).alloc _=wA at M|-;refine ZT (S:=Bm w PA (ZJ f t u)) WR (M.next ZO.drew) (λa=>?_);apply ZB 0 _ R (λw j=>Vv) a;apply ty 1 _ R (wY k Vb _ R (w+1) R (λ_ h=>h.pa)) a;apply ZB 2 _ R (λw j=>Vv) a;apply ZB 4 _ R (λw j=>Vv) a;apply ty 5 _ R (wY k Vb _ R (w+1) R (λ_ h=>h.pa)) a;apply ZB 6 _ R (λw j=>Vv) a;refine rd 3 λK hK=>?_;go_simp;refine Z0 (m _ a.gr) λwc d=>?_;refine hK.out _ _ (a.next d) λa=>?_;try simp only[py]
 refine rd 7 λK hK=>?_;go_simp;refine(J _ a.gr).mono ?_;rintro e wc ⟨Q,rfl,hQ,d⟩;refine hK.out _ _ (a.next d) λa=>?_;try simp only[py]
 refine rd 8 λK hK=>?_;go_simp;refine Z0 (n _ _ a.gr hQ) λwc d=>?_;refine hK.out _ _ (a.next d) λa=>?_;try simp only[py]
 apply ZB 9 _ R (λw j=>Vv) a;refine rd 10 λK hK=>?_;exact IU
def cN(a c:I4):(a.toList==c.toList)=Zm (a=c):=by
 by_cases e:a=c
 .subst e;simp
 rw[qE e,qM];intro q;rw[Xl,Xl]at q;exact e (bytes_inj q)
structure Rf(w:I6)(Bx B1 B2 B3:Nat)(PA M:I0)(tx:I4)(W:I6):Prop where
 q:W.heap[B1]?=S (Z jP 74)
 pa:W.heap[B2]?=S (Z PA 70)
 s:W.heap[B3]?=S (Z #[Zb tx] 9)
 mv:W.heap[Bx]?=S (Z M 87)
 gr:Gr w W
def Rf.next{f:I6}{a b:Nat}{i:I4}(h:Rf w e a b d PA M i W)(g:Gr W f):Rf w e a b d PA M i f:=⟨ZE g h.q,ZE g h.pa,ZE g h.s,ZE g h.mv,o_ h.gr g⟩
def Rf.cells{b:Nat}{g:I4}{a c d:I7}(h:Rf w b e i f PA #[a,c,d] g W):W.cell? e=S (.func (.func 60) #[] #[])/\W.cell? ⟨e,1,N⟩=S (.func (.func 61) #[] #[])/\W.cell? b=a/\W.cell? ⟨b,1,N⟩=c/\W.cell? ⟨b,2,N⟩=d/\W.cell? f=Zb g:=by obtain⟨j,k,l⟩:=qm h.mv;exact⟨by rw[Zs h.q];rfl,by rw[Zs h.q];rfl,j,k,l,(qi h.s).1⟩
def mH{g:Int}(r:jE z wh fc b h g PA)(o:Ok z wh fc b h g)(i:I4)(f t:Nat)(u:UInt8)(G:(f,t,u)∈xC z wh fc b)(p j q:Nat)(w:I6)(x:w.heap[p]?=Z jP 74)(y:w.heap[j]?=Z PA 70)(A:w.heap[q]?=Z #[i] 9)(E:jF w)(B:jQ w)(D:vJ w):ZL 68 #[ZJ f t u,ZI p,ZI j,ZI q] w (Zm (xJ (uj z wh fc b (f,t,u))=i)):=by
 have d:=λW (v:Gr w W)=>pe r o f t u G W (E.gr v) (B.gr v) (D.gr v);have m:(c_.info? 70).map (·.size)=S PA.toList.length:=U1;have k:Gr w (w.alloc (Z (ZJ f t u) 87)):=ZN;have F:Rf w w p j q PA (ZJ f t u) i (w.alloc (Z (ZJ f t u) 87)):=⟨ZE k x,ZE k y,ZE k A,ZQ w _,k⟩;generalize xJ _=P at d|-;rw[<-cN];simp only[jP,zG]at d;unfold ZL;go_in;go_upto_region 1 with fail;show n_ _ _ _ _ (w.alloc (Z (ZJ f t u) 87));generalize w.alloc _=M at F|-;refine ZT (S:=Rf w w p j q PA (ZJ f t u) i) WR (F.next ZO.drew) (λa=>?_);apply ZB 0 _ R (λw n=>Uv) a;apply ty 1 _ R (wY m Vb _ R j R (λ_ h=>h.pa)) a;apply ZB 2 _ R (λw n=>Uv) a;apply ZB 4 i R (λw n=>Uv) a;refine rd 3 λK hK=>?_;go_simp;refine Z0 (d _ a.gr) λwc l=>?_;refine hK.out _ _ (a.next l) λa=>?_;try simp only[py]
 apply tq 5 _ a;refine rd 6 λK hK=>?_;exact IU
def cU(z:I2)(wh:Bool)(fc:I5)(b:Int)(tx:I4):List Mv:=(xC z wh fc b).filter λx=>Zm (xJ (uj z wh fc b x)=tx)
structure E0(w:I6)(PA:I0)(tx:I4)(W:I6):Prop where
 q:W.heap[w.heap.size]?=S (Z jP 74)
 pa:W.heap[w.heap.size+1]?=S (Z PA 70)
 s:W.heap[w.heap.size+1+1]?=S (Z #[Zb tx] 9)
 mv:W.heap[w.heap.size+1+1+1]?=S (Z #[I L 0,I L 0,I Zg 0] 87)
 gr:Gr w W
def E0.next{b:I4}(h:E0 w PA b W)(g:Gr W a):E0 w PA b a:=⟨ZE g h.q,ZE g h.pa,ZE g h.s,ZE g h.mv,o_ h.gr g⟩
def E0.start(w:I6)(PA:I0)(a:I4):E0 w PA a ((((w.alloc (Z jP 74)).alloc (Z PA 70)).alloc (Z #[a] 9)).alloc (Z #[I L 0,I L 0,I Zg 0] 87)):=by have g:Gr w ((((w.alloc (Z jP 74)).alloc (Z PA 70)).alloc (Z #[a] 9)).alloc (Z #[I L 0,I L 0,I Zg 0] 87)):=ZN.al.al.al;refine⟨?_,?_,?_,?_,g⟩<;>(simp only[World.alloc,Array.getElem?_push,Array.size_push];first|(simp;done)|(simp;repeat(rw[qF O])))
def nM{g:Int}(r:jE z wh fc b h g PA)(o:Ok z wh fc b h g)(a:I4)(w:I6)(Z:jF w)(v:jQ w)(a1:vJ w):ZL 37 #[jP,PA,a] w (Ze #[gJ ((cU z wh fc b a).headD (0,0,0)),!(cU z wh fc b a).isEmpty]):=by
 have a0:=qmf;have C:(c_.info? 70).map (·.size)=S PA.size:=VU;have H:=E0.start w PA a;obtain⟨⟨f,t,u⟩,n⟩:=Zn ((cU z wh fc b a).headD (0,0,0));have i:∀(Bp J Bf:Nat)(W:I6),E0 w PA a W->W.heap[Bp]?=S (.cells PA 70)->W.heap[J]?=S (.cells #[.func (.func 128) #[] #[ZI Bp]] 141)->W.heap[Bf]?=S (.cells #[.func (.func 68) #[] #[ZI w,ZI (w+1),ZI (w+1+1)]] 143) →
  ZL 66 #[.func (.func 155) #[] #[ZI J,ZI Bf]] W (Ze #[ZJ f t u,!(cU z wh fc b a).isEmpty]):=λBp J Bf W d hp ht hf=>by
  have m:=Z.gr d.gr;have l:=v.gr d.gr;have A:=a1.gr d.gr;have D:=qxq r o.lay o.b0 o.b1 Bp (λ_=>False) (λ_ q=>q.elim) W hp m l;have E:=D.mono (C':=λk=>(k=Bp\/k=2\/k=3)\/k=w.heap.size\/k=w.heap.size+1\/k=w.heap.size+1+1\/k=1) (λk q=>Zi q)
  have j:∀k,((k=Bp\/k=2\/k=3)\/k=w.heap.size\/k=w.heap.size+1\/k=w.heap.size+1+1\/k=1)->k<W.heap.size:=by
   rintro k ((rfl|rfl|rfl)|rfl|rfl|rfl|rfl)
   .exact(qB.1 hp).1
   .exact m.2
   .exact l.2
   .exact(qB.1 d.q).1
   .exact(qB.1 d.pa).1
   .exact(qB.1 d.s).1
   exact A.2
  have F:=qkg E (YC func128 WR R) (YC func68 WR R) (λ_ q=>q.elim) (λ_ _ q=>q) j J Bf (λx=>Zm (xJ (uj z wh fc b x)=a)) ht hf (by rintro⟨f',t',u'⟩ hx V y;exact mH r o a f' t' u' hx w (w+1) (w+1+1) V (y.same _ _ d.q (Zj (Zi R))) (y.same _ _ d.pa (Zj (Zj (Zi R)))) (y.same _ _ d.s (Zj (Zj (Zj (Zi R))))) (m.fr y (λ_=>Zi (Zj (Zi R)))) (l.fr y (λ_=>Zi (Zj (Zj R)))) (A.fr y (λ_=>Zj (Zj (Zj (Zj R))))))
  refine(qzv F (YC func155 WR R) (by
   rintro k (q|rfl|rfl)
   .exact j k q
   .exact(qB.1 ht).1
   exact(qB.1 hf).1)).mono λe w' k=>⟨?_,k.2⟩
  have:=n;unfold cU at this;rw[k.1,this];rfl
 rw[n.a];generalize (!(cU z wh fc b a).isEmpty)=a4 at i|-;simp only[jP,zG,gJ]at H|-;unfold ZL;go_in;go_upto_region 1 with fail;show n_ _ _ _ _ ((((w.alloc (.cells #[.func (.func 60) #[] #[],.func (.func 61) #[] #[]] 74)).alloc (.cells PA 70)).alloc (.cells #[a] 9)).alloc (.cells #[I L 0,I L 0,I Zg 0] 87));generalize (((w.alloc (.cells #[.func (.func 60) #[] #[],.func (.func 61) #[] #[]] 74)).alloc (.cells PA 70)).alloc (.cells #[a] 9)).alloc _=w0 at H|-;have c1:w0.cell? ⟨w,1,N⟩=S (.func (.func 61) #[] #[]):=by rw[Zs H.q];rfl
 have Q:=H.pa;have a7:=λW=>zk PA W;have a3:=λg gf lb lf W=>dV g gf lb lf W;go_wp2_with(first|(go_at_call 61;refine Z0 (a7 _) λw2⟨G,a5⟩=>?_)|(go_at_call 67;refine Z0 (a3 _ _ _ _ _) λw3⟨a6,K,B⟩=>?_;have a2:=H.next (o_ a5 B);have P:=(ZE B G))|(go_at_call 66;refine Z0 (i _ _ _ _ a2 P a6 K) λw4 M=>?_;have p:=a2.next M)|(refine ZU R 87 _ _ R (w+1+1+1) (ZJ f t u) R R 87 #[I L 0,I L 0,I Zg 0] p.mv xW R Vi ?_)|(refine ZV R 70 _ R (w+1) R 70 PA (0,0) _ Q s_ rfl C ?_));exact ZS (v:=Ze #[ZJ f t u,a4]) (qj results37 _ _ (w+1+1+1) 87 (ZJ f t u) (0,0) _ R (Zt p.mv) underlying87 rfl xW) R ⟨R,p.gr.setRow _ O _⟩
structure AC(w:I6)(b1:Nat)(A:I0)(W:I6):Prop where
 pa:W.heap[b1]?=S (Z A 70)
 gr:Gr w W
def AC.next{b:Nat}(h:AC w b A W)(g:Gr W a):AC w b A a:=⟨ZE g h.pa,o_ h.gr g⟩
def AC.put{a:Nat}(h:AC w a A W)(B:Nat)(M:I0)(d:w<=B)(b:a≠B):AC w a A (W.setRow B M):=⟨by rw[Zu b];exact h.pa,h.gr.setRow _ d _⟩
def vU(s t:I4)(e:Ending):Prop:=
 (∃k,iP s k/\e=Zd (Ze #[Zb ⟨#[]⟩,I L k])) ∨
 (∃p,xG s=S p/\xP p=Zk/\cU (xM p) p.white (yC p.castle) p.behind t=[]/\e=Zd (Ze #[Zb ⟨#[]⟩,I L 4])) ∨
 (∃p x,xG s=S p/\xP p=Zk/\x∈cU (xM p) p.white (yC p.castle) p.behind t/\e=Zd (Ze #[Zb (xJ (yJ x)),I L 0]))
def AA(z:I2)(wh:Bool)(fc:I5)(b:Int)(f t n:Nat):Bool:=!decide (n=f)&&Zm (z n=z f)&&vo z wh fc b n t 0
def kI(z:I2)(wh:Bool)(fc:I5)(b:Int)(f t k:Nat):List Nat:=(h_ k).filter (AA z wh fc b f t)
def iH(L:List Nat)(f:Nat):Nat:=(L.filter λn=>Zm (n%8=f%8)).length
def iG(L:List Nat)(f:Nat):Nat:=(L.filter λn=>Zm (n/8=f/8)).length
def Ew{t:Nat}(h:AA z wh fc b f t k=Zl):kI z wh fc b f t (k+1)=kI z wh fc b f t k:=by unfold kI;rw[YI,YJ,List.filter_cons_of_neg (by rw[h];simp),List.filter_nil,Yh]
def Cn{t:Nat}(h:AA z wh fc b f t k=Zk):kI z wh fc b f t (k+1)=kI z wh fc b f t k++[k]:=by unfold kI;rw[YI,YJ,List.filter_cons_of_pos h,List.filter_nil]
def lZ(z:I2)(wh:Bool)(fc:I5)(b:Int)(f t k:Nat):(kI z wh fc b f t k).length<=k:=by unfold kI;exact q7 (Y8 _ _) (by rw[List.length_range];exact Zy)
def wO(L:List Nat)(f k:Nat):iH (L++[k]) f=iH L f+(if k%8=f%8 then 1 else 0):=by unfold iH;rw[YJ,qZ];by_cases h:k%8=f%8<;>simp[h]
def wN(L:List Nat)(f k:Nat):iG (L++[k]) f=iG L f+(if k/8=f/8 then 1 else 0):=by unfold iG;rw[YJ,qZ];by_cases h:k/8=f/8<;>simp[h]
structure Rm(w:I6)(PA M:I0)(W:I6):Prop where
 pa:W.heap[w.heap.size]?=S (Z PA 70)
 mv:W.heap[w.heap.size+1]?=S (Z M 125)
 gr:Gr w W
def Rm.next(h:Rm w PA M W)(g:Gr W a):Rm w PA M a:=⟨ZE g h.pa,ZE g h.mv,o_ h.gr g⟩
def Rm.start(w:I6)(PA M:I0):Rm w PA M ((w.alloc (Z PA 70)).alloc (Z M 125)):=by obtain⟨a,b⟩:=x6 w (Z PA 70) (Z M 125);exact⟨a,b,ZN.al⟩
def Rm.cells{g:Int}{t:Nat}(a:f<64)(d:k<64)(r:jE z wh fc b h g PA)(q:Rm w PA (ZJ f t u) W):W.cell? ⟨w+1,0,N⟩=I L f/\W.cell? ⟨w+1,1,N⟩=I L t/\W.cell? ⟨w+1,2,N⟩=I Zg u.toNat/\W.cell? ⟨w,f,N⟩=I Zg (z f).toNat/\W.cell? ⟨w,k,N⟩=I Zg (z k).toNat:=by obtain⟨e,i,j⟩:=qm q.mv;exact⟨e,i,j,by rw[Zs q.pa];exact r.sq f a,by rw[Zs q.pa];exact r.sq k d⟩
def nL(k t:Int):c_.built 125 [(0,k),(1,t)]=S #[I L k,I L t,I Zg 0]:=WR
def iF{g:Int}(r:jE z wh fc b h g PA)(hC:kJ z wh fc b)(b0:-1<=b)(b1:b<=63)(h0:0<=h)(h1:h<=65535)(g0:0<=g)(g1:g<=65535)(f t:Nat)(p:f<64)(ht:t<64)(u:UInt8)(w:I6):ZL 109 #[PA,ZJ f t u] w (xJ (wh3 (!(kI z wh fc b f t 64).isEmpty) (Zm (iH (kI z wh fc b f t 64) f≠0)) (Zm (iG (kI z wh fc b f t 64) f≠0)) f)):=by
 have d5:Y (∀k:Nat,k<64->∀W,ZL 105 #[PA,Zc #[k,t,I Zg 0]] W (vo z wh fc b k t 0)):=X (λk hk W=>qjj r hC b0 b1 h0 h1 g0 g1 k t hk ht 0 WW W);obtain⟨va,a0⟩:=Zn (!(kI z wh fc b f t 64).isEmpty);obtain⟨vc,a1⟩:=Zn (Zm (iH (kI z wh fc b f t 64) f≠0));obtain⟨vd,a2⟩:=Zn (Zm (iG (kI z wh fc b f t 64) f≠0));rw[a0.a,a1.a,a2.a];have hN:=X (λW=>qxo f p W);have b3:(c_.info? 70).map (·.size)=S PA.size:=VU;have hq:=X (Rm.start w PA (ZJ f t u));have c6:¬(64<=(f:Int)):=O;have sz:(⟨(xQ f).toArray⟩:I4).size=2:=R;have b5:(⟨(xQ f).toArray⟩:I4).extract 0 1=xJ [xA f]:=R;have b6:(⟨(xQ f).toArray⟩:I4).extract 1 2=xJ [xI f]:=R;have a6:Y ((⟨(xQ f).toArray⟩:I4)=xJ [xA f,xI f]):=X R;generalize (⟨(xQ f).toArray⟩:I4)=NF at hN sz b5 b6 a6;unfold ZL;go_in;go_upto_region 1 with fail;show n_ _ _ _ _ ((w.alloc (Z PA 70)).alloc (Z (ZJ f t u) 125));generalize ((w.alloc (Z PA 70)).alloc (Z (ZJ f t u) 125))=w0 at hq|-;go_wp2;go_loopg [5,6,7,8,9] 64 (λgk a c d n _ wr=>∃k:Nat,k+gk=64/\n=k/\a=((kI z wh fc b f t k).length:Int)/\c=(iH (kI z wh fc b f t k) f:Int)/\d=(iG (kI z wh fc b f t k) f:Int)/\Rm w PA (ZJ f t u) wr)
 .exact⟨0,O,R,R,R,R,hq.a⟩
 obtain⟨k,k1,rfl,rfl,rfl,rfl,hR⟩:=hrel;by_cases c5:k<64
 .have i:k<64:=c5;have d1:0<=(k:Int):=O;have kl:(k:Int)<64:=O;have d0:¬(64<=(k:Int)):=O;have D:=lZ z wh fc b f t k;have P:iH (kI z wh fc b f t k) f<=k:=q7 (Y8 _ _) D;have Q:iG (kI z wh fc b f t k) f<=k:=q7 (Y8 _ _) D;have wk:a_ L ((k:Int)+1)=(k:Int)+1:=Vc;obtain⟨d4,T⟩:=Zn ((kI z wh fc b f t k).length);obtain⟨of,f1⟩:=Zn (iH (kI z wh fc b f t k) f);obtain⟨E,V⟩:=Zn (iG (kI z wh fc b f t k) f);rw[T.a]at D|-;rw[f1.a]at P|-;rw[V.a]at Q|-;have G:Y (AA z wh fc b f t k=Zl->(kI z wh fc b f t (k+1)).length=d4/\iH (kI z wh fc b f t (k+1)) f=of/\iG (kI z wh fc b f t (k+1)) f=E):=X λq=>by rw[Ew q];exact⟨T.a,f1.a,V.a⟩
  have K:Y (AA z wh fc b f t k=Zk->(kI z wh fc b f t (k+1)).length=d4+1/\iH (kI z wh fc b f t (k+1)) f=of+(if k%8=f%8 then 1 else 0)/\iG (kI z wh fc b f t (k+1)) f=E+(if k/8=f/8 then 1 else 0)):=X λq=>by rw[Cn q,wO,wN,qZ,T.a,f1.a,V.a];exact⟨R,R,R⟩
  have wo:a_ L ((d4:Int)+1)=(d4:Int)+1:=Vc;have wf:a_ L ((of:Int)+1)=(of:Int)+1:=Vc;have d2:a_ L ((E:Int)+1)=(E:Int)+1:=Vc;by_cases hA:k=f
  .have b7:(k:Int)=f:=O;obtain⟨e,M,d3⟩:=G.a (by unfold AA;simp[hA]);have m:=X (YB e (YB M d3));go_upto_region 7 with fail;refine ZT (S:=Rm w PA (ZJ f t u)) WR (hR.next ZO.drew) (λl=>?_);refine ZB 0 k R (λw j=>WZ) l ?_;refine ZB 1 (ZI (w+1)) R (λw j=>WZ) l ?_;refine ZB 2 f R (λw j=>WZ) l ?_;refine ZB 3 Zk R (λw j=>WZ) l ?_;refine ZB 4 Zk R (λw j=>WZ) l ?_;refine ZA 5 l ?_;refine ZA 6 l ?_;refine ZA 7 l ?_;refine ZA 8 l ?_;refine ZA 9 l ?_;refine ZA 10 l ?_;refine ZA 11 l ?_;refine ZA 12 l ?_;refine ZA 13 l ?_;refine ZA 14 l ?_;exact OI
  have b7:¬(k:Int)=f:=O;by_cases hB:z k=z f
  .have a7:((z k).toNat:Int)=((z f).toNat:Int):=(by rw[hB]);have c4:(((z k).toNat:Int)!=((z f).toNat:Int))=Zl:=(by rw[hB];simp);have f3:=X (λW=>d5.a k i W);obtain⟨lv,J⟩:=Zn (vo z wh fc b k t 0);rw[J.a]at f3;go_upto_region 7 with fail;refine ZT (S:=Rm w PA (ZJ f t u)) WR (hR.next ZO.drew) (λl=>?_);refine ZB 0 k R (λw j=>WZ) l ?_;refine ZB 1 (ZI (w+1)) R (λw j=>WZ) l ?_;refine ZB 2 f R (λw j=>WZ) l ?_;refine ZB 3 Zl R (λw j=>WZ) l ?_;refine ZB 4 Zl R (λw j=>WZ) l ?_;refine ZB 5 k R (λw j=>WZ) l ?_;refine ZB 6 (ZI w) R (λw j=>WZ) l ?_;refine ZB 7 (.pointer (S ⟨w,k,N⟩)) R (λw j=>WZ) l ?_;refine ZB 8 (I Zg (z k).toNat) R (λw j=>WZ) l ?_;refine ZB 9 (ZI (w+1)) R (λw j=>WZ) l ?_;refine ZB 10 f R (λw j=>WZ) l ?_;refine ZB 11 (ZI w) R (λw j=>WZ) l ?_;refine ZB 12 (.pointer (S ⟨w,f,N⟩)) R (λw j=>WZ) l ?_;refine ZB 13 (I Zg (z f).toNat) R (λw j=>WZ) l ?_;refine ZB 14 Zl R (λw j=>WZ) l ?_;refine ZB 15 Zl R (λw j=>WZ) l ?_;refine ZZ WR ?_ _;obtain⟨A,y,x,cf,o⟩:=Rm.cells p i r l;have b4:=X l.pa;have B:=X l;go_upto_region 9 with(first|(go_at_call 105;refine Z0 (f3.a _) λw5 b2=>?_)|(refine ZV R 70 _ R w R 70 PA (0,0) _ b4.a s_ rfl b3 ?_)|(refine qqq R 125 _ R #[k,t,I Zg 0] ?_ ?_;focus (go_simp;exact nL _ _)));have f2:=B.a.next b2;obtain⟨A,y,x,cf,o⟩:=Rm.cells p i r f2;have H:=X f2;cases lv with
   | false=>
    obtain⟨e,M,d3⟩:=G.a (by unfold AA;rw[J.a];simp);have m:=X (YB e (YB M d3));go_wp2;go_roundg (gk-1)
    .exact⟨k+1,O,Vg,by rw[m.a.1],by rw[m.a.2.1],by rw[m.a.2.2],H.a⟩
    omega
   | true=>
    obtain⟨e,M,d3⟩:=K.a (by unfold AA;rw[J.a];simp[hA,hB]);have m:=X (YB e (YB M d3));by_cases hF:k%8=f%8<;>by_cases hG:k/8=f/8
    .exact w_ (show k=f from O) hA
    .rw[qI hF,qF hG]at m;have a8:(k:Int)%8=f%8:=O
     have a9:¬(k:Int)/8=f/8:=O
     go_wp2;go_roundg (gk-1)
     .exact⟨k+1,O,Vg,by rw[m.a.1];rfl,by rw[m.a.2.1];rfl,by rw[m.a.2.2];rfl,H.a⟩
     omega
    .rw[qF hF,qI hG]at m;have a8:¬(k:Int)%8=f%8:=O
     have a9:(k:Int)/8=f/8:=O
     go_wp2;go_roundg (gk-1)
     .exact⟨k+1,O,Vg,by rw[m.a.1];rfl,by rw[m.a.2.1];rfl,by rw[m.a.2.2];rfl,H.a⟩
     omega
    rw[qF hF,qF hG]at m;have a8:¬(k:Int)%8=f%8:=O
    have a9:¬(k:Int)/8=f/8:=O
    go_wp2;go_roundg (gk-1)
    .exact⟨k+1,O,Vg,by rw[m.a.1];rfl,by rw[m.a.2.1];rfl,by rw[m.a.2.2];rfl,H.a⟩
    omega
  have a7:¬((z k).toNat:Int)=((z f).toNat:Int):=λq=>hB (q6.1 O);have c4:(((z k).toNat:Int)!=((z f).toNat:Int))=Zk:=qU.2 a7;obtain⟨e,M,d3⟩:=G.a (by unfold AA;simp[hB]);have m:=X (YB e (YB M d3));go_upto_region 7 with fail;refine ZT (S:=Rm w PA (ZJ f t u)) WR (hR.next ZO.drew) (λl=>?_);refine ZB 0 k R (λw j=>WZ) l ?_;refine ZB 1 (ZI (w+1)) R (λw j=>WZ) l ?_;refine ZB 2 f R (λw j=>WZ) l ?_;refine ZB 3 Zl R (λw j=>WZ) l ?_;refine ZB 4 Zl R (λw j=>WZ) l ?_;refine ZB 5 k R (λw j=>WZ) l ?_;refine ZB 6 (ZI w) R (λw j=>WZ) l ?_;refine ZB 7 (.pointer (S ⟨w,k,N⟩)) R (λw j=>WZ) l ?_;refine ZB 8 (I Zg (z k).toNat) R (λw j=>WZ) l ?_;refine ZB 9 (ZI (w+1)) R (λw j=>WZ) l ?_;refine ZB 10 f R (λw j=>WZ) l ?_;refine ZB 11 (ZI w) R (λw j=>WZ) l ?_;refine ZB 12 (.pointer (S ⟨w,f,N⟩)) R (λw j=>WZ) l ?_;refine ZB 13 (I Zg (z f).toNat) R (λw j=>WZ) l ?_;refine ZB 14 Zk R (λw j=>WZ) l ?_;exact OI
 have ek:k=64:=O;subst ek;obtain⟨A,y,x,cf,o⟩:=Rm.cells p p r hR;have f0:=X hR.gr;have D:=lZ z wh fc b f t 64;have P:iH (kI z wh fc b f t 64) f<=64:=q7 (Y8 _ _) D;have Q:iG (kI z wh fc b f t 64) f<=64:=q7 (Y8 _ _) D;have a3:Y ((kI z wh fc b f t 64).length=0↔va=Zl):=X (by rw[<-a0.a];cases kI z wh fc b f t 64<;>simp);have a4:Y (iH (kI z wh fc b f t 64) f=0↔vc=Zl):=X (by rw[<-a1.a];simp);have a5:Y (iG (kI z wh fc b f t 64) f=0↔vd=Zl):=X (by rw[<-a2.a];simp);generalize (kI z wh fc b f t 64).length=d4 at D a3|-;generalize iH (kI z wh fc b f t 64) f=of at P a4|-;generalize iG (kI z wh fc b f t 64) f=E at Q a5|-;cases va with
 | false=>
  have e0:(d4:Int)=0:=by have:=a3.a.2 R;omega
  go_wp2_with(go_at_call 110;refine Z0 (hN.a _) λw9 F=>?_);go_ret;exact⟨R,o_ f0.a F⟩
 | true=>
  have e0:¬(d4:Int)=0:=by
   have:¬d4=0:=λq=>by have:=a3.a.1 q;cases this
   omega
  cases vc with
  | false=>
   have e1:(of:Int)=0:=(by have:=a4.a.2 R;omega);go_wp2_with(go_at_call 110;refine Z0 (hN.a _) λw9 F=>?_);go_ret;exact⟨R,o_ f0.a F⟩
  | true=>
   have e1:¬(of:Int)=0:=by
    have:¬of=0:=λq=>by have:=a4.a.1 q;cases this
    omega
   cases vd with
   | false=>
    have e2:(E:Int)=0:=(by have:=a5.a.2 R;omega);go_wp2_with(go_at_call 110;refine Z0 (hN.a _) λw9 F=>?_);go_ret;exact⟨R,o_ f0.a F⟩
   | true=>
    have e2:¬(E:Int)=0:=by
     have:¬E=0:=λq=>by have:=a5.a.1 q;cases this
     omega
    go_wp2_with(go_at_call 110;refine Z0 (hN.a _) λw9 F=>?_);go_ret;exact⟨by rw[a6.a];rfl,o_ f0.a F⟩
def qku:∀j,j<4->(xE j=hK j+2↔j%2=0)/\(xE j+2=hK j↔j%2=1):=WS
def sk{s:Int}{t:Nat}(a:f<64)(b:t<64)(h:xS (zI z) 5 s (f:Int) (t:Int)=Zk):t≠f+2/\t+2≠f:=qxv f a t b h
def fu{t:Nat}(h:0<=zK wh fc f t 0):∃j,j<4/\f=hK j/\t=xE j/\zK wh fc f t 0=(j:Int):=by
 have i:zK wh fc f t 0=if jZ wh fc f t 0 0 then 0 else if jZ wh fc f t 0 1 then 1 else if jZ wh fc f t 0 2 then 2 else if jZ wh fc f t 0 3 then 3 else -1:=R;rw[i]at h|-;by_cases b:jZ wh fc f t 0 0=Zk
 .rw[qI b];obtain⟨_,_,a,c⟩:=(zv O).1 b;exact⟨0,O,a,c,R⟩
 rw[qF b]at h|-;by_cases d:jZ wh fc f t 0 1=Zk
 .rw[qI d];obtain⟨_,_,a,c⟩:=(zv O).1 d;exact⟨1,O,a,c,R⟩
 rw[qF d]at h|-;by_cases e:jZ wh fc f t 0 2=Zk
 .rw[qI e];obtain⟨_,_,a,c⟩:=(zv O).1 e;exact⟨2,O,a,c,R⟩
 rw[qF e]at h|-;by_cases g:jZ wh fc f t 0 3=Zk
 .rw[qI g];obtain⟨_,_,a,c⟩:=(zv O).1 g;exact⟨3,O,a,c,R⟩
 rw[qF g]at h;omega
def pZ.cas{t:Nat}(h:pZ z wh fc b f t u 5):(t=f+2->0<=zK wh fc f t u/\zK wh fc f t u%2=0)/\(t+2=f->0<=zK wh fc f t u/\zK wh fc f t u%2=1)/\(t≠f+2->t+2≠f->zK wh fc f t u<0):=by
 have r:=h.u0 O;subst r;have p:vE (z f)=5:=by simpa using ro h.hi h.hc
 have l:=h.go;unfold j9 at l;rw[qH,qF O]at l;have i:=l.2;unfold EE at i;rw[p]at i;have k:(t=f+2\/t+2=f)->0<=zK wh fc f t 0:=λq=>by
  cases n:xS (zI z) 5 (xK wh) (f:Int) (t:Int)with
  | true=>
   have:=sk h.hf h.ht n;omega
  | false=>
   have o:(5:Int).toNat=5:=R;rw[o,n]at i;simp only[qR,YH,qH,qG]at i;exact i.1.2
 refine⟨λq=>?_,λq=>?_,λv w=>?_⟩
 .have d:=k (Zi q);obtain⟨j,g,a,c,e⟩:=fu d;have:=(qku j g).1.1 O;exact⟨d,by rw[e];omega⟩
 .have d:=k (Zj q);obtain⟨j,g,a,c,e⟩:=fu d;have:=(qku j g).2.1 O;exact⟨d,by rw[e];omega⟩
 by_cases d:0<=zK wh fc f t 0
 .obtain⟨j,g,a,c,e⟩:=fu d;have p1:=(qku j g).1;have p2:=(qku j g).2;obtain m|m:=Nat.mod_two_eq_zero_or_one j
  .have:=p1.2 m;omega
  have:=p2.2 m;omega
 omega
def pZ.dot{t:Nat}(a:kJ z wh fc b)(h:pZ z wh fc b f t u 0)(d:f%8=t%8):z t=46:=by
 have:=(h.pawn a).2 d;unfold oB at this;obtain⟨rfl,q⟩|⟨_,rfl,_,q⟩:=this
 .exact q
 exact q
def da(e:kJ z wh fc b)(a:-1<=b)(d:b<=63){t:Nat}(g:f<64)(h:t<64)(i:u∈U5):vo z wh fc b f t u=Zk↔(f,t,u)∈xC z wh fc b:=by rw[C8 e a d g h i,je e a d]
def Cm(x:kJ z wh fc b)(v:-1<=b)(w:b<=63){t:Nat}(D:pZ z wh fc b f t u i)(J:i≠0):wh3 (!(kI z wh fc b f t 64).isEmpty) (Zm (iH (kI z wh fc b f t 64) f≠0)) (Zm (iG (kI z wh fc b f t 64) f≠0)) f=iT (jX (xC z wh fc b) z f t) f:=by
 have h:∀n,n∈kI z wh fc b f t 64↔∃y∈jX (xC z wh fc b) z f t,y.1=n:=by
  intro n;unfold kI jX AA;rw[qV,qK];simp only[qH,YK,qX,qG,qV];constructor
  .rintro⟨B,⟨a,c⟩,d⟩;exact⟨(n,t,0),⟨(da x v w B D.ht WW).1 d,⟨R,a⟩,c⟩,R⟩
  rintro⟨⟨H,M,P⟩,⟨F,⟨e,a⟩,c⟩,rfl⟩;obtain rfl:M=t:=e;obtain⟨j,o⟩:=um x v w F;have K:j=i:=by have r:=D.hc;have m:=o.hc;rw[show z H=z f from c,r]at m;omega
  have C:=o.u0 O;subst C;exact⟨o.hf,⟨a,c⟩,(da x v w o.hf D.ht WW).2 F⟩
 rw[C0];have r:(!(kI z wh fc b f t 64).isEmpty)=(!(jX (xC z wh fc b) z f t).isEmpty):=by
  congr 1;cases E:jX (xC z wh fc b) z f t with
  | nil=>
   cases A:kI z wh fc b f t 64 with
   | nil=>rfl
   | cons n l=>
    obtain⟨y,k,_⟩:=(h n).1 (by rw[A];exact XE ..);rw[E]at k;cases k
  | cons y l=>
   have:=(h y.1).2 ⟨y,by rw[E];exact XE ..,R⟩;cases A:kI z wh fc b f t 64 with
   | nil=>rw[A]at this;cases this
   | cons n l=>rfl
 have m:∀p:I5,Zm (((kI z wh fc b f t 64).filter p).length≠0)=(jX (xC z wh fc b) z f t).any λy=>p y.1:=by
  intro p;by_cases g:(jX (xC z wh fc b) z f t).any (λy=>p y.1)=Zk
  .rw[g,qG];obtain⟨y,k,G⟩:=qY.1 g;have:y.1∈(kI z wh fc b f t 64).filter p:=qV.2 ⟨(h _).2 ⟨y,k,R⟩,G⟩;intro q;rw[Yz]at q;rw[q]at this;cases this
  rw[XH]at g;rw[g,qX,Decidable.not_not,Yz,X1];intro n B;obtain⟨y,k,rfl⟩:=(h n).1 B;have:=XD.1 g y k;exact OY
 unfold iH iG;rw[r,m,m]
def mR(z:Nat->UInt8)(c:Bool)(M:List Mv):(yO z c (M.length:Int)=1↔c=Zk/\M.isEmpty=Zk):=by
 unfold yO;cases M with
 | nil=>cases c<;>simp
 | cons a l=>
  have:¬(((a::l).length:Nat):Int)=0:=WX
  rw[qF this];constructor
  .intro q;split at q<;>omega
  rintro⟨_,q⟩;cases q
def lD:∀i,i<6->(⟨#[80,78,66,82,81,75,112,110,98,114,113,107]⟩:I4).extract i (i+1)=xJ [kX i]:=WS
def BJ:∀u∈U5,u≠0->dP u<6/\kX (dP u)=vz u:=WS
structure Rs(w:I6)(PA M:I0)(B:Nat)(Q:I0)(W:I6):Prop where
 pa:W.heap[w.heap.size]?=S (Z PA 70)
 mv:W.heap[w.heap.size+1]?=S (Z M 125)
 q:W.heap[B]?=S (Z Q 70)
 gr:Gr w W
def Rs.next{Q:I0}(h:Rs w PA M B Q W)(g:Gr W a):Rs w PA M B Q a:=⟨ZE g h.pa,ZE g h.mv,ZE g h.q,o_ h.gr g⟩
def qvd{g:Int}(r:jE z wh fc b h g PA)(o:Ok z wh fc b h g)(f t:Nat)(u:UInt8)(hx:(f,t,u)∈xC z wh fc b)(w:I6):ZL 52 #[Zc PA,Zc (ZJ f t u)] w (.string (xJ (uj z wh fc b (f,t,u)))):=by
 obtain⟨i,x4⟩:=um o.good o.b0 o.b1 hx;have o':=o.next hx;obtain⟨hf,ht,hu,_,_⟩:=o.mv hx;obtain⟨a0,a1,a2,a3⟩:=o.clk;obtain⟨d0,d1,d2,d3⟩:=o'.clk;have g7:=x4.hi;have n4:Y (∀W,i_ c_ 107 #[I Zg (z f).toNat] W λe w'=>e=Zd (I L i)/\w'=W):=X (λW=>by rw[<-ro x4.hi x4.hc];exact zp (z f) W);have h9:Y (∀W,i_ c_ 106 #[Zc PA,Zc (ZJ f t u)] W λe w'=>∃Q,e=Zd (Zc Q)/\jE (zE z b (f,t,u)) (!wh) (kB fc f t 4) (vK z f t) (kK z f t h) (kj wh g) Q/\Gr W w'):=X (λW=>(qxg r f t hf ht u hu a0 a1 a2 a3 W).mono λe w' ⟨Q,j,e2,e3⟩=>⟨Q,j,bT o.good a1 a3 hf ht hu ((da o.good o.b0 o.b1 hf ht hu).2 hx) e2,e3⟩);have d:Y (∀Q,jE (zE z b (f,t,u)) (!wh) (kB fc f t 4) (vK z f t) (kK z f t h) (kj wh g) Q->∀W,ZL 112 #[Zc Q] W (Zc (bx (zE z b (f,t,u)) (!wh) (kB fc f t 4) (vK z f t)))):=X (λQ rQ W=>eL rQ o'.good o'.b0 o'.b1 d0 d1 d2 d3 o'.king.1 o'.king.2 W);have a7:=X (λW=>qxf r f t u W);have A:Y (i≠0->∀W,ZL 109 #[Zc PA,Zc (ZJ f t u)] W (.string (xJ (iT (jX (xC z wh fc b) z f t) f)))):=X (λhi W=>by rw[<-Cm o.good o.b0 o.b1 x4 hi];exact iF r o.good o.b0 o.b1 a0 a1 a2 a3 f t hf ht u W);have x:Y (∀W,ZL 110 #[I L f] W (.string (xJ [xA f,xI f]))):=X (λW=>qxo f hf W);have k:Y (∀W,ZL 110 #[I L t] W (.string (xJ [xA t,xI t]))):=X (λW=>qxo t ht W);have l:Y (u≠0->∀W,i_ c_ 111 #[.string ⟨#[112,110,98,114,113,107]⟩,I Zg u.toNat] W λe w'=>e=Zd (I L (dP u:Nat))/\w'=W):=X (λh0 W=>qvi u hu h0 W);have n3:(c_.info? 70).map (·.size)=S PA.toList.length:=U1;have f0:(c_.info? 70).map (·.size)=S PA.size:=VU;have hq:=X (Rm.start w PA (ZJ f t u));have D:Y (i=5->_):=X (λe=>pZ.cas (e▸x4));have b6:Y (i=0->f%8=t%8->z t=46):=X (λe q=>pZ.dot o.good (e▸x4) q);have f8:Y (i≠0->u=0):=X x4.u0;have v:=X (F4 (xC z wh fc b) x4);have g9:Y (i=5->(t=f+2\/t+2=f)->jR (xC z wh fc b) z (f,t,u)=zQ (xC z wh fc b) z f t->False):=X (λe q p=>by
  have g8:=(zj x4.hi x4.hc).2;rw[e]at g8;unfold jR at p;have k3:=x4.cap;obtain q|q:=q
  .rw[qI ⟨by rw[g8];rfl,q⟩]at p;unfold zQ at p;rw[k3]at p;injection p with p _;exact E9 i g7 p.symm
  rw[qF (λq2=>by have h2:t=f+2:=q2.2;omega),qI ⟨by rw[g8];rfl,q⟩]at p;unfold zQ at p;rw[k3]at p;injection p with p _;exact E9 i g7 p.symm)
 have s5:=ae (xC z wh fc b) x4;have b5:Y (vz (z f)=kX i):=X x4.cap;have v1:¬(64<=(f:Int)):=O;have x1:¬(64<=(t:Int)):=O;unfold uj;have hE:Y (∀c n:Bool,(kz (zE z b (f,t,u)) (!wh))=c->(!(xC (zE z b (f,t,u)) (!wh) (kB fc f t 4) (vK z f t)).isEmpty)=n->pX z wh fc b (f,t,u)=fe c n):=X (λc n j e2=>by rw[pX,j,e2]);have x5:Y (yO (zE z b (f,t,u)) (kz (zE z b (f,t,u)) (!wh)) ((xC (zE z b (f,t,u)) (!wh) (kB fc f t 4) (vK z f t)).length:Int)=1↔kz (zE z b (f,t,u)) (!wh)=Zk/\(xC (zE z b (f,t,u)) (!wh) (kB fc f t 4) (vK z f t)).isEmpty=Zk):=X (mR _ _ _);unfold bx at d;generalize yO (zE z b (f,t,u)) (kz (zE z b (f,t,u)) (!wh)) ((xC (zE z b (f,t,u)) (!wh) (kB fc f t 4) (vK z f t)).length:Int)=ov at d x5;generalize ((xC (zE z b (f,t,u)) (!wh) (kB fc f t 4) (vK z f t)).length:Int)=nm at d;generalize (xC (zE z b (f,t,u)) (!wh) (kB fc f t 4) (vK z f t)).isEmpty=em at x5 hE;generalize kz (zE z b (f,t,u)) (!wh)=ck at d x5 hE;obtain⟨es,k4⟩:=Zn (pX z wh fc b (f,t,u));rw[k4.a]at hE|-;obtain⟨F,h8⟩:=Zn (jR (xC z wh fc b) z (f,t,u));rw[h8.a]at v s5 g9|-;generalize zK wh fc f t u=cr at a7 D;unfold ZL;go_in;go_upto_region 1 with fail;show n_ _ _ _ _ ((w.alloc (Z PA 70)).alloc (Z (ZJ f t u) 125));generalize ((w.alloc (Z PA 70)).alloc (Z (ZJ f t u) 125))=w0 at hq|-;obtain⟨m0,m1,m2,cf,ct⟩:=Rm.cells hf ht r hq.a;have f1:=X hq.a.pa;go_upto_region 3 with(go_at_call 107;refine Z1 (n4.a _) ?_);go_upto_region 4 with(first|(go_at_call 106;refine(h9.a _).mono ?_;rintro e x2 ⟨Q,rfl,hQ,k5⟩;have g4:=hQ.size;have h5:=X (qx hQ))|(refine ZV R 70 _ R w.heap.size R 70 PA (0,0) _ f1.a s_ rfl f0 ?_)|(refine ZC x2.heap.size Q Zv g4 h5.a ?_));have g3:((x2.alloc (Z b_ 70)).setRow x2.heap.size Q).heap[x2.heap.size]?=S (Z Q 70):=Zt (Z7 x2 _);have k8:Gr x2 ((x2.alloc (Z b_ 70)).setRow x2.heap.size Q):=ZN.setRow _ Zy _;have a4:Rs w PA (ZJ f t u) x2.heap.size Q ((x2.alloc (Z b_ 70)).setRow x2.heap.size Q):=by have q4:=hq.a.next (o_ k5 k8);exact⟨q4.pa,q4.mv,g3,q4.gr⟩
 show n_ _ _ _ _ ((x2.alloc (Z b_ 70)).setRow x2.heap.size Q);generalize (x2.alloc (Z b_ 70)).setRow x2.heap.size Q=w4 at a4|-;generalize x2.heap.size=B at a4|-;obtain⟨m0,m1,m2,cf,ct⟩:=Rm.cells hf ht r ⟨a4.pa,a4.mv,a4.gr⟩;have b7:=X a4;obtain⟨TK,y⟩:∃TK,Y (TK=Zk↔(z t≠46\/(i=0/\f%8≠t%8))):=⟨Zm (z t≠46\/(i=0/\f%8≠t%8)),X decide_eq_true_iff⟩;have f4:(z t=46/\((z t).toNat:Int)=46/\(((z t).toNat:Int)!=46)=Zl)\/(z t≠46/\¬((z t).toNat:Int)=46/\(((z t).toNat:Int)!=46)=Zk):=by
  by_cases e:z t=46
  .exact Zi ⟨e,Tg,Tg⟩
  have e':¬((z t).toNat:Int)=46:=λq=>e (q6.1 (by have:(46:UInt8).toNat=46:=R;omega));exact Zj ⟨e,e',qU.2 e'⟩
 try simp only[py]
 go_cut [8]from 23 to 42 (λs8 wx=>s8=Za TK/\wx=w4)
 .obtain⟨j,e2,e3⟩|⟨j,e2,e3⟩:=f4
  .by_cases l4:i=0
   .have l5:(i:Int)=0:=O;by_cases w7:f%8=t%8
    .have p0:(f:Int)%8=t%8:=O;have J:Y (TK=Zl):=X (by rw[<-XH,y.a];rintro(q|q);exact q j;exact q.2 w7);exact IT
    have p0:¬(f:Int)%8=t%8:=O;have v2:((f:Int)%8 !=(t:Int)%8)=Zk:=qU.2 p0;have J:Y (TK=Zk):=X (y.a.2 (Zj ⟨l4,w7⟩));exact IT
   have l5:¬(i:Int)=0:=O;have J:Y (TK=Zl):=X (by rw[<-XH,y.a];rintro(q|q);exact q j;exact l4 q.1);exact IT
  have J:Y (TK=Zk):=X (y.a.2 (Zi j));exact IT
 obtain⟨rfl,f2⟩:=hcut;have f3:=f2.symm;subst f3;have f1:=X b7.a.pa;go_upto_region 7 with(first|(go_at_call 108;refine Z0 (a7.a _) λw5 k9=>?_)|(refine ZV R 70 _ R w.heap.size R 70 PA (0,0) _ f1.a s_ rfl f0 ?_));have H:=X (b7.a.next k9);try simp only[py]
 obtain⟨CB,m⟩:∃CB,Y (CB=Zk↔(i=5/\0<=cr)):=⟨Zm (i=5/\0<=cr),X decide_eq_true_iff⟩;go_cut [50]from 45 to 51 (λt9 wx=>t9=Za CB/\wx=w5)
 .by_cases f7:i=5
  .have m6:((i:Int)==5)=Zk:=UP;by_cases k0:0<=cr
   .have J:Y (CB=Zk):=X (m.a.2 ⟨f7,k0⟩);exact OD
   have J:Y (CB=Zl):=X (by rw[<-XH,m.a];exact λq=>k0 q.2);clear m d A x k l v D f7;exact OD
  have m6:((i:Int)==5)=Zl:=Vp;have J:Y (CB=Zl):=X (by rw[<-XH,m.a];exact λq=>f7 q.1);exact OD
 obtain⟨rfl,f2⟩:=hcut;have f3:=f2.symm;subst f3;go_upto_if 50 with fail;go_cut [9]from 51 to 90 (λs9 wx=>s9=.string (xJ F)/\Rs w PA (ZJ f t u) B Q wx)
 .obtain⟨m0,m1,m2,cf,ct⟩:=Rm.cells hf ht r ⟨H.a.pa,H.a.mv,H.a.gr⟩;obtain⟨x3,b2,w3⟩|⟨x3,b2,w3⟩|⟨x3,w3⟩|⟨x3,w3⟩:=v.a
  .obtain⟨q0,q1⟩:=(D.a x3).1 b2;have J:CB=Zk:=m.a.2 ⟨x3,q0⟩;have et:Int.tmod cr 2=0:=(by rw[Int.tmod_eq_emod_of_nonneg q0];exact q1);exact JE
  .obtain⟨q0,q1⟩:=(D.a x3).2.1 b2;have J:CB=Zk:=m.a.2 ⟨x3,q0⟩;have et:Int.tmod cr 2=1:=(by rw[Int.tmod_eq_emod_of_nonneg q0];exact q1);exact JE
  .have J:CB=Zl:=(by rw[<-XH,m.a];exact λq=>O);have t0:¬(0<(i:Int)):=O;have M:Y (TK=Zk↔f%8≠t%8):=X (by
    rw[y.a];exact⟨λq=>q.elim (λq1 q2=>q1 (b6.a x3 q2)) (λq1=>q1.2),λq=>Zj ⟨x3,q⟩⟩)
   have p8:(u=0/\((u.toNat:Int)!=0)=Zl)\/(u≠0/\((u.toNat:Int)!=0)=Zk):=by
    by_cases e:u=0
    .exact Zi ⟨e,Tg⟩
    exact Zj ⟨e,qU.2 (λq=>e (q6.1 Ul))⟩
   have z1:Y (f%8=t%8->u=0->xJ F=xJ ([]++[xA t,xI t])):=X (λa c=>by rw[w3];rw[z7,qI a,qI c];rfl);have z2:Y (f%8=t%8->u≠0->xJ F=xJ ([]++[xA t,xI t]++[61]++[vz u])):=X (λa c=>by rw[w3];rw[z7,qI a,qF c];rfl);have z3:Y (f%8≠t%8->u=0->xJ F=xJ ([xA f]++[120]++[xA t,xI t])):=X (λa c=>by rw[w3];rw[z7,qF a,qI c];rfl);have z4:Y (f%8≠t%8->u≠0->xJ F=xJ ([xA f]++[120]++[xA t,xI t]++[61]++[vz u])):=X (λa c=>by rw[w3];rw[z7,qF a,qF c];rfl);have r0:=X (λW=>xb [] [xA t,xI t] WU W);have r1:=X (λW=>xb [xA f] [120] WU W);have r2:=X (λW=>xb ([xA f]++[120]) [xA t,xI t] WU W);have r3:=X (λW=>xb ([]++[xA t,xI t]) [61] WU W);have r4:=X (λW=>xb ([]++[xA t,xI t]++[61]) [vz u] WU W);have r5:=X (λW=>xb ([xA f]++[120]++[xA t,xI t]) [61] WU W);have r6:=X (λW=>xb ([xA f]++[120]++[xA t,xI t]++[61]) [vz u] WU W);have h4:(xJ [xA f,xI f]).extract 0 1=xJ [xA f]:=R;have v0:(xJ [xA f,xI f]).size=2:=R;generalize xJ ([xA f]++[120]++[xA t,xI t]++[61]++[vz u])=Y6 at r6 z4;generalize xJ ([xA f]++[120]++[xA t,xI t]++[61])=Y5 at r5 r6;generalize xJ ([xA f]++[120]++[xA t,xI t])=Y2 at r2 r5 z3;generalize xJ ([xA f]++[120])=Y1 at r1 r2;generalize xJ ([]++[xA t,xI t]++[61]++[vz u])=Y4 at r4 z2;generalize xJ ([]++[xA t,xI t]++[61])=Y3 at r3 r4;generalize xJ ([]++[xA t,xI t])=Y0 at r0 r3 z1;generalize xJ [xA f,xI f]=NF at x h4 v0;generalize xJ [xA f]=F1 at r1 h4;generalize xJ [xA t,xI t]=NT at k r0 r2;generalize h7:xJ [vz u]=UC at r4 r6;have v9:∀W,(k_ .add ⟨#[]⟩ NT).run c_ W=.ok (.string Y0) W:=r0.a;have t2:∀W,(k_ .add F1 ⟨#[120]⟩).run c_ W=.ok (.string Y1) W:=r1.a;have t3:∀W,(k_ .add Y1 NT).run c_ W=.ok (.string Y2) W:=r2.a;have t4:∀W,(k_ .add Y0 ⟨#[61]⟩).run c_ W=.ok (.string Y3) W:=r3.a;have t5:∀W,(k_ .add Y3 UC).run c_ W=.ok (.string Y4) W:=r4.a;have w1:∀W,(k_ .add Y2 ⟨#[61]⟩).run c_ W=.ok (.string Y5) W:=r5.a;have w2:∀W,(k_ .add Y5 UC).run c_ W=.ok (.string Y6) W:=r6.a;have a6:Y (∀W,Gr w5 W->W.cell? ⟨w.heap.size+1,0,N⟩=S (I L f)/\W.cell? ⟨w.heap.size+1,1,N⟩=S (I L t)/\W.cell? ⟨w.heap.size+1,2,N⟩=S (I Zg u.toNat)):=X (λW gW=>qm (H.a.next gW).mv);have T:Y (u≠0->dP u<6/\(⟨#[80,78,66,82,81,75,112,110,98,114,113,107]⟩:I4).extract (dP u) (dP u+1)=UC):=X (λh0=>by
    obtain⟨k1,k2⟩:=BJ u hu h0;exact⟨k1,by rw[lD _ k1,k2,h7]⟩)
   generalize dP u=G at l T;subst J;clear m d A v D x3 w3 r0 r1 r2 r3 r4 r5 r6 y b6 f8 f4 h7 cf ct b5;by_cases w7:f%8=t%8
   .have a5:TK=Zl:=(by rw[<-XH,M.a];exact λq=>q w7);have a8:=X (z1.a w7);have a9:=X (z2.a w7);subst a5;clear z1 z2 z3 z4 w7 M;go_upto_region 18 with(go_at_call 110;refine Z0 (k.a _) λw6 x8=>?_);obtain⟨n0,n1,n2⟩:=a6.a _ x8;have P:=X (H.a.next x8);obtain⟨j,e2⟩|⟨j,e2⟩:=p8
    .have b3:=X (a8.a j);clear a8 a9 j x8;go_wp2;exact Ip
    have b3:=X (a9.a j);have h1:=X (l.a j);obtain⟨t1,f5⟩:=T.a j;have wk:a_ L ((G:Int)+1)=(G:Int)+1:=Vc;have kn:((G:Int)+1).toNat=G+1:=O;have kb:¬(12<(G:Int)+1):=O;have kc:¬((G:Int)+1<G):=O;have kd:¬((G:Int)<0):=O;have ke:(G:Int)<=G+1:=O;have kf:(G:Int)+1<=12:=O;clear a8 a9 j x8 l T;go_wp2_with(go_at_call 111;refine Z1 (h1.a _) ?_);exact Ip
   have a5:TK=Zk:=M.a.2 w7;have a8:=X (z3.a w7);have a9:=X (z4.a w7);subst a5;clear z1 z2 z3 z4 w7 M;go_upto_region 15 with(go_at_call 110;refine Z0 (x.a _) λw6 x8=>?_);obtain⟨l0,l1,l2⟩:=a6.a _ x8;have f9:=X x8;clear x8;go_upto_region 18 with(go_at_call 110;refine Z0 (k.a _) λV E=>?_);have d4:=o_ f9.a E;obtain⟨n0,n1,n2⟩:=a6.a _ d4;have P:=X (H.a.next d4);clear d4 E f9 l0 l1 l2;obtain⟨j,e2⟩|⟨j,e2⟩:=p8
   .have b3:=X (a8.a j);clear a8 a9 j;go_wp2;exact Ip
   have b3:=X (a9.a j);have h1:=X (l.a j);obtain⟨t1,f5⟩:=T.a j;have wk:a_ L ((G:Int)+1)=(G:Int)+1:=Vc;have kn:((G:Int)+1).toNat=G+1:=O;have kb:¬(12<(G:Int)+1):=O;have kc:¬((G:Int)+1<G):=O;have kd:¬((G:Int)<0):=O;have ke:(G:Int)<=G+1:=O;have kf:(G:Int)+1<=12:=O;clear a8 a9 j l T;go_wp2_with(go_at_call 111;refine Z1 (h1.a _) ?_);exact Ip
  have J:CB=Zl:=by
   rw[<-XH,m.a];rintro⟨q1,q2⟩;have s7:=D.a q1;by_cases g1:t=f+2
   .exact g9.a q1 (Zi g1) w3
   by_cases g2:t+2=f
   .exact g9.a q1 (Zj g2) w3
   have:=s7.2.2 g1 g2;omega
  have t0:0<(i:Int):=O;have M:Y (TK=Zk↔z t≠46):=X (by
   rw[y.a];exact⟨λq=>q.elim id (λq1=>w_ q1.1 x3),Zi⟩)
  have v4:((u.toNat:Int)!=0)=Zl:=by rw[f8.a x3];rfl
  have b4:=X (A.a x3);have n5:=gz (jX (xC z wh fc b) z f t) f;unfold zQ at w3;rw[b5.a]at w3;generalize iT (jX (xC z wh fc b) z f t) f=wt at b4 n5 w3;have z1:Y (z t=46->xJ F=xJ ([kX i]++wt++[xA t,xI t])):=X (λa=>by rw[w3,qI a,Yh];rfl);have z2:Y (z t≠46->xJ F=xJ ([kX i]++wt++[120]++[xA t,xI t])):=X (λa=>by rw[w3,qF a];rfl);have r1:=X (λW=>xb [kX i] wt WX W);have r2:=X (λW=>xb ([kX i]++wt) [120] WX W);have r3:=X (λW=>xb ([kX i]++wt) [xA t,xI t] WX W);have r4:=X (λW=>xb ([kX i]++wt++[120]) [xA t,xI t] WX W);have f5:(⟨#[80,78,66,82,81,75,112,110,98,114,113,107]⟩:I4).extract i (i+1)=xJ [kX i]:=lD i g7;generalize xJ ([kX i]++wt++[120]++[xA t,xI t])=P4 at r4 z2;generalize xJ ([kX i]++wt++[xA t,xI t])=P3 at r3 z1;generalize xJ ([kX i]++wt++[120])=P2 at r2 r4;generalize xJ ([kX i]++wt)=P1 at r1 r2 r3;generalize xJ [kX i]=P0 at r1 f5;generalize xJ wt=WT at r1 b4;generalize xJ [xA t,xI t]=NT at k r3 r4;have t2:∀W,(k_ .add P0 WT).run c_ W=.ok (.string P1) W:=r1.a;have t3:∀W,(k_ .add P1 ⟨#[120]⟩).run c_ W=.ok (.string P2) W:=r2.a;have t4:∀W,(k_ .add P1 NT).run c_ W=.ok (.string P3) W:=r3.a;have t5:∀W,(k_ .add P2 NT).run c_ W=.ok (.string P4) W:=r4.a;have wi:a_ L ((i:Int)+1)=(i:Int)+1:=Vc;have kn:((i:Int)+1).toNat=i+1:=O;have kb:¬(12<(i:Int)+1):=O;have kc:¬((i:Int)+1<i):=O;have kd:¬((i:Int)<0):=O;have v3:∀W:I6,(Instr.slice 9 (.string (⟨#[80,78,66,82,81,75,112,110,98,114,113,107]⟩:I4)) (S (I L i)) (S (I L ((i:Int)+1))) N).run c_ W=.ok (.string P0) W:=λW=>by rw[run_slice_string W 9 _ _ _ _ _ underlying9 O O (by show(i:Int)+1<=12;omega),kn,YE,f5]
  subst J;clear m d A v D w3 r1 r2 r3 r4 y b6 f8 f4 cf ct b5 n5 l x m0 m1 m2;go_upto_region 12 with fail;refine ZT (S:=Rs w PA (ZJ f t u) B Q) WR (H.a.next ZO.drew) (λqD=>?_);refine tq 0 (I L i) qD ?_;refine tq 1 (I L i) qD ?_;refine tq 2 (I L ((i:Int)+1)) qD ?_;refine ZB 3 (.string P0) R (λw hw=>by have v5:c_.underlying 9=S .string:=underlying9;go_simp) qD ?_;refine ty 4 (Zc PA) R (wY n3 Vb _ R w.heap.size R (λ_ h=>h.pa)) qD ?_;refine ZB 5 (Zc (ZJ f t u)) R (λw hw=>by obtain⟨m0,m1,m2⟩:=qm hw.mv;go_simp) qD ?_;refine rd 6 λK hK=>?_;go_simp;refine Z0 (b4.a _) λwc l3=>?_;refine hK.out _ _ (qD.next l3) λqD=>?_;clear hK K l3;try simp only[py]
  refine tq 7 (.string P1) qD ?_;refine tq 8 (.string P1) qD ?_;refine ZZ WR ?_ _;have h6:=X qD;obtain⟨n0,n1,n2⟩:=qm qD.mv;clear qD b4;by_cases w7:z t=46
  .have a5:TK=Zl:=(by rw[<-XH,M.a];exact λq=>q w7);have b3:=X (z1.a w7);exact OF
  have a5:TK=Zk:=M.a.2 w7;have b3:=X (z2.a w7);exact OF
 obtain⟨rfl,g5⟩:=hcut;have n7:=X g5.q;have g0:=X g5.gr;have r7:(c_.info? 70).map (·.size)=S Q.size:=by rw[g4];exact jJ
 have p7:=X (d.a Q hQ);have ra:=X (λW=>xb F [35] WX W);have rb:=X (λW=>xb F [43] WX W);have c5:Y (ck=Zk->em=Zk->xJ (F++es)=xJ (F++[35])):=X (λj e2=>by rw[hE.a Zk Zl j (by rw[e2];rfl)];rfl);have c6:Y (ck=Zk->em=Zl->xJ (F++es)=xJ (F++[43])):=X (λj e2=>by rw[hE.a Zk Zk j (by rw[e2];rfl)];rfl);have f6:Y (ck=Zl->xJ (F++es)=xJ F):=X (λj=>by rw[hE.a Zl (!em) j R];show xJ (F++[])=_;rw[Yh]);clear g5 H A x k l v D d hQ h5 m0 m1 m2 cf ct m y f4 b6 f8 b5 r hE;generalize xJ (F++[35])=SA at ra c5;generalize xJ (F++[43])=SB at rb c6;have w9:∀W,(k_ .add (xJ F) ⟨#[35]⟩).run c_ W=.ok (.string SA) W:=ra.a;have x0:∀W,(k_ .add (xJ F) ⟨#[43]⟩).run c_ W=.ok (.string SB) W:=rb.a;clear ra rb;go_upto_region 22 with(first|(go_at_call 112;refine Z0 (p7.a _) λV E=>?_)|(refine ZV R 70 _ R B R 70 Q (0,0) _ n7.a s_ rfl r7 ?_)|(refine ZU R 186 _ _ R V.heap.size (xB ck nm ov) R R 186 (xB Zl 0 0) Zv vI R (xw _ _ _) ?_));have h3:((V.alloc (Z (xB Zl 0 0) 186)).setRow V.heap.size (xB ck nm ov)).heap[V.heap.size]?=S (Z (xB ck nm ov) 186):=Zt (Z7 V _);have g6:Gr w ((V.alloc (Z (xB Zl 0 0) 186)).setRow V.heap.size (xB ck nm ov)):=o_ (o_ g0.a E) (ZN.setRow _ Zy _);show n_ _ _ _ _ ((V.alloc (Z (xB Zl 0 0) 186)).setRow V.heap.size (xB ck nm ov));generalize (V.alloc (Z (xB Zl 0 0) 186)).setRow V.heap.size (xB ck nm ov)=w8 at h3 g6|-;obtain⟨s0,s1,s2⟩:=qm h3;have d5:=X g6;clear h3 g6 E p7 g0 n7;cases ck with
 | true=>
  cases em with
  | true=>
   have j:ov=1:=x5.a.2 ⟨R,R⟩;have b3:=X (c5.a R R);subst j;clear c5 c6 f6 x5;go_wp2;go_ret;exact⟨T0,d5.a⟩
  | false=>
   have j:(ov==1)=Zl:=by rw[qM];exact λq=>by have:=(x5.a.1 q).2;cases this
   have b3:=X (c6.a R R);clear c5 c6 f6 x5;go_wp2;go_ret;exact⟨T0,d5.a⟩
 | false=>
  have j:(ov==1)=Zl:=by rw[qM];exact λq=>by have:=(x5.a.1 q).1;cases this
  have b3:=X (f6.a R);clear c5 c6 f6 x5;go_wp2;go_ret;exact⟨T0,d5.a⟩
noncomputable def BE(w3:I6)(A M Q:I0):I6:=(((((w3.alloc (Z b_ 70)).alloc (Z zC 125)).alloc (Z b_ 70)).setRow w3.heap.size A).setRow (w3.heap.size+1) M).setRow (w3.heap.size+2) Q
def ru(a:I6)(A M Q:I0):Gr a (BE a A M Q):=((ZN.al.al.setRow _ Zy _).setRow _ O _).setRow _ O _
structure Ll(w2:I6)(b1:Nat)(A:I0)(b2 k f t:Nat)(u:UInt8)(W:I6):Prop where
 pa:W.heap[b1]?=S (Z A 70)
 x0:W.cell? ⟨b2,k*3,N⟩=S (I L f)
 x1:W.cell? ⟨b2,k*3+1,N⟩=S (I L t)
 x2:W.cell? ⟨b2,k*3+2,N⟩=S (I Zg u.toNat)
 gr:Gr w2 W
def Ll.next{e:I6}{b t:Nat}(h:Ll e b A d k f t u W)(g:Gr W a):Ll e b A d k f t u a:=⟨ZE g h.pa,(ZW g (Ye W _ h.x0)).trans h.x0,(ZW g (Ye W _ h.x1)).trans h.x1,(ZW g (Ye W _ h.x2)).trans h.x2,o_ h.gr g⟩
def mb(s n:I4)(hs:s.size<4294967281)(w:I6):i_ c_ 29 #[s,n] w λe w'=>vU s n e/\Gr w w':=by
 have h1:=X (qvq s hs w);obtain⟨p,hr,E,l⟩|⟨k,hk,a7,l⟩:=xy s
 .have h2:Y (ZL 53 #[s] w (Ze #[jV p,I L 0])):=h1.mono λe w' h=>⟨l e h.1,h.2⟩;have o:=Ok.of hr E;obtain⟨a0,a1,a2,a3⟩:=o.clk;have m:=jo hr;have hz:=m.size;have ho:=X (qx m);have D:Y (∀W:I6,i_ c_ 54 #[jV p] W λe w'=>∃v,e=Zd v/\np W v (yY (xM p) p.white (yC p.castle) p.behind) w'/\Gr W w'):=λW=>ai (F5 m) o.good o.b0 o.b1 a0 a1 a2 a3 W;have Q:∀y,y∈yY (xM p) p.white (yC p.castle) p.behind↔y∈xC (xM p) p.white (yC p.castle) p.behind:=λy=>by rw[qk3 o.good o.b0 o.b1];exact(xq _).mem_iff
  have b:Y (∀y∈yY (xM p) p.white (yC p.castle) p.behind,∀W,ZL 52 #[jV p,Zc #[(y.1:Int),(y.2.1:Int),I Zg (y.2.2.toNat:Int)]] W (xJ (uj (xM p) p.white (yC p.castle) p.behind y))):=λy hy W=>qvd (F5 m) o y.1 y.2.1 y.2.2 ((Q y).1 hy) W;have H:∀y∈yY (xM p) p.white (yC p.castle) p.behind,y.1<64/\y.2.1<64:=λy hy=>zg _ _ _ _ y ((Q y).1 hy);have g1:Y (∀y∈yY (xM p) p.white (yC p.castle) p.behind,xJ (uj (xM p) p.white (yC p.castle) p.behind y)=n->vU s n (Zd (Ze #[xJ (uY y.1 y.2.1 y.2.2),I L 0]))):=λy hy e=>Zj (Zj ⟨p,y,hr,E,qV.2 ⟨(Q y).1 hy,qJ e⟩,R⟩);have g0:Y ((∀y∈yY (xM p) p.white (yC p.castle) p.behind,xJ (uj (xM p) p.white (yC p.castle) p.behind y)≠n)->vU s n (Zd (Ze #[Zb ⟨#[]⟩,I L 4]))):=λq=>Zj (Zi ⟨p,hr,E,X1.2 (λy hy c=>q y ((Q y).2 hy) (q8 c)),R⟩);have d1:(yY (xM p) p.white (yC p.castle) p.behind).length<=1000000:=by rw[qk3 o.good o.b0 o.b1,qj7];exact bu _ _ _ _
  generalize yY _ _ _ _=J at D b H g1 g0 d1;obtain⟨d,f8⟩:∃d:Mv->I4,d=λy=>xJ (uj (xM p) p.white (yC p.castle) p.behind y):=⟨_,R⟩;have a:Y (∀y∈J,∀W,ZL 52 #[jV p,Zc #[(y.1:Int),(y.2.1:Int),I Zg (y.2.2.toNat:Int)]] W (d y)):=X (by rw[f8];exact b);have B:Y (∀y∈J,d y=n->vU s n (Zd (Ze #[xJ (uY y.1 y.2.1 y.2.2),I L 0]))):=X (by rw[f8];exact g1);have x:Y ((∀y∈J,d y≠n)->vU s n (Zd (Ze #[Zb ⟨#[]⟩,I L 4]))):=X (by rw[f8];exact g0);generalize jV p=A at h2 hz ho D a;have c6:(c_.info? 70).map (·.size)=S A.toList.length:=by rw[ZX,hz];exact jJ
  have a9:(c_.info? 70).map (·.size)=S A.size:=by rw[hz];exact jJ
  go_in;go_upto_region 2 with(first|(go_at_call 53;refine Z0 h2 λr f6=>?_)|(refine ZC r A Zv hz ho.a ?_));generalize b3:(r.alloc (Z b_ 70)).setRow r A=w4;have a4:AC w r A w4:=by
   have P:Gr r w4:=(by rw[<-b3];exact ZN.setRow _ Zy _);exact⟨by rw[<-b3];exact Zt (Z7 r _),o_ f6 P⟩
  generalize r.heap.size=b1 at a4|-;have a8:=X a4;go_upto_region 4 with fail;obtain⟨f5,hN⟩:∃f5,Y (f5=J.length):=⟨_,X R⟩;go_upto_region 5 with(first|(go_at_call 54;refine(D _).mono ?_;rintro e w2 ⟨v,rfl,hv,b7⟩;obtain⟨pp,c2,rfl,b5,b6⟩:=bt hv;rw[<-hN.a])|(refine ZV R 70 _ R b1 R 70 A (0,0) _ a4.pa s_ rfl a9 ?_));have M:=X b6;have f9:=X (a8.next b7);go_wp2;go_loopg [9,10] f5 (λgk i _ wr=>∃k:Nat,k+gk=f5/\i=k/\(∀j (hj:j<J.length),j<k->d J[j]≠n)/\Gr w2 wr)
  .exact⟨0,O,R,λj _ q=>w_ q (Yy j),ZO⟩
  obtain⟨k,k1,rfl,F,f7⟩:=hrel;by_cases f1:k<f5
  .have d0:k<J.length:=(by rw[<-hN.a];exact f1);obtain⟨b2,e2,x0,x1,x2⟩:=M k d0;subst e2;have G:J[k]∈J:=Xs _;have a6:=X (a _ G);have T:=H _ G;have z:=X (B _ G);have a5:Y (d J[k]≠n->∀j (hj:j<J.length),j<k+1->d J[j]≠n):=X λq j hj f2=>by
    by_cases e:j=k
    .subst e;exact q
    exact F j hj O
   generalize d _=V at a6 z a5;generalize J[k]=y at x0 x1 x2 a6 T z;obtain⟨f,t,u⟩:=y;simp only at x0 x1 x2 a6 T z;have hS:Y (Ll w2 b1 A b2 k f t u wr):=Ll.next ⟨f9.pa,x0,x1,x2,ZO⟩ f7;have d4:=X (λW=>mZ f t T.1 T.2 u W);generalize xJ _=TX at z d4;go_upto_region 8 with fail;refine ZT (S:=Ll w2 b1 A b2 k f t u) WR (hS.next ZO.drew) (λf4=>?_);apply ty 0 A R (wY c6 Vb _ R b1 R (λ_ h=>h.pa)) f4;apply tq 1 _ f4;apply tq 2 k f4;apply tq 3 _ f4;refine ZB 4 (ZJ f t u) R (λw hw=>by have x0:=hw.x0;have x1:=hw.x1;have x2:=hw.x2;go_simp) f4 ?_;refine rd 5 λK hK=>?_;go_simp;refine Z0 (a6 _) λwc c4=>?_;refine hK.out _ _ (f4.next c4) λf4=>?_;try simp only[py]
   apply tq 6 V f4;refine ZZ WR ?_ _;have b4:=X f4;have y0:=f4.x0;have y1:=f4.x1;have y2:=f4.x2;by_cases hq:V=n
   .have hb:(V.toList==n.toList)=Zk:=(by rw[cN];exact qJ hq);have g:=X (z hq);go_wp2_with(go_at_call 55;refine Z0 (d4 _) λw9 d5=>?_);go_ret2;exact⟨g,o_ (o_ f9.gr b4.gr) d5⟩
   have hb:(V.toList==n.toList)=Zl:=(by rw[cN];exact qE hq);have d2:=X (a5 hq);go_wp2;go_roundg (gk-1)
   .exact⟨k+1,O,Vg,d2,b4.gr⟩
   omega
  have g:=X (x.a λy hy=>by
   obtain⟨j,hj,rfl⟩:=List.getElem_of_mem hy;exact F j hj (by have:=hN.a;omega))
  have f0:=X (o_ f9.gr f7);go_wp2;go_ret2;exact⟨g,f0⟩
 have h2:Y (ZL 53 #[s] w (Ze #[b_,k])):=h1.mono λe w' h=>⟨l e h.1,h.2⟩;have g:Y (vU s n (Zd (Ze #[Zb ⟨#[]⟩,k]))):=Zi ⟨k,a7,R⟩;go_in;go_upto_region 2 with(first|(go_at_call 53;refine Z0 h2 λr f6=>?_)|(refine ZC r b_ Zv xF xH ?_));have P:Gr r ((r.alloc (Z b_ 70)).setRow r b_):=ZN.setRow _ Zy _;have c5:=o_ f6 P;generalize (r.alloc _).setRow _ _=w4 at P c5|-;go_wp2;go_ret2;exact⟨g,c5⟩
