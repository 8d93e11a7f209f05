import Derived.Test.YtnfakamfmkhlbabGreatDoorB16
set_option maxRecDepth 100000
set_option maxHeartbeats 4000000
set_option linter.all false
open Go.Value renaming int->I,bool->Za,string->Zb,agg->Zc,tuple->Ze,slice->Zq
open Go.IntKind renaming i64->L,u8->Zg,u64->Zh
open Go.Obj renaming cells->Z
open Go.Ending renaming returned->Zd
open Or renaming inl->Zi,inr->Zj
open Option renaming some->S,none->N
open Bool renaming true->Zk,false->Zl
open Decidable renaming decide->Zm
open Go.RowKit renaming Hid->Y
open Go renaming World->I6,Value->I7
namespace Go.Proofs.YtnfakamfmkhlbabGreatDoor.C
open Go.ChangeShapes Go.WideShapes Go.ChangeAt Go.RowKit Go.Shelf Go.Proofs.YtnfakamfmkhlbabGreatDoor.P Tryz
attribute [local go_sem] qd qe Oper.semAt_some
variable {z:I2}{wh:Bool}{b h m:Int}{PA A M:I0}{fc:I5}{w W a w' w1 V:I6}{f n i k g base d e l j x B Bp:Nat}{v:I7}{u:UInt8}{Q:Nat->Obj->Prop}{rs:I3}{y:I1}
def zC:I0:=#[I L 0,I L 0,I Zg 0]
structure Tm(w W:I6):Prop where
 ps:W.heap[w.heap.size]?=S (Z zeroCells70 70)
 mv:W.heap[w.heap.size+1]?=S (Z zC 87)
 lt:w.heap.size+1<W.heap.size
 gr:Gr w W
theorem Tm.next(h:Tm w W)(g:Gr W a):Tm w a :=
 ⟨(Zz g (Nat.lt_of_succ_lt h.lt)).trans h.ps,(Zz g h.lt).trans h.mv,qN h.lt (ZR g),Gr.trans h.gr g⟩
theorem Tm.start(w:I6):Tm w ((w.alloc (Z zeroCells70 70)).alloc (Z zC 87)):=by obtain⟨a,b⟩:=x6 w (Z zeroCells70 70) (Z zC 87);exact⟨a,b,UA,ZN.al⟩
theorem vP:zC.all (·.oneCell')=Zk:=by simp[zC,Value.oneCell']
theorem Tm.out(h:Tm w W)(A M:I0):((W.setRow w.heap.size A).setRow (w.heap.size+1) M).heap[w.heap.size]?=S (Z A 70)/\((W.setRow w.heap.size A).setRow (w.heap.size+1) M).heap[w.heap.size+1]?=S (Z M 87)/\Gr w ((W.setRow w.heap.size A).setRow (w.heap.size+1) M) :=
 ⟨by rw[Zu O];exact Zt h.ps,Zt (by rw[Zu O];exact h.mv),(h.gr.setRow _ Zy _).setRow _ O _⟩
theorem Tm.second(h:Tm w W)(A:I0):(W.setRow w.heap.size A).heap[w.heap.size+1]?=S (Z zC 87):=by rw[Zu O];exact h.mv
structure T2(w:I6)(b1:Nat)(A:I0)(b2:Nat)(M:I0)(W:I6):Prop where
 tm:Tm w W
 p:W.heap[b1]?=S (Z A 70)
 lp:b1<W.heap.size
 m:W.heap[b2]?=S (Z M 87)
 lm:b2<W.heap.size
theorem T2.next{b:Nat}(h:T2 w b A d M W)(g:Gr W a):T2 w b A d M a :=
 ⟨h.tm.next g,(Zz g h.lp).trans h.p,qN h.lp (ZR g),(Zz g h.lm).trans h.m,qN h.lm (ZR g)⟩
structure T3(w:I6)(b1:Nat)(A:I0)(b2:Nat)(M:I0)(W:I6):Prop where
 ps:∃R,R.size=72/\W.heap[w.heap.size]?=S (Z R 70)
 mv:∃R,R.size=3/\W.heap[w.heap.size+1]?=S (Z R 87)
 gr:Gr w W
 p:W.heap[b1]?=S (Z A 70)
 lp:b1<W.heap.size
 m:W.heap[b2]?=S (Z M 87)
 lm:b2<W.heap.size
 h1:w.heap.size+1<b1
 h2:w.heap.size+1<b2
theorem T3.of{a b:Nat}(h:T2 w a A b M W)(d:w.heap.size+1<a)(e:w.heap.size+1<b):T3 w a A b M W :=
 ⟨⟨_,xF,h.tm.ps⟩,⟨_,R,h.tm.mv⟩,h.tm.gr,h.p,h.lp,h.m,h.lm,d,e⟩
theorem T3.putP{a b:Nat}(h:T3 w a A b M W)(k:I0)(e:k.size=72):T3 w a A b M (W.setRow w.heap.size k):=by obtain⟨l,j,f⟩:=h.ps;obtain⟨d,g,i⟩:=h.mv;have:=h.h1;have:=h.h2;exact⟨⟨k,e,Zt f⟩,⟨d,g,Od⟩,h.gr.setRow _ Zy _,VJ,by rw[Xa];exact h.lp,by rw[Zu O];exact h.m,by rw[Xa];exact h.lm,h.h1,h.h2⟩
theorem T3.putM{a b:Nat}(h:T3 w a A b M W)(k:I0)(d:k.size=3):T3 w a A b M (W.setRow (w.heap.size+1) k):=by obtain⟨l,e,f⟩:=h.ps;obtain⟨i,j,g⟩:=h.mv;have:=h.h1;have:=h.h2;exact⟨⟨l,e,by rw[Zu O];exact f⟩,⟨k,d,Zt g⟩,h.gr.setRow _ O _,VJ,by rw[Xa];exact h.lp,by rw[Zu O];exact h.m,by rw[Xa];exact h.lm,h.h1,h.h2⟩
theorem T3.c0{b a:Nat}{x:Nat × Nat × UInt8}(h:T3 w b A a (z8 x) W):W.cell? ⟨a,0,N⟩=S (I L (x.1:Int)):=VV
theorem T3.c1{b a:Nat}{x:Nat × Nat × UInt8}(h:T3 w b A a (z8 x) W):W.cell? ⟨a,1,N⟩=S (I L (x.2.1:Int)):=VV
theorem T3.c2{b a:Nat}{x:Nat × Nat × UInt8}(h:T3 w b A a (z8 x) W):W.cell? ⟨a,2,N⟩=S (I Zg (x.2.2.toNat:Int)):=VV
theorem T2.c0{b a:Nat}{x:Nat × Nat × UInt8}(h:T2 w b A a (z8 x) W):W.cell? ⟨a,0,N⟩=S (I L (x.1:Int)):=VV
theorem T2.c1{b a:Nat}{x:Nat × Nat × UInt8}(h:T2 w b A a (z8 x) W):W.cell? ⟨a,1,N⟩=S (I L (x.2.1:Int)):=VV
theorem T2.c2{b a:Nat}{x:Nat × Nat × UInt8}(h:T2 w b A a (z8 x) W):W.cell? ⟨a,2,N⟩=S (I Zg (x.2.2.toNat:Int)):=VV
theorem t7{p:pH}(h:xP p=Zk):0<=p.half/\p.half<=65535/\0<=p.full/\p.full<=65535:=by unfold xP k6 cK at h;simp only[qH]at h;obtain⟨_,⟨⟨⟨⟨_,_⟩,_⟩,_⟩,a⟩,_⟩:=h;unfold zP at a;simp only[qH,qG]at a;omega
theorem o8(x:I4):Zm (0<=dJ x)=(uX x).isSome:=by grind[dJ,uX,qJ]
theorem EA{s:I4}(h:s.size=4\/s.size=5):(yn s).isSome=(Zm (0<=dJ (s.extract 0 2))&&Zm (0<=dJ (s.extract 2 4))&&(aw (s.extract 4 s.size)).2):=by
 rw[o8,o8];unfold yn;rw[qI h];cases uX (s.extract 0 2)with
 | none=>rfl
 | some f =>
  cases uX (s.extract 2 4)with
  | none=>rfl
  | some t =>
   simp only;cases (aw (s.extract 4 s.size)).2<;>rfl
theorem cY(s:I4)(w:I6):Calls prog 103 #[Zb s] w λe w'=>e=Zd (Za (yn s).isSome)/\w'=w:=by
 by_cases f:s.size=4\/s.size=5
 .have d:=X (EA f);generalize (yn s).isSome=V at d |-;have l:=X (λW=>zb (s.extract 0 2) W);have m:=X (λW=>zb (s.extract 2 4) W);generalize dJ (s.extract 0 2)=v at d l;generalize dJ (s.extract 2 4)=y at d m;obtain⟨q,j⟩:=Zo (Zm (0<=v));obtain⟨r,k⟩:=Zo (Zm (0<=y));rw[j,k]at d;obtain h|h:=f
  .rw[rc h]at d;have o:((s.size:Int) != 4)=Zl:=Us;have p:((s.size:Int)==4)=Zk:=Us;have A:(4:Int)<=(s.size:Int):=O;cases q<;>cases r <;>
    (go_enter func103,ntmps103
     go_upto_region 4 with(go_at_call 104;refine Z1 (l.a _) ?_);go_upto_region 5 with(go_at_call 104;refine Z1 (m.a _) ?_);go_wp2_with fail;go_ret;exact⟨by rw[d.a];rfl,R⟩)
  .have C:4<s.size:=O;rw[rZ h]at d;have n:=X (λW=>xa ⟨#[113,114,98,110]⟩ WS s[4] W);obtain⟨u,g⟩:=Zo (Zm (0<=Lib.indexByte uf s[4]));rw[g]at d;have i:Zm ((0:Int)<=Lib.indexByte (⟨#[113,114,98,110]⟩:I4).data.toList s[4])=u:=g;generalize Lib.indexByte (⟨#[113,114,98,110]⟩:I4).data.toList s[4]=B at n i;clear g;have o:((s.size:Int) != 4)=Zk:=Us;have p:((s.size:Int) != 5)=Zl:=Us;have D:((s.size:Int)==4)=Zl:=Us;have A:(4:Int)<(s.size:Int):=O;cases q<;>cases r<;>cases u <;>
    (go_enter func103,ntmps103
     go_upto_region 4 with(go_at_call 104;refine Z1 (l.a _) ?_);go_upto_region 5 with(go_at_call 104;refine Z1 (m.a _) ?_);go_wp2_with(go_at_call 111;refine Z1 (n.a _) ?_);go_ret;exact⟨by rw[d.a];rfl,R⟩)
 .have z:yn s=N:=by unfold yn;rw[qF f]
  rw[z];have o:((s.size:Int) != 4)=Zk:=V3;have p:((s.size:Int) != 5)=Zk:=V3;go_enter func103,ntmps103;go_wp2_with fail;exact WB
theorem Cf(fc:I5)(f t n k:Nat):cM fc f t n k=kB fc f t n k:=by unfold cM kB toB E6 pP;simp only[lS];cases Zm ((f:Int)=xY k)<;>cases Zm ((f:Int)=zD k)<;>cases Zm ((t:Int)=xY k)<;>cases Zm ((t:Int)=zD k)<;>rfl
theorem Es(wh:Bool){g:Int}(a:g<=65535):Ce wh g=kj wh g:=by grind[Ce,kj,qJ,qR,qE]
theorem Er(z:I2)(b:Int)(f t:Nat)(a:h<=65535):Cd z b f t h=kK z f t h:=by grind[Cd,kK,iQ,uP,dR,vE,qJ,qE,qR]
theorem Ev{t:Nat}(a:j9 z wh fc b f t u=Zk):oA z wh f t=vK z f t:=by
 unfold oA vK oZ AW;rw[dR];by_cases c:vE (z f)=0
 .rw[qJ c,Xc,Xc];unfold j9 at a;rw[qH,qI c]at a;have a:=a.2;unfold BD at a;have h:uI f t=xK wh\/(uI f t=2*xK wh/\f%8=t%8):=by
   by_cases i:xS (zI z) 0 (xK wh) (f:Int) (t:Int)=Zk
   .exact Zi (lW i)
   .rw[qF i]at a;unfold DC at a;simp only[qH,Ym,qG]at a;obtain⟨⟨j,_⟩,g|g⟩:=a
    .exact Zi g
    .exact Zj ⟨g.1.1,j⟩
  obtain e|⟨e,k⟩:=h
  .rw[e];cases wh<;>rfl
  .cases wh
   .have d:uI f t=-2:=e;rw[d];show(f:Int)+8*xK Zl=(((f+t)/2:Nat):Int);unfold uI at d;unfold xK;simp only[qR,YH];omega
   .have d:uI f t=2:=e;rw[d];show(f:Int)+8*xK Zk=(((f+t)/2:Nat):Int);unfold uI at d;unfold xK;simp only[YS];omega
 .rw[qE c];rfl
theorem vi:(prog.info? 125).map (·.size)=S 3:=WR
theorem Du(x:Nat × Nat × UInt8):(z8 x).all (·.oneCell')=Zk:=by simp[z8,Value.oneCell']
theorem aa:prog.built 125 []=S zC:=WR
theorem qkx(f t:Int):prog.built 125 [(0,I L f),(1,I L t)]=S #[I L f,I L t,I Zg 0]:=WR
theorem qq2(tmps:I0)(w:I6)(g:Nat)(A M Q:I0)(n:tmps.getD 4 undef=ZI g)(h:tmps.getD 5 undef=ZI (g+1))(i:tmps.getD 6 undef=ZI (g+2))
 (j:w.heap[g]?=S (Z A 70)) (k:w.heap[g+1]?=S (Z M 125)) (l:w.heap[g+2]?=S (Z Q 70)) (a:A.size=72) (m:M.size=3) (q:Q.size=72) :
 (results Tryz.f51 tmps).run prog w=.ok (Ze #[Zc A,Zc M,Zc Q,tmps.getD 7 undef]) w:=by
 have e:tmps[4]?.getD undef=ZI g:=by simpa using n
 have b:tmps[5]?.getD undef=ZI (g+1):=Vq;have d:tmps[6]?.getD undef=ZI (g+2):=by simpa using i
 simp[results,results51,e,b,d,asAddr,run_loadVar_row w g _ 70 A _ _ j underlying70 rfl (by rw[a];exact q9),run_loadVar_row w (g+1) _ 125 M _ _ k underlying125 rfl (by rw[m];exact vi),run_loadVar_row w (g+2) _ 70 Q _ _ l underlying70 rfl (by rw[q];exact q9)]
theorem o7{s:I4}(h:uX s=S n):n<64:=by grind[uX]
theorem AX:∀c:UInt8,0<=Lib.indexByte uf c->c∈U5:=vg WS
theorem mV{t:I4}(h:yn t=S (f,d,u)):dJ (t.extract 0 2)=(f:Int)/\dJ (t.extract 2 4)=(d:Int)/\f<64/\d<64/\u∈U5/\((t.size=4/\u=0)\/(∃h:t.size=5,u=t[4])):=by
 unfold yn at h;split at h
 case isFalse=>cases h
 case isTrue h45=>
  split at h
  case h_2=>cases h
  case h_1 a b ea eb=>
   split at h
   case isFalse=>cases h
   case isTrue hd=>
    injection h with h;injection h with h1 h;injection h with h2 h3;subst h1 h2;refine⟨by unfold dJ;rw[ea],by unfold dJ;rw[eb],o7 ea,o7 eb,?_,?_⟩
    .obtain e|e:=h45
     .rw[rc e]at h3;rw[<-h3];decide
     .rw[rZ e]at h3 hd;rw[<-h3];exact AX _ (q8 hd)
    .obtain e|e:=h45
     .rw[rc e]at h3;exact Zi ⟨e,h3.symm⟩
     .rw[rZ e]at h3;exact Zj ⟨e,h3.symm⟩
structure T4(w:I6)(b1:Nat)(A:I0)(W:I6):Prop where
 r1:∃R,R.size=72/\W.heap[w.heap.size]?=S (Z R 70)
 r2:∃R,R.size=3/\W.heap[w.heap.size+1]?=S (Z R 125)
 r3:∃R,R.size=72/\W.heap[w.heap.size+2]?=S (Z R 70)
 gr:Gr w W
 p:W.heap[b1]?=S (Z A 70)
 lo:w.heap.size+2<b1
theorem T4.next{b:Nat}(h:T4 w b A W)(g:Gr W a):T4 w b A a:=by obtain⟨i,l,d⟩:=h.r1;obtain⟨j,m,e⟩:=h.r2;obtain⟨k,n,f⟩:=h.r3;exact⟨⟨i,l,(Zz g (xe d)).trans d⟩,⟨j,m,(Zz g (xe e)).trans e⟩,⟨k,n,(Zz g (xe f)).trans f⟩,Gr.trans h.gr g,(Zz g (xe h.p)).trans h.p,h.lo⟩
theorem T4.put1{a:Nat}(h:T4 w a A W)(o:I0)(k:o.size=72):T4 w a A (W.setRow w.heap.size o):=by obtain⟨m,n,g⟩:=h.r1;obtain⟨b,e,i⟩:=h.r2;obtain⟨d,f,j⟩:=h.r3;have l:=h.lo;exact⟨⟨o,k,Zt g⟩,⟨b,e,Od⟩,⟨d,f,Oc⟩,h.gr.setRow _ Zy _,VJ,l⟩
theorem T4.put2{a:Nat}(h:T4 w a A W)(o:I0)(k:o.size=3):T4 w a A (W.setRow (w.heap.size+1) o):=by obtain⟨b,e,g⟩:=h.r1;obtain⟨m,n,i⟩:=h.r2;obtain⟨d,f,j⟩:=h.r3;have l:=h.lo;exact⟨⟨b,e,by rw[Zu O];exact g⟩,⟨o,k,Zt i⟩,⟨d,f,Oc⟩,h.gr.setRow _ O _,VJ,l⟩
theorem T4.put3{a:Nat}(h:T4 w a A W)(o:I0)(k:o.size=72):T4 w a A (W.setRow (w.heap.size+2) o):=by obtain⟨b,e,g⟩:=h.r1;obtain⟨d,f,i⟩:=h.r2;obtain⟨m,n,j⟩:=h.r3;have l:=h.lo;exact⟨⟨b,e,by rw[Zu O];exact g⟩,⟨d,f,Od⟩,⟨o,k,Zt j⟩,h.gr.setRow _ O _,VJ,l⟩
theorem T4.far{a:Nat}(h:T4 w a A W)(B:Nat)(o:I0)(m:w.heap.size+2<B)(n:B≠a):T4 w a A (W.setRow B o):=by obtain⟨b,f,j⟩:=h.r1;obtain⟨d,g,k⟩:=h.r2;obtain⟨e,i,l⟩:=h.r3;exact⟨⟨b,f,Oc⟩,⟨d,g,by rw[Zu O];exact k⟩,⟨e,i,by rw[Zu O];exact l⟩,h.gr.setRow _ O _,VJ,h.lo⟩
structure T5(w:I6)(b1:Nat)(A:I0)(B:Nat)(M:I0)(W:I6):Prop where
 t:T4 w b1 A W
 m:W.heap[B]?=S (Z M 125)
 lm:w.heap.size+2<B
 ne:B≠b1
theorem T5.next{b:Nat}(h:T5 w b A B M W)(g:Gr W a):T5 w b A B M a:=⟨h.t.next g,(Zz g (xe h.m)).trans h.m,h.lm,h.ne⟩
theorem T5.put1{a:Nat}(h:T5 w a A B M W)(d:I0)(b:d.size=72):T5 w a A B M (W.setRow w.heap.size d):=⟨h.t.put1 d b,UO,h.lm,h.ne⟩
theorem T5.put2{a:Nat}(h:T5 w a A B M W)(d:I0)(b:d.size=3):T5 w a A B M (W.setRow (w.heap.size+1) d):=⟨h.t.put2 d b,UO,h.lm,h.ne⟩
theorem T5.put3{a:Nat}(h:T5 w a A B M W)(d:I0)(b:d.size=72):T5 w a A B M (W.setRow (w.heap.size+2) d):=⟨h.t.put3 d b,UO,h.lm,h.ne⟩
theorem T5.new{a:Nat}(h:T4 w a A W):T5 w a A W.heap.size M ((W.alloc (Z zC 125)).setRow W.heap.size M):=by have:=xe h.p;have:=h.lo;exact⟨h.next (ZN.setRow _ Zy _),Zt Zv,O,O⟩
theorem T5.turn{b:Nat}(h:T5 w b A B (z8 (f,d,0)) W)(u:UInt8):T5 w b A B (z8 (f,d,u)) (W.setCell ⟨B,2,N⟩ (I Zg u.toNat)):=by have a:Fr (λk _=>k≠B) W (W.setCell ⟨B,2,N⟩ (I Zg u.toNat)):=ZP.setCell _ (λo _ q=>q R);obtain⟨e,j,r⟩:=h.t.r1;obtain⟨g,l,v⟩:=h.t.r2;obtain⟨i,n,x⟩:=h.t.r3;have y:=h.lm;have ne:=h.ne;refine⟨⟨⟨e,j,a.same _ _ r O⟩,⟨g,l,a.same _ _ v O⟩,⟨i,n,a.same _ _ x O⟩,Yr h.t.gr (show w.heap.size<=B from O) _,a.same _ _ h.t.p O,h.t.lo⟩,qv h.m,y,ne⟩
theorem T5.c0{a:Nat}{x:Nat × Nat × UInt8}(h:T5 w a A B (z8 x) W):W.cell? ⟨B,0,N⟩=S (I L (x.1:Int)):=VV
theorem T5.c1{a:Nat}{x:Nat × Nat × UInt8}(h:T5 w a A B (z8 x) W):W.cell? ⟨B,1,N⟩=S (I L (x.2.1:Int)):=VV
theorem T5.c2{a:Nat}{x:Nat × Nat × UInt8}(h:T5 w a A B (z8 x) W):W.cell? ⟨B,2,N⟩=S (I Zg (x.2.2.toNat:Int)):=VV
def pJ(s t:I4)(e:Ending):Prop :=
 (∃k P M Q,k≠0/\iO s t k/\P.size=72/\M.size=3/\Q.size=72/\P.all (·.oneCell')=Zk/\M.all (·.oneCell')=Zk/\Q.all (·.oneCell')=Zk/\e=Zd (Ze #[Zc P,Zc M,Zc Q,I L k])) ∨
 (∃p x Q,xG s=S p/\xP p=Zk/\yn t=S x/\x∈xC (xM p) p.white p.castle p.behind/\jE (zE (xM p) p.behind x) (!p.white) (kB p.castle x.1 x.2.1 4) (vK (xM p) x.1 x.2.1) (kK (xM p) x.1 x.2.1 p.half) (kj p.white p.full) Q/\e=Zd (Ze #[Zc (jV p),Zc (z8 x),Zc Q,I L 0]))
theorem bT{g:Int}(e:kJ z wh fc b)(n:h<=65535)(l:g<=65535){t:Nat}(j:f<64)(k:t<64)(q:u∈U5)(a:vo z wh fc b f t u=Zk){Q:I0}(r:jE (ua z wh fc b f t u) (!wh) (cM fc f t 4) (oA z wh f t) (Cd z b f t h) (Ce wh g) Q):jE (zE z b (f,t,u)) (!wh) (kB fc f t 4) (vK z f t) (kK z f t h) (kj wh g) Q:=by unfold vo at a;rw[qH]at a;obtain⟨i,o,m,p,d⟩:=(qjy e j k q).1 a.1;rw[pC e o j k m p d,Ev a.1,Er _ _ _ _ n,Es _ l]at r;exact jE.castle r λi _=>Cf _ _ _ _ _
theorem eh(s t:I4)(hs:s.size<4294967281)(w:I6):Calls prog 51 #[Zb s,Zb t] w λe w'=>pJ s t e/\Gr w w':=by
 obtain⟨y1,y2,y3,y4⟩:=jG w (Z zeroCells70 70) (Z zC 125) (Z zeroCells70 70);have G:Gr w (((w.alloc (Z zeroCells70 70)).alloc (Z zC 125)).alloc (Z zeroCells70 70)):=ZN.al.al;have h1:Y (∀W,Calls prog 53 #[Zb s] W λe w'=>zA s e/\Gr W w'):=X (λW=>qvq s hs W);have a4:=X (λW=>cY t W);obtain⟨p,hr,F,d0⟩|⟨k,hk,b0,d0⟩:=xy s
 .have h2:Y (∀W,ZL 53 #[Zb s] W (Ze #[Zc (jV p),I L 0])):=X (λW=>(h1.a W).mono λe w' h=>⟨d0 e h.1,h.2⟩);have y:=jo hr;have g:=y.size;have r:=X (qx y);obtain⟨hC,a0,a1⟩:=Fp hr F;obtain⟨c0,c1,c2,c3⟩:=t7 F;have a6:Y (∀(f b:Nat)(u:UInt8),f<64->b<64->u∈U5->∀W,ZL 105 #[Zc (jV p),Zc (ZJ f b u)] W (Za (vo (xM p) p.white p.castle p.behind f b u))):=X λf b u i v H W=>qjj y hC a0 a1 c0 c1 c2 c3 f b i v u H W;have V:Y (∀(f b:Nat)(u:UInt8),f<64->b<64->u∈U5->∀W,Calls prog 106 #[Zc (jV p),Zc (ZJ f b u)] W λe w'=>∃Q,e=Zd (Zc Q)/\jE (ua (xM p) p.white p.castle p.behind f b u) (!p.white) (cM p.castle f b 4) (oA (xM p) p.white f b) (Cd (xM p) p.behind f b p.half) (Ce p.white p.full) Q/\Gr W w'):=X λf b u i v H W=>qxg y f b i v u H c0 c1 c2 c3 W;have J:Y (yn t=N->pJ s t (Zd (Ze #[Zc (jV p),Zc zC,Zc (jV p),I L 1]))):=X (λe=>Zi ⟨1,_,_,_,WW,Zj (Zi ⟨R,p,hr,F,e⟩),g,R,g,r.a,vP,r.a,R⟩);have d2:Y (∀f b u,yn t=S (f,b,u)->f<64->b<64->u∈U5->vo (xM p) p.white p.castle p.behind f b u=Zl->pJ s t (Zd (Ze #[Zc (jV p),Zc (z8 (f,b,u)),Zc (jV p),I L 4]))):=X (λf b u e i v H q=>Zi ⟨4,_,_,_,WW,Zj (Zj ⟨R,p,_,hr,F,e,λhx=>by
   rw[(C8 hC a0 a1 i v H).2 ((je hC a0 a1 _).2 hx)]at q;cases q⟩),g,R,g,r.a,Du _,r.a,R⟩)
  have d1:Y (∀f b u,yn t=S (f,b,u)->f<64->b<64->u∈U5->vo (xM p) p.white p.castle p.behind f b u=Zk->∀Q,jE (ua (xM p) p.white p.castle p.behind f b u) (!p.white) (cM p.castle f b 4) (oA (xM p) p.white f b) (Cd (xM p) p.behind f b p.half) (Ce p.white p.full) Q->pJ s t (Zd (Ze #[Zc (jV p),Zc (z8 (f,b,u)),Zc Q,I L 0]))):=X (λf b u e i v H q Q hQ=>Zj ⟨p,_,Q,hr,F,e,(je hC a0 a1 _).1 ((C8 hC a0 a1 i v H).1 q),bT hC c1 c3 i v H q hQ,R⟩);generalize jV p=A at h2 g r a6 V J d2 d1;clear h1 d0 hs y hr F hC a0 a1 c0 c1 c2 c3;go_enter func51,ntmps51;go_upto_region 1 with fail;show Code.wp _ _ _ _ (((w.alloc (Z zeroCells70 70)).alloc (Z zC 125)).alloc (Z zeroCells70 70));generalize (((w.alloc (Z zeroCells70 70)).alloc (Z zC 125)).alloc (Z zeroCells70 70))=w0 at y1 y2 y3 y4 G |-;go_upto_region 4 with(first
   | (go_at_call 53;refine Z0 (h2.a _) λn a3=>?_)
   | (refine ZC n.heap.size A Zv g r.a ?_))
  have a2:Gr n ((n.alloc (Z zeroCells70 70)).setRow n.heap.size A):=((Gr.refl n).alloc zeroCells70 70).setRow n.heap.size Zy A;have j:T4 w n.heap.size A ((n.alloc (Z zeroCells70 70)).setRow n.heap.size A):=by have hg:=Gr.trans a3 a2;have c4:=ZR a3;exact⟨⟨_,xF,(Zz hg (xe y1)).trans y1⟩,⟨_,R,(Zz hg (xe y2)).trans y2⟩,⟨_,xF,(Zz hg (xe y3)).trans y3⟩,Gr.trans G hg,Zt (Z7 n _),O⟩
  show Code.wp _ _ _ _ ((n.alloc (Z zeroCells70 70)).setRow n.heap.size A);generalize (n.alloc (Z zeroCells70 70)).setRow n.heap.size A=w4 at j |-;generalize n.heap.size=D at j |-;clear a3 a2 h2 y1 y2 y3 y4 G;cases hm:yn t with
  | none =>
   have z:=X (J.a hm);rw[hm]at a4;clear J d2 d1 a6 V hm;go_upto_region 6 with(go_at_call 103;refine Z1 (a4.a _) ?_);have d:T4 w D A _:=j.next ZO.drew;refine ZT (S:=T4 w D A) WR d (λa=>?_);clear d j;refine ty 0 (Zc A) R (zy g Vb _ R D R (λ_ h=>qy h.p)) a ?_;refine ty 1 (Zc zC) R (BB Vb 125 #[] R zC (by simp only[List.map_toArray,Wi];exact aa)) a ?_;refine ty 2 (Zc A) R (zy g Vb _ R D R (λ_ h=>qy h.p)) a ?_;refine rd 3 λK hK=>?_
   rw[qI Vb];obtain⟨R1,r1,r2⟩:=a.r1;refine YQ 70 _ _ R w.heap.size A R R 70 R1 r2 V5 (by rw[g,r1]) r.a ?_;refine hK.out _ _ (a.put1 A g) λa=>?_;clear hK K
   try simp only[py]
   refine rd 4 λK hK=>?_
   rw[qI Vb];obtain⟨R2,r3,r4⟩:=a.r2;refine YQ 125 _ _ R (w.heap.size+1) zC R R 125 R2 r4 vi (by rw[r3];rfl) vP ?_;refine hK.out _ _ (a.put2 zC R) λa=>?_;clear hK K
   try simp only[py]
   refine rd 5 λK hK=>?_
   rw[qI Vb];obtain⟨R3,r5,r6⟩:=a.r3;refine YQ 70 _ _ R (w.heap.size+2) A R R 70 R3 r6 V5 (by rw[g,r5]) r.a ?_;refine hK.out _ _ (a.put3 A g) λa=>?_;clear hK K
   try simp only[py]
   refine rd 6 λK hK=>?_
   go_simp;refine hK.out _ _ (a) λa=>?_;clear hK K
   try simp only[py]
   refine ZZ WR ?_ _;have P:=X a.gr;go_wp2_with fail;exact ZS (v:=Ze #[Zc A,Zc zC,Zc A,I L 1]) (qq2 _ _ w.heap.size A zC A R R R VK Ue (Zt r6) g R g) R ⟨z.a,P.a⟩
  | some x =>
   obtain⟨f,b,u⟩:=x;obtain⟨e1,e2,i,v,H,b2⟩:=mV hm;have k1:Y (∀W,Calls prog 104 #[Zb (t.extract 0 2)] W λe w'=>e=Zd (I L f)/\w'=W):=X (λW=>by rw[<-e1];exact zb _ W);have k2:Y (∀W,Calls prog 104 #[Zb (t.extract 2 4)] W λe w'=>e=Zd (I L b)/\w'=W):=X (λW=>by rw[<-e2];exact zb _ W);have M:=X (a6.a f b u i v H);have a5:=X (V.a f b u i v H);have h4:=X (d2.a f b u hm i v H);have b1:=X (d1.a f b u hm i v H);rw[hm]at a4;have l4:(4:Int)<=(t.size:Int):=by rcases b2 with⟨e,_⟩|⟨e,_⟩<;>omega
   have E:=X b2;clear J d2 d1 a6 V hm e1 e2 i v H b2;generalize vo (xM p) p.white p.castle p.behind f b u=LG at M h4 b1;go_upto_region 7 with(go_at_call 103;refine Z1 (a4.a _) ?_);go_cut [11]from 13 (λb3 wx=>∃B,b3=ZI B/\T5 w D A B (z8 (f,b,0)) wx)
   case first =>
    clear M a5 h4 b1 E a4;have T:T4 w D A w4.drew:=j.next ZO.drew;refine ZT (S:=T4 w D A) WR T (λa=>?_);refine tq 0 (Zb t) a ?_;refine ZB 1 (Zb (t.extract 0 2)) R (λw' o=>by go_simp;try(intro hx;omega)) a ?_;refine tq 3 (Zb t) a ?_;refine ZB 4 (Zb (t.extract 2 4)) R (λw' o=>by go_simp;try(intro hx;omega)) a ?_;refine Xk (rs:=[2,7]) WR WU ?_;refine Yc R (λK hK=>?_) (Yc R (λK hK=>?_) Xb)
    .go_simp;refine Z1 (k1.a _) ?_;refine hK.out _ _ a λa=>?_;clear hK K
     try simp only[py]
     refine Xk (rs:=[5,7]) WR WU ?_;refine Yc R (λK hK=>?_) (Yc R (λK hK=>?_) Xb)
     .go_simp;refine Z1 (k2.a _) ?_;refine hK.out _ _ a λa=>?_;clear hK K
      try simp only[py]
      refine ty 6 (Zc (z8 (f,b,0))) R (BB Vb 125 #[(0,.tmp 33),(1,.tmp 36)] R (z8 (f,b,0)) V6) a ?_;refine rd 7 λK hK=>?_
      go_simp;refine hK.out _ _ (a.next ZN) λa=>?_;clear hK K
      try simp only[py]
      refine rd 8 λK hK=>?_
      rw[qI Vb];refine YQ 125 _ _ R w4.heap.size (z8 (f,b,0)) R R 125 zC Zv vi R (Du _) ?_;refine hK.out _ _ (a.far w4.heap.size _ U7 (Nat.ne_of_gt (xe j.p))) λa=>?_;clear hK K
      try simp only[py]
      refine ZZ WR ?_ _;go_wp2_with fail;go_meet
      case rel=>exact⟨_,R,T5.new T⟩
     .go_simp;refine hK.out _ _ (a.next ZN) λa=>?_;clear hK K
      try simp only[py]
      refine rd 5 λK hK=>?_
      go_simp;refine Z1 (k2.a _) ?_;refine hK.out _ _ a λa=>?_;clear hK K
      try simp only[py]
      refine ty 6 (Zc (z8 (f,b,0))) R (BB Vb 125 #[(0,.tmp 33),(1,.tmp 36)] R (z8 (f,b,0)) V6) a ?_;refine rd 8 λK hK=>?_
      rw[qI Vb];refine YQ 125 _ _ R w4.heap.size (z8 (f,b,0)) R R 125 zC Zv vi R (Du _) ?_;refine hK.out _ _ (a.far w4.heap.size _ U7 (Nat.ne_of_gt (xe j.p))) λa=>?_;clear hK K
      try simp only[py]
      refine ZZ WR ?_ _;go_wp2_with fail;go_meet
      case rel=>exact⟨_,R,T5.new T⟩
    .go_simp;refine hK.out _ _ (a.next ZN) λa=>?_;clear hK K
     try simp only[py]
     refine rd 2 λK hK=>?_
     go_simp;refine Z1 (k1.a _) ?_;refine hK.out _ _ a λa=>?_;clear hK K
     try simp only[py]
     refine rd 5 λK hK=>?_
     go_simp;refine Z1 (k2.a _) ?_;refine hK.out _ _ a λa=>?_;clear hK K
     try simp only[py]
     refine ty 6 (Zc (z8 (f,b,0))) R (BB Vb 125 #[(0,.tmp 33),(1,.tmp 36)] R (z8 (f,b,0)) V6) a ?_;refine rd 8 λK hK=>?_
     rw[qI Vb];refine YQ 125 _ _ R w4.heap.size (z8 (f,b,0)) R R 125 zC Zv vi R (Du _) ?_;refine hK.out _ _ (a.far w4.heap.size _ U7 (Nat.ne_of_gt (xe j.p))) λa=>?_;clear hK K
     try simp only[py]
     refine ZZ WR ?_ _;go_wp2_with fail;go_meet
     case rel=>exact⟨_,R,T5.new T⟩
   case rest =>
    obtain⟨B,rfl,l⟩:=hcut;clear j k1 k2 a4;obtain⟨q5,a7⟩:=Zo ((t.size:Int)==5);go_upto_if 40 with fail;go_cut [11]from 41 to 43 (λb3 wx=>b3=ZI B/\T5 w D A B (z8 (f,b,u)) wx)
    case first =>
     clear M a5 h4 b1;cases q5
     .have a9:u=0:=by
       obtain⟨e,H⟩|⟨e,H⟩:=E.a
       .exact H
       .rw[e]at a7;cases a7
      subst a9;have b4:=X l;clear l E;go_wp2_with fail;go_meet
      case rel=>exact⟨R,b4.a⟩
     .have c5:4<t.size:=by have:=q8 a7;omega
      have a9:u=t[4]:=by
       obtain⟨e,H⟩|⟨e,H⟩:=E.a
       .omega
       .exact H
      have c2:=l.c2;have c6:_:=xr (i:=2) l.m;have l5:(4:Int)<(t.size:Int):=O
      have hn:=X (l.turn u);rw[a9]at hn;clear E l;go_wp2_with fail;go_meet
      case rel=>exact⟨R,by rw[a9];exact hn.a⟩
    case rest =>
     obtain⟨rfl,l⟩:=hcut;clear E l4 a7;have c0:=l.c0;have c1:=l.c1;have c2:=l.c2;have y:=X (vF l.t.p)
     go_upto_region 11 with(first
      | (go_at_call 105;refine Z0 (M.a _) λw8 b5=>?_)
      | (refine ql Vb _ R D R g y.a ?_))
     have l:=l.next b5;clear b5 y M c0 c1 c2;cases LG
     .have z:=X (h4.a R);clear h4 b1 a5;go_upto_region 12 with fail;have d:T5 w D A B (z8 (f,b,u)) _:=l.next ZO.drew;refine ZT (S:=T5 w D A B (z8 (f,b,u))) WR d (λa=>?_);clear d l;refine ty 0 (Zc A) R (zy g Vb _ R D R (λ_ h=>qy h.t.p)) a ?_;refine ZB 1 (Zc (z8 (f,b,u))) R (λw' o=>V1) a ?_;refine ty 2 (Zc A) R (zy g Vb _ R D R (λ_ h=>qy h.t.p)) a ?_;refine rd 3 λK hK=>?_
      rw[qI Vb];obtain⟨R1,r1,r2⟩:=a.t.r1;refine YQ 70 _ _ R w.heap.size A R R 70 R1 r2 V5 (by rw[g,r1]) r.a ?_;refine hK.out _ _ (a.put1 A g) λa=>?_;clear hK K
      try simp only[py]
      refine rd 4 λK hK=>?_
      rw[qI Vb];obtain⟨R2,r3,r4⟩:=a.t.r2;refine YQ 125 _ _ R (w.heap.size+1) (z8 (f,b,u)) R R 125 R2 r4 vi (by rw[r3];rfl) (Du _) ?_;refine hK.out _ _ (a.put2 (z8 (f,b,u)) R) λa=>?_;clear hK K
      try simp only[py]
      refine rd 5 λK hK=>?_
      rw[qI Vb];obtain⟨R3,r5,r6⟩:=a.t.r3;refine YQ 70 _ _ R (w.heap.size+2) A R R 70 R3 r6 V5 (by rw[g,r5]) r.a ?_;refine hK.out _ _ (a.put3 A g) λa=>?_;clear hK K
      try simp only[py]
      refine rd 6 λK hK=>?_
      go_simp;refine hK.out _ _ (a) λa=>?_;clear hK K
      try simp only[py]
      refine ZZ WR ?_ _;have P:=X a.t.gr;go_wp2_with fail;exact ZS (v:=Ze #[Zc A,Zc (z8 (f,b,u)),Zc A,I L 4]) (qq2 _ _ w.heap.size A (z8 (f,b,u)) A R R R VK Ue (Zt r6) g R g) R ⟨z.a,P.a⟩
     .have h0:=X (b1.a R);clear h4 b1;go_upto_region 13 with fail;have d:T5 w D A B (z8 (f,b,u)) _:=l.next ZO.drew;refine ZT (S:=T5 w D A B (z8 (f,b,u))) WR d (λa=>?_);clear d l;refine ty 0 (Zc A) R (zy g Vb _ R D R (λ_ h=>qy h.t.p)) a ?_;refine ZB 1 (Zc (z8 (f,b,u))) R (λw' o=>V1) a ?_;refine ty 2 (Zc A) R (zy g Vb _ R D R (λ_ h=>qy h.t.p)) a ?_;refine ZB 3 (Zc (z8 (f,b,u))) R (λw' o=>V1) a ?_;refine rd 4 λK hK=>?_
      go_simp;refine(a5.a _).mono ?_;rintro e wb ⟨Q,rfl,hQ,b6⟩;have a8:=hQ.size;have b7:=qx hQ;have z:=X (h0.a Q hQ);refine hK.out _ _ (a.next b6) λa=>?_;clear hK K
      try simp only[py]
      refine rd 5 λK hK=>?_
      rw[qI Vb];obtain⟨R1,r1,r2⟩:=a.t.r1;refine YQ 70 _ _ R w.heap.size A R R 70 R1 r2 V5 (by rw[g,r1]) r.a ?_;refine hK.out _ _ (a.put1 A g) λa=>?_;clear hK K
      try simp only[py]
      refine rd 6 λK hK=>?_
      rw[qI Vb];obtain⟨R2,r3,r4⟩:=a.t.r2;refine YQ 125 _ _ R (w.heap.size+1) (z8 (f,b,u)) R R 125 R2 r4 vi (by rw[r3];rfl) (Du _) ?_;refine hK.out _ _ (a.put2 (z8 (f,b,u)) R) λa=>?_;clear hK K
      try simp only[py]
      refine rd 7 λK hK=>?_
      rw[qI Vb];obtain⟨R3,r5,r6⟩:=a.t.r3;refine YQ 70 _ _ R (w.heap.size+2) Q R R 70 R3 r6 (by rw[a8];exact q9) (by rw[a8,r5]) b7 ?_;refine hK.out _ _ (a.put3 Q a8) λa=>?_;clear hK K
      try simp only[py]
      refine rd 8 λK hK=>?_
      go_simp;refine hK.out _ _ (a) λa=>?_;clear hK K
      try simp only[py]
      refine ZZ WR ?_ _;have P:=X a.t.gr;go_wp2_with fail;exact ZS (v:=Ze #[Zc A,Zc (z8 (f,b,u)),Zc Q,I L 0]) (qq2 _ _ w.heap.size A (z8 (f,b,u)) Q R R R VK Ue (Zt r6) g R a8) R ⟨z.a,P.a⟩
 .have h2:Y (∀W,ZL 53 #[Zb s] W (Ze #[Zc zeroCells70,I L k])):=X (λW=>(h1.a W).mono λe w' h=>⟨d0 e h.1,h.2⟩);have z:Y (pJ s t (Zd (Ze #[Zc zeroCells70,Zc zC,Zc zeroCells70,I L k]))):=X (Zi ⟨k,_,_,_,hk,Zi b0,xF,R,xF,xH,vP,xH,R⟩);have k2:(k != 0)=Zk:=Oo;clear h1 d0 b0 hs a4 hk;go_enter func51,ntmps51;go_upto_region 1 with fail;show Code.wp _ _ _ _ (((w.alloc (Z zeroCells70 70)).alloc (Z zC 125)).alloc (Z zeroCells70 70));generalize (((w.alloc (Z zeroCells70 70)).alloc (Z zC 125)).alloc (Z zeroCells70 70))=w0 at y1 y2 y3 y4 G |-;go_upto_region 3 with(first
   | (go_at_call 53;refine Z0 (h2.a _) λn a3=>?_)
   | (refine ZC n.heap.size zeroCells70 Zv xF xH ?_))
  have a2:Gr n ((n.alloc (Z zeroCells70 70)).setRow n.heap.size zeroCells70):=((Gr.refl n).alloc zeroCells70 70).setRow n.heap.size Zy _;have j:T4 w n.heap.size zeroCells70 ((n.alloc (Z zeroCells70 70)).setRow n.heap.size zeroCells70):=by have hg:=Gr.trans a3 a2;have c4:=ZR a3;exact⟨⟨_,xF,(Zz hg (xe y1)).trans y1⟩,⟨_,R,(Zz hg (xe y2)).trans y2⟩,⟨_,xF,(Zz hg (xe y3)).trans y3⟩,Gr.trans G hg,Zt (Z7 n _),O⟩
  show Code.wp _ _ _ _ ((n.alloc (Z zeroCells70 70)).setRow n.heap.size zeroCells70);generalize (n.alloc (Z zeroCells70 70)).setRow n.heap.size zeroCells70=w4 at j |-;generalize n.heap.size=D at j |-;clear a3 a2 h2 y1 y2 y3 y4 G;have g:=xF;have d:T4 w D zeroCells70 _:=j.next ZO.drew;refine ZT (S:=T4 w D zeroCells70) WR d (λa=>?_);clear d j;refine ty 0 (Zc zeroCells70) R (zy g Vb _ R D R (λ_ h=>qy h.p)) a ?_;refine ty 1 (Zc zC) R (BB Vb 125 #[] R zC (by simp only[List.map_toArray,Wi];exact aa)) a ?_;refine ty 2 (Zc zeroCells70) R (zy g Vb _ R D R (λ_ h=>qy h.p)) a ?_;refine tq 3 (I L k) a ?_;refine rd 4 λK hK=>?_;rw[qI Vb];obtain⟨R1,r1,r2⟩:=a.r1;refine YQ 70 _ _ R w.heap.size zeroCells70 rfl R 70 R1 r2 V5 (by rw[g,r1]) xH ?_;refine hK.out _ _ (a.put1 zeroCells70 g) λa=>?_;clear hK K;try simp only[py]
  refine rd 5 λK hK=>?_;rw[qI Vb];obtain⟨R2,r3,r4⟩:=a.r2;refine YQ 125 _ _ R (w.heap.size+1) zC R R 125 R2 r4 vi (by rw[r3];rfl) vP ?_;refine hK.out _ _ (a.put2 zC R) λa=>?_;clear hK K;try simp only[py]
  refine rd 6 λK hK=>?_;rw[qI Vb];obtain⟨R3,r5,r6⟩:=a.r3;refine YQ 70 _ _ R (w.heap.size+2) zeroCells70 rfl R 70 R3 r6 V5 (by rw[g,r5]) xH ?_;refine hK.out _ _ (a.put3 zeroCells70 g) λa=>?_;clear hK K;try simp only[py]
  refine rd 7 λK hK=>?_;go_simp;refine hK.out _ _ (a) λa=>?_;clear hK K;try simp only[py]
  refine ZZ WR ?_ _;have P:=X a.gr;go_wp2_with fail;exact ZS (v:=Ze #[Zc zeroCells70,Zc zC,Zc zeroCells70,I L k]) (qq2 _ _ w.heap.size zeroCells70 zC zeroCells70 rfl R R VK Ue (Zt r6) g R g) R ⟨z.a,P.a⟩
theorem GK:∀c:UInt8,vG c=(Zm (vE c=1)||decide (vE c=2)):=vg WS
def fO(c:UInt8):Bool:=Zm (vE c=0)||decide (vE c=3)||decide (vE c=4)
theorem rT:∀c:UInt8,ew c=Zk->(yB c||vG c)=!fO c:=vg WS
theorem GQ(c:UInt8):vE c=-1\/vE c=0\/vE c=1\/vE c=2\/vE c=3\/vE c=4\/vE c=5:=by have:=rn c;unfold vE;split<;>omega
def lK(z:I2)(k:Nat):Nat:=((List.range k).filter λi=>fO (z i)).length
theorem sy(z:I2)(k:Nat):lK z (k+1)=lK z k+if fO (z k)then 1 else 0:=by unfold lK;rw[YI,YJ,qZ];cases h:fO (z k)<;>simp[h]
theorem Ec(z:I2)(k:Nat):lK z k<=k:=by have:=Y8 (λi=>fO (z i)) (List.range k);unfold lK;exact OY
theorem tS(b:xO z=Zk):uw z=(Zm (((lK z 64:Nat):Int)=0)&&Zm (((ws z 64:Nat):Int)<=1)):=by
 by_cases h:∀j,j<64->(yB (z j)||vG (z j))=Zk
 .have f:lK z 64=0:=by unfold lK;rw[Yz,X1];intro i d;have d:=qK.1 d;have:=rT (z i) (ji b d);rw[h i d]at this;intro e;rw[e]at this;cases this
  rw[tU h,qJ (show((lK z 64:Nat):Int)=0 from O)];rfl
 .have:∃j,j<64/\(yB (z j)||vG (z j))=Zl:=by
   refine Xd λg=>h λj a=>?_;cases e:(yB (z j)||vG (z j))with
   | true=>rfl
   | false=>exact absurd ⟨j,a,e⟩ g
  obtain⟨j,a,e⟩:=this;have l:lK z 64≠0:=by
   unfold lK;intro f;rw[Yz,X1]at f;have:=rT (z j) (ji b a);rw[e]at this;refine f j (qK.2 a) ?_;cases k:fO (z j)with
   | true=>rfl
   | false=>rw[k]at this;cases this
  rw[tT a e,qE (show ¬ ((lK z 64:Nat):Int)=0 from O)];rfl
theorem CP(a:xO z=Zk)(d:0<=xR z wh)(e:xR z wh<=63):kz z wh=zM z (xR z wh) (!wh):=by grind[xR,kz,xu]
structure Ss(w:I6)(PA:I0)(n:Int)(W:I6):Prop where
 pa:W.heap[w.heap.size]?=S (Z PA 70)
 rs:W.heap[w.heap.size+1]?=S (Z (xB Zl 0 0) 186)
 st:∃c,W.heap[w.heap.size+2]?=S (Z (xB c n 0) 186)
 gr:Gr w W
theorem Ss.next{n:Int}(h:Ss w PA n W)(g:Gr W a):Ss w PA n a:=by obtain⟨c,b⟩:=h.st;exact⟨(ZE g h.pa),(ZE g h.rs),⟨c,(ZE g b)⟩,Gr.trans h.gr g⟩
theorem Ss.set{n:Int}(h:Ss w PA n W)(v:Bool):Ss w PA n (W.setCell ⟨w.heap.size+2,0,N⟩ (Za v)):=by obtain⟨c,b⟩:=h.st;have a:Fr (λk _=>k≠w.heap.size+2) W (W.setCell ⟨w.heap.size+2,0,N⟩ (Za v)):=ZP.setCell _ (λo _ q=>q R);exact⟨a.same _ _ h.pa O,a.same _ _ h.rs O,⟨v,qv b⟩,Yr h.gr (show w.heap.size<=w.heap.size+2 from O) _⟩
theorem oy(w:I6)(PA:I0):Ss w PA 0 ((((w.alloc (Z PA 70)).alloc (Z (xB Zl 0 0) 186)).alloc (Z (xB Zl 0 0) 186)).setRow (w.heap.size+2) (xB Zl 0 0)):=by obtain⟨a,b,d,e⟩:=jG w (Z PA 70) (Z (xB Zl 0 0) 186) (Z (xB Zl 0 0) 186);exact⟨by rw[Zu O];exact a,by rw[Zu O];exact b,⟨Zl,Zt d⟩,ZN.al.al.setRow _ O _⟩
theorem Ss.num(h:Ss w PA 0 W)(n:Int):Ss w PA n (W.setCell ⟨w.heap.size+2,1,N⟩ (I L n)):=by obtain⟨c,b⟩:=h.st;have a:Fr (λk _=>k≠w.heap.size+2) W (W.setCell ⟨w.heap.size+2,1,N⟩ (I L n)):=ZP.setCell _ (λo _ q=>q R);exact⟨a.same _ _ h.pa O,a.same _ _ h.rs O,⟨c,qv b⟩,Yr h.gr (show w.heap.size<=w.heap.size+2 from O) _⟩
theorem eL{g:Int}(r:jE z wh fc b h g PA)(hC:kJ z wh fc b)(g4:-1<=b)(g5:b<=63)(h0:0<=h)(h1:h<=65535)(g0:0<=g)(g1:g<=65535)(k0:0<=xR z wh)(k1:xR z wh<=63)(w:I6) :
  ZL 112 #[Zc PA] w (Zc (bx z wh fc b)):=by
 have hz:=r.size;have a2:=X (λW=>Dv r W);obtain⟨qs,qA⟩:=FN r;have D:Y (∀W:I6,Calls prog 54 #[Zc PA] W λe w'=>∃v,e=Zd v/\np W.heap.size v (yY z wh fc b) w'/\Gr W w'):=X λW=>ai r hC g4 g5 h0 h1 g0 g1 W;have A:(yY z wh fc b).length=(xC z wh fc b).length:=by rw[qk3 hC g4 g5];exact(xq _).length_eq
 have P:(xC z wh fc b).length<=20480:=by rw[<-A];exact iW _ _ _ _ 64
 have g3:Y (∀W:I6,ZL 193 #[Zc (PA.toList.take 64).toArray,I L (xK wh)] W (I L (xR z wh))):=X λW=>qzo _ _ qA wh W;have f8:Y (∀W:I6,ZL 192 #[Zc (PA.toList.take 64).toArray,I L (xR z wh),I L (xK (!wh))] W (Za (kz z wh))):=X λW=>by rw[CP hC.ok k0 k1];exact ju _ _ qs qA _ k0 k1 (!wh) W
 have b4:Y (IntKind.i64.wrap (-(xK wh))=xK (!wh)):=X Vn;have p:Y (bx z wh fc b=xB (kz z wh) ((xC z wh fc b).length:Int) (yO z (kz z wh) ((xC z wh fc b).length:Int))):=X R;have a:=X (tS hC.ok);have b5:=X (λi hi=>r.sq i hi);have J:=oy w PA;rw[<-A]at p P;generalize bx z wh fc b=V at p |-;generalize xR z wh=y at g3 f8 k0 k1;generalize kz z wh=f at f8 p;generalize yY z wh fc b=ys at D A p P;clear r hC g4 g5 h0 h1 g0 g1 qs qA A;go_enter func112,ntmps112;go_upto_region 2 with(refine ZU R 186 _ _ R (w.heap.size+2) (xB Zl 0 0) R R 186 (xB Zl 0 0) (jG w _ _ _).2.2.1 vI R (xw _ _ _) ?_);show Code.wp _ _ _ _ ((((w.alloc (Z PA 70)).alloc (Z (xB Zl 0 0) 186)).alloc (Z (xB Zl 0 0) 186)).setRow (w.heap.size+2) (xB Zl 0 0));generalize ((((w.alloc (Z PA 70)).alloc (Z (xB Zl 0 0) 186)).alloc (Z (xB Zl 0 0) 186)).setRow (w.heap.size+2) (xB Zl 0 0))=w2 at J |-;have Q:=X (qy J.pa);go_upto_region 3 with(first
  | (go_at_call 54;refine(D.a _).mono ?_;rintro e w3 ⟨v,rfl,b3,a4⟩;obtain⟨pp,cap,rfl,f0,d5⟩:=bt b3;clear d5 b3)
  | (refine ql Vb _ R w.heap.size R hz Q.a ?_))
 have T:=J.next a4;obtain⟨c3,g6⟩:=T.st;have d1:w3.cell? ⟨w.heap.size+2,1,N⟩=S (I L 0):=by rw[qn g6];rfl
 have d2:w3.frozen? ⟨w.heap.size+2,1,N⟩=Zl:=xr g6;have f9:=T.num ((ys.length:Nat):Int);clear J a4 Q D T g6;go_upto_region 4 with fail;generalize w3.setCell ⟨w.heap.size+2,1,N⟩ (I L (ys.length:Nat))=w4 at f9 |-;clear d1 d2;generalize ((ys.length:Nat):Int)=n at f9 p;have x:=f9.next ZO.drew;refine ZT (S:=Ss w PA n) WR x (λj=>?_);clear x f9;refine tq 0 (ZI w.heap.size) j ?_;refine ty 1 (Zc (PA.toList.take 64).toArray) R (DB hz Vb _ R w.heap.size R (λ_ h=>qy h.pa)) j ?_;refine tq 2 (ZI w.heap.size) j ?_;refine ty 3 (Zc (PA.toList.take 64).toArray) R (DB hz Vb _ R w.heap.size R (λ_ h=>qy h.pa)) j ?_;refine ty 4 (Zc PA) R (zy hz Vb _ R w.heap.size R (λ_ h=>qy h.pa)) j ?_;refine ty 7 (Zc PA) R (zy hz Vb _ R w.heap.size R (λ_ h=>qy h.pa)) j ?_;refine rd 5 λK hK=>?_;go_simp;refine Z0 (a2.a _) λf5 a5=>?_;refine hK.out _ _ (j.next a5) λj=>?_;clear hK K;try simp only[py]
 refine rd 6 λK hK=>?_;go_simp;refine Z0 (g3.a _) λf6 a6=>?_;refine hK.out _ _ (j.next a6) λj=>?_;clear hK K;try simp only[py]
 refine rd 8 λK hK=>?_;go_simp;refine Z0 (a2.a _) λf7 a7=>?_;refine hK.out _ _ (j.next a7) λj=>?_;clear hK K;try simp only[py]
 refine ZB 9 (I L (xK (!wh))) R (λw _=>by go_simp;exact b4.a) j ?_;refine rd 10 λK hK=>?_;go_simp;refine Z0 (f8.a _) λg2 a8=>?_;refine hK.out _ _ (j.next a8) λj=>?_;clear hK K;try simp only[py]
 refine tq 11 (ZI (w.heap.size+2)) j ?_;refine rd 12 λK hK=>?_;obtain⟨c,hc⟩:=j.st;have d0:g2.cell? ⟨w.heap.size+2,0,N⟩=S (Za c):=by rw[qn hc];rfl
 have d1:g2.frozen? ⟨w.heap.size+2,0,N⟩=Zl:=xr hc;go_simp;refine hK.out _ _ (j.set f) λj=>?_;clear hK K;try simp only[py]
 refine ZZ WR ?_ _;have d:(g2.setCell ⟨w.heap.size+2,0,N⟩ (Za f)).heap[w.heap.size+2]?=S (Z (xB f n 0) 186):=qv hc;have u:=j;clear j d0 d1 hc a2 g3 f8 b4 k0 k1;generalize g2.setCell ⟨w.heap.size+2,0,N⟩ (Za f)=H at d u |-;have a3:Y (∀k,k<64->H.cell? ⟨w.heap.size,k,N⟩=S (I Zg (z k).toNat)):=X λk hk=>by rw[qn u.pa];exact b5.a k hk
 have c0:H.cell? ⟨w.heap.size+2,0,N⟩=S (Za f):=by rw[qn d];rfl
 have c1:H.cell? ⟨w.heap.size+2,1,N⟩=S (I L n):=by rw[qn d];rfl
 have c2:H.cell? ⟨w.heap.size+2,2,N⟩=S (I L 0):=by rw[qn d];rfl
 have f2:H.frozen? ⟨w.heap.size+2,2,N⟩=Zl:=xr d;have F:=X d;have B:=X u.rs;have g7:=X u.gr;have G:Y (∀o:Int,(H.setCell ⟨w.heap.size+2,2,N⟩ (I L o)).heap[w.heap.size+2]?=S (Z (xB f n o) 186)):=X λo=>qv d;have m:Y (∀o:Int,(H.setCell ⟨w.heap.size+2,2,N⟩ (I L o)).heap[w.heap.size+1]?=S (Z (xB Zl 0 0) 186)):=X λo=>by have fs:Fr (λk _=>k≠w.heap.size+2) H (H.setCell ⟨w.heap.size+2,2,N⟩ (I L o)):=ZP.setCell _ (λo _ q=>q R);exact fs.same _ _ u.rs O
 have E:Y (∀o:Int,Gr w (H.setCell ⟨w.heap.size+2,2,N⟩ (I L o))):=X λo=>Yr u.gr (show w.heap.size<=w.heap.size+2 from O) _;clear u d b5;go_wp2_with fail;go_loopg [5,6,7] 64 (λg l hv i wr=>∃k:Nat,k+g=64/\i=I L k/\l=I L (ws z k:Nat)/\hv=I L (lK z k:Nat)/\wr=H)
 case atStart=>exact⟨0,R,R,R,R,R⟩
 case round=>
  obtain⟨k,k1,rfl,rfl,rfl,b6⟩:=hrel;have b7:=b6.symm;subst b7;clear b6;by_cases b0:k<64
  .have f1:=a3.a k b0;have f3:0<=(k:Int):=O;have f4:(k:Int)<64:=O;have b1:=EH z k;have b2:=Ec z k;have hl:=sU z k;have hh:=sy z k;have a9:=X (λW=>zp (z k) W);rw[GK]at hl;unfold fO at hh;rcases GQ (z k)with e|e|e|e|e|e|e;all_goals
    rw[e]at hl hh a9;simp at hl hh;have d3:=X hl;have c6:=X hh;clear hl hh e p a c0 c1 c2 f2;go_wp2_with(go_at_call 107;refine Z0 (a9.a _) λw' hw=>?_;have d4:=hw.symm;subst d4;clear hw);go_roundg (gk-1)
    case measure=>omega
    case rel=>exact⟨k+1,O,Vg,by rw[d3.a]<;>go_num,by rw[c6.a]<;>go_num,R⟩
  .have ek:k=64:=O;subst ek;clear b0 a3;obtain⟨x1,c4⟩:=Zo (((lK z 64:Nat):Int)==0);obtain⟨x2,c5⟩:=Zo (Zm (((ws z 64:Nat):Int)<=1));obtain⟨n0,a1⟩:=Zo (n==0);have a0:Y (uw z=(x1&&x2)):=X (by rw[a.a,c5,<-c4];rfl);cases n0
   .have en:Y (¬ n=0):=X (by intro h;rw[h]at a1;cases a1);cases x1
    .exact WK
    .cases x2
     .exact WK
     .skip;have M:Y (V=xB f n 3):=X Uj;clear p a;go_wp2_with(first
       | (refine ZV R 186 _ R (w.heap.size+2) R 186 (xB f n 3) (0,0) _ (G.a 3) underlying186 rfl vI ?_)
       | (refine ZU R 186 _ _ R (w.heap.size+1) (xB f n 3) R R 186 (xB Zl 0 0) (m.a 3) vI R (xw _ _ _) ?_))
      exact ZS (v:=Zc (xB f n 3)) (Yp results112 _ _ (w.heap.size+1) 186 (xB f n 3) (0,0) _ R (Zt (m.a 3)) underlying186 rfl vI) R ⟨by rw[M.a],Gr.setRow (E.a 3) _ O _⟩
   .have en:Y (n=0):=X (by simpa using a1);clear c4 c5;cases f
    .skip;have M:Y (V=xB Zl n 2):=X (by rw[p.a];unfold yO;rw[qI en.a];rfl);clear p a;go_wp2_with(first
      | (refine ZV R 186 _ R (w.heap.size+2) R 186 (xB Zl n 2) (0,0) _ (G.a 2) underlying186 rfl vI ?_)
      | (refine ZU R 186 _ _ R (w.heap.size+1) (xB Zl n 2) R R 186 (xB Zl 0 0) (m.a 2) vI R (xw _ _ _) ?_))
     exact ZS (v:=Zc (xB Zl n 2)) (Yp results112 _ _ (w.heap.size+1) 186 (xB Zl n 2) (0,0) _ R (Zt (m.a 2)) underlying186 rfl vI) R ⟨by rw[M.a],Gr.setRow (E.a 2) _ O _⟩
    .skip;have M:Y (V=xB Zk n 1):=X (by rw[p.a];unfold yO;rw[qI en.a];rfl);clear p a;go_wp2_with(first
      | (refine ZV R 186 _ R (w.heap.size+2) R 186 (xB Zk n 1) (0,0) _ (G.a 1) underlying186 rfl vI ?_)
      | (refine ZU R 186 _ _ R (w.heap.size+1) (xB Zk n 1) R R 186 (xB Zl 0 0) (m.a 1) vI R (xw _ _ _) ?_))
     exact ZS (v:=Zc (xB Zk n 1)) (Yp results112 _ _ (w.heap.size+1) 186 (xB Zk n 1) (0,0) _ R (Zt (m.a 1)) underlying186 rfl vI) R ⟨by rw[M.a],Gr.setRow (E.a 1) _ O _⟩
section
variable {z:I2}{wh:Bool}{fc:I5}{b:Int}{i f t cs:Nat}{u:UInt8}
end
section
variable {z:I2}{wh:Bool}{fc:I5}{b:Int}
end
section
variable {z:I2}{wh:Bool}{fc:I5}{b:Int}{i f t cs:Nat}{u:UInt8}
end
section
variable {z:I2}{wh:Bool}{fc:I5}{b h g:Int}
end
section
variable {z:I2}{wh:Bool}{fc:I5}{b h g:Int}{PA:I0}
end
def qA(A:I0)(d n:Int):I0:=A++#[I L d,I L n]
def svN(g n:Nat):I7:=Zq (S ⟨g,0,N⟩) n n
structure Mq(g n:Nat)(Q:I0)(b2 b3:Nat)(w W:I6):Prop where
 m:W.heap[b2]?=S (Z #[svN g n] 56)
 q:W.heap[b3]?=S (Z Q 117)
 gr:Gr w W
theorem Mq.next{Q:I0}{b:Nat}(h:Mq g n Q b d w W)(k:Gr W a):Mq g n Q b d w a:=⟨(Zz k (xe h.m)).trans h.m,(Zz k (xe h.q)).trans h.q,Gr.trans h.gr k⟩
theorem Mq.c{Q:I0}{a b:Nat}(h:Mq g n Q a b w W):W.cell? ⟨a,0,N⟩=S (svN g n):=by rw[qn h.m];rfl
structure Ms(g n:Nat)(Q S:I0)(b2 b3:Nat)(w W:I6):Prop where
 mq:Mq g n Q b2 b3 w W
 s:W.heap[g]?=some (Z S 168)
theorem Ms.next{Q S:I0}{b:Nat}(h:Ms g n Q S b d w W)(k:Gr W a):Ms g n Q S b d w a:=⟨h.mq.next k,(Zz k (xe h.s)).trans h.s⟩
theorem Ms.put{Q S:I0}{a b:Nat}(h:Ms g n Q S a b w W)(e:B≠g)(f:B≠a)(i:B≠b)(d:w.heap.size<=B)(j:I0):Ms g n Q S a b w (W.setRow B j) :=
 ⟨⟨by rw[Zu O];exact h.mq.m,by rw[Zu O];exact h.mq.q,h.mq.gr.setRow _ d _⟩,by rw[Zu O];exact h.s⟩
def xA(f:Nat):UInt8:=UInt8.ofNat (97+f%8)
def xI(f:Nat):UInt8:=UInt8.ofNat (49+f/8)
theorem zF(f:Nat):xQ f=[xA f,xI f]:=R
def vz(c:UInt8):UInt8:=if 97<=c/\c<=122 then c-32 else c
def kX(i:Nat):UInt8:=[80,78,66,82,81,75].getD i 0
def jX(M:List Mv)(z:I2)(f t:Nat):List Mv:=M.filter λy=>Zm (y.2.1=t)&&!decide (y.1=f)&&Zm (z y.1=z f)
def iT(L:List Mv)(f:Nat):I1 :=
 if L.isEmpty=Zk then[]else if L.all (λy=>!decide (y.1%8=f%8))=Zk then[xA f]else if L.all (λy=>!decide (y.1/8=f/8))=Zk then[xI f]else xQ f
def z7(f t:Nat)(u:UInt8):I1:=(if f%8=t%8 then[]else[xA f,120])++xQ t++(if u=0 then[]else[61,vz u])
def zQ(M:List Mv)(z:I2)(f t:Nat):I1:=vz (z f) :: (iT (jX M z f t) f++(if z t=46 then[]else[120])++xQ t)
def jR(M:List Mv)(z:I2)(x:Mv):I1 :=
 if jA (z x.1)=Zk/\x.2.1=x.1+2 then[79,45,79]else if jA (z x.1)=Zk/\x.2.1+2=x.1 then[79,45,79,45,79]
 else if jD (z x.1)=Zk then z7 x.1 x.2.1 x.2.2 else zQ M z x.1 x.2.1
theorem oQ:∀c:UInt8,Lib.upperB c=vz c:=by have:∀n,n<256->Lib.upperB (UInt8.ofNat n)=vz (UInt8.ofNat n):=WS;intro c;have:=this c.toNat (by have:=c.toNat_lt;omega);rwa[UInt8.ofNat_toNat]at this
theorem gV(c:UInt8)(l:c.toNat<128)(w:I6):ZL 202 #[I Zg c.toNat] w (Zb (xJ [vz c])):=by
 have a:=qq4 (w.alloc (Z #[I Zg c.toNat] 5)) ⟨w.heap.size,0,N⟩ 1 [c] (by
  intro i n;rw[X2,Z2,Z8 _ _ _ _ R];have:i=0:=by simp at n;omega
  subst this;rfl)
 have g:(convert 145 9 (Zq (S ⟨w.heap.size,0,N⟩) 1 1)).run prog (w.alloc (Z #[I Zg c.toNat] 5))=.ok (Zb ⟨#[c]⟩) (w.alloc (Z #[I Zg c.toNat] 5)):=a;have f:Y (∀W,ZL 250 #[Zb ⟨#[c]⟩] W (Zb (xJ [vz c]))):=X λW=>(Tryz.strings_ToUpper_ascii ⟨#[c]⟩ W (by show 1<=_;decide) (by
  intro j b h;have o:j=0:=by have:=(Z5.1 h).1;simp at this;omega
  subst o;have:c=b:=qP h;rw[<-this];exact l)).mono λe w' k=>⟨by rw[k.1];show Ending.returned (Zb ⟨[Lib.upperB c].toArray⟩)=_;rw[oQ];rfl,k.2⟩
 clear a;have d:=X ((Gr.refl w).alloc #[I Zg c.toNat] 5);go_enter func202,ntmps202;go_wp2_with(go_at_call 250;refine Z0 (f.a _) λw' m=>?_);go_ret;exact⟨R,Gr.trans d.a m⟩
theorem qxp(n:Nat)(h:n<64)(w:I6):ZL 69 #[I L n] w (Zb (xJ [xA n,xI n])):=(gI n h w).mono λ_ _ k=>⟨k.1,k.2.gr⟩
theorem xb(x y:I1)(h:x.length+y.length<=100)(W:I6):(Op.stringOp .add (xJ x) (xJ y)).run prog W=.ok (Zb (xJ (x++y))) W:=by
 rw[<-F6];exact Xy W _ _ (by
  have a:(xJ x).size=x.length:=by show x.toArray.size=_;simp
  have b:(xJ y).size=y.length:=by show y.toArray.size=_;simp
  rw[a,b];exact q7 h WW)
theorem dS(f t:Nat)(V:f<64)(a9:t<64)(u:UInt8)(b0:u.toNat<128)(w:I6):ZL 122 #[Zc (ZJ f t u)] w (Zb (xJ (z7 f t u))):=by
 have m:=X (λW=>qxp f V W);have v:=X (λW=>qxp t a9 W);have r:=X (λW=>gV u b0 W);have k:Y (∀w',Gr (w.alloc (Z (ZJ f t u) 87)) w'->_):=X (λw' g=>(sO g).2);have z:=X ((Gr.refl w).alloc (ZJ f t u) 87);go_enter func122,ntmps122;go_upto_region 1 with fail;generalize w.alloc (Z (ZJ f t u) 87)=w1 at k z |-;obtain⟨c0,c1,c2⟩:=k.a _ ZO;go_upto_region 2 with(go_at_call 69;refine Z0 (v.a _) λw2 n=>?_);obtain⟨d0,d1,d2⟩:=k.a _ n;clear c0 c1 c2;have i:=X (Gr.trans z.a n);have o:=X n;have J:=X (λW=>xb [xA f] [120] WU W);have B:=X (λW=>xb ([xA f]++[120]) [xA t,xI t] WU W);have K:=X (λW=>xb [61] [vz u] WU W);have C:=X (λW=>xb [xA t,xI t] ([61]++[vz u]) WU W);have D:=X (λW=>xb ([xA f]++[120]++[xA t,xI t]) ([61]++[vz u]) WU W);have Q:(xJ [xA f,xI f]).extract 0 1=xJ [xA f]:=R;have sz:(xJ [xA f,xI f]).size=2:=R;have E:Y (f%8=t%8->u=0->xJ (z7 f t u)=xJ [xA t,xI t]):=X (λa b=>by unfold z7;rw[qI a,qI b];rfl);have F:Y (f%8=t%8->u≠0->xJ (z7 f t u)=xJ ([xA t,xI t]++([61]++[vz u]))):=X (λa b=>by unfold z7;rw[qI a,qF b];rfl);have G:Y (f%8≠t%8->u=0->xJ (z7 f t u)=xJ ([xA f]++[120]++[xA t,xI t])):=X (λa b=>by unfold z7;rw[qF a,qI b];rfl);have H:Y (f%8≠t%8->u≠0->xJ (z7 f t u)=xJ ([xA f]++[120]++[xA t,xI t]++([61]++[vz u]))):=X (λa b=>by unfold z7;rw[qF a,qF b];rfl);generalize xJ ([xA f]++[120]++[xA t,xI t]++([61]++[vz u]))=S5 at D H;generalize xJ ([xA f]++[120]++[xA t,xI t])=P at B D G;generalize xJ ([xA t,xI t]++([61]++[vz u]))=b1 at C F;generalize xJ ([xA f]++[120])=a6 at J B;generalize xJ ([61]++[vz u])=a5 at K C D;generalize xJ [vz u]=T at K r;generalize xJ [xA f,xI f]=NF at Q sz m;generalize xJ [xA f]=a8 at Q J;generalize xJ [xA t,xI t]=a7 at B C E v |-;have b2:∀W,(Op.stringOp .add a8 ⟨#[120]⟩).run prog W=.ok (Zb a6) W:=J.a;have a0:∀W,(Op.stringOp .add a6 a7).run prog W=.ok (Zb P) W:=B.a;have a1:∀W,(Op.stringOp .add ⟨#[61]⟩ T).run prog W=.ok (Zb a5) W:=K.a;have a2:∀W,(Op.stringOp .add a7 a5).run prog W=.ok (Zb b1) W:=C.a;have a3:∀W,(Op.stringOp .add P a5).run prog W=.ok (Zb S5) W:=D.a;clear J B K C D v n;have A:u=0\/((u.toNat:Int) != 0)=Zk:=by
  by_cases e:u=0
  .exact Zi e
  .exact Zj (qU.2 (λq=>e (q6.1 Ul)))
 by_cases a4:f%8=t%8
 .have M:(f:Int)%8=t%8:=O;clear G H m;obtain d|d:=A
  .have h:=X (E.a a4 d);subst d;clear E F r;go_wp2_with fail;go_ret;exact⟨by rw[h.a];rfl,i.a⟩
  .have l:u≠0:=λq=>by rw[q]at d;cases d
   have h:=X (F.a a4 l);clear E F l;go_upto_region 6 with(go_at_call 202;refine Z0 (r.a _) λw4 j=>?_);have y:=X (Gr.trans i.a j);clear j r;go_wp2_with fail;go_ret;exact⟨by rw[h.a];rfl,y.a⟩
 .have M:¬ (f:Int)%8=t%8:=O;clear E F;go_upto_region 4 with(go_at_call 69;refine Z0 (m.a _) λw3 x=>?_);obtain⟨k0,k1,k2⟩:=k.a _ (Gr.trans o.a x);have p:=X (Gr.trans i.a x);clear x m k o;obtain d|d:=A
  .have h:=X (G.a a4 d);subst d;clear G H r;go_wp2_with fail;go_ret;exact⟨by rw[h.a];rfl,p.a⟩
  .have l:u≠0:=λq=>by rw[q]at d;cases d
   have h:=X (H.a a4 l);clear G H l;go_upto_region 6 with(go_at_call 202;refine Z0 (r.a _) λw4 j=>?_);have y:=X (Gr.trans p.a j);clear j r;go_wp2_with fail;go_ret;exact⟨by rw[h.a];rfl,y.a⟩
theorem bS{P:Program}{row:String}{args:I0}{R:I7->I6->Prop}(h:Rows P row args w R):RowsIn Fence.wide n P row args w R:=λc cs _ =>
 let ⟨v,w',r,s⟩:=h c cs
 ⟨v,w',r,stepsIn_wide.2 s⟩
theorem li{P:Program}{b:Array Oper}{Q:Exit->Act->I6->Prop}{K j:Act->I6->Prop}{a:Act}(q:¬ LetsOut Q)(u:∀o c,b[i]?=S o->o.op≠.defer c)(hK:∀a w,K a w->j a w)(h:wpOp P b Q i K a w):wpOpIn (Fence.wide.inRound l) n P b Q i j a w:=by
 unfold wpOp at h;unfold wpOpIn;cases k:b[i]? with
 | none=>rw[k]at h;exact hK _ _ h
 | some o =>
  rw[k]at h;simp only at h |-;split
  .rename_i m;simp only[m,YS]at h;obtain h|⟨_,h⟩:=h
   case inr=>exact absurd h q
   refine⟨λ_ _=>trivial,?_⟩;show Oper.uponIn (Fence.wide.inRound l) n P o a j Q (Sem.run P (Oper.semAt (S l) a.eval o) w);rw[Oper.semAt_some l _ o (λc=>u o c k)];unfold Oper.wp at h;generalize (execOp a.eval o).run P w=r at h;cases r with
   | ok x w' =>
    cases x<;>simp only[Oper.upon]at h
    case value v=>exact hK _ _ h
    case skip=>exact hK _ _ h
    case defer d=>exact hK _ _ h
    case enter f args =>
     refine⟨λh=>Ub,Xe l (ZY.2 (Calls.mono h λe p g=>?_))⟩;cases e with
     | returned v=>exact hK _ _ g
     | panicked c=>exact g
     | outgrown=>exact g
    case row row args=>exact⟨λh=>Ub,bS (Rows.mono h λv p g=>hK _ _ g)⟩
   | halt x w' =>
    cases x<;>simp only[Oper.upon]at h
    case panic v=>exact h
  .rename_i m;simp only[m]at h;exact⟨λ_ _=>trivial,hK _ _ h⟩
theorem qz4{P:Program}{e:Array Oper}{Q:Exit->Act->I6->Prop}{j:Region.Mode}(f:¬ LetsOut Q)(g:∀(i:Nat)(o:Oper)(c:Call),e[i]?=S o->o.op≠.defer c):∀(b:Nat)(d:Array Bool)(a:Act)(w:I6),wpAny P j e Q b d a w->wpAnyIn (Fence.wide.inRound l) n P j e Q b d a w
 | 0,_,_,_,h=>h
 | b+1,_,_,_,h=>⟨h.1,λi k=>li f (g i) (qz4 f g b _) (h.2 i k)⟩
def iz(o:Oper):Bool:=match o.op with
 | .defer _=>Zl
 | _=>Zk
theorem jf{P:Program}{b:Array Oper}{Q:Exit->Act->I6->Prop}{S:I6->Prop}{m:Nat}{a:Act}(j:P.follows .mixedOrders=Zk)(d:¬ LetsOut Q)(g:b.toList.all iz=Zk)(e:S w.drew)
 (h:S w.drew->wpAnyH P .any b Q S b.size (Array.replicate b.size Zl) a w.drew):(Code.region m b Zk).wpIn (Fence.wide.inRound l) n P Q a w:=by refine wpIn_region_any j (qz4 d (λi o c k f=>?_) _ _ _ _ (wpAny_of_held _ _ _ _ (h e)));have:=qW.1 g o (by have:=Wm (show b.toList[i]?=some o by rw[qO];exact k);exact this);rw[iz,f]at this;cases this
def wh3(a c d:Bool)(f:Nat):I1:=if a=Zl then[]else if c=Zl then[xA f]else if d=Zl then[xI f]else[xA f,xI f]
theorem C0(L:List Mv)(f:Nat):iT L f=wh3 (!L.isEmpty) (L.any λy=>Zm (y.1%8=f%8)) (L.any λy=>Zm (y.1/8=f/8)) f:=by
 have h:∀p:Mv->Bool,(L.all (λy=>!p y)=Zk)↔(L.any p=Zl):=λp=>by rw[qW,XD];simp
 unfold iT wh3;simp only[h,Bool.not_eq_false'];rfl
theorem eo{a:List Mv}{t:Nat}{y:Mv}(h:¬ (y.2.1=t/\y.1≠f/\z y.1=z f)):jX (a++[y]) z f t=jX a z f t:=by grind[jX]
theorem BL{a:List Mv}{t:Nat}{y:Mv}(h:y.2.1=t/\y.1≠f/\z y.1=z f):jX (a++[y]) z f t=jX a z f t++[y]:=by grind[jX]
structure W4(Bx b0 y1 y2 f t:Nat)(Z1 Zf:Int)(W:I6):Prop where
 a0:W.cell? ⟨Bx,0,N⟩=S (I L y1)
 a1:W.cell? ⟨Bx,1,N⟩=S (I L y2)
 m0:W.cell? ⟨b0+1+1,0,N⟩=S (I L f)
 m1:W.cell? ⟨b0+1+1,1,N⟩=S (I L t)
 q1:W.cell? ⟨b0+1,y1,N⟩=S (I Zg Z1)
 q2:W.cell? ⟨b0+1,f,N⟩=S (I Zg Zf)
structure Wq(w:I6)(S0 b0:Nat)(PA M:I0)(a c d:Bool)(V:I6):Prop where
 pa:V.heap[b0+1]?=S (Z PA 70)
 mv:V.heap[b0+1+1]?=S (Z M 87)
 o:V.heap[b0+1+1+1]?=S (Z #[Za a] 4)
 fl:V.heap[b0+1+1+1+1]?=S (Z #[Za c] 4)
 rk:V.heap[b0+1+1+1+1+1]?=S (Z #[Za d] 4)
 gr:Gr w V
 sz:S0<=V.heap.size
theorem Wq.same{a c d:Bool}{V':I6}(h:Wq w f e PA M a c d V)(g:Gr w V')(i:V.heap.size<=V'.heap.size)(b:∀k o,k<e+6->V.heap[k]?=S o->V'.heap[k]?=S o):Wq w f e PA M a c d V' :=
 ⟨b _ _ O h.pa,b _ _ O h.mv,b _ _ O h.o,b _ _ O h.fl,b _ _ O h.rk,g,q7 h.sz i⟩
theorem Wq.drew{b:Nat}{a c d:Bool}(h:Wq w b e PA M a c d V):Wq w b e PA M a c d V.drew:=⟨h.pa,h.mv,h.o,h.fl,h.rk,h.gr.drew,h.sz⟩
theorem Wq.setO{b:Nat}{a c d:Bool}(f:b=w.heap.size)(h:Wq w e b PA M a c d V)(v:Bool):Wq w e b PA M v c d (V.setCell ⟨b+1+1+1,0,N⟩ (Za v)):=by
 refine⟨?_,?_,jm h.o,?_,?_,Yr h.gr (show w.heap.size<=b+1+1+1 from O) _,U3⟩;all_goals rw[Yg _ _ _ _ U4]
 .exact h.pa
 .exact h.mv
 .exact h.fl
 .exact h.rk
theorem Wq.setF{b:Nat}{a c d:Bool}(f:b=w.heap.size)(h:Wq w e b PA M a c d V)(v:Bool):Wq w e b PA M a v d (V.setCell ⟨b+1+1+1+1,0,N⟩ (Za v)):=by
 refine⟨?_,?_,?_,jm h.fl,?_,Yr h.gr (show w.heap.size<=b+1+1+1+1 from O) _,U3⟩;all_goals rw[Yg _ _ _ _ U4]
 .exact h.pa
 .exact h.mv
 .exact h.o
 .exact h.rk
theorem Wq.setR{b:Nat}{a c d:Bool}(f:b=w.heap.size)(h:Wq w e b PA M a c d V)(v:Bool):Wq w e b PA M a c v (V.setCell ⟨b+1+1+1+1+1,0,N⟩ (Za v)):=by
 refine⟨?_,?_,?_,?_,jm h.rk,Yr h.gr (show w.heap.size<=b+1+1+1+1+1 from O) _,U3⟩;all_goals rw[Yg _ _ _ _ U4]
 .exact h.pa
 .exact h.mv
 .exact h.o
 .exact h.fl
theorem oK(w:I6)(PA M:I0):Wq w 0 w.heap.size PA M Zl Zl Zl ((((((w.alloc (Z jP 74)).alloc (Z PA 70)).alloc (Z M 87)).alloc (Z #[Za Zl] 4)).alloc (Z #[Za Zl] 4)).alloc (Z #[Za Zl] 4)):=by have g:Gr w ((((((w.alloc (Z jP 74)).alloc (Z PA 70)).alloc (Z M 87)).alloc (Z #[Za Zl] 4)).alloc (Z #[Za Zl] 4)).alloc (Z #[Za Zl] 4)):=ZN.al.al.al.al.al;refine⟨?_,?_,?_,?_,?_,g,Nat.zero_le _⟩<;>(simp only[World.alloc,Array.getElem?_push,Array.size_push];simp)
theorem lj{g:Int}(r:jE z wh fc b h g PA)(k9:xO z=Zk)(h8:-1<=b)(h9:b<=63)(f t:Nat)(hf:f<64)(u:UInt8)(w:I6)(hT:jF w)(hC:jQ w) :
 ZL 203 #[Zc jP,Zc PA,Zc (ZJ f t u)] w (Zb (xJ (iT (jX (xC z wh fc b) z f t) f))):=by
 rw[C0];obtain⟨va,b7⟩:=Zn (!(jX (xC z wh fc b) z f t).isEmpty);obtain⟨vc,c4⟩:=Zn ((jX (xC z wh fc b) z f t).any λy=>Zm (y.1%8=f%8));obtain⟨vd,c5⟩:=Zn ((jX (xC z wh fc b) z f t).any λy=>Zm (y.1/8=f/8));rw[b7.a,c4.a,c5.a];have d3:∀x∈xC z wh fc b,bi x:=zg z wh fc b;have a6:=X (oK w PA (ZJ f t u));have a7:Y (((((((w.alloc (Z jP 74)).alloc (Z PA 70)).alloc (Z (ZJ f t u) 87)).alloc (Z #[Za Zl] 4)).alloc (Z #[Za Zl] 4)).alloc (Z #[Za Zl] 4)).heap.size=w.heap.size+6):=X WU;have a8:Y (((((((w.alloc (Z jP 74)).alloc (Z PA 70)).alloc (Z (ZJ f t u) 87)).alloc (Z #[Za Zl] 4)).alloc (Z #[Za Zl] 4)).alloc (Z #[Za Zl] 4)).cell? ⟨w.heap.size,1,N⟩=S (.func (.func 61) #[] #[])):=X (by have g1:Gr (w.alloc (Z jP 74)) ((((((w.alloc (Z jP 74)).alloc (Z PA 70)).alloc (Z (ZJ f t u) 87)).alloc (Z #[Za Zl] 4)).alloc (Z #[Za Zl] 4)).alloc (Z #[Za Zl] 4)):=ZN.al.al.al.al;have e1:=(YG g1 w.heap.size Vj).trans (ZQ w _);rw[Zs e1];rfl);have l0:=r.size;have d2:(prog.info? 70).map (·.size)=S PA.toList.length:=by rw[ZX,l0];exact jJ
 refine(ZY (n:=9)).1 ?_;refine callsIn_of_wp_marks func203 rfl trivial ?_ R;simp only[ntmps203,Nat.reduceAdd,Nat.reduceSub,Zr];refine Z9.2 ?_;go_upto_region 2 with fail;generalize ((((((w.alloc (Z jP 74)).alloc (Z PA 70)).alloc (Z (ZJ f t u) 87)).alloc (Z #[Za Zl] 4)).alloc (Z #[Za Zl] 4)).alloc (Z #[Za Zl] 4))=w0 at a6 a7 a8 |-;have c1:=a8.a;have f8:=a6.a.gr;have l2:=a7.a;go_wp2_with(first
  | (go_at_call 61;refine(zk PA _).mono ?_;rintro e a0 ⟨rfl,b6,b4⟩)
  | (refine ZV R 70 _ R (w.heap.size+1) R 70 PA (0,0) _ a6.a.pa underlying70 rfl (by rw[ZX]at d2;exact d2) ?_))
 have a5:=Gr.trans f8 b4;have b5:=qxq r k9 h8 h9 w0.heap.size (λ_=>False) (λ_ q=>q.elim) a0 b6 (hT.gr a5) (hC.gr a5);have h0:=ZR b4;have k0:=(qB.1 b6).1;have d4:Wq w a0.heap.size w.heap.size PA (ZJ f t u) Zl Zl Zl a0:=by have q:=a6.a.same (V':=a0) a5 h0 (λk o hk ho=>(ZE b4 ho));exact⟨q.pa,q.mv,q.o,q.fl,q.rk,q.gr,Zy⟩
 have n2:=hT.2;have n1:=hC.2;rw[l2]at b6 h0 k0 b5;clear a6 a7 a8 c1 f8 b4;refine Z9.1 (xj (n:=9) (gf:=128) (lb:=#[ZI (w.heap.size+6)]) R (YC func128 WR R) b5 (λ_ h=>h.elim) (by rintro k (rfl|rfl|rfl)<;>omega) ZP (λ_=>R)
  (λH V=>Wq w a0.heap.size w.heap.size PA (ZJ f t u) (!(jX H z f t).isEmpty) ((jX H z f t).any λy=>Zm (y.1%8=f%8)) ((jX H z f t).any λy=>Zm (y.1/8=f/8)) V)
  (λ_ _ _=>False)
  ?sI (λ_ _ _ _ h _=>h) d4 ?rnd ?done (λ_ _ _ _ _ _ h _=>h.elim))
 case sI=>exact λs A A' h q=>h.same (Below.trans h.gr (q.below (n:=w.heap.size) (ZR h.gr) (λk o hk=>Zi O))) q.size (λk o hk ho=>q.same _ _ ho (Zi O))
 case done=>
  rintro D V hD hV hK;have l:=(qi hV.o).1;have a2:=(qi hV.fl).1;have a3:=(qi hV.rk).1;obtain⟨x0,x1,x2⟩:=qm hV.mv;have k5:=X hV.gr;rw[b7.a]at l;rw[c4.a]at a2;rw[c5.a]at a3;have sz:(xJ [xA f,xI f]).size=2:=R;have m6:(xJ [xA f,xI f]).extract 0 1=xJ [xA f]:=R;have n0:(xJ [xA f,xI f]).extract 1 2=xJ [xI f]:=R;have hN:=X (λW=>qxp f hf W);have f5:Y (∀W,Gr V W->W.heap[D]?=S (.deferred (S []))/\Gr w W):=X λW gW=>⟨(ZE gW hK),Gr.trans k5.a gW⟩;clear hV b5 d4 hT hC r b6 b7 c4 c5;go_upto_region 9 with(go_at_call 69;refine Z0 (hN.a _) λw5 a4=>?_);obtain⟨n4,d1⟩:=f5.a _ a4;have b1:=(ZW a4 (Zx l)).trans l;have b2:=(ZW a4 (Zx a2)).trans a2;have b3:=(ZW a4 (Zx a3)).trans a3;clear l a2 a3 hN f5 a4 x0 x1 x2;have m1:=X d1;clear d1;cases va with
  | false =>
   go_wp2_with fail;refine⟨WU,Zi ⟨_,_,R,YU n4,?_⟩⟩;exact⟨_,Wh R _ _ _,R,Below.trans m1.a (XZ (w:=a0) (n₀:=w.heap.size) O _ D _ _ hD n4 R R)⟩
  | true =>
   cases vc with
   | false =>
    go_wp2_with fail;refine⟨WU,Zi ⟨_,_,R,YU n4,?_⟩⟩;exact⟨_,Wh R _ _ _,R,Below.trans m1.a (XZ (w:=a0) (n₀:=w.heap.size) O _ D _ _ hD n4 R R)⟩
   | true =>
    cases vd with
    | false =>
     go_wp2_with fail;refine⟨WU,Zi ⟨_,_,R,YU n4,?_⟩⟩;exact⟨_,Wh R _ _ _,R,Below.trans m1.a (XZ (w:=a0) (n₀:=w.heap.size) O _ D _ _ hD n4 R R)⟩
    | true =>
     go_wp2_with fail;refine⟨WU,Zi ⟨_,_,R,YU n4,?_⟩⟩;exact⟨_,Wh R _ _ _,R,Below.trans m1.a (XZ (w:=a0) (n₀:=w.heap.size) O _ D _ _ hD n4 R R)⟩
 case rnd=>
  rintro l1 H ⟨G,K,a1⟩ V l4 hx hV hl;have k8:l1<V.heap.size:=hl.elim λr hr=>(qB.1 hr).1;simp only[vr,gJ];gi_wp2;refine⟨ZP.alloc _,?_⟩;intro J f2 Q n3;have kx:J.heap[V.heap.size]?=S (Z (ZJ G K a1) 87):=f2.same _ _ (ZQ V _) O;have h4:=hV.sz;generalize V.heap.size=M at kx k8 h4 |-;clear hV f2;have f9:=d3 _ (hx.subset (List.mem_append_right _ (qT.2 R)));have h1:G<64:=f9.1;have P:Y (W4 M w.heap.size G K f t ((z G).toNat:Int) ((z f).toNat:Int) J.drew):=X ⟨(qm (show J.drew.heap[M]?=_ from kx)).1,(qm (show J.drew.heap[M]?=_ from kx)).2.1,(qm (show J.drew.heap[w.heap.size+1+1]?=_ from Q.mv)).1,(qm (show J.drew.heap[w.heap.size+1+1]?=_ from Q.mv)).2.1,by rw[Zs (show J.drew.heap[w.heap.size+1]?=_ from Q.pa)];exact r.sq G h1,by rw[Zs (show J.drew.heap[w.heap.size+1]?=_ from Q.pa)];exact r.sq f hf⟩;have n5:z G=z f↔((z G).toNat:Int)=((z f).toNat:Int):=⟨λq=>by rw[q],λq=>q6.1 O⟩;have m1:Y (∀W a c d,Wq w a0.heap.size w.heap.size PA (ZJ f t u) a c d W->Fr (λk _=>k≠w.heap.size+1+1+1/\k≠w.heap.size+1+1+1+1/\k≠w.heap.size+1+1+1+1+1) J W->a=(!(jX (H++[(G,K,a1)]) z f t).isEmpty)->c=((jX (H++[(G,K,a1)]) z f t).any λy=>Zm (y.1%8=f%8))->d=((jX (H++[(G,K,a1)]) z f t).any λy=>Zm (y.1/8=f/8)) →
   Fr (jM a0.heap.size (λ_=>False) (λk=>k=w.heap.size+6\/k=2\/k=3)) J W/\Wq w a0.heap.size w.heap.size PA (ZJ f t u) (!(jX (H++[(G,K,a1)]) z f t).isEmpty) ((jX (H++[(G,K,a1)]) z f t).any λy=>Zm (y.1%8=f%8)) ((jX (H++[(G,K,a1)]) z f t).any λy=>Zm (y.1/8=f/8)) W):=X (λW a c d hW hF e1 e2 e3=>by
   subst e1 e2 e3;refine⟨hF.mono ?_,hW⟩;rintro k o-(q|q)
   .rcases q with q|q|q<;>omega
   .have:=q.1;omega)
  have a9:=X Q;have l5:¬ (64<=(G:Int)):=O;have m2:¬ (64<=(f:Int)):=O;obtain⟨oc,f3⟩:=Zn ((jX H z f t).any λy=>Zm (y.1%8=f%8));obtain⟨od,f4⟩:=Zn ((jX H z f t).any λy=>Zm (y.1/8=f/8));obtain⟨T,f0⟩:=Zn (oc||decide (G%8=f%8));obtain⟨nd,f1⟩:=Zn (od||decide (G/8=f/8));have b0:Wq w a0.heap.size w.heap.size PA (ZJ f t u) (!(jX H z f t).isEmpty) oc od J.drew:=by rw[<-f3.a,<-f4.a];exact Q.drew
  have n7:=b0.setO R Zk;have p0:=n7.setF R T;have f7:=X (p0.setR R nd);have k3:(J.drew.setCell ⟨w.heap.size+1+1+1,0,N⟩ (Za Zk)).heap[M]?=S (Z (ZJ G K a1) 87):=by rw[Yg _ _ _ _ WX];exact kx
  have k4:((J.drew.setCell ⟨w.heap.size+1+1+1,0,N⟩ (Za Zk)).setCell ⟨w.heap.size+1+1+1+1,0,N⟩ (Za T)).heap[M]?=S (Z (ZJ G K a1) 87):=by rw[Yg _ _ _ _ WX];exact k3
  obtain⟨oa,g9⟩:∃oa,J.drew.cell? ⟨w.heap.size+1+1+1,0,N⟩=S (Za oa):=⟨_,(qi b0.o).1⟩;have g0:J.drew.frozen? ⟨w.heap.size+1+1+1,0,N⟩=Zl:=(qi b0.o).2;have g1:((J.setCell ⟨w.heap.size+1+1+1,0,N⟩ (Za Zk)).drew).cell? ⟨w.heap.size+1+1+1+1,0,N⟩=S (Za oc):=(qi n7.fl).1;have g2:((J.setCell ⟨w.heap.size+1+1+1,0,N⟩ (Za Zk)).drew).frozen? ⟨w.heap.size+1+1+1+1,0,N⟩=Zl:=(qi n7.fl).2;have g3:(((J.setCell ⟨w.heap.size+1+1+1,0,N⟩ (Za Zk)).setCell ⟨w.heap.size+1+1+1+1,0,N⟩ (Za T)).drew).cell? ⟨w.heap.size+1+1+1+1+1,0,N⟩=S (Za od):=(qi p0.rk).1;have g4:(((J.setCell ⟨w.heap.size+1+1+1,0,N⟩ (Za Zk)).setCell ⟨w.heap.size+1+1+1+1,0,N⟩ (Za T)).drew).frozen? ⟨w.heap.size+1+1+1+1+1,0,N⟩=Zl:=(qi p0.rk).2;have g5:((J.setCell ⟨w.heap.size+1+1+1,0,N⟩ (Za Zk)).drew).cell? ⟨M,0,N⟩=S (I L G):=(qm k3).1;have g6:(((J.setCell ⟨w.heap.size+1+1+1,0,N⟩ (Za Zk)).setCell ⟨w.heap.size+1+1+1+1,0,N⟩ (Za T)).drew).cell? ⟨M,0,N⟩=S (I L G):=(qm k4).1;have g7:((J.setCell ⟨w.heap.size+1+1+1,0,N⟩ (Za Zk)).drew).cell? ⟨w.heap.size+1+1,0,N⟩=S (I L f):=(qm n7.mv).1;have g8:(((J.setCell ⟨w.heap.size+1+1+1,0,N⟩ (Za Zk)).setCell ⟨w.heap.size+1+1+1+1,0,N⟩ (Za T)).drew).cell? ⟨w.heap.size+1+1,0,N⟩=S (I L f):=(qm p0.mv).1;have d0:Y (Wq w a0.heap.size w.heap.size PA (ZJ f t u) Zk T nd ((((J.setCell ⟨w.heap.size+1+1+1,0,N⟩ (Za Zk)).setCell ⟨w.heap.size+1+1+1+1,0,N⟩ (Za T)).setCell ⟨w.heap.size+1+1+1+1+1,0,N⟩ (Za nd)).drew)):=X (show Wq w a0.heap.size w.heap.size PA (ZJ f t u) Zk T nd (((J.drew.setCell ⟨w.heap.size+1+1+1,0,N⟩ (Za Zk)).setCell ⟨w.heap.size+1+1+1+1,0,N⟩ (Za T)).setCell ⟨w.heap.size+1+1+1+1+1,0,N⟩ (Za nd))from f7.a);have f6:Y (Fr (λk _=>k≠w.heap.size+1+1+1/\k≠w.heap.size+1+1+1+1/\k≠w.heap.size+1+1+1+1+1) J ((((J.setCell ⟨w.heap.size+1+1+1,0,N⟩ (Za Zk)).setCell ⟨w.heap.size+1+1+1+1,0,N⟩ (Za T)).setCell ⟨w.heap.size+1+1+1+1+1,0,N⟩ (Za nd)).drew)):=X (Fr.drew ((((Fr.refl _ J).setCell _ (λo _ q=>q.1 R)).setCell _ (λo _ q=>q.2.1 R)).setCell _ (λo _ q=>q.2.2 R)));clear f7;clear b0 n7 p0 k3 k4;have l3:∀n:Nat,IntKind.i64.wrap (n:Int)=IntKind.i64.wrap (n:Int):=λ_=>R;generalize h6:((z G).toNat:Int)=Z1 at P n5;generalize h7:((z f).toNat:Int)=Zf at P n5;clear Q kx hx b5 d4 b7 c4 c5 d3 r hT hC h6 h7 l3 hf h1;by_cases hA:K=t
  .have h2:(K:Int)=t:=O;by_cases hB:G=f
   .have h3:(G:Int)=f:=O;have m0:Y (jX (H++[(G,K,a1)]) z f t=jX H z f t):=X (eo λq=>q.2.1 hB);clear n5;gi_wp2;refine jf (S:=W4 M w.heap.size G K f t Z1 Zf) WR (λ⟨_,_,h⟩=>h) WR P.a (λj=>?_);refine ZB 0 (.pointer (S ⟨M,1,N⟩)) R (λw i=>WV) j ?_;refine ZB 1 (I L K) R (λw i=>WV) j ?_;refine ZB 2 (.pointer (S ⟨w.heap.size+1+1,1,N⟩)) R (λw i=>WV) j ?_;refine ZB 3 (I L t) R (λw i=>WV) j ?_;refine ZB 4 (Za Zk) R (λw i=>WV) j ?_;refine ZB 5 (Za Zk) R (λw i=>WV) j ?_;refine ZB 6 (ZI M) R (λw i=>WV) j ?_;refine ZB 7 (I L G) R (λw i=>WV) j ?_;refine ZB 8 (ZI (w.heap.size+1+1)) R (λw i=>WV) j ?_;refine ZB 9 (I L f) R (λw i=>WV) j ?_;refine ZB 10 (Za Zl) R (λw i=>WV) j ?_;exact WL
   .have h3:¬ (G:Int)=f:=O;by_cases hZ:z G=z f
    .have h5:=n5.1 hZ;have c6:Y (jX (H++[(G,K,a1)]) z f t=jX H z f t++[(G,K,a1)]):=X (BL ⟨hA,hB,hZ⟩);clear n5;gi_wp2;refine jf (S:=W4 M w.heap.size G K f t Z1 Zf) WR (λ⟨_,_,h⟩=>h) WR P.a (λj=>?_);refine ZB 0 (.pointer (S ⟨M,1,N⟩)) R (λw i=>WV) j ?_;refine ZB 1 (I L K) R (λw i=>WV) j ?_;refine ZB 2 (.pointer (S ⟨w.heap.size+1+1,1,N⟩)) R (λw i=>WV) j ?_;refine ZB 3 (I L t) R (λw i=>WV) j ?_;refine ZB 4 (Za Zk) R (λw i=>WV) j ?_;refine ZB 5 (Za Zk) R (λw i=>WV) j ?_;refine ZB 6 (ZI M) R (λw i=>WV) j ?_;refine ZB 7 (I L G) R (λw i=>WV) j ?_;refine ZB 8 (ZI (w.heap.size+1+1)) R (λw i=>WV) j ?_;refine ZB 9 (I L f) R (λw i=>WV) j ?_;refine ZB 10 (Za Zk) R (λw i=>WV) j ?_;refine ZB 11 (Za Zk) R (λw i=>WV) j ?_;refine ZB 12 (Za Zk) R (λw i=>WV) j ?_;refine ZB 13 (ZI M) R (λw i=>WV) j ?_;refine ZB 14 (I L G) R (λw i=>WV) j ?_;refine ZB 15 (ZI (w.heap.size+1)) R (λw i=>WV) j ?_;refine ZB 16 (.pointer (S ⟨w.heap.size+1,G,N⟩)) R (λw i=>WV) j ?_;refine ZB 17 (I Zg Z1) R (λw i=>WV) j ?_;refine ZB 18 (ZI (w.heap.size+1+1)) R (λw i=>WV) j ?_;refine ZB 19 (I L f) R (λw i=>WV) j ?_;refine ZB 20 (ZI (w.heap.size+1)) R (λw i=>WV) j ?_;refine ZB 21 (.pointer (S ⟨w.heap.size+1,f,N⟩)) R (λw i=>WV) j ?_;refine ZB 22 (I Zg Zf) R (λw i=>WV) j ?_;refine ZB 23 (Za Zk) R (λw i=>WV) j ?_;refine ZB 24 (Za Zk) R (λw i=>WV) j ?_;refine ZZ WR ?_ _;have k1:(oc=Zk/\T=Zk)\/(oc=Zl/\((G:Int)%8==(f:Int)%8)=Zk/\T=Zk)\/(oc=Zl/\((G:Int)%8==(f:Int)%8)=Zl/\T=Zl):=by
      have:=f0.a;cases oc
      .by_cases q:G%8=f%8
       .exact Zj (Zi ⟨R,UP,Tr⟩)
       .exact Zj (Zj ⟨R,Vp,Tr⟩)
      .exact Zi ⟨R,by rw[<-this];rfl⟩
     have k2:(od=Zk/\nd=Zk)\/(od=Zl/\((G:Int)/8==(f:Int)/8)=Zk/\nd=Zk)\/(od=Zl/\((G:Int)/8==(f:Int)/8)=Zl/\nd=Zl):=by
      have:=f1.a;cases od
      .by_cases q:G/8=f/8
       .exact Zj (Zi ⟨R,UP,Tr⟩)
       .exact Zj (Zj ⟨R,Vp,Tr⟩)
      .exact Zi ⟨R,by rw[<-this];rfl⟩
     have d5:=X (m1.a _ _ _ _ d0.a f6.a (by rw[c6.a];cases jX H z f t<;>rfl) (by rw[c6.a,List.any_append,f3.a,<-f0.a];simp) (by rw[c6.a,List.any_append,f4.a,<-f1.a];simp));clear c6 m1 d0 f6 a9 f3 f4 f0 f1 j P;rcases k1 with⟨rfl,rfl⟩|⟨rfl,e6,rfl⟩|⟨rfl,e6,rfl⟩<;>obtain⟨rfl,rfl⟩|⟨rfl,e7,rfl⟩|⟨rfl,e7,rfl⟩:=k2;all_goals
      gi_wp2;exact d5.a
    .have h5:¬ Z1=Zf:=λq=>hZ (n5.2 q);have m0:Y (jX (H++[(G,K,a1)]) z f t=jX H z f t):=X (eo λq=>hZ q.2.2);clear n5;gi_wp2;refine jf (S:=W4 M w.heap.size G K f t Z1 Zf) WR (λ⟨_,_,h⟩=>h) WR P.a (λj=>?_);refine ZB 0 (.pointer (S ⟨M,1,N⟩)) R (λw i=>WV) j ?_;refine ZB 1 (I L K) R (λw i=>WV) j ?_;refine ZB 2 (.pointer (S ⟨w.heap.size+1+1,1,N⟩)) R (λw i=>WV) j ?_;refine ZB 3 (I L t) R (λw i=>WV) j ?_;refine ZB 4 (Za Zk) R (λw i=>WV) j ?_;refine ZB 5 (Za Zk) R (λw i=>WV) j ?_;refine ZB 6 (ZI M) R (λw i=>WV) j ?_;refine ZB 7 (I L G) R (λw i=>WV) j ?_;refine ZB 8 (ZI (w.heap.size+1+1)) R (λw i=>WV) j ?_;refine ZB 9 (I L f) R (λw i=>WV) j ?_;refine ZB 10 (Za Zk) R (λw i=>WV) j ?_;refine ZB 11 (Za Zk) R (λw i=>WV) j ?_;refine ZB 12 (Za Zk) R (λw i=>WV) j ?_;refine ZB 13 (ZI M) R (λw i=>WV) j ?_;refine ZB 14 (I L G) R (λw i=>WV) j ?_;refine ZB 15 (ZI (w.heap.size+1)) R (λw i=>WV) j ?_;refine ZB 16 (.pointer (S ⟨w.heap.size+1,G,N⟩)) R (λw i=>WV) j ?_;refine ZB 17 (I Zg Z1) R (λw i=>WV) j ?_;refine ZB 18 (ZI (w.heap.size+1+1)) R (λw i=>WV) j ?_;refine ZB 19 (I L f) R (λw i=>WV) j ?_;refine ZB 20 (ZI (w.heap.size+1)) R (λw i=>WV) j ?_;refine ZB 21 (.pointer (S ⟨w.heap.size+1,f,N⟩)) R (λw i=>WV) j ?_;refine ZB 22 (I Zg Zf) R (λw i=>WV) j ?_;refine ZB 23 (Za Zl) R (λw i=>WV) j ?_;refine ZB 24 (Za Zl) R (λw i=>WV) j ?_;refine ZZ WR ?_ _;gi_wp2;exact m1.a _ _ _ _ a9.a.drew (Fr.drew ZP) Ud Ud Ud
  .have m0:Y (jX (H++[(G,K,a1)]) z f t=jX H z f t):=X (eo λq=>hA q.1);have h2:¬ ((K:Int)=t):=O;clear n5;gi_wp2;refine jf (S:=W4 M w.heap.size G K f t Z1 Zf) WR (λ⟨_,_,h⟩=>h) WR P.a (λj=>?_);refine ZB 0 (.pointer (S ⟨M,1,N⟩)) R (λw i=>WV) j ?_;refine ZB 1 (I L K) R (λw i=>WV) j ?_;refine ZB 2 (.pointer (S ⟨w.heap.size+1+1,1,N⟩)) R (λw i=>WV) j ?_;refine ZB 3 (I L t) R (λw i=>WV) j ?_;refine ZB 4 (Za Zl) R (λw i=>WV) j ?_;refine ZB 5 (Za Zl) R (λw i=>WV) j ?_;refine ZA 6 j ?_;refine ZA 7 j ?_;refine ZA 8 j ?_;refine ZA 9 j ?_;refine ZA 10 j ?_;exact WL
end Go.Proofs.YtnfakamfmkhlbabGreatDoor.C
