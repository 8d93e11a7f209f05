import Derived.Test.YtnfakamfmkhlbabGreatDoorB1
set_option maxRecDepth 100000
set_option maxHeartbeats 4000000
set_option linter.all false
open Go.Value renaming int->I,bool->Za,string->Zb,agg->Zc,tuple->Ze,slice->Zq
open Go.IntKind renaming i64->L,u8->Zg,u64->Zh
open Go.Obj renaming cells->Z
open Go.Ending renaming returned->Zd
open Or renaming inl->Zi,inr->Zj
open Option renaming some->S,none->N
open Bool renaming true->Zk,false->Zl
open Decidable renaming decide->Zm
open Go.RowKit renaming Hid->Y
open Go renaming World->I6,Value->I7
namespace Go.Proofs.YtnfakamfmkhlbabGreatDoor.C
open Go.RowKit Go.ChangeShapes Go.WideShapes Go.ChangeAt
structure Fr(Q:Nat->Obj->Prop)(w w':I6):Prop where
 os:w'.os=w.os
 tape:w'.tape=w.tape
 output:w'.output=w.output
 size:w.heap.size<=w'.heap.size
 same:∀k o,w.heap[k]?=S o->Q k o->w'.heap[k]?=S o
theorem Fr.refl(Q:Nat->Obj->Prop)(w:I6):Fr Q w w:=⟨R,R,R,qL _,λ_ _ h _=>h⟩
theorem ZP{Q:Nat->Obj->Prop}{w:I6}:Fr Q w w:=Fr.refl Q w
theorem Fr.trans{Q:Nat->Obj->Prop}{a b c:I6}(h:Fr Q a b)(g:Fr Q b c):Fr Q a c :=
 ⟨g.os.trans h.os,g.tape.trans h.tape,g.output.trans h.output,q7 h.size g.size,λk o e q=>g.same k o (h.same k o e q) q⟩
theorem Fr.mono{Q R:Nat->Obj->Prop}{a b:I6}(h:Fr Q a b)(i:∀k o,a.heap[k]?=S o->R k o->Q k o):Fr R a b :=
 ⟨h.os,h.tape,h.output,h.size,λk o e r=>h.same k o e (i k o e r)⟩
theorem Fr.drew{Q:Nat->Obj->Prop}{a b:I6}(h:Fr Q a b):Fr Q a b.drew:=⟨h.os,h.tape,h.output,h.size,h.same⟩
theorem Fr.alloc{Q:Nat->Obj->Prop}{a b:I6}(h:Fr Q a b)(o:Obj):Fr Q a (b.alloc o) :=
 h.trans ⟨R,R,R,WU,λk o' e _=>(Below.heap_alloc b o k (qB.1 e).1).trans e⟩
theorem Fr.setCell{Q:Nat->Obj->Prop}{a b:I6}(h:Fr Q a b){p:Addr}(u:I7)(f:∀o,b.heap[p.block]?=S o->¬ Q p.block o):Fr Q a (b.setCell p u) :=
 h.trans ⟨R,R,R,by show b.heap.size<=(b.heap.modify _ _).size;simp,λk o' e q=>by
  by_cases d:k=p.block
  .subst d;exact absurd q (f o' e)
  .exact(Below.heap_setCell b p u k d).trans e⟩
theorem Fr.putObj{Q:Nat->Obj->Prop}{a b:I6}(h:Fr Q a b){l:Nat}(o':Obj)(f:∀o,b.heap[l]?=S o->¬ Q l o):Fr Q a (b.putObj l o') :=
 h.trans ⟨R,R,R,WU,λk o e q=>by
  by_cases d:k=l
  .subst d;exact absurd q (f o e)
  .exact(World.putObj_heap_other d).trans e⟩
theorem Fr.of_below{Q:Nat->Obj->Prop}{a b:I6}{n:Nat}(h:Below n a b)(i:∀k o,a.heap[k]?=S o->Q k o->k<n):Fr Q a b :=
 ⟨h.os,h.tape,h.output,h.size,λk o e q=>(h.block k (i k o e q)).trans e⟩
theorem Fr.of_gr{Q:Nat->Obj->Prop}{a b:I6}(h:Gr a b):Fr Q a b:=Fr.of_below h λ_ _ e _=>(qB.1 e).1
theorem Fr.below{Q:Nat->Obj->Prop}{a b:I6}{n:Nat}(h:Fr Q a b)(f:n<=a.heap.size)(i:∀k o,k<n->Q k o):Below n a b :=
 ⟨h.os,h.tape,h.output,h.size,λk e=>by
  have d:k<a.heap.size:=O
  rw[h.same k a.heap[k] (qQ d) (i k _ e),qQ d]⟩
theorem Fr.cell{Q:Nat->Obj->Prop}{a b:I6}(h:Fr Q a b){p:Addr}{v:I7}(f:a.cell? p=S v)(i:∀o,a.heap[p.block]?=S o->Q p.block o):b.cell? p=S v:=by have d:=World.block_lt_of_cell? a _ f;have e:=h.same p.block a.heap[p.block] (qQ d) (i _ (qQ d));rw[World.cell?_of_block (w:=a) (e.trans (qQ d).symm)];exact f
theorem Fr.frozen{Q:Nat->Obj->Prop}{a b:I6}(h:Fr Q a b){p:Addr}{v:I7}(f:a.cell? p=S v)(i:∀o,a.heap[p.block]?=S o->Q p.block o):b.frozen? p=a.frozen? p:=by have d:=World.block_lt_of_cell? a _ f;have e:=h.same p.block a.heap[p.block] (qQ d) (i _ (qQ d));exact World.frozen?_of_block (w:=a) (e.trans (qQ d).symm)
theorem rM(k:Nat):Fence.wide.room k:=λd h=>Ub
theorem jb{m m':Nat}{P:Program}{l:Nat}{args:I0}{W:I6}{R:Ending->I6->Prop}(h:YieldAt Fence.wide m P l args W R):YieldAt Fence.wide m' P l args W R:=by obtain⟨d,tmps,a,b,e,hR⟩:=h;exact⟨d,tmps,a,b,e,hR.1,λc cs _=>hR.2 c cs (rM _)⟩
abbrev yv(B:Nat)(T:Obj->Prop):Nat->Obj->Prop:=λk o=>k<B\/T o
abbrev jM(B:Nat)(T:Obj->Prop)(C:Nat->Prop):Nat->Obj->Prop:=λk o=>C k\/(B<=k/\¬ T o)
def vu{β:Type}(B:Nat)(T:Obj->Prop)(J:β->I6->Prop):Prop:=∀s A A',J s A->Fr (yv B T) A A'->J s A'
def It{α:Type}(P:Program)(g:Nat)(lb:I0)(encs:α->I0)(T:Obj->Prop)(C:Nat->Prop)(xs:List α)(w:I6):Prop :=
 ∀(l B:Nat)(J Jx:List α->I6->Prop)(W:I6),Fr (λk _=>C k) w W->B<=W.heap.size->vu B T J->vu B T Jx →
  (∀pre x W1,pre++[x] <+: xs->J pre W1->YieldAt Fence.wide 0 P l (encs x) W1 λe W'=>Fr (jM B T C) W1 W' ∧
   ((e=Zd (Za Zk)/\J (pre++[x]) W')\/(e=Zd (Za Zl)/\Jx (pre++[x]) W'))) →
  J [] W →
  Calls P g (#[.func (.yield l) #[] #[]]++lb) W λe W'=>(∃v,e=Zd v)/\(J xs W'\/∃pre,pre <+: xs/\Jx pre W')
def An{α:Type}(b:Nat)(T:Obj->Prop)(C:Nat->Prop)(I:List α->I6->Prop)(Ix:Code->List α->I6->Prop)(xs:List α)(W:I6):Exit->Act->I6->Prop
 | .normal,_,W'=>Fr (jM b T C) W W'/\I xs W'
 | .ret,_,W'=>Fr (jM b T C) W W'/\Ix .ret xs W'
 | .exit id,_,W'=>Fr (jM b T C) W W'/\Ix (.exit id) xs W'
 | .goto t,_,W'=>Fr (jM b T C) W W'/\Ix (.goto t) xs W'
 | .panic _,_,_=>False
 | .outgrown,_,_=>False
def cQ{α:Type}(P:Program)(b m:Nat)(T:Obj->Prop)(C:Nat->Prop)(encs:α->I0)(xs:List α)(ps:Array Tmp)(assign body:Code)(tmps:I0)(I:List α->I6->Prop)(Ix:Code->List α->I6->Prop):Prop :=
 ∀(l:Nat)(pre:List α)(x:α)(W:I6),b<=l->pre++[x] <+: xs->I pre W->(∃r,W.heap[l]?=S (.loop r)) →
  assign.wpIn (Fence.wide.inRound l) m P (Exit.then (λa1 W1=>Fr (λ_ _=>True) W W1/\∀W2,Fr (λk _=>k≠l) W1 W2->I pre W2->(∃r,W2.heap[l]?=S (.loop r)) →
   body.wpIn (Fence.wide.inRound l) m P (An b T C I Ix (pre++[x]) W2) a1 W2) (λ_ _ _=>False))
   { tmps:=(ps.zip (encs x)).foldl (λt (p,v)=>t.setIfInBounds p v) tmps,defers:=[] } W
theorem ls{K b:Act->I6->Prop}(h:∀a w,K a w->b a w):∀e a w,Exit.then K (λ_ _ _=>False) e a w->Exit.then b (λ_ _ _=>False) e a w:=by intro e a w;cases e<;>simp only[Exit.then]<;>first|exact h a w|exact id
theorem qjp{α:Type}{P:Program}{l B b m:Nat}{fn:FuncId}{tmps:I0}{ps:Array Tmp}{assign body:Code}{dd:Nat}{d:α->I0}{T:Obj->Prop}{C:Nat->Prop}{xs:List α}
 (K:b<=l) (a6:l<B) (hT:∀o,T o->o.isCells=Zk) (hC:∀k,C k->k<b) (a4:∀x,(d x).size=ps.size) {a8:List α->I6->Prop} {b0:Code->List α->I6->Prop} (V:vu b T a8) (v:∀c,vu b T (b0 c))
 (a7:I6->Prop) (b2:∀A n,a7 A->Fr (λk o=>b<=k/\k<B/\k≠l/\o.isCells=Zl) A n->a7 n)
 (hR:cQ P b m T C d xs ps assign body tmps a8 b0) (g:List α) (x:α) (W:I6) (hx:g++[x] <+: xs)
 (hi:a8 g W) (hl:W.heap[l]?=S (.loop { state:=.ready,pending:=N,fn,tmps,params:=ps,assign,body,defers:=dd })) (b5:a7 W) :
 YieldAt Fence.wide m P l (d x) W λe p=>Fr (jM B T C) W p ∧
  ((e=Zd (Za Zk)/\a8 (g++[x]) p/\p.heap[l]?=S (.loop { state:=.ready,pending:=N,fn,tmps,params:=ps,assign,body,defers:=dd })/\a7 p) ∨
   (e=Zd (Za Zl)/\∃c,b0 c (g++[x]) p/\p.heap[l]?=S (.loop { state:=.done,pending:=S c,fn,tmps,params:=ps,assign,body,defers:=dd })/\a7 p)):=by
 have hy:=run_yield (P:=P) (args:=d x) hl (a4 x);refine⟨fn,_,assign,body,hy,roundIn_of_wpIn trivial (wpIn_mono (hR l g x W K hx hi ⟨_,hl⟩) (ls ?_))⟩;clear hy;rintro a1 Q ⟨M,hb⟩;have w:=M.same _ _ hl trivial;have a5:l<Q.heap.size:=(qB.1 w).1;refine⟨_,run_beginRound w R,?_⟩;generalize J:Q.putObj l (.loop { state:=.busy,pending:=N,fn,tmps,params:=ps,assign,body,defers:=dd })=u;have b3:u.heap[l]?=S (.loop { state:=.busy,pending:=N,fn,tmps,params:=ps,assign,body,defers:=dd }):=by rw[<-J];exact World.putObj_heap_same a5
 have a9:Fr (λk _=>k≠l) Q u:=by rw[<-J];exact ZP.putObj _ (λ_ _ h=>h R)
 have nT:∀r:Loop,¬ T (.loop r):=λr h=>by have:=hT _ h;cases this
 have fI:∀{A n:I6},Fr (λk _=>k≠l) A n->(∃r,A.heap[l]?=S (.loop r))->Fr (yv b T) A n:=λf hr=>f.mono (λk o e q=>by
  rintro rfl;obtain⟨r,hr⟩:=hr;obtain q|q:=q
  .omega
  .rw[hr]at e;cases e;exact nT _ q)
 have a2:a8 g u:=V _ _ _ (V _ _ _ hi (M.mono λ_ _ _ _=>trivial)) (fI a9 ⟨_,w⟩);have fX:∀{A n:I6},Fr (λk _=>k≠l) A n->a7 A->a7 n:=λf h=>b2 _ _ h (f.mono λk o _ q=>q.2.2.1);have a0:a7 u:=fX a9 (b2 _ _ b5 (M.mono λ_ _ _ _=>trivial));have b4:Fr (jM B T C) W u:=(M.mono λ_ _ _ _=>trivial).trans (a9.mono λk o _ q=>by
  rintro rfl;obtain q|q:=q
  .have:=hC _ q;omega
  .omega)
 have j:∀(jump:Option Code)(W3:I6),Fr (jM b T C) u W3 →
  (Instr.endRound l jump).run P W3=.ok (Za jump.isNone) (W3.putObj l (.loop { state:=if jump.isNone then .ready else .done,pending:=jump,fn,tmps,params:=ps,assign,body,defers:=dd })) ∧
  Fr (jM B T C) W (W3.putObj l (.loop { state:=if jump.isNone then .ready else .done,pending:=jump,fn,tmps,params:=ps,assign,body,defers:=dd })) ∧
  (W3.putObj l (.loop { state:=if jump.isNone then .ready else .done,pending:=jump,fn,tmps,params:=ps,assign,body,defers:=dd })).heap[l]?=S (.loop { state:=if jump.isNone then .ready else .done,pending:=jump,fn,tmps,params:=ps,assign,body,defers:=dd }) ∧
  a7 (W3.putObj l (.loop { state:=if jump.isNone then .ready else .done,pending:=jump,fn,tmps,params:=ps,assign,body,defers:=dd })) ∧
  Fr (yv b T) W3 (W3.putObj l (.loop { state:=if jump.isNone then .ready else .done,pending:=jump,fn,tmps,params:=ps,assign,body,defers:=dd })):=λjump W3 i=>by
  have y:=i.same _ _ b3 (Zj ⟨K,nT _⟩);have b1:Fr (λk _=>k≠l) W3 (W3.putObj l (.loop { state:=if jump.isNone then .ready else .done,pending:=jump,fn,tmps,params:=ps,assign,body,defers:=dd })):=ZP.putObj _ (λ_ _ h=>h R);refine⟨run_endRound (P:=P) jump y,?_,World.putObj_heap_same (qB.1 y).1,fX b1 (b2 _ _ a0 (i.mono λk o _ q=>Zj ⟨q.1,λh=>by rw[hT _ h]at q;exact absurd q.2.2.2 WW⟩)),fI b1 ⟨_,y⟩⟩;refine(b4.trans (i.mono λk o _ q=>?_)).trans (b1.mono λk o _ q=>?_)
  .obtain q|q:=q
   .exact Zi q
   .exact Zj ⟨O,q.2⟩
  .rintro rfl;obtain q|q:=q
   .have:=hC _ q;omega
   .omega
 refine wpIn_mono (hb u a9 a2 ⟨_,b3⟩) ?_;rintro e a3 W3 H;cases e with
 | normal =>
  obtain⟨i,a⟩:=H;obtain⟨z,D,E,F,G⟩:=j N W3 i;exact⟨_,_,z,D,Zi ⟨R,V _ _ _ a G,E,F⟩⟩
 | ret =>
  obtain⟨i,a⟩:=H;obtain⟨z,D,E,F,G⟩:=j (S .ret) W3 i;exact⟨_,_,z,D,Zj ⟨R,_,v _ _ _ _ a G,E,F⟩⟩
 | exit id =>
  obtain⟨i,a⟩:=H;obtain⟨z,D,E,F,G⟩:=j (S (.exit id)) W3 i;exact⟨_,_,z,D,Zj ⟨R,_,v _ _ _ _ a G,E,F⟩⟩
 | goto t =>
  obtain⟨i,a⟩:=H;obtain⟨z,D,E,F,G⟩:=j (S (.goto t)) W3 i;exact⟨_,_,z,D,Zj ⟨R,_,v _ _ _ _ a G,E,F⟩⟩
 | panic ch=>exact H.elim
 | outgrown=>exact H.elim
theorem qo{β:Type}{B a:Nat}{T:Obj->Prop}{J:β->I6->Prop}(h:vu B T J)(e:B<=a):vu a T J:=λs A b d f=>h s A b d (f.mono λk o _ q=>q.elim (λq=>Zi O) Zj)
theorem xj{α:Type}{P:Program}{n:Nat}{g:Operand}{ps:Array Tmp}{assign body:Code}{Q:Exit->Act->I6->Prop}{a:Act}{w:I6}{gf:Nat}{lb:I0}
 (hg:a.eval g=.func (.func gf) #[] lb) (eg:∀args w,(callFunc gf args).run P w=.ok (.enter gf args) w) {i:α->I0} {T:Obj->Prop} {C:Nat->Prop} {J:List α} {Z:I6} (a5:It P gf lb i T C J Z)
 (M:∀o,T o->o.isCells=Zk) (hC:∀k,C k->k<w.heap.size) (K:Fr (λk _=>C k) Z w) (V:∀x,(i x).size=ps.size)
 (b:List α->I6->Prop) (F:Code->List α->I6->Prop) (H:vu w.heap.size T b) (m:∀c,vu w.heap.size T (F c)) (h0:b [] w)
 (hR:cQ P w.heap.size 9 T C i J ps assign body a.tmps b F)
 (p:∀(D:Nat)(W:I6),w.heap.size<=D->b J W->W.heap[D]?=S (.deferred (S []))->Q .normal { a with defers:={ target:=.collected D,args:=#[] } :: a.defers } W)
 (r:∀(D:Nat)(c:Code)(d:List α)(W:I6),w.heap.size<=D->d <+: J->F c d W->W.heap[D]?=S (.deferred (S []))->c.wpIn Fence.wide n P Q { a with defers:={ target:=.collected D,args:=#[] } :: a.defers } W) :
 (Code.rangeFunc g ps assign body).wpIn Fence.wide n P Q a w:=by
 refine wpIn_rangeFunc ?_;intro fn _;generalize j:(w.alloc (.deferred (S []))).alloc (.loop { state:=.ready,pending:=N,fn,tmps:=a.tmps,params:=ps,assign,body,defers:=w.heap.size })=l;have a4:∀Q:Nat->Obj->Prop,Fr Q w l:=λQ=>by rw[<-j];exact(ZP.alloc _).alloc _
 have a7:l.heap[w.heap.size+1]?=S (.loop { state:=.ready,pending:=N,fn,tmps:=a.tmps,params:=ps,assign,body,defers:=w.heap.size }):=VB;have a6:l.heap[w.heap.size]?=S (.deferred (S [])):=Ol;have a1:l.heap.size=w.heap.size+2:=by rw[<-j];simp
 refine⟨w.heap.size+1,[{ target:=.collected w.heap.size,args:=#[] }],l,{ target:=.fn (.func gf) lb,args:=#[.func (.yield (w.heap.size+1)) #[] #[]] },l,gf,
  #[.func (.yield (w.heap.size+1)) #[] #[]]++lb,l,?_,?_,?_,?_,?_,?_⟩
 .rw[<-j];exact run_enterLoop_outer _ _ _ _ _
 .simp only[resolve,hg];simp[go_sem]
 .intro f' a0;trivial
 .simp[invoke,go_sem,eg]
 .intro h;cases h
 .refine ZY.2 ((a5 (w.heap.size+1) l.heap.size
   (λd W=>b d W/\W.heap[w.heap.size+1]?=S (.loop { state:=.ready,pending:=N,fn,tmps:=a.tmps,params:=ps,assign,body,defers:=w.heap.size })/\W.heap[w.heap.size]?=S (.deferred (S [])))
   (λd W=>∃c,F c d W/\W.heap[w.heap.size+1]?=S (.loop { state:=.done,pending:=S c,fn,tmps:=a.tmps,params:=ps,assign,body,defers:=w.heap.size })/\W.heap[w.heap.size]?=S (.deferred (S [])))
   l (K.trans (a4 _)) Zy ?_ ?_ ?_ ⟨H _ _ _ h0 (a4 _),a7,a6⟩).mono ?_)
  .rintro s A a3 ⟨u,y,z⟩ f;exact⟨qo H O _ _ _ u f,f.same _ _ y (Zi O),f.same _ _ z (Zi O)⟩
  .rintro s A a3 ⟨c,u,y,z⟩ f;exact⟨c,qo (m c) O _ _ _ u f,f.same _ _ y (Zi O),f.same _ _ z (Zi O)⟩
  .rintro d x W hx ⟨u,y,z⟩;exact jb (qjp (B:=l.heap.size) (b:=w.heap.size) O O M hC V H m (λW=>W.heap[w.heap.size]?=S (.deferred (S []))) (λA a3 h f=>f.same _ _ h ⟨Zy,O,O,R⟩) hR d x W hx u y z)
  .rintro e G ⟨⟨v,rfl⟩,⟨a2,E,B⟩|⟨d,hp,c,a2,E,B⟩⟩
   .have f:∀o',Fr (yv w.heap.size T) G (G.putObj (w.heap.size+1) o'):=λo'=>ZP.putObj _ (λo e q=>by
     rw[E]at e;cases e;obtain q|q:=q
     .omega
     .have:=M _ q;cases this)
    exact⟨N,_,run_endLoop (P:=P) E WU,p _ _ Zy (H _ _ _ a2 (f _)) ((Xw O).trans B)⟩
   .have f:∀o',Fr (yv w.heap.size T) G (G.putObj (w.heap.size+1) o'):=λo'=>ZP.putObj _ (λo e q=>by
     rw[E]at e;cases e;obtain q|q:=q
     .omega
     .have:=M _ q;cases this)
    exact⟨S c,_,run_endLoop (P:=P) E WU,r _ c d _ Zy hp (m c _ _ _ a2 (f _)) ((Xw O).trans B)⟩
theorem rj{α:Type}{P:Program}{n:Nat}{g:Operand}{ps:Array Tmp}{assign body:Code}{Q:Exit->Act->I6->Prop}{a:Act}{w:I6}{gf:Nat}{lb:I0}{l₀:Nat}(hl₀:∃r,w.heap[l₀]?=S (.loop r))
 (hg:a.eval g=.func (.func gf) #[] lb) (eg:∀args w,(callFunc gf args).run P w=.ok (.enter gf args) w) {i:α->I0} {T:Obj->Prop} {C:Nat->Prop} {J:List α} {w0:I6} (Z:It P gf lb i T C J w0)
 (a5:∀o,T o->o.isCells=Zk) (hC:∀k,C k->k<w.heap.size) (a9:Fr (λk _=>C k) w0 w) (a1:∀x,(i x).size=ps.size)
 (b:List α->I6->Prop) (F:Code->List α->I6->Prop) (H:vu w.heap.size T b) (m:∀c,vu w.heap.size T (F c)) (h0:b [] w)
 (hR:cQ P w.heap.size 9 T C i J ps assign body a.tmps b F)
 (p:∀(W:I6),b J W->Q .normal a W)
 (u:∀(c:Code)(d:List α)(W:I6),d <+: J->F c d W->c.wpIn (Fence.wide.inRound l₀) n P Q a W) :
 (Code.rangeFunc g ps assign body).wpIn (Fence.wide.inRound l₀) n P Q a w:=by
 obtain⟨r₀,hl₀⟩:=hl₀;refine wpIn_rangeFunc ?_;intro fn _;generalize l:w.alloc (.loop { state:=.ready,pending:=N,fn,tmps:=a.tmps,params:=ps,assign,body,defers:=r₀.defers })=j;have f1:∀Q:Nat->Obj->Prop,Fr Q w j:=λQ=>by rw[<-l];exact ZP.alloc _
 have a0:j.heap[w.heap.size]?=S (.loop { state:=.ready,pending:=N,fn,tmps:=a.tmps,params:=ps,assign,body,defers:=r₀.defers }):=by rw[<-l];exact ZQ w _
 have a3:j.heap.size=w.heap.size+1:=by rw[<-l];simp
 refine⟨w.heap.size,[],j,{ target:=.fn (.func gf) lb,args:=#[.func (.yield w.heap.size) #[] #[]] },j,gf,
  #[.func (.yield w.heap.size) #[] #[]]++lb,j,?_,?_,?_,?_,?_,?_⟩
 .rw[<-l];exact run_enterLoop_inner hl₀ _ _ _ _ _
 .simp only[resolve,hg];simp[go_sem]
 .intro f' a2;trivial
 .simp[invoke,go_sem,eg]
 .intro h;cases h
 .refine Xe l₀ (ZY.2 ((Z w.heap.size j.heap.size
   (λd W=>b d W/\W.heap[w.heap.size]?=S (.loop { state:=.ready,pending:=N,fn,tmps:=a.tmps,params:=ps,assign,body,defers:=r₀.defers }))
   (λd W=>∃c,F c d W/\W.heap[w.heap.size]?=S (.loop { state:=.done,pending:=S c,fn,tmps:=a.tmps,params:=ps,assign,body,defers:=r₀.defers }))
   j (a9.trans (f1 _)) Zy ?_ ?_ ?_ ⟨H _ _ _ h0 (f1 _),a0⟩).mono ?_))
  .rintro s A A' ⟨z,D⟩ f;exact⟨qo H O _ _ _ z f,f.same _ _ D (Zi O)⟩
  .rintro s A A' ⟨c,z,D⟩ f;exact⟨c,qo (m c) O _ _ _ z f,f.same _ _ D (Zi O)⟩
  .rintro d x W hx ⟨z,D⟩;obtain⟨M,y,K,a8,hy,V⟩:=jb (m':=0) (qjp (b:=w.heap.size) (B:=j.heap.size) Zy O a5 hC a1 H m (λ_=>True) (λ_ _ _ _=>trivial) hR d x W hx z D trivial);refine⟨M,y,K,a8,hy,V.mono ?_⟩;rintro e W' ⟨f,⟨B,a4,a7,_⟩|⟨B,c,a4,a7,_⟩⟩
   .exact⟨f,Zi ⟨B,a4,a7⟩⟩
   .exact⟨f,Zj ⟨B,c,a4,a7⟩⟩
  .rintro e G ⟨⟨v,rfl⟩,⟨a6,E⟩|⟨d,hp,c,a6,E⟩⟩
   .have f:∀o',Fr (yv w.heap.size T) G (G.putObj w.heap.size o'):=λo'=>ZP.putObj _ (λo e q=>by
     rw[E]at e;cases e;obtain q|q:=q
     .omega
     .have:=a5 _ q;cases this)
    exact⟨N,_,run_endLoop (P:=P) E WU,p _ (H _ _ _ a6 (f _))⟩
   .have f:∀o',Fr (yv w.heap.size T) G (G.putObj w.heap.size o'):=λo'=>ZP.putObj _ (λo e q=>by
     rw[E]at e;cases e;obtain q|q:=q
     .omega
     .have:=a5 _ q;cases this)
    exact⟨S c,_,run_endLoop (P:=P) E WU,u c d _ hp (m c _ _ _ a6 (f _))⟩
theorem rS{k:IntKind}{a b:Int}{v:I7}(h:a=b):Ending.returned (Ze #[I k a,v])=Zd (Ze #[I k b,v]):=by rw[h]
theorem rD(s:I4)(w:I6):Calls Tryz.prog 138 #[Zb s] w λe w'=>e=Zd (Ze #[Za (s.toList==[119]),Za (s.toList==[119]||s.toList==[98])])/\w'=w:=by
 by_cases h:s.toList=[119]
 .have a:(s.toList==[119])=Zk:=Vq;rw[a];go_enter Tryz.func138,Tryz.ntmps138;go_wp2;exact MW
 .have a:(s.toList==[119])=Zl:=Vq;rw[a];go_enter Tryz.func138,Tryz.ntmps138;go_wp2;exact MW
def uX(s:I4):Option Nat :=
 if h:s.size=2 then
  if 97<=s[0].toNat/\s[0].toNat<=104/\49<=s[1].toNat/\s[1].toNat<=56 then S (s[0].toNat-97+8*(s[1].toNat-49))else N
 else N
theorem pl(s:I4)(h:uX s=N)(w:I6):Calls Tryz.prog 117 #[Zb s] w λe w'=>e=Zd (Ze #[I L 0,Za Zl])/\w'=w:=by
 unfold uX at h;have b:=X h;clear h;by_cases f:s.size=2
 .have d:¬ (97<=s[0].toNat/\s[0].toNat<=104/\49<=s[1].toNat/\s[1].toNat<=56):=by intro g;have:=b.a;rw[Wf f,qI g]at this;exact absurd this WU
  clear b;have a:=X d;clear d;go_enter Tryz.func117,Tryz.ntmps117;go_wp2;all_goals first|(go_ret2;exact⟨R,R⟩)|(exfalso;have:=a.a;simp at *;omega)
 .clear b;go_enter Tryz.func117,Tryz.ntmps117;go_wp2;exact MW
theorem qz7(s:I4)(n:Nat)(h:uX s=S n)(w:I6):Calls Tryz.prog 117 #[Zb s] w λe w'=>e=Zd (Ze #[I L n,Za Zk])/\Gr w w':=by
 unfold uX at h;by_cases b:s.size=2
 .rw[Wf b]at h;by_cases a:97<=s[0].toNat/\s[0].toNat<=104/\49<=s[1].toNat/\s[1].toNat<=56
  .rw[qI a]at h;obtain⟨c1,c2,c3,f⟩:=a;have d:Y (s[0].toNat-97+8*(s[1].toNat-49)=n):=X Vq;clear h;go_enter Tryz.func117,Tryz.ntmps117;go_wp2;go_region;all_goals
    go_wp2;go_ret2;exact⟨rS (by have:=d.a;omega),ZO.drew⟩
  .rw[qF a]at h;exact absurd h WU
 .rw[dif_neg b]at h;exact absurd h WU
def fA:Option Nat->Option Int
 | some n=>S (n:Int)
 | none=>N
def v8(s:I4):Option Int:=if s.toList=[45]then S (-1)else fA (uX s)
theorem hO(s:I4)(w:I6):Calls Tryz.prog 140 #[Zb s] w λe w'=>(∃v:Int,e=Zd (Ze #[I L v,Za (v8 s).isSome])/\∀n,v8 s=S n->v=n)/\Gr w w':=by
 by_cases h:s.toList=[45]
 .have g:v8 s=S (-1):=by unfold v8;rw[qI h]
  rw[g];go_enter Tryz.func140,Tryz.ntmps140;go_wp2;go_ret2;exact⟨⟨-1,R,λn f=>Uq⟩,ZO⟩
 .have b:v8 s=fA (uX s):=by unfold v8;rw[qF h]
  have j:(s.toList==[45])=Zl:=Vq;clear h;cases d:uX s with
  | none =>
   rw[d]at b;rw[b];have a:=X d;clear d b;go_enter Tryz.func140,Tryz.ntmps140;go_wp2_with(go_at_call 117;refine Z1 (pl s a.a _) ?_);go_ret2;exact⟨⟨0,R,λn f=>by simp[fA]at f⟩,ZO⟩
  | some m =>
   rw[d]at b;rw[b];have a:=X d;clear d b;go_enter Tryz.func140,Tryz.ntmps140;go_wp2_with(go_at_call 117;refine Z0 (qz7 s m a.a _) λw' i=>?_);go_ret2;exact⟨⟨m,R,λn f=>by simpa[fA]using f⟩,i⟩
def dv(l:I1):Nat:=l.foldl (λn c=>10*n+(c.toNat-48)) 0
def dg(c:UInt8):Bool:=Zm (48<=c.toNat/\c.toNat<=57)
def kZ(d:Nat)(l:I1):Option Nat :=
 if 1<=l.length/\l.length<=d/\(1<l.length->l.head?≠S 48)/\l.all dg=Zk then S (dv l)else N
def vR(l:I1):Option Nat :=
 if 1<=l.length/\l.length<=5/\(1<l.length->l.head?≠S 48)/\l.all dg=Zk/\dv l<=65535 then S (dv l)else N
theorem lN(l:I1):vR l=(kZ 5 l).filter λn=>Zm (n<=65535):=by
 unfold vR kZ;by_cases h:1<=l.length/\l.length<=5/\(1<l.length->l.head?≠S 48)/\l.all dg=Zk
 .rw[qI h];by_cases g:dv l<=65535
  .rw[qI ⟨h.1,h.2.1,h.2.2.1,h.2.2.2,g⟩];simp[Option.filter,g]
  .rw[qF (λx=>g x.2.2.2.2)];simp[Option.filter,g]
 .rw[qF h,qF (λx=>h ⟨x.1,x.2.1,x.2.2.1,x.2.2.2.1⟩)];rfl
theorem yz(l:I1)(c:UInt8):dv (l++[c])=10*dv l+(c.toNat-48):=by unfold dv;rw[List.foldl_append];rfl
theorem tP:∀(n:Nat)(l:I1),l.length=n->l.all dg=Zk->dv l<10 ^ n:=by
 intro n;induction n with
 | zero=>intro l h _;have:l=[]:=Yz.mp h;subst this;simp[dv]
 | succ n ih =>
  intro l h b;have a:l≠[]:=λe=>by subst e;simp at h
  have e:=XY a;rw[<-e,yz];rw[<-e,Xf]at b;simp only[qH,Wc,List.all_nil,Wl]at b;have:=ih l.dropLast UW b.1;have d:(l.getLast a).toNat<=57:=by have:=b.2;simp[dg]at this;omega
  rw[Nat.pow_succ];omega
theorem xi(s:I4)(k:Nat)(h:k<s.size):s.data.toList.take (k+1)=s.data.toList.take k++[s[k]]:=by rw[Yd Vq];rfl
theorem dt(s:I4)(h:0<s.size):s.data.toList.head?=S s[0]:=by
 have:=xi s 0 h;cases e:s.data.toList with
 | nil=>rw[e]at this;simp at this
 | cons a r=>rw[e]at this;simp at this;simp[this]
theorem iy(s:I4)(k:Nat)(h:k<s.size)(a:dg s[k]=Zl):s.data.toList.all dg=Zl:=by rw[<-XQ (k+1) s.data.toList,xi s k h,Xf,Xf];simp only[Wc,List.all_nil,a,XK,XU]
def cS(s:I4)(e:Ending):Prop:=∃v:Int,e=Zd (Ze #[I L v,Za (vR s.data.toList).isSome])/\∀n,vR s.data.toList=S n->v=(n:Int)
theorem cS.none{s:I4}(h:vR s.data.toList=N):cS s (Zd (Ze #[I L 0,Za Zl])):=⟨0,Us,λn a=>by rw[h]at a;exact absurd a WU⟩
def vv(d:Nat)(s:I4)(e:Ending):Prop:=e=Zd (Ze #[I L ((kZ d s.data.toList).getD 0:Nat),Za (kZ d s.data.toList).isSome])
theorem vv.none{d:Nat}{s:I4}(h:kZ d s.data.toList=N):vv d s (Zd (Ze #[I L 0,Za Zl])):=by unfold vv;rw[h];rfl
theorem bm(d:Nat)(f:d<=9)(s:I4)(l:s.size<=maxLen)(h:s.size<1\/d<s.size\/(1<s.size/\s.data.toList.head?=S 48))(w:I6):Calls Tryz.prog 217 #[Zb s,I L d] w λe w'=>vv d s e/\w'=w:=by
 have b:kZ d s.data.toList=N:=by
  unfold kZ;rw[qF];rintro⟨j,k,i,_⟩;simp only[ZX,YY]at j k i;obtain h|h|h:=h
  .omega
  .omega
  .exact i h.1 h.2
 have a:=X (vv.none b);clear b;unfold maxLen at l;by_cases c1:s.size<1
 .exact O4
 .by_cases c2:d<s.size
  .exact O4
  .have c3:1<s.size:=O;have g:s[0]=48:=by exact OV
   have m:s[0].toNat=48:=by rw[g];rfl
   clear h g;exact O4
theorem bl(d:Nat)(G:d<=9)(s:I4)(D:1<=s.size)(E:s.size<=d)(m:s.size<=1\/s.data.toList.head?≠S 48)(w:I6):Calls Tryz.prog 217 #[Zb s,I L d] w λe w'=>vv d s e/\w'=w:=by
 have f:Y (∀k (h:k<s.size),dg s[k]=Zl->vv d s (Zd (Ze #[I L 0,Za Zl]))):=by intro k h x;apply vv.none;unfold kZ;rw[qF];rintro⟨_,_,_,g⟩;rw[iy s k h x]at g;exact absurd g WW
 have l:Y (s.data.toList.all dg=Zk->vv d s (Zd (Ze #[I L (dv s.data.toList),Za Zk]))):=by
  intro b;have q:1<=s.data.toList.length/\s.data.toList.length<=d/\(1<s.data.toList.length->s.data.toList.head?≠S 48):=by simp only[ZX,YY];exact⟨D,E,λh=>m.resolve_left O⟩
  unfold vv;have:kZ d s.data.toList=S (dv s.data.toList):=by unfold kZ;rw[qI ⟨q.1,q.2.1,q.2.2,b⟩]
  rw[this];rfl
 have q:s.size<=1\/((s[0].toNat:Int)==48)=Zl:=by
  obtain m|m:=m
  .exact Or.inl m
  .right;have:=dt s O;rw[this]at m;have:s[0]≠48:=λe=>m (by rw[e]);simp only[qM];intro e;exact this (q6.mp WX)
 clear m;by_cases M:s.size<=1;all_goals
  have u:1<s.size->((s[0].toNat:Int)==48)=Zl:=λh=>q.resolve_left O;clear q;try have J:=u O;clear u;have H:Zm (d<s.size)=Zl:=WX
  go_enter Tryz.func217,Tryz.ntmps217;go_wp2;go_loopg [6,29] s.size (λg n i wr=>∃k:Nat,k+g=s.size/\i=I L k/\n=I L (dv (s.data.toList.take k))/\(s.data.toList.take k).all dg=Zk/\wr=w)
  case atStart=>exact⟨0,O,R,R,R,R⟩
  case round =>
   obtain⟨k,K,rfl,rfl,b,rfl⟩:=hrel;have v:=tP k (s.data.toList.take k) WX b;have a:=X b;clear b;by_cases p:k<s.size
   .have y:10 ^ k<=10 ^ 8:=X8 O O;have z:dv (s.data.toList.take k)<=99999999:=O
    clear v y;have r:=X (xi s k p);generalize x:dv (s.data.toList.take k)=B at z;have A:=X x;clear x;by_cases c1:s[k].toNat<48
    .go_wp2;go_ret2;exact⟨f.a k p (by simp[dg];omega),R⟩
    .by_cases c2:57<s[k].toNat
     .go_wp2;go_ret2;exact⟨f.a k p (by simp[dg];omega),R⟩
     .go_wp2;go_roundg (gk-1)
      case measure=>omega
      case rel =>
       refine⟨k+1,O,Vg,?_,?_,R⟩
       .rw[r.a,yz,A.a];congr 1;omega
       .rw[r.a,Xf,a.a];simp[dg];omega
   .have C:k=s.size:=O
    subst C;have j:s.data.toList.take s.size=s.data.toList:=Yk WU;rw[j]at a v |-;clear j;have o:=X (l.a a.a);clear l a f;generalize dv s.data.toList=B at o v |-;have F:B<1000000000:=Tv
    clear v;go_wp2;go_ret2;exact⟨o.a,R⟩
theorem ey(d:Nat)(a:d<=9)(s:I4)(b:s.size<=maxLen)(w:I6):Calls Tryz.prog 217 #[Zb s,I L d] w λe w'=>vv d s e/\w'=w:=by
 by_cases h:s.size<1\/d<s.size\/(1<s.size/\s.data.toList.head?=S 48)
 .exact bm d a s b h w
 .exact bl d a s O O (by
   by_cases g:s.size<=1
   .exact Or.inl g
   .exact Or.inr λe=>h (Or.inr (Or.inr ⟨O,e⟩))) w
theorem BR(d:Nat)(a:d<=9)(l:I1):(kZ d l).getD 0<1000000000:=by
 unfold kZ;split
 .rename_i h;have:=tP l.length l R h.2.2.2;have b:10 ^ l.length<=10 ^ 9:=X8 O O;show dv l<_;omega
 .decide
theorem gc(s:I4)(k:s.size<=maxLen)(w:I6):Calls Tryz.prog 141 #[Zb s] w λe w'=>cS s e/\w'=w:=by
 have a:=X (ey 5 O s k w);have d:Y (cS s (Zd (Ze #[I L ((kZ 5 s.data.toList).getD 0:Nat),Za ((kZ 5 s.data.toList).isSome&&Zm (((kZ 5 s.data.toList).getD 0:Int)<=65535))]))):=by
  refine⟨(((kZ 5 s.data.toList).getD 0:Nat):Int),?_,?_⟩
  .congr 4;rw[lN];cases h:kZ 5 s.data.toList with
   | none=>rfl
   | some n=>by_cases g:n<=65535<;>simp[Option.filter,g]<;>omega
  .intro n f;rw[lN]at f;cases h:kZ 5 s.data.toList with
   | none=>rw[h]at f;exact absurd f (by simp[Option.filter])
   | some m =>
    rw[h]at f;simp only[Option.filter]at f;split at f
    .simp only[Xh]at f;rw[f];rfl
    .exact absurd f WU
 unfold vv at a;have i:=BR 5 O s.data.toList;generalize (kZ 5 s.data.toList).getD 0=v at a d i;generalize (kZ 5 s.data.toList).isSome=b at a d;by_cases j:v<=65535
 .cases b;all_goals
   go_enter Tryz.func141,Tryz.ntmps141;go_wp2_with(go_at_call 217;refine Z1 a.a ?_);go_ret2;exact⟨by have:=d.a;simpa[j,show((v:Int)<=65535)from O]using this,R⟩
 .cases b;all_goals
   go_enter Tryz.func141,Tryz.ntmps141;go_wp2_with(go_at_call 217;refine Z1 a.a ?_);go_ret2;exact⟨by have:=d.a;simpa[j,show ¬ ((v:Int)<=65535)from O]using this,R⟩
def vn:Nat->UInt8
 | 0=>75
 | 1=>81
 | 2=>107
 | _=>113
def jN(l:I1):Nat->I1
 | 0=>l
 | i+1=>Lib.trimPrefix (jN l i) [vn i]
def zW(l:I1)(i:Nat):Bool:=Lib.hasPrefix (jN l i) [vn i]
theorem aT(s:I4)(h:s.toList=[45])(w:I6):Calls Tryz.prog 139 #[Zb s] w λe w'=>e=Zd (Ze #[Zc #[Za Zl,Za Zl,Za Zl,Za Zl],Za Zk])/\Gr w w':=by go_enter Tryz.func139,Tryz.ntmps139;go_wp2;refine ZS (v:=Ze #[Zc #[Za Zl,Za Zl,Za Zl,Za Zl],Za Zk]) (by simp[results,Tryz.results139,go_sem]) R ⟨R,?_⟩;repeat(first|exact ZO|apply Gr.alloc)
def Cv(l:I1)(e:Ending):Prop :=
 e=Zd (Ze #[Zc #[Za (zW l 0),Za (zW l 1),Za (zW l 2),Za (zW l 3)],Za (!l.isEmpty&&(jN l 4).isEmpty)])
theorem arr4(A:I0)(b:A.size=4)(f:I5)(h:∀j,j<4->A[j]?=S (Za (f j))):A=#[Za (f 0),Za (f 1),Za (f 2),Za (f 3)]:=by grind
theorem Ai(A:I0)(d:A.size=4)(f:I5)(i:Nat)(g:i<4)(b:Bool)(a:b=f i)(h:∀j,j<i->A[j]?=S (Za (f j))) :
 (A.setIfInBounds i (Za b)).size=4/\∀j,j<i+1->(A.setIfInBounds i (Za b))[j]?=S (Za (f j)):=by grind
theorem aR(s:I4)(h:(s.toList==[45])=Zl)(w:I6):Calls Tryz.prog 139 #[Zb s] w λe w'=>Cv s.data.toList e/\Gr w w':=by
 go_enter Tryz.func139,Tryz.ntmps139;go_wp2;go_loopg [5,11] 4 (λg r n wr=>∃i:Nat,i+g=4/\n=I L i/\(∃q:I4,r=Zb q/\q.data.toList=jN s.data.toList i)/\∃A:I0,wr=(w.alloc (Obj.cells #[Za Zl,Za Zl,Za Zl,Za Zl] 68)).alloc (Obj.cells A 68)/\A.size=4/\∀j,j<i->A[j]?=S (Za (zW s.data.toList j)))
 case atStart=>exact⟨0,R,R,⟨s,R,R⟩,_,R,R,λj J=>O⟩
 case round=>
  obtain⟨i,K,rfl,⟨q,rfl,y⟩,A,rfl,B,l⟩:=hrel;have k:=X l;have b:=X y;clear l y;by_cases a:i<4
  .have C:((w.alloc (Obj.cells #[Za Zl,Za Zl,Za Zl,Za Zl] 68)).alloc (Obj.cells A 68)).cell? ⟨w.heap.size+1,i,N⟩=S (A[i]' O):=UB;have v:i=0\/i=1\/i=2\/i=3:=O;obtain rfl|rfl|rfl|rfl:=v
   .go_wp2_with(go_at_call 216;refine Z1 (Tryz.strings_CutPrefix _ _ _) ?_);go_roundg (gk-1)
    case measure=>omega
    case rel =>obtain⟨d,f⟩:=Ai A B (zW s.data.toList) 0 a (Lib.hasPrefix q.data.toList [vn 0]) U8 k.a;refine⟨1,O,R,⟨_,R,?_⟩,_,R,d,f⟩;show Lib.trimPrefix q.data.toList [vn 0]=Lib.trimPrefix (jN s.data.toList 0) [vn 0];rw[b.a]
   .go_wp2_with(go_at_call 216;refine Z1 (Tryz.strings_CutPrefix _ _ _) ?_);go_roundg (gk-1)
    case measure=>omega
    case rel =>obtain⟨d,f⟩:=Ai A B (zW s.data.toList) 1 a (Lib.hasPrefix q.data.toList [vn 1]) U8 k.a;refine⟨2,O,R,⟨_,R,?_⟩,_,R,d,f⟩;show Lib.trimPrefix q.data.toList [vn 1]=Lib.trimPrefix (jN s.data.toList 1) [vn 1];rw[b.a]
   .go_wp2_with(go_at_call 216;refine Z1 (Tryz.strings_CutPrefix _ _ _) ?_);go_roundg (gk-1)
    case measure=>omega
    case rel =>obtain⟨d,f⟩:=Ai A B (zW s.data.toList) 2 a (Lib.hasPrefix q.data.toList [vn 2]) U8 k.a;refine⟨3,O,R,⟨_,R,?_⟩,_,R,d,f⟩;show Lib.trimPrefix q.data.toList [vn 2]=Lib.trimPrefix (jN s.data.toList 2) [vn 2];rw[b.a]
   .go_wp2_with(go_at_call 216;refine Z1 (Tryz.strings_CutPrefix _ _ _) ?_);go_roundg (gk-1)
    case measure=>omega
    case rel =>obtain⟨d,f⟩:=Ai A B (zW s.data.toList) 3 a (Lib.hasPrefix q.data.toList [vn 3]) U8 k.a;refine⟨4,O,R,⟨_,R,?_⟩,_,R,d,f⟩;show Lib.trimPrefix q.data.toList [vn 3]=Lib.trimPrefix (jN s.data.toList 3) [vn 3];rw[b.a]
  .have H:i=4:=O;subst H;have G:=arr4 A B _ k.a;subst G;have z:=b.a;have x:q.toList.isEmpty=(jN s.data.toList 4).isEmpty:=by rw[<-z,Xl]
   have D:s.toList.isEmpty=s.data.toList.isEmpty:=by rw[Xl]
   generalize m:s.data.toList.isEmpty=E at D;generalize p:(jN s.data.toList 4).isEmpty=F at x;have o:=X m;have u:=X p;clear m p z;cases E<;>cases F;all_goals
    go_wp2;refine ZS (v:=Ze #[Zc #[Za (zW s.data.toList 0),Za (zW s.data.toList 1),Za (zW s.data.toList 2),Za (zW s.data.toList 3)],Za (!s.data.toList.isEmpty&&(jN s.data.toList 4).isEmpty)]) (by rw[o.a,u.a];simp[results,Tryz.results139,go_sem]) R ⟨R,?_⟩
    repeat(first|exact ZO|apply Gr.alloc)
def vS(l:I1):Option (I5) :=
 if l=[45]then S (λ_=>Zl)else if !l.isEmpty&&(jN l 4).isEmpty then S (zW l)else N
def nr(l:I1)(e:Ending):Prop:=∃f:I5,e=Zd (Ze #[Zc #[Za (f 0),Za (f 1),Za (f 2),Za (f 3)],Za (vS l).isSome])/\∀g,vS l=S g->f=g
theorem fq(s:I4)(w:I6):Calls Tryz.prog 139 #[Zb s] w λe w'=>nr s.data.toList e/\Gr w w':=by
 by_cases h:s.toList=[45]
 .refine Z0 (aT s h w) λw' a=>?_;have b:vS s.data.toList=S (λ_=>Zl):=by unfold vS;rw[qI (by rw[<-Xl];exact h)]
  exact⟨⟨λ_=>Zl,by rw[b];rfl,λg a=>by rw[b]at a;simpa using a⟩,a⟩
 .refine(aR s Vq w).mono ?_;rintro e w' ⟨i,a⟩;have d:¬ s.data.toList=[45]:=by rw[<-Xl];exact h
  refine⟨⟨zW s.data.toList,?_,?_⟩,a⟩
  .rw[i];congr 4;unfold vS;rw[qF d];cases (!s.data.toList.isEmpty&&(jN s.data.toList 4).isEmpty)<;>rfl
  .intro g a;unfold vS at a;rw[qF d]at a;cases f:(!s.data.toList.isEmpty&&(jN s.data.toList 4).isEmpty)with
   | true=>rw[f]at a;simpa using a
   | false=>rw[f]at a;exact absurd a WU
end Go.Proofs.YtnfakamfmkhlbabGreatDoor.C
