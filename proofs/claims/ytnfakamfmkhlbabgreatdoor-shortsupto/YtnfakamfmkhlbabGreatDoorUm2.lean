import Derived.Test.YtnfakamfmkhlbabGreatDoorUm1
import Derived.RangeFuncNested
import Derived.RangeFuncBound
import Derived.RangeFuncCalls
import Derived.RangeFuncLeaves
import Derived.RangeFuncIn
import Derived.WalkKit
import Derived.OwnWalkIn
import Derived.TacticsInMore
import Derived.Test.YtnfakamfmkhlbabGreatDoorProg
import Derived.Test.YtnfakamfmkhlbabGreatDoorShp
import Derived.ProofKit
import Derived.OpenShut
import Derived.Outline
import Derived.WalkLawsBesides
import Derived.LoopTactic
import Derived.Deep.LoopGhost
import Derived.Deep.QuietTactic
import Derived.BigQuiet
import Derived.Below
import Derived.Laws.Rows
import Derived.Test.YtnfakamfmkhlbabGreatDoorKz2
set_option maxRecDepth 100000
set_option maxHeartbeats 4000000
set_option linter.unusedSimpArgs false
namespace Go.Proofs.YtnfakamfmkhlbabGreatDoor.C
open Go.RowKit Go.ChangeShapes Go.WideShapes Go.ChangeAt
structure Fr(Q:Nat->Obj->Prop)(w w':World):Prop where
 os:w'.os=w.os
 tape:w'.tape=w.tape
 output:w'.output=w.output
 size:w.heap.size<=w'.heap.size
 same:∀k o,w.heap[k]?=some o->Q k o->w'.heap[k]?=some o
theorem Fr.refl(Q:Nat->Obj->Prop)(w:World):Fr Q w w:=⟨rfl,rfl,rfl,qL _,fun _ _ h _=>h⟩
theorem Fr.trans{Q:Nat->Obj->Prop}{a b c:World}(h:Fr Q a b)(g:Fr Q b c):Fr Q a c :=
 ⟨g.os.trans h.os,g.tape.trans h.tape,g.output.trans h.output,q7 h.size g.size,fun k o e q=>g.same k o (h.same k o e q) q⟩
theorem Fr.mono{Q R:Nat->Obj->Prop}{a b:World}(h:Fr Q a b)(i:∀k o,a.heap[k]?=some o->R k o->Q k o):Fr R a b :=
 ⟨h.os,h.tape,h.output,h.size,fun k o e r=>h.same k o e (i k o e r)⟩
theorem Fr.drew{Q:Nat->Obj->Prop}{a b:World}(h:Fr Q a b):Fr Q a b.drew:=⟨h.os,h.tape,h.output,h.size,h.same⟩
theorem Fr.alloc{Q:Nat->Obj->Prop}{a b:World}(h:Fr Q a b)(o:Obj):Fr Q a (b.alloc o) :=
 h.trans ⟨rfl,rfl,rfl,by simp,fun k o' e _=>(Below.heap_alloc b o k (qB.1 e).1).trans e⟩
theorem Fr.setCell{Q:Nat->Obj->Prop}{a b:World}(h:Fr Q a b){p:Addr}(u:Value)(hp:∀o,b.heap[p.block]?=some o->¬ Q p.block o):Fr Q a (b.setCell p u) :=
 h.trans ⟨rfl,rfl,rfl,by show b.heap.size<=(b.heap.modify _ _).size;simp,fun k o' e q=>by
  by_cases hk:k=p.block
  ·subst hk;exact absurd q (hp o' e)
  ·exact(Below.heap_setCell b p u k hk).trans e⟩
theorem Fr.putObj{Q:Nat->Obj->Prop}{a b:World}(h:Fr Q a b){l:Nat}(o':Obj)(hp:∀o,b.heap[l]?=some o->¬ Q l o):Fr Q a (b.putObj l o') :=
 h.trans ⟨rfl,rfl,rfl,by simp,fun k o e q=>by
  by_cases hk:k=l
  ·subst hk;exact absurd q (hp o e)
  ·exact(World.putObj_heap_other hk).trans e⟩
theorem Fr.of_below{Q:Nat->Obj->Prop}{a b:World}{n:Nat}(h:Below n a b)(i:∀k o,a.heap[k]?=some o->Q k o->k<n):Fr Q a b :=
 ⟨h.os,h.tape,h.output,h.size,fun k o e q=>(h.block k (i k o e q)).trans e⟩
theorem Fr.of_gr{Q:Nat->Obj->Prop}{a b:World}(h:Gr a b):Fr Q a b:=Fr.of_below h fun _ _ e _=>(qB.1 e).1
theorem Fr.below{Q:Nat->Obj->Prop}{a b:World}{n:Nat}(h:Fr Q a b)(hn:n<=a.heap.size)(i:∀k o,k<n->Q k o):Below n a b :=
 ⟨h.os,h.tape,h.output,h.size,fun k hk=>by
  have hlt:k<a.heap.size:=by omega
  rw[h.same k a.heap[k] (qQ hlt) (i k _ hk),qQ hlt]⟩
theorem Fr.cell{Q:Nat->Obj->Prop}{a b:World}(h:Fr Q a b){p:Addr}{v:Value}(hc:a.cell? p=some v)(i:∀o,a.heap[p.block]?=some o->Q p.block o):b.cell? p=some v:=by
 have hlt:=World.block_lt_of_cell? a _ hc;have e:=h.same p.block a.heap[p.block] (qQ hlt) (i _ (qQ hlt));rw[World.cell?_of_block (w:=a) (e.trans (qQ hlt).symm)];exact hc
theorem Fr.frozen{Q:Nat->Obj->Prop}{a b:World}(h:Fr Q a b){p:Addr}{v:Value}(hc:a.cell? p=some v)(i:∀o,a.heap[p.block]?=some o->Q p.block o):b.frozen? p=a.frozen? p:=by
 have hlt:=World.block_lt_of_cell? a _ hc;have e:=h.same p.block a.heap[p.block] (qQ hlt) (i _ (qQ hlt));exact World.frozen?_of_block (w:=a) (e.trans (qQ hlt).symm)
theorem rM(k:Nat):Fence.wide.room k:=fun d h=>by cases h
theorem jb{m m':Nat}{P:Program}{l:Nat}{args:Array Value}{W:World}{R:Ending->World->Prop}(h:YieldAt Fence.wide m P l args W R):YieldAt Fence.wide m' P l args W R:=by
 obtain⟨fn,tmps,assign,body,hy,hR⟩:=h;exact⟨fn,tmps,assign,body,hy,hR.1,fun c cs _=>hR.2 c cs (rM _)⟩
abbrev yv(B:Nat)(T:Obj->Prop):Nat->Obj->Prop:=fun k o=>k<B\/T o
abbrev jM(B:Nat)(T:Obj->Prop)(C:Nat->Prop):Nat->Obj->Prop:=fun k o=>C k\/(B<=k/\¬ T o)
def vu{β:Type}(B:Nat)(T:Obj->Prop)(J:β->World->Prop):Prop:=∀s A A',J s A->Fr (yv B T) A A'->J s A'
def It{α:Type}(P:Program)(g:Nat)(lb:Array Value)(encs:α->Array Value)(T:Obj->Prop)(C:Nat->Prop)(xs:List α)(w:World):Prop :=
 ∀(l B:Nat)(J Jx:List α->World->Prop)(W:World),Fr (fun k _=>C k) w W->B<=W.heap.size->vu B T J->vu B T Jx →
  (∀pre x W1,pre++[x] <+: xs->J pre W1->YieldAt Fence.wide 0 P l (encs x) W1 fun e W'=>Fr (jM B T C) W1 W' ∧
   ((e=.returned (.bool true)/\J (pre++[x]) W')\/(e=.returned (.bool false)/\Jx (pre++[x]) W'))) →
  J [] W →
  Calls P g (#[.func (.yield l) #[] #[]]++lb) W fun e W'=>(∃v,e=.returned v)/\(J xs W'\/∃pre,pre <+: xs/\Jx pre W')
def An{α:Type}(b:Nat)(T:Obj->Prop)(C:Nat->Prop)(I:List α->World->Prop)(Ix:Code->List α->World->Prop)(xs:List α)(W:World):Exit->Act->World->Prop
 | .normal,_,W'=>Fr (jM b T C) W W'/\I xs W'
 | .ret,_,W'=>Fr (jM b T C) W W'/\Ix .ret xs W'
 | .exit id,_,W'=>Fr (jM b T C) W W'/\Ix (.exit id) xs W'
 | .goto t,_,W'=>Fr (jM b T C) W W'/\Ix (.goto t) xs W'
 | .panic _,_,_=>False
 | .outgrown,_,_=>False
def cQ{α:Type}(P:Program)(b m:Nat)(T:Obj->Prop)(C:Nat->Prop)(encs:α->Array Value)(xs:List α)(ps:Array Tmp)(assign body:Code)(tmps:Array Value)(I:List α->World->Prop)(Ix:Code->List α->World->Prop):Prop :=
 ∀(l:Nat)(pre:List α)(x:α)(W:World),b<=l->pre++[x] <+: xs->I pre W->(∃r,W.heap[l]?=some (.loop r)) →
  assign.wpIn (Fence.wide.inRound l) m P (Exit.then (fun a1 W1=>Fr (fun _ _=>True) W W1/\∀W2,Fr (fun k _=>k≠l) W1 W2->I pre W2->(∃r,W2.heap[l]?=some (.loop r)) →
   body.wpIn (Fence.wide.inRound l) m P (An b T C I Ix (pre++[x]) W2) a1 W2) (fun _ _ _=>False))
   { tmps:=(ps.zip (encs x)).foldl (fun t (p,v)=>t.setIfInBounds p v) tmps,defers:=[] } W
theorem ls{K K':Act->World->Prop}(h:∀a w,K a w->K' a w):∀e a w,Exit.then K (fun _ _ _=>False) e a w->Exit.then K' (fun _ _ _=>False) e a w:=by
 intro e a w;cases e<;>simp only[Exit.then]<;>first|exact h a w|exact id
theorem qjp{α:Type}{P:Program}{l B b m:Nat}{fn:FuncId}{tmps:Array Value}{ps:Array Tmp}{assign body:Code}{dd:Nat}{encs:α->Array Value}{T:Obj->Prop}{C:Nat->Prop}{xs:List α}
    (hbl:b<=l) (hlB:l<B) (hT:∀o,T o->o.isCells=true) (hC:∀k,C k->k<b) (hps:∀x,(encs x).size=ps.size) {I:List α->World->Prop} {Ix:Code->List α->World->Prop} (hI:vu b T I) (hIx:∀c,vu b T (Ix c))
    (X:World->Prop) (hX:∀A A',X A->Fr (fun k o=>b<=k/\k<B/\k≠l/\o.isCells=false) A A'->X A')
    (hR:cQ P b m T C encs xs ps assign body tmps I Ix) (pre:List α) (x:α) (W:World) (hx:pre++[x] <+: xs)
    (hi:I pre W) (hl:W.heap[l]?=some (.loop { state:=.ready,pending:=none,fn,tmps,params:=ps,assign,body,defers:=dd })) (hX0:X W) :
    YieldAt Fence.wide m P l (encs x) W fun e W'=>Fr (jM B T C) W W' ∧
      ((e=.returned (.bool true)/\I (pre++[x]) W'/\W'.heap[l]?=some (.loop { state:=.ready,pending:=none,fn,tmps,params:=ps,assign,body,defers:=dd })/\X W') ∨
       (e=.returned (.bool false)/\∃c,Ix c (pre++[x]) W'/\W'.heap[l]?=some (.loop { state:=.done,pending:=some c,fn,tmps,params:=ps,assign,body,defers:=dd })/\X W')):=by
  have hy:=run_yield (P:=P) (args:=encs x) hl (hps x)
  refine⟨fn,_,assign,body,hy,roundIn_of_wpIn trivial (wpIn_mono (hR l pre x W hbl hx hi ⟨_,hl⟩) (ls ?_))⟩
  clear hy
  rintro a1 W1 ⟨f1,hb⟩
  have hl1:=f1.same _ _ hl trivial
  have lt1:l<W1.heap.size:=(qB.1 hl1).1
  refine⟨_,run_beginRound hl1 rfl,?_⟩
  generalize hW2:W1.putObj l (.loop { state:=.busy,pending:=none,fn,tmps,params:=ps,assign,body,defers:=dd })=W2
  have hl2:W2.heap[l]?=some (.loop { state:=.busy,pending:=none,fn,tmps,params:=ps,assign,body,defers:=dd }):=by rw[<-hW2];exact World.putObj_heap_same lt1
  have f2:Fr (fun k _=>k≠l) W1 W2:=by rw[<-hW2];exact(Fr.refl _ _).putObj _ (fun _ _ h=>h rfl)
  have nT:∀r:Loop,¬ T (.loop r):=fun r h=>by have:=hT _ h;cases this
  have fI:∀{A A':World},Fr (fun k _=>k≠l) A A'->(∃r,A.heap[l]?=some (.loop r))->Fr (yv b T) A A':=fun f hr=>f.mono (fun k o e q=>by
    rintro rfl
    obtain⟨r,hr⟩:=hr
    rcases q with q|q
    · omega
    · rw[hr]at e;cases e;exact nT _ q)
  have hi2:I pre W2:=hI _ _ _ (hI _ _ _ hi (f1.mono fun _ _ _ _=>trivial)) (fI f2 ⟨_,hl1⟩)
  have fX:∀{A A':World},Fr (fun k _=>k≠l) A A'->X A->X A':=fun f h=>hX _ _ h (f.mono fun k o _ q=>q.2.2.1)
  have hX2:X W2:=fX f2 (hX _ _ hX0 (f1.mono fun _ _ _ _=>trivial))
  have fR2:Fr (jM B T C) W W2:=(f1.mono fun _ _ _ _=>trivial).trans (f2.mono fun k o _ q=>by
    rintro rfl
    rcases q with q|q
    · have:=hC _ q;omega
    · omega)
  have fin:∀(jump:Option Code)(W3:World),Fr (jM b T C) W2 W3 →
      (Instr.endRound l jump).run P W3=.ok (.bool jump.isNone) (W3.putObj l (.loop { state:=if jump.isNone then .ready else .done,pending:=jump,fn,tmps,params:=ps,assign,body,defers:=dd })) ∧
      Fr (jM B T C) W (W3.putObj l (.loop { state:=if jump.isNone then .ready else .done,pending:=jump,fn,tmps,params:=ps,assign,body,defers:=dd })) ∧
      (W3.putObj l (.loop { state:=if jump.isNone then .ready else .done,pending:=jump,fn,tmps,params:=ps,assign,body,defers:=dd })).heap[l]?=some (.loop { state:=if jump.isNone then .ready else .done,pending:=jump,fn,tmps,params:=ps,assign,body,defers:=dd }) ∧
      X (W3.putObj l (.loop { state:=if jump.isNone then .ready else .done,pending:=jump,fn,tmps,params:=ps,assign,body,defers:=dd })) ∧
      Fr (yv b T) W3 (W3.putObj l (.loop { state:=if jump.isNone then .ready else .done,pending:=jump,fn,tmps,params:=ps,assign,body,defers:=dd })):=fun jump W3 f3=>by
    have hl3:=f3.same _ _ hl2 (.inr ⟨hbl,nT _⟩)
    have f4:Fr (fun k _=>k≠l) W3 (W3.putObj l (.loop { state:=if jump.isNone then .ready else .done,pending:=jump,fn,tmps,params:=ps,assign,body,defers:=dd })):=(Fr.refl _ _).putObj _ (fun _ _ h=>h rfl)
    refine⟨run_endRound (P:=P) jump hl3,?_,World.putObj_heap_same (qB.1 hl3).1,fX f4 (hX _ _ hX2 (f3.mono fun k o _ q=>.inr ⟨q.1,fun h=>by rw[hT _ h]at q;exact absurd q.2.2.2 (by decide)⟩)),fI f4 ⟨_,hl3⟩⟩
    refine(fR2.trans (f3.mono fun k o _ q=>?_)).trans (f4.mono fun k o _ q=>?_)
    · rcases q with q|q
      · exact .inl q
      · exact .inr ⟨by omega,q.2⟩
    · rintro rfl
      rcases q with q|q
      · have:=hC _ q;omega
      · omega
  refine wpIn_mono (hb W2 f2 hi2 ⟨_,hl2⟩) ?_
  rintro e a3 W3 hp
  cases e with
  | normal =>
    obtain⟨f3,hi3⟩:=hp
    obtain⟨r1,r2,r3,r4,r5⟩:=fin none W3 f3
    exact⟨_,_,r1,r2,.inl ⟨rfl,hI _ _ _ hi3 r5,r3,r4⟩⟩
  | ret =>
    obtain⟨f3,hi3⟩:=hp
    obtain⟨r1,r2,r3,r4,r5⟩:=fin (some .ret) W3 f3
    exact⟨_,_,r1,r2,.inr ⟨rfl,_,hIx _ _ _ _ hi3 r5,r3,r4⟩⟩
  | exit id =>
    obtain⟨f3,hi3⟩:=hp
    obtain⟨r1,r2,r3,r4,r5⟩:=fin (some (.exit id)) W3 f3
    exact⟨_,_,r1,r2,.inr ⟨rfl,_,hIx _ _ _ _ hi3 r5,r3,r4⟩⟩
  | goto t =>
    obtain⟨f3,hi3⟩:=hp
    obtain⟨r1,r2,r3,r4,r5⟩:=fin (some (.goto t)) W3 f3
    exact⟨_,_,r1,r2,.inr ⟨rfl,_,hIx _ _ _ _ hi3 r5,r3,r4⟩⟩
  | panic ch=>exact hp.elim
  | outgrown=>exact hp.elim
theorem qo{β:Type}{B B':Nat}{T:Obj->Prop}{J:β->World->Prop}(h:vu B T J)(hB:B<=B'):vu B' T J:=fun s A A' hj f=>h s A A' hj (f.mono fun k o _ q=>q.elim (fun q=>.inl (by omega)) .inr)
theorem xj{α:Type}{P:Program}{n:Nat}{g:Operand}{ps:Array Tmp}{assign body:Code}{Q:Exit->Act->World->Prop}{a:Act}{w:World}{gf:Nat}{lb:Array Value}
  (hg:a.eval g=.func (.func gf) #[] lb) (eg:∀args w,(callFunc gf args).run P w=.ok (.enter gf args) w) {encs:α->Array Value} {T:Obj->Prop} {C:Nat->Prop} {xs:List α} {w0:World} (hit:It P gf lb encs T C xs w0)
  (hT:∀o,T o->o.isCells=true) (hC:∀k,C k->k<w.heap.size) (h0C:Fr (fun k _=>C k) w0 w) (hps:∀x,(encs x).size=ps.size)
  (I:List α->World->Prop) (Ix:Code->List α->World->Prop) (hI:vu w.heap.size T I) (hIx:∀c,vu w.heap.size T (Ix c)) (h0:I [] w)
  (hR:cQ P w.heap.size 9 T C encs xs ps assign body a.tmps I Ix)
  (hdone:∀(D:Nat)(W:World),w.heap.size<=D->I xs W->W.heap[D]?=some (.deferred (some []))->Q .normal { a with defers:={ target:=.collected D,args:=#[] } :: a.defers } W)
  (hstop:∀(D:Nat)(c:Code)(pre:List α)(W:World),w.heap.size<=D->pre <+: xs->Ix c pre W->W.heap[D]?=some (.deferred (some []))->c.wpIn Fence.wide n P Q { a with defers:={ target:=.collected D,args:=#[] } :: a.defers } W) :
  (Code.rangeFunc g ps assign body).wpIn Fence.wide n P Q a w:=by
 refine wpIn_rangeFunc ?_;intro fn _;generalize hW1:(w.alloc (.deferred (some []))).alloc (.loop { state:=.ready,pending:=none,fn,tmps:=a.tmps,params:=ps,assign,body,defers:=w.heap.size })=W1;have f1:∀Q:Nat->Obj->Prop,Fr Q w W1:=fun Q=>by rw[<-hW1];exact((Fr.refl _ _).alloc _).alloc _
 have hl1:W1.heap[w.heap.size+1]?=some (.loop { state:=.ready,pending:=none,fn,tmps:=a.tmps,params:=ps,assign,body,defers:=w.heap.size }):=by
  rw[<-hW1];have:=World.alloc_heap_new (w.alloc (.deferred (some []))) (.loop { state:=.ready,pending:=none,fn,tmps:=a.tmps,params:=ps,assign,body,defers:=w.heap.size });rwa[World.size_alloc]at this
 have hD1:W1.heap[w.heap.size]?=some (.deferred (some [])):=by
  rw[<-hW1];exact(Below.heap_alloc _ _ _ (by simp)).trans (World.alloc_heap_new w _)
 have hsz:W1.heap.size=w.heap.size+2:=by rw[<-hW1];simp
 refine⟨w.heap.size+1,[{ target:=.collected w.heap.size,args:=#[] }],W1,{ target:=.fn (.func gf) lb,args:=#[.func (.yield (w.heap.size+1)) #[] #[]] },W1,gf,
  #[.func (.yield (w.heap.size+1)) #[] #[]]++lb,W1,?_,?_,?_,?_,?_,?_⟩
 ·rw[<-hW1];exact run_enterLoop_outer _ _ _ _ _
 ·simp only[resolve,hg];simp[go_sem]
 ·intro f' hf';trivial
 ·simp[invoke,go_sem,eg]
 ·intro h;cases h
 ·refine callsIn_wide.2 ((hit (w.heap.size+1) W1.heap.size
   (fun pre W=>I pre W/\W.heap[w.heap.size+1]?=some (.loop { state:=.ready,pending:=none,fn,tmps:=a.tmps,params:=ps,assign,body,defers:=w.heap.size })/\W.heap[w.heap.size]?=some (.deferred (some [])))
   (fun pre W=>∃c,Ix c pre W/\W.heap[w.heap.size+1]?=some (.loop { state:=.done,pending:=some c,fn,tmps:=a.tmps,params:=ps,assign,body,defers:=w.heap.size })/\W.heap[w.heap.size]?=some (.deferred (some [])))
   W1 (h0C.trans (f1 _)) (qL _) ?_ ?_ ?_ ⟨hI _ _ _ h0 (f1 _),hl1,hD1⟩).mono ?_)
  ·rintro s A A' ⟨h1,h2,h3⟩ f;exact⟨qo hI (by omega) _ _ _ h1 f,f.same _ _ h2 (.inl (by omega)),f.same _ _ h3 (.inl (by omega))⟩
  ·rintro s A A' ⟨c,h1,h2,h3⟩ f;exact⟨c,qo (hIx c) (by omega) _ _ _ h1 f,f.same _ _ h2 (.inl (by omega)),f.same _ _ h3 (.inl (by omega))⟩
  ·rintro pre x W hx ⟨h1,h2,h3⟩;exact jb (qjp (B:=W1.heap.size) (b:=w.heap.size) (by omega) (by omega) hT hC hps hI hIx (fun W=>W.heap[w.heap.size]?=some (.deferred (some []))) (fun A A' h f=>f.same _ _ h ⟨qL _,by omega,by omega,rfl⟩) hR pre x W hx h1 h2 h3)
  ·rintro e W2 ⟨⟨v,rfl⟩,⟨hi,hl,hk⟩|⟨pre,hp,c,hi,hl,hk⟩⟩
   ·have f:∀o',Fr (yv w.heap.size T) W2 (W2.putObj (w.heap.size+1) o'):=fun o'=>(Fr.refl _ _).putObj _ (fun o e q=>by
     rw[hl]at e;cases e;rcases q with q|q
     ·omega
     ·have:=hT _ q;cases this)
    exact⟨none,_,run_endLoop (P:=P) hl (by simp),hdone _ _ (qL _) (hI _ _ _ hi (f _)) ((World.putObj_heap_other (by omega)).trans hk)⟩
   ·have f:∀o',Fr (yv w.heap.size T) W2 (W2.putObj (w.heap.size+1) o'):=fun o'=>(Fr.refl _ _).putObj _ (fun o e q=>by
     rw[hl]at e;cases e;rcases q with q|q
     ·omega
     ·have:=hT _ q;cases this)
    exact⟨some c,_,run_endLoop (P:=P) hl (by simp),hstop _ c pre _ (qL _) hp (hIx c _ _ _ hi (f _)) ((World.putObj_heap_other (by omega)).trans hk)⟩
theorem rj{α:Type}{P:Program}{n:Nat}{g:Operand}{ps:Array Tmp}{assign body:Code}{Q:Exit->Act->World->Prop}{a:Act}{w:World}{gf:Nat}{lb:Array Value}{l₀:Nat}(hl₀:∃r,w.heap[l₀]?=some (.loop r))
  (hg:a.eval g=.func (.func gf) #[] lb) (eg:∀args w,(callFunc gf args).run P w=.ok (.enter gf args) w) {encs:α->Array Value} {T:Obj->Prop} {C:Nat->Prop} {xs:List α} {w0:World} (hit:It P gf lb encs T C xs w0)
  (hT:∀o,T o->o.isCells=true) (hC:∀k,C k->k<w.heap.size) (h0C:Fr (fun k _=>C k) w0 w) (hps:∀x,(encs x).size=ps.size)
  (I:List α->World->Prop) (Ix:Code->List α->World->Prop) (hI:vu w.heap.size T I) (hIx:∀c,vu w.heap.size T (Ix c)) (h0:I [] w)
  (hR:cQ P w.heap.size 9 T C encs xs ps assign body a.tmps I Ix)
  (hdone:∀(W:World),I xs W->Q .normal a W)
  (hstop:∀(c:Code)(pre:List α)(W:World),pre <+: xs->Ix c pre W->c.wpIn (Fence.wide.inRound l₀) n P Q a W) :
  (Code.rangeFunc g ps assign body).wpIn (Fence.wide.inRound l₀) n P Q a w:=by
 obtain⟨r₀,hl₀⟩:=hl₀;refine wpIn_rangeFunc ?_;intro fn _;generalize hW1:w.alloc (.loop { state:=.ready,pending:=none,fn,tmps:=a.tmps,params:=ps,assign,body,defers:=r₀.defers })=W1;have f1:∀Q:Nat->Obj->Prop,Fr Q w W1:=fun Q=>by rw[<-hW1];exact(Fr.refl _ _).alloc _
 have hl1:W1.heap[w.heap.size]?=some (.loop { state:=.ready,pending:=none,fn,tmps:=a.tmps,params:=ps,assign,body,defers:=r₀.defers }):=by
  rw[<-hW1];exact World.alloc_heap_new w _
 have hsz:W1.heap.size=w.heap.size+1:=by rw[<-hW1];simp
 refine⟨w.heap.size,[],W1,{ target:=.fn (.func gf) lb,args:=#[.func (.yield w.heap.size) #[] #[]] },W1,gf,
  #[.func (.yield w.heap.size) #[] #[]]++lb,W1,?_,?_,?_,?_,?_,?_⟩
 ·rw[<-hW1];exact run_enterLoop_inner hl₀ _ _ _ _ _
 ·simp only[resolve,hg];simp[go_sem]
 ·intro f' hf';trivial
 ·simp[invoke,go_sem,eg]
 ·intro h;cases h
 ·refine CallsIn.inRound l₀ (callsIn_wide.2 ((hit w.heap.size W1.heap.size
   (fun pre W=>I pre W/\W.heap[w.heap.size]?=some (.loop { state:=.ready,pending:=none,fn,tmps:=a.tmps,params:=ps,assign,body,defers:=r₀.defers }))
   (fun pre W=>∃c,Ix c pre W/\W.heap[w.heap.size]?=some (.loop { state:=.done,pending:=some c,fn,tmps:=a.tmps,params:=ps,assign,body,defers:=r₀.defers }))
   W1 (h0C.trans (f1 _)) (qL _) ?_ ?_ ?_ ⟨hI _ _ _ h0 (f1 _),hl1⟩).mono ?_))
  ·rintro s A A' ⟨h1,h2⟩ f;exact⟨qo hI (by omega) _ _ _ h1 f,f.same _ _ h2 (.inl (by omega))⟩
  ·rintro s A A' ⟨c,h1,h2⟩ f;exact⟨c,qo (hIx c) (by omega) _ _ _ h1 f,f.same _ _ h2 (.inl (by omega))⟩
  ·rintro pre x W hx ⟨h1,h2⟩;obtain⟨fn',tmps',as',bo',hy,hRn⟩:=jb (m':=0) (qjp (b:=w.heap.size) (B:=W1.heap.size) (qL _) (by omega) hT hC hps hI hIx (fun _=>True) (fun _ _ _ _=>trivial) hR pre x W hx h1 h2 trivial);refine⟨fn',tmps',as',bo',hy,hRn.mono ?_⟩;rintro e W' ⟨f,⟨h3,h4,h5,_⟩|⟨h3,c,h4,h5,_⟩⟩
   ·exact⟨f,.inl ⟨h3,h4,h5⟩⟩
   ·exact⟨f,.inr ⟨h3,c,h4,h5⟩⟩
  ·rintro e W2 ⟨⟨v,rfl⟩,⟨hi,hl⟩|⟨pre,hp,c,hi,hl⟩⟩
   ·have f:∀o',Fr (yv w.heap.size T) W2 (W2.putObj w.heap.size o'):=fun o'=>(Fr.refl _ _).putObj _ (fun o e q=>by
     rw[hl]at e;cases e;rcases q with q|q
     ·omega
     ·have:=hT _ q;cases this)
    exact⟨none,_,run_endLoop (P:=P) hl (by simp),hdone _ (hI _ _ _ hi (f _))⟩
   ·have f:∀o',Fr (yv w.heap.size T) W2 (W2.putObj w.heap.size o'):=fun o'=>(Fr.refl _ _).putObj _ (fun o e q=>by
     rw[hl]at e;cases e;rcases q with q|q
     ·omega
     ·have:=hT _ q;cases this)
    exact⟨some c,_,run_endLoop (P:=P) hl (by simp),hstop c pre _ hp (hIx c _ _ _ hi (f _))⟩
theorem rS{k:IntKind}{a b:Int}{v:Value}(h:a=b):Ending.returned (.tuple #[.int k a,v])=.returned (.tuple #[.int k b,v]):=by rw[h]
theorem rD(s:ByteArray)(w:World):Calls Tryz.prog 138 #[.string s] w fun e w'=>e=.returned (.tuple #[.bool (s.toList==[119]),.bool (s.toList==[119]||s.toList==[98])])/\w'=w:=by
 by_cases h:s.toList=[119]
 ·have e1:(s.toList==[119])=true:=by simpa using h
  rw[e1];go_enter Tryz.func138,Tryz.ntmps138;go_wp2;go_ret2;exact⟨rfl,rfl⟩
 ·have e1:(s.toList==[119])=false:=by simpa using h
  rw[e1];go_enter Tryz.func138,Tryz.ntmps138;go_wp2;go_ret2;exact⟨rfl,rfl⟩
def uX(s:ByteArray):Option Nat :=
 if h:s.size=2 then
  if 97<=s[0].toNat/\s[0].toNat<=104/\49<=s[1].toNat/\s[1].toNat<=56 then some (s[0].toNat-97+8*(s[1].toNat-49))else none
 else none
theorem pl(s:ByteArray)(h:uX s=none)(w:World):Calls Tryz.prog 117 #[.string s] w fun e w'=>e=.returned (.tuple #[.int .i64 0,.bool false])/\w'=w:=by
 unfold uX at h;have hh:=qC h;clear h;by_cases h2:s.size=2
 ·have hc:¬ (97<=s[0].toNat/\s[0].toNat<=104/\49<=s[1].toNat/\s[1].toNat<=56):=by
   intro g;have:=qa hh;rw[dif_pos h2,qI g]at this;exact absurd this (by simp)
  clear hh;have hc':=qC hc;clear hc;go_enter Tryz.func117,Tryz.ntmps117;go_wp2
  all_goals first|(go_ret2;exact⟨rfl,rfl⟩)|(exfalso;have:=qa hc';simp at *;omega)
 ·clear hh;go_enter Tryz.func117,Tryz.ntmps117;go_wp2;go_ret2;exact⟨rfl,rfl⟩
theorem qz7(s:ByteArray)(n:Nat)(h:uX s=some n)(w:World):Calls Tryz.prog 117 #[.string s] w fun e w'=>e=.returned (.tuple #[.int .i64 n,.bool true])/\Gr w w':=by
 unfold uX at h;by_cases h2:s.size=2
 ·rw[dif_pos h2]at h;by_cases hc:97<=s[0].toNat/\s[0].toNat<=104/\49<=s[1].toNat/\s[1].toNat<=56
  ·rw[qI hc]at h;obtain⟨c1,c2,c3,c4⟩:=hc;have hn:Hid (s[0].toNat-97+8*(s[1].toNat-49)=n):=qC (by simpa using h);clear h;go_enter Tryz.func117,Tryz.ntmps117;go_wp2;go_region
   all_goals
    go_wp2;go_ret2;exact⟨rS (by have:=qa hn;omega),(Gr.refl _).drew⟩
  ·rw[qF hc]at h;exact absurd h (by simp)
 ·rw[dif_neg h2]at h;exact absurd h (by simp)
def fA:Option Nat->Option Int
 | some n=>some (n:Int)
 | none=>none
def v8(s:ByteArray):Option Int:=if s.toList=[45]then some (-1)else fA (uX s)
theorem hO(s:ByteArray)(w:World):Calls Tryz.prog 140 #[.string s] w fun e w'=>(∃v:Int,e=.returned (.tuple #[.int .i64 v,.bool (v8 s).isSome])/\∀n,v8 s=some n->v=n)/\Gr w w':=by
 by_cases h:s.toList=[45]
 ·have e1:v8 s=some (-1):=by unfold v8;rw[qI h]
  rw[e1];go_enter Tryz.func140,Tryz.ntmps140;go_wp2;go_ret2;exact⟨⟨-1,rfl,fun n hn=>by simpa using hn⟩,Gr.refl _⟩
 ·have e0:v8 s=fA (uX s):=by unfold v8;rw[qF h]
  have e9:(s.toList==[45])=false:=by simpa using h
  clear h;cases hs:uX s with
  | none =>
   rw[hs]at e0;rw[e0];have hs':=qC hs;clear hs e0;go_enter Tryz.func140,Tryz.ntmps140;go_wp2_with(go_at_call 117;refine(pl s (qa hs') _).mono ?_;rintro e w' ⟨rfl,rfl⟩);go_ret2;exact⟨⟨0,rfl,fun n hn=>by simp[fA]at hn⟩,Gr.refl _⟩
  | some m =>
   rw[hs]at e0;rw[e0];have hs':=qC hs;clear hs e0;go_enter Tryz.func140,Tryz.ntmps140;go_wp2_with(go_at_call 117;refine(qz7 s m (qa hs') _).mono ?_;rintro e w' ⟨rfl,hg⟩);go_ret2;exact⟨⟨m,rfl,fun n hn=>by simpa[fA]using hn⟩,hg⟩
def dv(l:List UInt8):Nat:=l.foldl (fun n c=>10*n+(c.toNat-48)) 0
def dg(c:UInt8):Bool:=decide (48<=c.toNat/\c.toNat<=57)
def kZ(d:Nat)(l:List UInt8):Option Nat :=
 if 1<=l.length/\l.length<=d/\(1<l.length->l.head?≠some 48)/\l.all dg=true then some (dv l)else none
def vR(l:List UInt8):Option Nat :=
 if 1<=l.length/\l.length<=5/\(1<l.length->l.head?≠some 48)/\l.all dg=true/\dv l<=65535 then some (dv l)else none
theorem lN(l:List UInt8):vR l=(kZ 5 l).filter fun n=>decide (n<=65535):=by
 unfold vR kZ;by_cases h:1<=l.length/\l.length<=5/\(1<l.length->l.head?≠some 48)/\l.all dg=true
 ·rw[qI h];by_cases g:dv l<=65535
  ·rw[qI ⟨h.1,h.2.1,h.2.2.1,h.2.2.2,g⟩];simp[Option.filter,g]
  ·rw[qF (fun x=>g x.2.2.2.2)];simp[Option.filter,g]
 ·rw[qF h,qF (fun x=>h ⟨x.1,x.2.1,x.2.2.1,x.2.2.2.1⟩)];rfl
theorem yz(l:List UInt8)(c:UInt8):dv (l++[c])=10*dv l+(c.toNat-48):=by
 unfold dv;rw[List.foldl_append];rfl
theorem tP:∀(n:Nat)(l:List UInt8),l.length=n->l.all dg=true->dv l<10 ^ n:=by
 intro n;induction n with
 | zero=>intro l h _;have:l=[]:=List.length_eq_zero_iff.mp h;subst this;simp[dv]
 | succ n ih =>
  intro l h ha;have hne:l≠[]:=fun e=>by subst e;simp at h
  have e:=List.dropLast_concat_getLast hne;rw[<-e,yz];rw[<-e,List.all_append]at ha;simp only[qH,List.all_cons,List.all_nil,Bool.and_true]at ha;have:=ih l.dropLast (by simp[h]) ha.1;have hd:(l.getLast hne).toNat<=57:=by have:=ha.2;simp[dg]at this;omega
  rw[Nat.pow_succ];omega
theorem xi(s:ByteArray)(k:Nat)(h:k<s.size):s.data.toList.take (k+1)=s.data.toList.take k++[s[k]]:=by
 rw[List.take_succ_eq_append_getElem (by simpa using h)];rfl
theorem dt(s:ByteArray)(h:0<s.size):s.data.toList.head?=some s[0]:=by
 have:=xi s 0 h;cases e:s.data.toList with
 | nil=>rw[e]at this;simp at this
 | cons a r=>rw[e]at this;simp at this;simp[this]
theorem iy(s:ByteArray)(k:Nat)(h:k<s.size)(hd:dg s[k]=false):s.data.toList.all dg=false:=by
 rw[<-List.take_append_drop (k+1) s.data.toList,xi s k h,List.all_append,List.all_append];simp only[List.all_cons,List.all_nil,hd,Bool.false_and,Bool.and_false]
def cS(s:ByteArray)(e:Ending):Prop:=∃v:Int,e=.returned (.tuple #[.int .i64 v,.bool (vR s.data.toList).isSome])/\∀n,vR s.data.toList=some n->v=(n:Int)
theorem cS.none{s:ByteArray}(h:vR s.data.toList=none):cS s (.returned (.tuple #[.int .i64 0,.bool false])):=⟨0,by rw[h];rfl,fun n hn=>by rw[h]at hn;exact absurd hn (by simp)⟩
def vv(d:Nat)(s:ByteArray)(e:Ending):Prop:=e=.returned (.tuple #[.int .i64 (((kZ d s.data.toList).getD 0:Nat):Int),.bool (kZ d s.data.toList).isSome])
theorem vv.none{d:Nat}{s:ByteArray}(h:kZ d s.data.toList=none):vv d s (.returned (.tuple #[.int .i64 0,.bool false])):=by unfold vv;rw[h];rfl
theorem bm(d:Nat)(_hd9:d<=9)(s:ByteArray)(hs:s.size<=maxLen)(h:s.size<1\/d<s.size\/(1<s.size/\s.data.toList.head?=some 48))(w:World):Calls Tryz.prog 217 #[.string s,.int .i64 (d:Int)] w fun e w'=>vv d s e/\w'=w:=by
 have hno:kZ d s.data.toList=none:=by
  unfold kZ;rw[qF];rintro⟨g1,g2,g3,_⟩;simp only[Array.length_toList,ByteArray.size_data]at g1 g2 g3;rcases h with h|h|h
  ·omega
  ·omega
  ·exact g3 h.1 h.2
 have hend:=qC (vv.none hno);clear hno;unfold maxLen at hs;by_cases c1:s.size<1
 ·go_enter Tryz.func217,Tryz.ntmps217;go_wp2;go_ret2;exact⟨qa hend,rfl⟩
 ·by_cases c2:d<s.size
  ·go_enter Tryz.func217,Tryz.ntmps217;go_wp2;go_ret2;exact⟨qa hend,rfl⟩
  ·have c3:1<s.size:=by omega
   have c4:s[0]=48:=by
    rcases h with h|h|h
    ·omega
    ·omega
    ·have:=dt s (by omega);rw[h.2]at this;simpa using this.symm
   have c5:s[0].toNat=48:=by rw[c4];rfl
   clear h c4;go_enter Tryz.func217,Tryz.ntmps217;go_wp2;go_ret2;exact⟨qa hend,rfl⟩
theorem bl(d:Nat)(hd9:d<=9)(s:ByteArray)(h1:1<=s.size)(h5:s.size<=d)(h0:s.size<=1\/s.data.toList.head?≠some 48)(w:World):Calls Tryz.prog 217 #[.string s,.int .i64 (d:Int)] w fun e w'=>vv d s e/\w'=w:=by
 have hbad:Hid (∀k (h:k<s.size),dg s[k]=false->vv d s (.returned (.tuple #[.int .i64 0,.bool false]))):=by
  intro k h hd;apply vv.none;unfold kZ;rw[qF];rintro⟨_,_,_,g⟩;rw[iy s k h hd]at g;exact absurd g (by decide)
 have hgood:Hid (s.data.toList.all dg=true->vv d s (.returned (.tuple #[.int .i64 (dv s.data.toList),.bool true]))):=by
  intro hall
  have hz:1<=s.data.toList.length/\s.data.toList.length<=d/\(1<s.data.toList.length->s.data.toList.head?≠some 48):=by
   simp only[Array.length_toList,ByteArray.size_data];exact⟨h1,h5,fun h=>h0.resolve_left (by omega)⟩
  unfold vv
  have:kZ d s.data.toList=some (dv s.data.toList):=by
   unfold kZ;rw[qI ⟨hz.1,hz.2.1,hz.2.2,hall⟩]
  rw[this];rfl
 have hz:s.size<=1\/((s[0].toNat:Int)==48)=false:=by
  rcases h0 with h0|h0
  ·exact Or.inl h0
  ·right;have:=dt s (by omega);rw[this]at h0;have:s[0]≠48:=fun e=>h0 (by rw[e])
   simp only[qM];intro e;exact this (q6.mp (by simp;omega))
 clear h0;by_cases hz1:s.size<=1
 all_goals
  have hz2:1<s.size->((s[0].toNat:Int)==48)=false:=fun h=>hz.resolve_left (by omega)
  clear hz
  try have hz3:=hz2 (by omega)
  clear hz2;have hds:decide (d<s.size)=false:=by simp;omega
  go_enter Tryz.func217,Tryz.ntmps217;go_wp2;go_loopg [6,29] s.size (fun g n i wr=>∃k:Nat,k+g=s.size/\i=.int .i64 k/\n=.int .i64 (dv (s.data.toList.take k))/\(s.data.toList.take k).all dg=true/\wr=w)
  case atStart=>exact⟨0,by omega,rfl,rfl,rfl,rfl⟩
  case round =>
   obtain⟨k,k1,rfl,rfl,hall,rfl⟩:=hrel;have hb:=tP k (s.data.toList.take k) (by simp;omega) hall;have hall':=qC hall;clear hall;by_cases hlt:k<s.size
   ·have hb':10 ^ k<=10 ^ 8:=Nat.pow_le_pow_right (by omega) (by omega);have hbb:dv (s.data.toList.take k)<=99999999:=by omega
    clear hb hb';have hts:=qC (xi s k hlt);generalize hd:dv (s.data.toList.take k)=dd at hbb;have hd':=qC hd;clear hd;by_cases c1:s[k].toNat<48
    ·go_wp2;go_ret2;exact⟨qa hbad k hlt (by simp[dg];omega),rfl⟩
    ·by_cases c2:57<s[k].toNat
     ·go_wp2;go_ret2;exact⟨qa hbad k hlt (by simp[dg];omega),rfl⟩
     ·go_wp2;go_roundg (gk-1)
      case measure=>omega
      case rel =>
       refine⟨k+1,by omega,by go_num,?_,?_,rfl⟩
       ·rw[qa hts,yz,qa hd'];congr 1;omega
       ·rw[qa hts,List.all_append,qa hall'];simp[dg];omega
   ·have ek:k=s.size:=by omega
    subst ek;have hfull:s.data.toList.take s.size=s.data.toList:=List.take_of_length_le (by simp);rw[hfull]at hall' hb ⊢;clear hfull;have hend:=qC (qa hgood (qa hall'));clear hgood hall' hbad;generalize dv s.data.toList=dd at hend hb ⊢;have hb5:dd<1000000000:=by have:10 ^ s.size<=10 ^ 9:=Nat.pow_le_pow_right (by omega) (by omega);omega
    clear hb;go_wp2;go_ret2;exact⟨qa hend,rfl⟩
theorem ey(d:Nat)(hd9:d<=9)(s:ByteArray)(hs:s.size<=maxLen)(w:World):Calls Tryz.prog 217 #[.string s,.int .i64 (d:Int)] w fun e w'=>vv d s e/\w'=w:=by
 by_cases h:s.size<1\/d<s.size\/(1<s.size/\s.data.toList.head?=some 48)
 ·exact bm d hd9 s hs h w
 ·exact bl d hd9 s (by omega) (by omega) (by
   by_cases g:s.size<=1
   ·exact Or.inl g
   ·exact Or.inr fun e=>h (Or.inr (Or.inr ⟨by omega,e⟩))) w
theorem BR(d:Nat)(hd9:d<=9)(l:List UInt8):(kZ d l).getD 0<1000000000:=by
 unfold kZ;split
 ·rename_i h;have:=tP l.length l rfl h.2.2.2;have h2:10 ^ l.length<=10 ^ 9:=Nat.pow_le_pow_right (by omega) (by omega);show dv l<_;omega
 ·decide
theorem gc(s:ByteArray)(hs:s.size<=maxLen)(w:World):Calls Tryz.prog 141 #[.string s] w fun e w'=>cS s e/\w'=w:=by
 have hnum:=qC (ey 5 (by omega) s hs w)
 have hend:Hid (cS s (.returned (.tuple #[.int .i64 (((kZ 5 s.data.toList).getD 0:Nat):Int),.bool ((kZ 5 s.data.toList).isSome&&decide (((kZ 5 s.data.toList).getD 0:Int)<=65535))]))):=by
  refine⟨(((kZ 5 s.data.toList).getD 0:Nat):Int),?_,?_⟩
  ·congr 4;rw[lN];cases h:kZ 5 s.data.toList with
   | none=>rfl
   | some n=>by_cases g:n<=65535<;>simp[Option.filter,g]<;>omega
  ·intro n hn;rw[lN]at hn;cases h:kZ 5 s.data.toList with
   | none=>rw[h]at hn;exact absurd hn (by simp[Option.filter])
   | some m =>
    rw[h]at hn;simp only[Option.filter]at hn;split at hn
    ·simp only[Option.some.injEq]at hn;rw[hn];rfl
    ·exact absurd hn (by simp)
 unfold vv at hnum;have hlt:=BR 5 (by omega) s.data.toList;generalize (kZ 5 s.data.toList).getD 0=v at hnum hend hlt;generalize (kZ 5 s.data.toList).isSome=b at hnum hend;by_cases hv:v<=65535
 ·cases b
  all_goals
   go_enter Tryz.func141,Tryz.ntmps141;go_wp2_with(go_at_call 217;refine(qa hnum).mono ?_;rintro e w' ⟨rfl,rfl⟩);go_ret2;exact⟨by have:=qa hend;simpa[hv,show((v:Int)<=65535)from by omega]using this,rfl⟩
 ·cases b
  all_goals
   go_enter Tryz.func141,Tryz.ntmps141;go_wp2_with(go_at_call 217;refine(qa hnum).mono ?_;rintro e w' ⟨rfl,rfl⟩);go_ret2;exact⟨by have:=qa hend;simpa[hv,show ¬ ((v:Int)<=65535)from by omega]using this,rfl⟩
def vn:Nat->UInt8
 | 0=>75
 | 1=>81
 | 2=>107
 | _=>113
def jN(l:List UInt8):Nat->List UInt8
 | 0=>l
 | i+1=>Lib.trimPrefix (jN l i) [vn i]
def zW(l:List UInt8)(i:Nat):Bool:=Lib.hasPrefix (jN l i) [vn i]
theorem aT(s:ByteArray)(h:s.toList=[45])(w:World):Calls Tryz.prog 139 #[.string s] w fun e w'=>e=.returned (.tuple #[.agg #[.bool false,.bool false,.bool false,.bool false],.bool true])/\Gr w w':=by
 go_enter Tryz.func139,Tryz.ntmps139;go_wp2;refine bodyPost_ret (v:=.tuple #[.agg #[.bool false,.bool false,.bool false,.bool false],.bool true]) (by simp[results,Tryz.results139,go_sem]) rfl ⟨rfl,?_⟩
 repeat(first|exact Gr.refl _|apply Gr.alloc)
def Cv(l:List UInt8)(e:Ending):Prop :=
 e=.returned (.tuple #[.agg #[.bool (zW l 0),.bool (zW l 1),.bool (zW l 2),.bool (zW l 3)],.bool (!l.isEmpty&&(jN l 4).isEmpty)])
theorem arr4(A:Array Value)(hs:A.size=4)(f:Nat->Bool)(h:∀j,j<4->A[j]?=some (.bool (f j))):A=#[.bool (f 0),.bool (f 1),.bool (f 2),.bool (f 3)]:=by
 apply Array.ext_getElem?;intro i;by_cases hi:i<4
 ·rw[h i hi];have:i=0\/i=1\/i=2\/i=3:=by omega
  rcases this with rfl|rfl|rfl|rfl<;>rfl
 ·rw[Array.getElem?_eq_none (by omega),Array.getElem?_eq_none (by simp;omega)]
theorem Ai(A:Array Value)(hs:A.size=4)(f:Nat->Bool)(i:Nat)(hi:i<4)(b:Bool)(hb:b=f i)(h:∀j,j<i->A[j]?=some (.bool (f j))) :
  (A.setIfInBounds i (.bool b)).size=4/\∀j,j<i+1->(A.setIfInBounds i (.bool b))[j]?=some (.bool (f j)):=by
 refine⟨by simpa using hs,?_⟩;intro j hj;rw[Array.getElem?_setIfInBounds];by_cases e:i=j
 ·subst e;rw[qI rfl,qI (by omega),hb]
 ·rw[qF e];exact h j (by omega)
theorem aR(s:ByteArray)(h:(s.toList==[45])=false)(w:World):Calls Tryz.prog 139 #[.string s] w fun e w'=>Cv s.data.toList e/\Gr w w':=by
 go_enter Tryz.func139,Tryz.ntmps139;go_wp2;go_loopg [5,11] 4 (fun g r n wr=>∃i:Nat,i+g=4/\n=.int .i64 i/\(∃q:ByteArray,r=.string q/\q.data.toList=jN s.data.toList i)/\∃A:Array Value,wr=(w.alloc (Obj.cells #[.bool false,.bool false,.bool false,.bool false] 68)).alloc (Obj.cells A 68)/\A.size=4/\∀j,j<i->A[j]?=some (.bool (zW s.data.toList j)))
 case atStart=>exact⟨0,rfl,rfl,⟨s,rfl,rfl⟩,_,rfl,rfl,fun j hj=>by omega⟩
 case round =>
  obtain⟨i,i1,rfl,⟨q,rfl,hq0⟩,A,rfl,hs,hA0⟩:=hrel;have hA:=qC hA0;have hq:=qC hq0;clear hA0 hq0;by_cases hlt:i<4
  ·have hcell:((w.alloc (Obj.cells #[.bool false,.bool false,.bool false,.bool false] 68)).alloc (Obj.cells A 68)).cell? ⟨w.heap.size+1,i,none⟩=some (A[i]'(by omega)):=by
    rw[cell_of_row _ _ _ _ _ _ (heap_alloc2_new _ _ _)];exact qQ _
   have hi:i=0\/i=1\/i=2\/i=3:=by omega
   rcases hi with rfl|rfl|rfl|rfl
   ·go_wp2_with(go_at_call 216;refine(Tryz.strings_CutPrefix _ _ _).mono ?_;rintro e w' ⟨rfl,rfl⟩);go_roundg (gk-1)
    case measure=>omega
    case rel =>
     obtain⟨e1,e2⟩:=Ai A hs (zW s.data.toList) 0 hlt (Lib.hasPrefix q.data.toList [vn 0]) (by unfold zW;rw[qa hq]) (qa hA);refine⟨1,by omega,rfl,⟨_,rfl,?_⟩,_,rfl,e1,e2⟩;show Lib.trimPrefix q.data.toList [vn 0]=Lib.trimPrefix (jN s.data.toList 0) [vn 0];rw[qa hq]
   ·go_wp2_with(go_at_call 216;refine(Tryz.strings_CutPrefix _ _ _).mono ?_;rintro e w' ⟨rfl,rfl⟩);go_roundg (gk-1)
    case measure=>omega
    case rel =>
     obtain⟨e1,e2⟩:=Ai A hs (zW s.data.toList) 1 hlt (Lib.hasPrefix q.data.toList [vn 1]) (by unfold zW;rw[qa hq]) (qa hA);refine⟨2,by omega,rfl,⟨_,rfl,?_⟩,_,rfl,e1,e2⟩;show Lib.trimPrefix q.data.toList [vn 1]=Lib.trimPrefix (jN s.data.toList 1) [vn 1];rw[qa hq]
   ·go_wp2_with(go_at_call 216;refine(Tryz.strings_CutPrefix _ _ _).mono ?_;rintro e w' ⟨rfl,rfl⟩);go_roundg (gk-1)
    case measure=>omega
    case rel =>
     obtain⟨e1,e2⟩:=Ai A hs (zW s.data.toList) 2 hlt (Lib.hasPrefix q.data.toList [vn 2]) (by unfold zW;rw[qa hq]) (qa hA);refine⟨3,by omega,rfl,⟨_,rfl,?_⟩,_,rfl,e1,e2⟩;show Lib.trimPrefix q.data.toList [vn 2]=Lib.trimPrefix (jN s.data.toList 2) [vn 2];rw[qa hq]
   ·go_wp2_with(go_at_call 216;refine(Tryz.strings_CutPrefix _ _ _).mono ?_;rintro e w' ⟨rfl,rfl⟩);go_roundg (gk-1)
    case measure=>omega
    case rel =>
     obtain⟨e1,e2⟩:=Ai A hs (zW s.data.toList) 3 hlt (Lib.hasPrefix q.data.toList [vn 3]) (by unfold zW;rw[qa hq]) (qa hA);refine⟨4,by omega,rfl,⟨_,rfl,?_⟩,_,rfl,e1,e2⟩;show Lib.trimPrefix q.data.toList [vn 3]=Lib.trimPrefix (jN s.data.toList 3) [vn 3];rw[qa hq]
  ·have ei:i=4:=by omega
   subst ei;have eA:=arr4 A hs _ (qa hA);subst eA;have hq2:=qa hq;have hemp:q.toList.isEmpty=(jN s.data.toList 4).isEmpty:=by rw[<-hq2,Lib.toList_data]
   have hse:s.toList.isEmpty=s.data.toList.isEmpty:=by rw[Lib.toList_data]
   generalize hb1:s.data.toList.isEmpty=b1 at hse;generalize hb2:(jN s.data.toList 4).isEmpty=b2 at hemp;have hb1':=qC hb1;have hb2':=qC hb2;clear hb1 hb2 hq2;cases b1<;>cases b2
   all_goals
    go_wp2;refine bodyPost_ret (v:=.tuple #[.agg #[.bool (zW s.data.toList 0),.bool (zW s.data.toList 1),.bool (zW s.data.toList 2),.bool (zW s.data.toList 3)],.bool (!s.data.toList.isEmpty&&(jN s.data.toList 4).isEmpty)]) (by rw[qa hb1',qa hb2'];simp[results,Tryz.results139,go_sem]) rfl ⟨rfl,?_⟩
    repeat(first|exact Gr.refl _|apply Gr.alloc)
def vS(l:List UInt8):Option (Nat->Bool) :=
 if l=[45]then some (fun _=>false)else if !l.isEmpty&&(jN l 4).isEmpty then some (zW l)else none
def nr(l:List UInt8)(e:Ending):Prop:=∃f:Nat->Bool,e=.returned (.tuple #[.agg #[.bool (f 0),.bool (f 1),.bool (f 2),.bool (f 3)],.bool (vS l).isSome])/\∀g,vS l=some g->f=g
theorem fq(s:ByteArray)(w:World):Calls Tryz.prog 139 #[.string s] w fun e w'=>nr s.data.toList e/\Gr w w':=by
 by_cases h:s.toList=[45]
 ·refine(aT s h w).mono ?_;rintro e w' ⟨rfl,hg⟩;have e1:vS s.data.toList=some (fun _=>false):=by unfold vS;rw[qI (by rw[<-Lib.toList_data];exact h)]
  exact⟨⟨fun _=>false,by rw[e1];rfl,fun g hg=>by rw[e1]at hg;simpa using hg⟩,hg⟩
 ·refine(aR s (by simpa using h) w).mono ?_;rintro e w' ⟨he,hg⟩;have h':¬ s.data.toList=[45]:=by rw[<-Lib.toList_data];exact h
  refine⟨⟨zW s.data.toList,?_,?_⟩,hg⟩
  ·rw[he];congr 4;unfold vS;rw[qF h'];cases (!s.data.toList.isEmpty&&(jN s.data.toList 4).isEmpty)<;>rfl
  ·intro g hg;unfold vS at hg;rw[qF h']at hg;cases hb:(!s.data.toList.isEmpty&&(jN s.data.toList 4).isEmpty)with
   | true=>rw[hb]at hg;simpa using hg
   | false=>rw[hb]at hg;exact absurd hg (by simp)
end Go.Proofs.YtnfakamfmkhlbabGreatDoor.C
