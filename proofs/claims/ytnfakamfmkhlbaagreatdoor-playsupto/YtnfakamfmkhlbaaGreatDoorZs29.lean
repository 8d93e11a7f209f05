import Derived.Test.YtnfakamfmkhlbaaGreatDoorZs28
import Derived.Test.YtnfakamfmkhlbaaGreatDoorZs2
import Derived.OrdersHeld
import Derived.OrdersIn
import Derived.Test.YtnfakamfmkhlbaaGreatDoorKz2
set_option maxRecDepth 100000
set_option maxHeartbeats 4000000
set_option linter.unusedSimpArgs false
namespace Go.Proofs.YtnfakamfmkhlbaaGreatDoor.C
open Go.ChangeShapes Go.WideShapes Go.ChangeAt Go.RowKit Go.Shelf
open Go.Proofs.YtnfakamfmkhlbaaGreatDoor.P
attribute [local go_sem] Oper.semAt_some
theorem last_rank:∀ t,t<64->lastB.getLsbD t=(decide (t/8=0)||decide (t/8=7)):=by decide +kernel
theorem ytL_one (c:UInt8) (f t:Nat) (ht:t<64) (hn:(pawnB c&&lastB.getLsbD t)=false) (l B:Nat) (T:Obj->Prop) (C:Nat->Prop) (J Jx:List Mv->World->Prop) (pre:List Mv) (W:World)
    (hY:YieldAt Fence.wide 0 Tryz.prog l (encM (f,t,0)) W fun e W'=>Fr (Rnd1 B T C) W W'/\((e=.returned (.bool true)/\J (pre++[(f,t,0)]) W')\/(e=.returned (.bool false)/\Jx (pre++[(f,t,0)]) W'))) :
    Calls Tryz.prog 238 #[.int .u8 (c.toNat:Int),.int .i64 (f:Int),.int .i64 (t:Int),.func (.yield l) #[] #[]] W fun e W'=>Fr (Rnd1 B T C) W W'/\((e=.returned (.bool true)/\J (pre++[(f,t,0)]) W')\/(e=.returned (.bool false)/\Jx (pre++[(f,t,0)]) W')):=by
  obtain ⟨fn,tmps,assign,body,hy,hR⟩:=hY
  have hp:=hide (fun W=>je c W)
  have hy':(Instr.yield l #[.agg #[.int .i64 (f:Int),.int .i64 (t:Int),.int .u8 0]]).run Tryz.prog W=.ok (.round l fn tmps assign body) W:=hy
  clear hy
  rw [last_rank t ht] at hn
  refine (callsIn_wide (n:=1)).1 ?_
  refine callsIn_of_wp Tryz.func238 rfl trivial ?_ rfl
  simp only [Tryz.ntmps238,List.size_toArray,List.length_cons,List.length_nil,Nat.reduceAdd,Nat.reduceSub,Array.replicate_succ,Array.replicate_zero,List.push_toArray,List.append_toArray,List.nil_append,List.cons_append]
  generalize pawnB c=pw at hp hn
  cases pw
  · clear hn
    gi_wp2_with (first
      | (refine ⟨trivial,?_⟩;gi_at_call 182;refine (callsIn_wide.2 (qa hp _)).mono ?_;rintro e w' ⟨rfl,rfl⟩)
      | (with_reducible refine And.intro (zb _) ?_))
    all_goals first
      | (refine hR.mono ?_
         rintro e W3 ⟨f3,⟨rfl,hJ3⟩|⟨rfl,hJx3⟩⟩
         · gi_wp2
           go_ret
           exact ⟨f3,.inl ⟨rfl,hJ3⟩⟩
         · gi_wp2
           go_ret
           exact ⟨f3,.inr ⟨rfl,hJx3⟩⟩)
      | (exfalso;rename_i xx bb h1 h2;exact absurd h1 (by simp [undef]))
      | (exfalso;rename_i xx bb h1;exact absurd h1 (by simp [undef]))
  · have hn2:t/8≠0/\t/8≠7:=by simpa using hn
    have n0:((t:Int)/8 != 0)=true:=by simp only [bne_iff_ne];omega
    have n7:((t:Int)/8 != 7)=true:=by simp only [bne_iff_ne];omega
    clear hn hn2
    gi_wp2_with (first
      | (refine ⟨trivial,?_⟩;gi_at_call 182;refine (callsIn_wide.2 (qa hp _)).mono ?_;rintro e w' ⟨rfl,rfl⟩)
      | (with_reducible refine And.intro (zb _) ?_))
    refine hR.mono ?_
    rintro e W3 ⟨f3,⟨rfl,hJ3⟩|⟨rfl,hJx3⟩⟩
    · gi_wp2
      go_ret
      exact ⟨f3,.inl ⟨rfl,hJ3⟩⟩
    · gi_wp2
      go_ret
      exact ⟨f3,.inr ⟨rfl,hJx3⟩⟩
theorem ixtn0 (w:World):(Instr.index 9 (.string ⟨#[113,114,98,110]⟩) (.int .i64 0)).run Tryz.prog w=.ok (.int .u8 113) w:=by kernel_rfl
theorem ixtn1 (w:World):(Instr.index 9 (.string ⟨#[113,114,98,110]⟩) (.int .i64 1)).run Tryz.prog w=.ok (.int .u8 114) w:=by kernel_rfl
theorem ixtn2 (w:World):(Instr.index 9 (.string ⟨#[113,114,98,110]⟩) (.int .i64 2)).run Tryz.prog w=.ok (.int .u8 98) w:=by kernel_rfl
theorem ixtn3 (w:World):(Instr.index 9 (.string ⟨#[113,114,98,110]⟩) (.int .i64 3)).run Tryz.prog w=.ok (.int .u8 110) w:=by kernel_rfl
theorem ix_turn (k:Nat) (hk:k<4) (w:World):(Instr.index 9 (.string ⟨#[113,114,98,110]⟩) (.int .i64 (k:Int))).run Tryz.prog w=.ok (.int .u8 ((tnU k).toNat:Int)) w:=by
 have:k=0\/k=1\/k=2\/k=3:=by omega
 rcases this with rfl|rfl|rfl|rfl
 ·exact ixtn0 w
 ·exact ixtn1 w
 ·exact ixtn2 w
 ·exact ixtn3 w
theorem ytL_four (c:UInt8) (hc:pawnB c=true) (f t:Nat) (ht:t<64) (hn:lastB.getLsbD t=true) (l B:Nat) (T:Obj->Prop) (C:Nat->Prop) (J Jx:List Mv->World->Prop) (pre:List Mv) (W:World)
  (hY:∀ k W1,k<4->J (pre++(List.range k).map fun i=>(f,t,tnU i)) W1->YieldAt Fence.wide 0 Tryz.prog l (encM (f,t,tnU k)) W1 fun e W'=>Fr (Rnd1 B T C) W1 W'/\((e=.returned (.bool true)/\J (pre++(List.range (k+1)).map fun i=>(f,t,tnU i)) W')\/(e=.returned (.bool false)/\Jx (pre++(List.range (k+1)).map fun i=>(f,t,tnU i)) W'))) (h0:J pre W) :
  Calls Tryz.prog 238 #[.int .u8 (c.toNat:Int),.int .i64 (f:Int),.int .i64 (t:Int),.func (.yield l) #[] #[]] W fun e W'=>Fr (Rnd1 B T C) W W'/\((e=.returned (.bool true)/\J (pre++(List.range 4).map fun i=>(f,t,tnU i)) W')\/(e=.returned (.bool false)/\∃ k,k<4/\Jx (pre++(List.range (k+1)).map fun i=>(f,t,tnU i)) W')):=by
 have hp:=hide (fun W=>je c W);rw [hc] at hp;clear hc;rw [last_rank t ht] at hn;have hn2:t/8=0\/t/8=7:=by simpa using hn
 clear hn;refine (callsIn_wide (n:=1)).1 ?_;refine callsIn_of_wp Tryz.func238 rfl trivial ?_ rfl;simp only [Tryz.ntmps238,List.size_toArray,List.length_cons,List.length_nil,Nat.reduceAdd,Nat.reduceSub,Array.replicate_succ,Array.replicate_zero,List.push_toArray,List.append_toArray,List.nil_append,List.cons_append];have key:∀ {Z:Prop},(∀ a8:Int,(a8=0\/a8=7)->(t:Int)/8=a8->Z)->Z:=fun h=>h _ (by omega) rfl
 refine key fun a8 ha8 he8=>?_
 clear key hn2;rcases ha8 with rfl|rfl
 all_goals
  gi_wp2_with (first
   | (refine ⟨trivial,?_⟩;gi_at_call 182;refine (callsIn_wide.2 (qa hp _)).mono ?_;rintro e w' ⟨rfl,rfl⟩)
   | (with_reducible refine And.intro (zb _) ?_))
  gi_loopw [9,28] (fun _ p wr=>∃ k:Nat,k<=4/\p=.int .i64 (k:Int)/\J (pre++(List.range k).map fun i=>(f,t,tnU i)) wr/\Fr (Rnd1 B T C) w' wr) (fun _ p _=>4-(intOf p).toNat)
  case atStart=>exact ⟨0,by omega,rfl,by simpa using h0,Fr.refl _ _⟩
  case round =>
   obtain ⟨k,hk,rfl,hJk,fk⟩:=hrel;by_cases h4:k<4
   ·have hck:=ix_turn k h4;obtain ⟨fn,tmps,assign,body,hy,hR⟩:=hY k wr h4 hJk;have hy':(Instr.yield l #[.agg #[.int .i64 (f:Int),.int .i64 (t:Int),.int .u8 ((tnU k).toNat:Int)]]).run Tryz.prog wr=.ok (.round l fn tmps assign body) wr:=hy;clear hy;gi_wp2;refine hR.mono ?_;rintro e W3 ⟨f3,⟨rfl,hJ3⟩|⟨rfl,hJx3⟩⟩
    ·gi_wp2;go_roundw
     case rel=>exact ⟨k+1,by omega,by go_num,hJ3,fk.trans f3⟩
     case measure=>simp only [intOf];omega
    ·gi_wp2;go_ret;exact ⟨fk.trans f3,.inr ⟨rfl,k,h4,hJx3⟩⟩
   ·have:k=4:=by omega
    subst this;gi_wp2;go_ret;exact ⟨fk,.inl ⟨rfl,hJk⟩⟩
theorem ytL_any (c:UInt8) (f t:Nat) (ht:t<64) (l B:Nat) (T:Obj->Prop) (C:Nat->Prop) (J Jx:List Mv->World->Prop) (xs dn:List Mv) (hpre:dn++turnsB (pawnB c) f t <+: xs)
  (hY:∀ pre x W1,pre++[x] <+: xs->J pre W1->YieldAt Fence.wide 0 Tryz.prog l (encM x) W1 fun e W'=>Fr (Rnd1 B T C) W1 W'/\((e=.returned (.bool true)/\J (pre++[x]) W')\/(e=.returned (.bool false)/\Jx (pre++[x]) W')))
  (W:World) (h0:J dn W) :
  Calls Tryz.prog 238 #[.int .u8 (c.toNat:Int),.int .i64 (f:Int),.int .i64 (t:Int),.func (.yield l) #[] #[]] W fun e W'=>Fr (Rnd1 B T C) W W'/\((e=.returned (.bool true)/\J (dn++turnsB (pawnB c) f t) W')\/(e=.returned (.bool false)/\∃ q,q <+: xs/\Jx q W')):=by
 by_cases hn:(pawnB c&&lastB.getLsbD t)=true
 ·have hn2:=hn;rw [Bool.and_eq_true] at hn2;have e4:turnsB (pawnB c) f t=(List.range 4).map fun i=>((f,t,tnU i):Mv):=by unfold turnsB;rw [hn,if_pos rfl];rfl
  rw [e4] at hpre ⊢;have hp4:∀ k,k<4->dn++(List.range (k+1)).map (fun i=>((f,t,tnU i):Mv)) <+: xs:=fun k hk=>(List.prefix_append_right_inj dn).2 (take_four f t k hk) |>.trans hpre
  refine (ytL_four c hn2.1 f t ht hn2.2 l B T C J Jx dn W (fun k W1 hk hj=>?_) h0).mono ?_
  ·have:=hY (dn++(List.range k).map fun i=>(f,t,tnU i)) (f,t,tnU k) W1 (by
    have:=hp4 k hk
    rwa [List.range_succ,List.map_append,<-List.append_assoc] at this) hj
   rw [List.range_succ,List.map_append,<-List.append_assoc];exact this
  ·rintro e W' ⟨f1,⟨h1,h2⟩|⟨h1,k,hk,h2⟩⟩
   ·exact ⟨f1,.inl ⟨h1,h2⟩⟩
   ·exact ⟨f1,.inr ⟨h1,_,hp4 k hk,h2⟩⟩
 ·have hn':(pawnB c&&lastB.getLsbD t)=false:=by simpa using hn
  have e1:turnsB (pawnB c) f t=[(f,t,0)]:=by unfold turnsB;rw [hn'];rfl
  rw [e1] at hpre ⊢;refine (ytL_one c f t ht hn' l B T C J Jx dn W (hY dn _ W hpre h0)).mono ?_;rintro e W' ⟨f1,⟨h1,h2⟩|⟨h1,h2⟩⟩
  ·exact ⟨f1,.inl ⟨h1,h2⟩⟩
  ·exact ⟨f1,.inr ⟨h1,_,hpre,h2⟩⟩
end Go.Proofs.YtnfakamfmkhlbaaGreatDoor.C
namespace Go.Proofs.YtnfakamfmkhlbaaGreatDoor.C
open Go.RowKit
section
variable {n:Nat} {P:Program} {md:Region.Mode} {ops:Array Oper} {Q:Exit->Act->World->Prop} {S:World->Prop}
def AnyS (n:Nat) (P:Program) (md:Region.Mode) (ops:Array Oper) (Q:Exit->Act->World->Prop) (S:World->Prop):Nat->Array Bool->Act->World->Prop
 | 0,L,a,w=>Region.ready md ops L=[]/\Q .normal a w
 | f+1,L,a,w=>(Region.ready md ops L=[]->Q .normal a w)/\∀ i∈Region.ready md ops L,wpOpIn Fence.wide n P ops Q i (fun a' w'=>S w'/\AnyS n P md ops Q S f (L.setIfInBounds i true) a' w') a w
theorem AnyS.any:∀ {f:Nat} {L:Array Bool} {a:Act} {w:World},AnyS n P md ops Q S f L a w->wpAnyIn Fence.wide n P md ops Q f L a w
 | 0,_,_,_,h=>h
 | _+1,_,_,_,h=>⟨h.1,fun i hi=>wpOpIn_mono (fun _ _ k=>AnyS.any k.2) (h.2 i hi)⟩
theorem upon_later {o:Oper} {d:Option Tmp} {v:Value} {Y:Act->Prop} {K:Act->World->Prop} {a:Act} (hY:∀ a u,Y a->Y (a.put o.dst u)) (hD:∀ x,Y { a with defers:=x :: a.defers }) (ha:Y a)
  (hc:∀ (b:Act) (u:Value),(b.put d v).put o.dst u=(b.put o.dst u).put d v) (hQ:∀ c b w,Q (.panic c) (b.put d v) w->Q (.panic c) b w) :
  ∀ r,o.uponIn Fence.wide n P (a.put d v) K Q r->o.uponIn Fence.wide n P a (fun a' w'=>Y a'/\K (a'.put d v) w') Q r:=by
 have one:∀ u w',K ((a.put d v).put o.dst u) w'->Y (a.put o.dst u)/\K ((a.put o.dst u).put d v) w':=fun u w' h=>⟨hY a u ha,by rw [<-hc];exact h⟩
 rintro (⟨x,w'⟩|⟨x,w'⟩)
 ·cases x with
  | value u=>exact one u w'
  | skip=>exact one undef w'
  | defer x =>
   intro h;have h':K (({ a with defers:=x :: a.defers }.put d v).put o.dst undef) w':=by rw [<-Act.put_defers];exact h
   exact ⟨hY _ _ (hD x),by rw [<-hc];exact h'⟩
  | enter f args =>
   intro h;refine ⟨h.1,h.2.mono fun e w'' he=>?_⟩;cases e with
   | returned u=>exact one u w'' he
   | panicked c=>exact hQ _ _ _ he
   | outgrown=>exact he
  | row row args=>exact fun h=>⟨h.1,h.2.mono fun u w'' he=>one u w'' he⟩
  | round l f tmps assign body =>
   intro h;refine ⟨h.1,h.2.mono fun e w'' he=>?_⟩;cases e with
   | returned u=>exact one u w'' he
   | panicked c=>exact hQ _ _ _ he
   | outgrown=>exact he
  | _=>exact id
 ·cases x with
  | panic u=>exact hQ _ _ _
  | _=>exact id
theorem yields_op {i:Nat} {o:Oper} {v:Value} {a:Act} {w:World} {K:Act->World->Prop} (hi:ops[i]?=some o) (hy:YieldsIf P ops S o v a) (hS:S w) (h:K (a.put o.dst v) w):wpOpIn Fence.wide n P ops Q i K a w:=by
 refine wpOpIn_step hi fun K' hK=>?_
 rcases hy with ⟨h1,h2⟩|⟨h1,rfl⟩
 ·rw [if_pos h1];refine ⟨fun _ _=>trivial,?_⟩;show o.uponIn Fence.wide n P a K' Q ((o.semAt none a.eval).run P w);rw [Oper.semAt_none,h2 w hS];exact hK _ _ h
 ·rw [if_neg (by rw [h1];decide)];exact ⟨fun _ _=>trivial,hK _ _ h⟩
theorem op_later {j:Nat} {oi oj:Oper} {v:Value} {a:Act} {w:World} {K:Act->World->Prop} (hj:ops[j]?=some oj) (hap:oi.apart ops oj=true) (hsi:∀ cs b,oi.op≠.select cs b) (hsj:∀ cs b,oj.op≠.select cs b)
  (hQ:∀ c b w,Q (.panic c) (b.put oi.dst v) w->Q (.panic c) b w) (hy:YieldsIf P ops S oi v a) (h:wpOpIn Fence.wide n P ops Q j K (a.put oi.dst v) w) :
  wpOpIn Fence.wide n P ops Q j (fun a' w'=>YieldsIf P ops S oi v a'/\K (a'.put oi.dst v) w') a w:=by
 obtain ⟨h1,h2,h3⟩:=Oper.apart_spec hap;have hY:∀ b u,YieldsIf P ops S oi v b->YieldsIf P ops S oi v (b.put oj.dst u):=fun b u k=>k.of_same (execOp_put oi hsi b oj.dst u h3) (wanted_put oi b oj.dst u h3)
 unfold wpOpIn at h ⊢;rw [hj] at h ⊢;simp only at h ⊢;rw [wanted_put oj a oi.dst v h1] at h;by_cases hw:Region.wanted oj (yielded ops a.tmps)=true
 ·rw [if_pos hw] at h ⊢;have he:oj.semAt none (a.put oi.dst v).eval=oj.semAt none a.eval:=by rw [Oper.semAt_none,Oper.semAt_none,execOp_put oj hsj a oi.dst v h1]
  refine ⟨fun _ _=>trivial,upon_later hY (fun x=>hy.of_same rfl rfl) hy (fun b u=>Act.put_comm b v u h2) hQ _ ?_⟩;have:=h.2
  rwa [show Fence.wide.round=none from rfl,he] at this
 ·rw [if_neg hw] at h ⊢;exact ⟨fun _ _=>trivial,hY _ _ hy,by rw [<-Act.put_comm a v undef h2];exact h.2⟩
theorem AnyS.take {i:Nat} {oi:Oper} {v:Value} (hi:ops[i]?=some oi) (hs:Region.noSelect ops=true) (hQ:∀ c b w,Q (.panic c) (b.put oi.dst v) w->Q (.panic c) b w) :
  ∀ {f:Nat} {L:Array Bool} {a:Act} {w:World},(∀ j oj,ops[j]?=some oj->j≠i->L.getD j true=false->(∀ e∈oj.after,Region.binds md e=true->e.on≠i)->oi.apart ops oj=true) →
   i∈Region.ready md ops L->YieldsIf P ops S oi v a->S w->AnyS n P md ops Q S f (L.setIfInBounds i true) (a.put oi.dst v) w->AnyS n P md ops Q S (f+1) L a w:=by
 intro f;induction f with
 | zero =>
  intro L a w _ hr hy hS H;refine ⟨fun h=>(by rw [h] at hr;cases hr),fun j hj=>?_⟩;by_cases e:j=i
  ·subst e;exact yields_op hi hy hS ⟨hS,H⟩
  ·have:=ready_mono hj e;rw [H.1] at this;cases this
 | succ f ih =>
  intro L a w hfree hr hy hS H;refine ⟨fun h=>(by rw [h] at hr;cases hr),fun j hj=>?_⟩;by_cases e:j=i
  ·subst e;exact yields_op hi hy hS ⟨hS,H⟩
  ·obtain ⟨hun,oj,hoj,hall⟩:=mem_ready.1 hj;have hun0:=(mem_ready.1 hr).1
   have hno:∀ x∈oj.after,Region.binds md x=true->x.on≠i:=fun x hx hb hxi=>by
    have h1:=hall x hx hb;rw [hxi] at h1;by_cases hlt:i<L.size
    ·simp only [Array.getD,hlt,dif_pos] at h1 hun0;rw [hun0] at h1;cases h1
    ·simp only [Array.getD,hlt,dif_neg,not_false_eq_true] at h1;cases h1
   refine wpOpIn_mono ?_ (op_later hoj (hfree j oj hoj e hun hno) (fun cs b=>Region.noSelect_spec hs i oi cs b hi) (fun cs b=>Region.noSelect_spec hs j oj cs b hoj) hQ hy (H.2 j (ready_mono hj e)));rintro a' w' ⟨hy',hS',H'⟩;refine ⟨hS',ih (fun k ok hk hki hku hkn=>hfree k ok hk hki ?_ hkn) (ready_mono hr (fun h=>e h.symm)) hy' hS' ?_⟩
   ·by_cases hjk:j=k
    ·subst hjk;exact hun
    ·rw [getD_set_ne true hjk] at hku;exact hku
   ·rw [Array.setIfInBounds_comm _ _ e];exact H'
theorem anys_take {i:Nat} {oi:Oper} {v:Value} {f:Nat} {L:Array Bool} {a:Act} {w:World} (hi:ops[i]?=some oi) (hs:Region.noSelect ops=true) (hf:Region.free md ops L i=true) (hr:(Region.ready md ops L).contains i=true)
  (hQ:∀ c b w,Q (.panic c) (b.put oi.dst v) w->Q (.panic c) b w) (hy:YieldsIf P ops S oi v a) (hS:S w) (h:AnyS n P md ops Q S f (L.setIfInBounds i true) (a.put oi.dst v) w):AnyS n P md ops Q S (f+1) L a w :=
 AnyS.take hi hs hQ (Region.free_spec hi hf) (by simpa using hr) hy hS h
theorem yb (i:Nat) (v:Value) {oi:Oper} {f:Nat} {L:Array Bool} {a a':Act} {w:World} (hS:S w) (h:AnyS n P md ops Q S f (L.setIfInBounds i true) a' w) (hi:ops[i]?=some oi:=by rfl) (ha:a.put oi.dst v=a':=by conv=>lhs;simp only [C.py]) (hy:YieldsIf P ops S oi v a:=by exact Or.inl ⟨by rfl,fun w hw=>(by go_simp)⟩)
  (hs:Region.noSelect ops=true:=by kernel_rfl) (hf:Region.free md ops L i=true:=by kernel_rfl) (hr:(Region.ready md ops L).contains i=true:=by kernel_rfl)
  (hQ:∀ c b w,Q (.panic c) (b.put oi.dst v) w->Q (.panic c) b w:=by exact fun _ _ _ h=>h):AnyS n P md ops Q S (f+1) L a w:=anys_take hi hs hf hr hQ hy hS (ha▸h)
theorem xm {i:Nat} {oi:Oper} {f:Nat} {L:Array Bool} {a:Act} {w:World} (hi:ops[i]?=some oi) (hr:Region.ready md ops L=[i])
  (h:∀ K:Act->World->Prop,(∀ a' w',S w'->(S w'->AnyS n P md ops Q S f (L.setIfInBounds i true) a' w')->K a' w')->if Region.wanted oi (yielded ops a.tmps)=true then Oper.wpIn Fence.wide n P oi a w K Q else (∀ g,oi.about P w a.eval=some g->Fence.wide.fn g)/\K (a.put oi.dst undef) w):AnyS n P md ops Q S (f+1) L a w :=
 ⟨fun h0=>(by rw [hr] at h0;cases h0),fun j hj=>by
  rw [hr,List.mem_singleton] at hj;subst hj;exact wpOpIn_step hi fun K hK=>h K fun a' w' hs hk=>hK _ _ ⟨hs,hk hs⟩⟩
theorem zl {L:Array Bool} {a:Act} {w:World} (hr:Region.ready md ops L=[]) (h:Q .normal a w):∀ f,AnyS n P md ops Q S f L a w
 | 0=>⟨hr,h⟩
 | _+1=>⟨fun _=>h,by rw [hr];simp⟩
theorem qjh {id:Nat} {a:Act} {w:World} (hm:P.follows .mixedOrders=true) (hS:S w.drew) (h:S w.drew->AnyS n P .any ops Q S ops.size (Array.replicate ops.size false) a w.drew):(Code.region id ops true).wpIn Fence.wide n P Q a w :=
 wpIn_region_any hm (h hS).any
end
end Go.Proofs.YtnfakamfmkhlbaaGreatDoor.C
