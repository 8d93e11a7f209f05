import Derived.Test.YtnfakamfmkhlbaaGreatDoorZk5
import Derived.Test.YtnfakamfmkhlbaaGreatDoorKz2
import Derived.Test.YtnfakamfmkhlbaaGreatDoorKz3
set_option maxRecDepth 100000
set_option maxHeartbeats 4000000
set_option linter.unusedSimpArgs false
namespace Go.Proofs.YtnfakamfmkhlbaaGreatDoor.C
open Go.ChangeShapes Go.WideShapes Go.ChangeAt Go.RowKit Go.Shelf
open Go.Proofs.YtnfakamfmkhlbaaGreatDoor.P
attribute [local go_sem] qd qi Oper.semAt_some
def TocBad (s:ByteArray) (d lo n k:Int):Prop:=BadK s k\/(∃ p,readS s=some p/\posCan p=true/\¬ (lo<=d/\d<=3)/\k=5)\/(∃ p,readS s=some p/\posCan p=true/\(lo<=d/\d<=3)/\¬ (n=1\/n=2)/\k=3)
theorem qqc {s:ByteArray} {k:Int} {p:Pos} (h:BadK s k) (hr:readS s=some p) (hc:posCan p=true):False:=by
 rcases h with ⟨_,a⟩|⟨_,q,a,b⟩
 ·rw [hr] at a;cases a
 ·rw [hr] at a;rw [<-Option.some.inj a,hc] at b;cases b
theorem way_one {n:Int} {ga gm gi ga' gm' gi':Nat} (a:WayN n ga gm gi) (b:WayN n ga' gm' gi'):ga'=ga/\gm'=gm:=by
 rcases a.is with ⟨rfl,rfl,rfl,_⟩|⟨rfl,rfl,rfl,_⟩
 ·rcases b.is with ⟨_,rfl,rfl,_⟩|⟨h,_⟩
  ·exact ⟨rfl,rfl⟩
  ·exact absurd h (by decide)
 ·rcases b.is with ⟨h,_⟩|⟨_,rfl,rfl,_⟩
  ·exact absurd h (by decide)
  ·exact ⟨rfl,rfl⟩
theorem way_of {n:Int} (hn:n=1\/n=2):∃ ga gm gi,WayN n ga gm gi:=by
 rcases hn with rfl|rfl
 ·exact ⟨_,_,_,⟨.inl ⟨rfl,rfl,rfl,rfl⟩⟩⟩
 ·exact ⟨_,_,_,⟨.inr ⟨rfl,rfl,rfl,rfl⟩⟩⟩
theorem way_is {n:Int} {ga gm gi:Nat} (h:WayN n ga gm gi):n=1\/n=2:=by
 rcases h.is with ⟨h,_⟩|⟨h,_⟩
 ·exact .inl h
 ·exact .inr h
theorem toc_split (s:ByteArray) (d lo n:Int):(∃ k,k≠0/\TocBad s d lo n k/\∀ e,TocEnd s d lo n e->e=.returned (.tuple #[.agg Tryz.zeroCells25,.agg nilW,.int .i64 k])) ∨
  (∃ p ga gm gi,readS s=some p/\posCan p=true/\(lo<=d/\d<=3)/\WayN n ga gm gi/\∀ e,TocEnd s d lo n e->e=.returned (.tuple #[.agg (posV p),.agg (wayA ga gm),.int .i64 0])):=by
 rcases xo s with ⟨p,hr,hcan,_⟩|⟨k,hk,hbad,_⟩
 ·by_cases hd:lo<=d/\d<=3
  ·by_cases hn:n=1\/n=2
   ·obtain ⟨ga,gm,gi,hw⟩:=way_of hn;refine .inr ⟨p,ga,gm,gi,hr,hcan,hd,hw,fun e h=>?_⟩;rcases h with ⟨k,_,a,_⟩|⟨q,_,_,a,_⟩|⟨q,_,_,_,a,_⟩|⟨q,ga',gm',gi',a,_,_,b,rfl⟩
    ·exact (qqc a hr hcan).elim
    ·exact (a hd).elim
    ·exact (a hn).elim
    ·rw [hr] at a;obtain ⟨rfl,rfl⟩:=way_one hw b;rw [<-Option.some.inj a]
   ·refine .inl ⟨3,by decide,.inr (.inr ⟨p,hr,hcan,hd,hn,rfl⟩),fun e h=>?_⟩;rcases h with ⟨k,_,a,_⟩|⟨q,_,_,a,_⟩|⟨q,_,_,_,a,rfl⟩|⟨q,ga',gm',gi',a,_,_,b,_⟩
    ·exact (qqc a hr hcan).elim
    ·exact (a hd).elim
    ·rfl
    ·exact (hn (way_is b)).elim
  ·refine .inl ⟨5,by decide,.inr (.inl ⟨p,hr,hcan,hd,rfl⟩),fun e h=>?_⟩;rcases h with ⟨k,_,a,_⟩|⟨q,_,_,a,rfl⟩|⟨q,_,_,a,_,_⟩|⟨q,ga',gm',gi',_,_,a,b,_⟩
   ·exact (qqc a hr hcan).elim
   ·rfl
   ·exact (hd a).elim
   ·exact (hd a).elim
 ·refine .inl ⟨k,hk,.inl hbad,fun e h=>?_⟩;rcases h with ⟨k',_,a,rfl⟩|⟨q,a,b,_,_⟩|⟨q,a,b,_,_,_⟩|⟨q,ga',gm',gi',a,b,_,_,_⟩
  ·rw [err_one (t:=⟨#[]⟩) (.inl hbad) (.inl a)]
  ·exact (qqc hbad a b).elim
  ·exact (qqc hbad a b).elim
  ·exact (qqc hbad a b).elim
theorem qr {W:World} {b:Nat} {c:Array Value} {ty:TypeId} {fr:Nat × Nat} (h:W.heap[b]?=some (.cells c ty fr)):b<W.heap.size:=(Array.getElem?_eq_some_iff.1 h).1
theorem own_ob {W:World} {base g n:Nat} {xs:List Value} (h:W.ownsRow base 291 75 (svN g n) n xs):∃ S fr,W.heap[g]?=some (.cells S 291 fr):=by
 rcases h.2 with ⟨e,_⟩|⟨g',cap,cur,hv,_,hg,_⟩
 ·cases e
 ·injection hv with hv _ _;injection hv with hv;injection hv with hv _ _;subst hv;exact ⟨_,_,hg⟩
theorem jj {m:Int} {w:World} (hc:Ct m w) (ht:Tabs w):Wt w:=⟨hc.tab,ht.cas,ht.st,hc.homes⟩
end Go.Proofs.YtnfakamfmkhlbaaGreatDoor.C
namespace Go.Proofs.YtnfakamfmkhlbaaGreatDoor.C
open Go.ChangeShapes Go.WideShapes Go.ChangeAt Go.RowKit Go.Shelf
open Go.Proofs.YtnfakamfmkhlbaaGreatDoor.P
theorem eqItems8g (d:Nat) (xs ys:Array Value) (a b:Nat->Int) (w:World):∀ is:List Nat,(∀ i∈is,xs[i]?=some (.int .u8 (a i))/\ys[i]?=some (.int .u8 (b i)))->(Op.eqItems (d+1) 5 1 xs ys is).run Tryz.prog w=.ok (is.all fun i=>a i==b i) w
 | [],_=>by simp [Op.eqItems]
 | i :: is,h=>by
   obtain ⟨h1,h2⟩:=h i (by simp);have ih:=eqItems8g d xs ys a b w is (fun j hj=>h j (by simp [hj]));simp only [Op.eqItems,Sem.run_bind,Nat.mul_one];rw [run_part_plain w plain5 h1];simp only [Result.andThen_ok];rw [run_part_plain w plain5 h2];simp only [Result.andThen_ok];rw [run_equalIn_int w d 5 .u8 .u8 (a i) (b i) Tryz.underlying5];by_cases e:a i=b i
   ·simp [e,ih]
   ·simp [e]
theorem eqItems1g (d:Nat) (xs ys:Array Value) (a b:Nat->Bool) (w:World):∀ is:List Nat,(∀ i∈is,xs[i]?=some (.bool (a i))/\ys[i]?=some (.bool (b i)))->(Op.eqItems (d+1) 4 1 xs ys is).run Tryz.prog w=.ok (is.all fun i=>a i==b i) w
 | [],_=>by simp [Op.eqItems]
 | i :: is,h=>by
   obtain ⟨h1,h2⟩:=h i (by simp);have ih:=eqItems1g d xs ys a b w is (fun j hj=>h j (by simp [hj]));simp only [Op.eqItems,Sem.run_bind,Nat.mul_one];rw [run_part_plain w plain4 h1];simp only [Result.andThen_ok];rw [run_part_plain w plain4 h2];simp only [Result.andThen_ok];rw [run_equalIn_bool w d 4 (a i) (b i) Tryz.underlying4];by_cases e:a i=b i
   ·simp [e,ih]
   ·simp [e]
theorem arru64g (d:Nat) (xs ys:Array Value) (a b:Nat->Int) (h:∀ i,i<64->xs[i]?=some (.int .u8 (a i))/\ys[i]?=some (.int .u8 (b i))) (w:World):(Op.equalIn (d+2) 22 (.agg xs) (.agg ys)).run Tryz.prog w=.ok ((List.range 64).all fun i=>a i==b i) w:=by
 obtain ⟨i,hi⟩:=info5;rw [run_equalIn_array w (d+1) xs ys Tryz.underlying22 hi,cells5];exact eqItems8g d xs ys a b w _ (fun i hi=>h i (List.mem_range.1 hi))
theorem arrb4g (d:Nat) (xs ys:Array Value) (a b:Nat->Bool) (h:∀ i,i<4->xs[i]?=some (.bool (a i))/\ys[i]?=some (.bool (b i))) (w:World):(Op.equalIn (d+2) 23 (.agg xs) (.agg ys)).run Tryz.prog w=.ok ((List.range 4).all fun i=>a i==b i) w:=by
 obtain ⟨i,hi⟩:=info4b;rw [run_equalIn_array w (d+1) xs ys Tryz.underlying23 hi,cells4];exact eqItems1g d xs ys a b w _ (fun i hi=>h i (List.mem_range.1 hi))
theorem qb {d : Nat} {xs ys : Array Value} {f : Field} {fs : List Field} {w : World} {a b : Value} {c r : Bool} (hf : (f.name != "_") = true) (ha : (part f.type xs f.offset).run Tryz.prog w = .ok a w) (hb : (part f.type ys f.offset).run Tryz.prog w = .ok b w) (hr : (Op.equalIn d f.type a b).run Tryz.prog w = .ok c w) (hn : (Op.eqFields d xs ys fs).run Tryz.prog w = .ok r w) :
  (Op.eqFields d xs ys (f :: fs)).run Tryz.prog w=.ok (c&&r) w:=by
 simp only [Op.eqFields];rw [if_pos (by simpa using hf)];cases c<;>simp [Sem.run_bind,ha,hb,hr,hn]
theorem eqInt (d:Nat) (a b:Int) (w:World):(Op.equalIn (d+1) 3 (.int .i64 a) (.int .i64 b)).run Tryz.prog w=.ok (a==b) w:=by
 rw [run_equalIn_int w d 3 .i64 .i64 a b Tryz.underlying3]
def posE (z z':Nat->UInt8) (wh wh':Bool) (f f':Nat->Bool) (b b' h h' g g':Int):Bool :=
 ((List.range 64).all fun i=>((z i).toNat:Int)==((z' i).toNat:Int))&&((wh==wh')&&(((List.range 4).all fun i=>f i==f' i)&&((b==b')&&((h==h')&&((g==g')&&true)))))
theorem pos_eq (n:Nat) {z z':Nat->UInt8} {wh wh':Bool} {f f':Nat->Bool} {b b' h h' g g':Int} {X Y:Array Value} (r:Row z wh f b h g X) (r':Row z' wh' f' b' h' g' Y) (w:World):(Op.equalIn (n+4) 25 (.agg X) (.agg Y)).run Tryz.prog w=.ok (posE z z' wh wh' f f' b b' h h' g g') w:=by
 rw [run_equalIn_struct w (n+3) 25 X Y under25 stood25];have hf:=fields25;generalize (Tryz.prog.fieldsOf 25).toList=fs at hf ⊢;obtain ⟨f0,gs0,rfl,e0,hf⟩:=List.map_eq_cons_iff.1 hf;obtain ⟨f1,gs1,rfl,e1,hf⟩:=List.map_eq_cons_iff.1 hf;obtain ⟨f2,gs2,rfl,e2,hf⟩:=List.map_eq_cons_iff.1 hf;obtain ⟨f3,gs3,rfl,e3,hf⟩:=List.map_eq_cons_iff.1 hf;obtain ⟨f4,gs4,rfl,e4,hf⟩:=List.map_eq_cons_iff.1 hf;obtain ⟨f5,gs5,rfl,e5,hf⟩:=List.map_eq_cons_iff.1 hf;rw [List.map_eq_nil_iff] at hf;subst hf;simp only [Prod.mk.injEq] at e0 e1 e2 e3 e4 e5;obtain ⟨a0,b0,c0⟩:=e0;obtain ⟨a1,b1,c1⟩:=e1;obtain ⟨a2,b2,c2⟩:=e2;obtain ⟨a3,b3,c3⟩:=e3;obtain ⟨a4,b4,c4⟩:=e4;obtain ⟨a5,b5,c5⟩:=e5
 refine qb (a:=.agg (X.extract 0 64)) (b:=.agg (Y.extract 0 64)) a0 (by rw [b0,c0];exact part64 X w) (by rw [b0,c0];exact part64 Y w) (by
  rw [b0];exact arru64g (n+1) _ _ (fun i=>((z i).toNat:Int)) (fun i=>((z' i).toNat:Int)) (fun i hi=>⟨by rw [Array.getElem?_extract,if_pos (by rw [r.size];omega),Nat.zero_add];exact r.sq i hi,by rw [Array.getElem?_extract,if_pos (by rw [r'.size];omega),Nat.zero_add];exact r'.sq i hi⟩) w) ?_
 refine qb (a:=.bool wh) (b:=.bool wh') a1 (by rw [b1,c1];exact run_part_plain w plain4 r.wh) (by rw [b1,c1];exact run_part_plain w plain4 r'.wh) (by
  rw [b1,run_equalIn_bool w (n+2) 4 wh wh' Tryz.underlying4]) ?_
 refine qb (a:=.agg (X.extract 65 69)) (b:=.agg (Y.extract 65 69)) a2 (by rw [b2,c2];exact part4 X w) (by rw [b2,c2];exact part4 Y w) (by
  rw [b2];exact arrb4g (n+1) _ _ f f' (fun i hi=>⟨by rw [Array.getElem?_extract,if_pos (by rw [r.size];omega)];exact r.c i hi,by rw [Array.getElem?_extract,if_pos (by rw [r'.size];omega)];exact r'.c i hi⟩) w) ?_
 refine qb (a:=.int .i64 b) (b:=.int .i64 b') a3 (by rw [b3,c3];exact run_part_plain w plain3 r.b) (by rw [b3,c3];exact run_part_plain w plain3 r'.b) (by rw [b3];exact eqInt (n+2) b b' w) ?_;refine qb (a:=.int .i64 h) (b:=.int .i64 h') a4 (by rw [b4,c4];exact run_part_plain w plain3 r.h) (by rw [b4,c4];exact run_part_plain w plain3 r'.h) (by rw [b4];exact eqInt (n+2) h h' w) ?_;refine qb (a:=.int .i64 g) (b:=.int .i64 g') a5 (by rw [b5,c5];exact run_part_plain w plain3 r.g) (by rw [b5,c5];exact run_part_plain w plain3 r'.g) (by rw [b5];exact eqInt (n+2) g g' w) ?_;simp [Op.eqFields]
theorem posE_true {z z':Nat->UInt8} {wh wh':Bool} {f f':Nat->Bool} {b b' h h' g g':Int} (e:posE z z' wh wh' f f' b b' h h' g g'=true):(∀ i,i<64->z i=z' i)/\wh=wh'/\(∀ i,i<4->f i=f' i)/\b=b':=by
 unfold posE at e;simp only [Bool.and_eq_true,List.all_eq_true,List.mem_range,beq_iff_eq] at e;obtain ⟨e1,e2,e3,e4,_⟩:=e;exact ⟨fun i hi=>UInt8.toNat_inj.1 (Int.ofNat.inj (e1 i hi)),e2,e3,e4⟩
theorem underQ:Tryz.prog.underlying 202=some (.struct (Tryz.prog.fieldsOf 202)):=by kernel_rfl
theorem stoodQ:Tryz.prog.stoodInHeld 202=false:=by kernel_rfl
theorem fieldsQ : (Tryz.prog.fieldsOf 202).toList.map (fun f => (f.name != "_", f.type, f.offset)) = [(true, 25, 0), (true, 3, 72), (true, 3, 73)] := by kernel_rfl
theorem guardQ:Tryz.prog.eqGuardType Tryz.prog.depth 202=false:=by kernel_rfl
theorem part72 (xs:Array Value) (w:World):(part 25 xs 0).run Tryz.prog w=.ok (.agg (xs.extract 0 72)) w:=by
 simp [part,isAgg,run_underlying Tryz.underlying25,sizeOf,typeInfo]
 kernel_rfl
theorem qA_ext {A:Array Value} (h:A.size=72) (d n:Int):(qA A d n).extract 0 72=A:=by
 unfold qA;rw [Array.extract_append];simp [h]
theorem qA_72 {A:Array Value} (h:A.size=72) (d n:Int):(qA A d n)[72]?=some (.int .i64 d)/\(qA A d n)[73]?=some (.int .i64 n):=by
 unfold qA;constructor
 ·rw [Array.getElem?_append_right (by omega),h];rfl
 ·rw [Array.getElem?_append_right (by omega),h];rfl
def qE (E:Bool) (d d' n n':Int):Bool:=E&&((d==d')&&((n==n')&&true))
theorem q_eq {z z':Nat->UInt8} {wh wh':Bool} {f f':Nat->Bool} {b b' h h' g g':Int} {X Y:Array Value} (r:Row z wh f b h g X) (r':Row z' wh' f' b' h' g' Y) (d d' n n':Int) (w:World):(Op.equalIn 10000 202 (.agg (qA X d n)) (.agg (qA Y d' n'))).run Tryz.prog w=.ok (qE (posE z z' wh wh' f f' b b' h h' g g') d d' n n') w:=by
 rw [run_equalIn_struct w 9999 202 _ _ underQ stoodQ];have hf:=fieldsQ;generalize (Tryz.prog.fieldsOf 202).toList=fs at hf ⊢;obtain ⟨f0,gs0,rfl,e0,hf⟩:=List.map_eq_cons_iff.1 hf;obtain ⟨f1,gs1,rfl,e1,hf⟩:=List.map_eq_cons_iff.1 hf;obtain ⟨f2,gs2,rfl,e2,hf⟩:=List.map_eq_cons_iff.1 hf;rw [List.map_eq_nil_iff] at hf;subst hf;simp only [Prod.mk.injEq] at e0 e1 e2;obtain ⟨a0,b0,c0⟩:=e0;obtain ⟨a1,b1,c1⟩:=e1;obtain ⟨a2,b2,c2⟩:=e2;refine qb (a:=.agg X) (b:=.agg Y) a0 (by rw [b0,c0,part72,qA_ext r.size]) (by rw [b0,c0,part72,qA_ext r'.size]) (by rw [b0];exact pos_eq 9995 r r' w) ?_;refine qb (a:=.int .i64 d) (b:=.int .i64 d') a1 (by rw [b1,c1];exact run_part_plain w plain3 (qA_72 r.size d n).1) (by rw [b1,c1];exact run_part_plain w plain3 (qA_72 r'.size d' n').1) (by rw [b1];exact eqInt 9998 d d' w) ?_;refine qb (a:=.int .i64 n) (b:=.int .i64 n') a2 (by rw [b2,c2];exact run_part_plain w plain3 (qA_72 r.size d n).2) (by rw [b2,c2];exact run_part_plain w plain3 (qA_72 r'.size d' n').2) (by rw [b2];exact eqInt 9998 n n' w) ?_;simp [Op.eqFields]
theorem qf {ops:Array Oper} {rest:List Oper} {o:Oper} {a:Act} {w:World} {X Y:Array Value} {E:Bool} {Q:Exit->Act->World->Prop} (hg:o.guard=none) (x y:Operand) (ho:o.op=.binOp .neq 202 x y 202) (hx:a.eval x=.agg X) (hy:a.eval y=.agg Y)
  (hs:∀ w:World,(Op.equalIn 10000 202 (.agg X) (.agg Y)).run Tryz.prog w=.ok E w) (h:wpList Tryz.prog ops Q rest (a.put o.dst (.bool (!E))) w):wpList Tryz.prog ops Q (o :: rest) a w :=
 wpList_plain hg fun K hK=>by
  unfold Oper.wp execOp;simp only [ho,hx,hy,Sem.run_bind,Sem.run_pure,Result.andThen_ok,run_eqGuard_agg _ _ _ _ _ _ _ guardQ,run_neq_struct,hs];exact hK _ _ h
end Go.Proofs.YtnfakamfmkhlbaaGreatDoor.C
namespace Go.Proofs.YtnfakamfmkhlbaaGreatDoor.C
open Go.ChangeShapes Go.WideShapes Go.ChangeAt Go.RowKit Go.Shelf
open Go.Proofs.YtnfakamfmkhlbaaGreatDoor.P
attribute [local go_sem] qd qi Oper.semAt_some
structure Mq (g n:Nat) (Q:Array Value) (b2 b3:Nat) (w W:World):Prop where
 m:W.heap[b2]?=some (.cells #[svN g n] 122)
 q:W.heap[b3]?=some (.cells Q 202)
 gr:Gr w W
theorem Mq.next {g n:Nat} {Q:Array Value} {b2 b3:Nat} {w W W':World} (h:Mq g n Q b2 b3 w W) (k:Gr W W'):Mq g n Q b2 b3 w W':=⟨(Below.block k _ (xg h.m)).trans h.m,(Below.block k _ (xg h.q)).trans h.q,Gr.trans h.gr k⟩
theorem Mq.c {g n:Nat} {Q:Array Value} {b2 b3:Nat} {w W:World} (h:Mq g n Q b2 b3 w W):W.cell? ⟨b2,0,none⟩=some (svN g n):=by rw [qm h.m];rfl
theorem Mq.rg {g n:Nat} {A:Array Value} {d k:Int} {b2 b3:Nat} {w W:World} (h:Mq g n (qA A d k) b2 b3 w W):W.rangeAt b3 0 A.toList:=fun j v hv=>by
 rw [Nat.zero_add,qm h.q];unfold qA;have hj:=(List.getElem?_eq_some_iff.1 hv).1;rw [Array.getElem?_append_left (by simpa using hj),<-Array.getElem?_toList];exact hv
theorem Mq.rq {g n:Nat} {Q:Array Value} {b2 b3:Nat} {w W:World} (h:Mq g n Q b2 b3 w W):W.rangeAt b3 0 Q.toList:=fun j v hv=>by
 rw [Nat.zero_add,qm h.q,<-Array.getElem?_toList];exact hv
theorem y_pos2 {ops:Array Oper} {op:Oper} {a:Act} {PA:Array Value} (hz:PA.size=72) {S:World->Prop} (hw:Region.wanted op (yielded ops a.tmps)=true) (x:Operand) (ho:op.op=.load 25 x) (b:Nat) (hx:a.eval x=.pointer (some ⟨b,0,none⟩)) (hS:∀ w,S w->w.rangeAt b 0 PA.toList):YieldsIf Tryz.prog ops S op (.agg PA) a:=by
 have:=yieldsIf_load_mid (P:=Tryz.prog) hw 25 x ho b 0 hx PA.toList _ hS Tryz.underlying25 rfl (by rw [infoP];simp [hz])
 rwa [Array.toArray_toList] at this
theorem jcq {z:Nat->UInt8} {wh:Bool} {fc:Nat->Bool} {b h gg:Int} {QA:Array Value} (o:Ok z wh fc b h gg) (r:Row z wh fc b 0 0 QA) (g n:Nat) (hn:0<n) (hn2:n<=4096) (d k:Int) (w:World) :
  Calls Tryz.prog 214 #[.agg #[svN g n],.agg (qA QA d k)] w fun e w'=>e=.returned (.int .i64 (((keyS z wh fc b).toNat%n:Nat):Int))/\Gr w w':=by
 have hz:=r.size;have hkey:=hide (fun W=>keyOf_any r o.lay o.b0 o.b1 W);obtain ⟨x1,x2⟩:=heapTwo w (.cells #[svN g n] 122) (.cells (qA QA d k) 202);have hg0:Gr w ((w.alloc (.cells #[svN g n] 122)).alloc (.cells (qA QA d k) 202)):=((Gr.refl w).alloc _ _).alloc _ _;have hU:U (keyS z wh fc b)=(((keyS z wh fc b).toNat:Nat):Int):=rfl;have hlt:(keyS z wh fc b).toNat<18446744073709551616:=(keyS z wh fc b).isLt;rw [hU] at hkey;generalize (keyS z wh fc b).toNat=kv at hkey hlt ⊢;clear hU o r;have hnz:((n:Int)==0)=false:=by rw [beq_eq_false_iff_ne];omega
 have hnz2:¬ ((n:Int)=0):=by omega
 have ew:IntKind.u64.wrap ((n:Nat):Int)=(n:Int):=by rw [IntKind.wrap_u64];omega
 have er:(kv:Int).tmod (n:Int)=((kv%n:Nat):Int):=by rw [Int.tmod_eq_emod_of_nonneg (by omega)];omega
 have em:kv%n<n:=Nat.mod_lt _ hn;have ei:IntKind.i64.wrap ((kv%n:Nat):Int)=((kv%n:Nat):Int):=by rw [IntKind.wrap_i64];omega
 have eu:IntKind.u64.wrap ((kv%n:Nat):Int)=((kv%n:Nat):Int):=by rw [IntKind.wrap_u64];omega
 generalize kv%n=pl at er em ei eu ⊢;go_enter Tryz.func214,Tryz.ntmps214;go_upto_region 1 with fail;show Code.wp _ _ _ _ ((w.alloc (.cells #[svN g n] 122)).alloc (.cells (qA QA d k) 202));generalize ((w.alloc (.cells #[svN g n] 122)).alloc (.cells (qA QA d k) 202))=w0 at x1 x2 hg0 ⊢;have hS0:Mq g n (qA QA d k) w.heap.size (w.heap.size+1) w w0.drew:=⟨x1,x2,hg0.drew⟩;refine wp_region_held_drew (S:=Mq g n (qA QA d k) w.heap.size (w.heap.size+1) w) (by kernel_rfl) hS0 (fun hHeld=>?_);clear hS0 x1 x2 hg0;refine C.tq 0 (.pointer (some ⟨w.heap.size+1,0,none⟩)) hHeld ?_;refine C.ty 1 (.agg QA) rfl (y_pos2 hz (by rfl) _ rfl (w.heap.size+1) rfl (fun _ h=>h.rg)) hHeld ?_;refine C.tq 3 (.pointer (some ⟨w.heap.size,0,none⟩)) hHeld ?_;refine C.ty 4 (svN g n) rfl (Or.inl ⟨by rfl,fun w' hw=>(by have c0:=hw.c;go_simp)⟩) hHeld ?_;unfold svN;refine C.tq 5 (.int .i64 (n:Int)) hHeld ?_;refine C.ty 6 (.int .u64 (n:Int)) rfl (Or.inl ⟨by rfl,fun w' hw=>(by go_simp;try exact ew)⟩) hHeld ?_;refine C.rd 2 fun K hK=>?_
 go_simp;refine (qa hkey _).mono ?_;rintro e wa ⟨rfl,hga⟩;refine hK.out _ _ (hHeld.next hga) (fun hHeld=>?_);clear hK K
 try simp only [C.py]
 refine C.ty 7 (.int .u64 (pl:Int)) rfl (Or.inl ⟨by rfl,fun w' hw=>(by go_simp;try first|done|exact er|(rw [er];exact eu)|omega)⟩) hHeld ?_;refine C.ty 8 (.int .i64 (pl:Int)) rfl (Or.inl ⟨by rfl,fun w' hw=>(by go_simp;try exact ei)⟩) hHeld ?_;refine C.rd 9 fun K hK=>?_
 go_simp;refine hK.out _ _ hHeld (fun hHeld=>?_);clear hK K
 try simp only [C.py]
 refine wpAnyH_done (by kernel_rfl) ?_ _;have hgf:=hHeld.gr;clear hHeld;go_wp2_with fail;go_ret;exact ⟨rfl,hgf⟩
def slotA (Q:Array Value) (p:Int):Array Value:=Q++#[.int .u64 p]
theorem qs {Q:Array Value} (h:Q.size=74) (p:Int):(slotA Q p).size=75:=by unfold slotA;simp [h]
theorem slotA_at {Q:Array Value} (h:Q.size=74) (p:Int):(slotA Q p)[74]?=some (.int .u64 p):=by
 unfold slotA;rw [Array.getElem?_append_right (by omega),h];rfl
theorem xk {Q:Array Value} (h:Q.all (·.oneCell')=true) (p:Int):(slotA Q p).all (·.oneCell')=true:=by
 unfold slotA;rw [Array.all_append,h];simp [Value.oneCell']
def SlotG (S:Array Value) (i:Nat):Prop:=∃ (z:Nat->UInt8) (wh:Bool) (fc:Nat->Bool) (b:Int) (A:Array Value) (d way p:Int),Row z wh fc b 0 0 A/\(∀ n,64<=n->z n=0)/\(∀ n,4<=n->fc n=false) ∧
 (∀ j,j<75->S[i*75+j]?=(slotA (qA A d way) p)[j]?)/\(∀ h g,Ok z wh fc b h g->∀ m:Nat,d=(m:Int)->1<=m->m<=3->p=((pathsN m z wh fc b:Nat):Int))
def MemS (g n:Nat) (W:World):Prop:=∃ S,W.heap[g]?=some (.cells S 291)/\S.size=n*75/\∀ i,i<n->SlotG S i
theorem infoS75:(Tryz.prog.info? 291).map (·.size)=some 75:=by kernel_rfl
theorem zeroS:Tryz.zeroCells291.size=75:=by kernel_rfl
structure Ms (g n:Nat) (Q S:Array Value) (b2 b3:Nat) (w W:World):Prop where
 mq:Mq g n Q b2 b3 w W
 s:W.heap[g]?=some (.cells S 291)
theorem Ms.next {g n:Nat} {Q S:Array Value} {b2 b3:Nat} {w W W':World} (h:Ms g n Q S b2 b3 w W) (k:Gr W W'):Ms g n Q S b2 b3 w W':=⟨h.mq.next k,(Below.block k _ (xg h.s)).trans h.s⟩
theorem Ms.put {g n:Nat} {Q S:Array Value} {b2 b3:Nat} {w W:World} (h:Ms g n Q S b2 b3 w W) {B:Nat} (h1:B≠g) (h2:B≠b2) (h3:B≠b3) (hw:w.heap.size<=B) (X:Array Value):Ms g n Q S b2 b3 w (W.setRow B X) :=
 ⟨⟨by rw [setRow_other _ _ _ _ (by omega)];exact h.mq.m,by rw [setRow_other _ _ _ _ (by omega)];exact h.mq.q,h.mq.gr.setRow _ hw _⟩,by rw [setRow_other _ _ _ _ (by omega)];exact h.s⟩
theorem Ms.rg {g n:Nat} {Q S R:Array Value} {b2 b3:Nat} {w W:World} (h:Ms g n Q S b2 b3 w W) {i:Nat} (hs:R.size=75) (hR:∀ j,j<75->S[i*75+j]?=R[j]?):W.rangeAt g (i*75) R.toList:=fun j v hv=>by
 have hj:j<75:=by
  have:=(List.getElem?_eq_some_iff.1 hv).1;rw [Array.length_toList,hs] at this;exact this
 rw [qm h.s,hR j hj,<-Array.getElem?_toList];exact hv
theorem y_q {ops:Array Oper} {op:Oper} {a:Act} {Q:Array Value} (hz:Q.size=74) {S:World->Prop} (hw:Region.wanted op (yielded ops a.tmps)=true) (x:Operand) (ho:op.op=.load 202 x) (b:Nat) (hx:a.eval x=.pointer (some ⟨b,0,none⟩)) (hS:∀ w,S w->w.rangeAt b 0 Q.toList):YieldsIf Tryz.prog ops S op (.agg Q) a:=by
 have:=yieldsIf_load_mid (P:=Tryz.prog) hw 202 x ho b 0 hx Q.toList _ hS Tryz.underlying202 rfl (by rw [infoQ];simp [hz])
 rwa [Array.toArray_toList] at this
theorem y_s {ops:Array Oper} {op:Oper} {a:Act} {R:Array Value} (hz:R.size=75) {S:World->Prop} (hw:Region.wanted op (yielded ops a.tmps)=true) (x:Operand) (ho:op.op=.load 291 x) (b off:Nat) (hx:a.eval x=.pointer (some ⟨b,off,none⟩)) (hS:∀ w,S w->w.rangeAt b off R.toList):YieldsIf Tryz.prog ops S op (.agg R) a:=by
 have:=yieldsIf_load_mid (P:=Tryz.prog) hw 291 x ho b off hx R.toList _ hS Tryz.underlying291 rfl (by rw [infoS75];simp [hz])
 rwa [Array.toArray_toList] at this
theorem recallN_any {z:Nat->UInt8} {wh:Bool} {fc:Nat->Bool} {b h gg:Int} {QA:Array Value} (o:Ok z wh fc b h gg) (r:Row z wh fc b 0 0 QA) (g n:Nat) (hn:0<n) (hn2:n<=4096) (d:Nat) (d1:1<=d) (d3:d<=3) (k:Int) (w:World) (hI:MemS g n w) :
  Calls Tryz.prog 130 #[.agg #[svN g n],.agg (qA QA (d:Int) k)] w fun e w'=>(e=.returned (.tuple #[.int .u64 0,.bool false])\/e=.returned (.tuple #[.int .u64 ((pathsN d z wh fc b:Nat):Int),.bool true]))/\Gr w w':=by
 obtain ⟨S,hS,hSz,hsl⟩:=hI;have hpl:=hide (fun W=>jcq o r g n hn hn2 (d:Int) k W);have hpm:(keyS z wh fc b).toNat%n<n:=Nat.mod_lt _ hn;generalize (keyS z wh fc b).toNat%n=pl at hpl hpm;obtain ⟨z',wh',fc',b',A,d',way,p,rA,nz,nf,hcs,hok⟩:=hsl pl hpm;have hq74:=qvs r.size (d:Int) k;have hA74:=qvs rA.size d' way;have hR75:=qs hA74 p;have hRat:=slotA_at hA74 p;have hRone:=hide (xk (zt (qz rA) d' way) p);have heq:=hide (fun W=>q_eq rA r d' (d:Int) way k W);obtain ⟨E,hE⟩:∃ E,Hid (E=qE (posE z' z wh' wh fc' fc b' b 0 0 0 0) d' (d:Int) way k):=⟨_,hide rfl⟩;rw [<-qa hE] at heq
 have hans:Hid (E=true->p=((pathsN d z wh fc b:Nat):Int)):=hide fun e=>by
  rw [qa hE] at e;unfold qE at e;simp only [Bool.and_eq_true,beq_iff_eq] at e;obtain ⟨e1,e2,_⟩:=e;obtain ⟨pp1,pp2,pp3,pp4⟩:=posE_true e1
  have ez:z'=z:=by
   funext i;by_cases hi:i<64
   ·exact pp1 i hi
   ·rw [nz i (by omega),o.nz i (by omega)]
  have ef:fc'=fc:=by
   funext i;by_cases hi:i<4
   ·exact pp3 i hi
   ·rw [nf i (by omega),o.nf i (by omega)]
  subst ez ef pp2 pp4;exact hok h gg o d e2 d1 d3
 have hRg:Hid (∀ W,Ms g n (qA QA (d:Int) k) S w.heap.size (w.heap.size+1) w W->W.rangeAt g (pl*75) (slotA (qA A d' way) p).toList):=hide fun W hW=>hW.rg hR75 hcs
 have hQl:Hid ((slotA (qA A d' way) p).toList.take 74=(qA A d' way).toList):=hide (by unfold slotA;rw [Array.toList_append,List.take_append_of_le_length (by rw [Array.length_toList,hA74];omega),List.take_of_length_le (by rw [Array.length_toList,hA74];omega)]);obtain ⟨x1,x2⟩:=heapTwo w (.cells #[svN g n] 122) (.cells (qA QA (d:Int) k) 202);have hg0:Gr w ((w.alloc (.cells #[svN g n] 122)).alloc (.cells (qA QA (d:Int) k) 202)):=((Gr.refl w).alloc _ _).alloc _ _;have hS0:=(Below.block hg0 _ (xg hS)).trans hS;have hgl:=xg hS;generalize pathsN d z wh fc b=R at hans ⊢;generalize qA QA (d:Int) k=Q at hpl hq74 heq hRg x1 x2 hg0 hS0 ⊢;generalize hRR:slotA (qA A d' way) p=RR at hR75 hRat hRone hRg hQl;generalize qA A d' way=QB at heq hA74 hQl;clear o r rA hok hsl hcs hE hS;have hnz:((n:Int)==0)=false:=by rw [beq_eq_false_iff_ne];omega
 have hp0:(0:Int)<=(pl:Int):=by omega
 have hpn:(pl:Int)<(n:Int):=by omega
 go_enter Tryz.func130,Tryz.ntmps130;go_upto_region 1 with fail;show Code.wp _ _ _ _ ((w.alloc (.cells #[svN g n] 122)).alloc (.cells Q 202));generalize ((w.alloc (.cells #[svN g n] 122)).alloc (.cells Q 202))=w0 at x1 x2 hg0 hS0 ⊢;have c0:w0.cell? ⟨w.heap.size,0,none⟩=some (.slice (some ⟨g,0,none⟩) n n):=by rw [qm x1];rfl
 go_upto_region 3 with fail;have hM0:Ms g n Q S w.heap.size (w.heap.size+1) w w0.drew:=⟨⟨x1,x2,hg0.drew⟩,hS0⟩;refine wp_region_held_drew (S:=Ms g n Q S w.heap.size (w.heap.size+1) w) (by kernel_rfl) hM0 (fun hHeld=>?_);clear hM0 x1 x2 hg0 hS0 c0;refine C.tq 0 (.pointer (some ⟨w.heap.size,0,none⟩)) hHeld ?_;refine C.ty 1 (.slice (some ⟨g,0,none⟩) n n) rfl (Or.inl ⟨by rfl,fun w' hw=>(by have c0:=hw.mq.c;unfold svN at c0;go_simp)⟩) hHeld ?_;refine C.ty 2 (.agg #[svN g n]) rfl (Or.inl ⟨by rfl,fun w' hw=>(by have c0:=hw.mq.c;go_simp)⟩) hHeld ?_;refine C.ty 3 (.agg Q) rfl (y_q hq74 (by rfl) _ rfl (w.heap.size+1) rfl (fun _ h=>h.mq.rq)) hHeld ?_;refine wpAnyH_ready (rs:=[4,7]) (by kernel_rfl) (by simp) ?_;refine AllReadyH.cons rfl (fun K hK=>?_) (AllReadyH.cons rfl (fun K hK=>?_) AllReadyH.nil)
 ·go_simp;refine (qa hpl _).mono ?_;rintro e wa ⟨rfl,hga⟩;refine hK.out _ _ (hHeld.next hga) (fun hHeld=>?_);clear hK K
  try simp only [C.py]
  refine C.tq 5 (.pointer (some ⟨g,pl*75,none⟩)) hHeld ?_;refine C.ty 6 (.agg RR) rfl (y_s hR75 (by rfl) _ rfl g (pl*75) rfl (fun W h=>qa hRg W h)) hHeld ?_;have y7:=heap_alloc_new wa (.cells Tryz.zeroCells291 291);have hBw:w.heap.size<=wa.heap.size:=Below.size hHeld.mq.gr;have hBg:wa.heap.size≠g:=by omega
  have hB2:wa.heap.size≠w.heap.size:=by have:=xg hHeld.mq.m;omega
  have hB3:wa.heap.size≠w.heap.size+1:=by have:=xg hHeld.mq.q;omega
  refine C.rd 7 fun K hK=>?_
  go_simp;refine hK.out _ _ (hHeld.next ((Gr.refl wa).alloc _ _)) (fun hHeld=>?_);clear hK K
  try simp only [C.py]
  refine C.rd 8 fun K hK=>?_
  rw [if_pos (by rfl)];refine wp_store_row 291 _ _ rfl wa.heap.size RR rfl rfl 291 Tryz.zeroCells291 y7 (by rw [hR75];exact infoS75) (by rw [hR75];exact zeroS) (qa hRone) ?_;have y8:((wa.alloc (.cells Tryz.zeroCells291 291)).setRow wa.heap.size RR).heap[wa.heap.size]?=some (.cells RR 291):=setRow_heap _ _ _ _ _ _ y7;refine hK.out _ _ (hHeld.put hBg hB2 hB3 hBw RR) (fun hHeld=>?_);clear hK K
  try simp only [C.py]
  refine wpAnyH_done (by kernel_rfl) ?_ _;generalize (wa.alloc (.cells Tryz.zeroCells291 291)).setRow wa.heap.size RR=w8 at hHeld y8 ⊢
  have hrB:w8.rangeAt wa.heap.size 0 QB.toList:=fun j v hv=>by
   have hj:=(List.getElem?_eq_some_iff.1 hv).1;rw [Array.length_toList,hA74] at hj;rw [Nat.zero_add,qm y8,<-Array.getElem?_toList,<-List.getElem?_take_of_lt hj,qa hQl];exact hv
  have hrQ:=hHeld.mq.rq;have c74:w8.cell? ⟨wa.heap.size,74,none⟩=some (.int .u64 p):=by rw [qm y8];exact hRat
  have hgf:=hide hHeld.mq.gr;generalize wa.heap.size=b6 at hrB c74 ⊢;clear hHeld y8 hpl hRg hRone hQl;cases E
  ·go_wp2_with (first
    | (refine wpList_load_mid rfl 202 _ rfl b6 0 rfl QB.toList _ hrB Tryz.underlying202 rfl (by rw [infoQ];simp [hA74]) ?_;rw [Array.toArray_toList])
    | (refine wpList_load_mid rfl 202 _ rfl (w.heap.size+1) 0 rfl Q.toList _ hrQ Tryz.underlying202 rfl (by rw [infoQ];simp [hq74]) ?_;rw [Array.toArray_toList])
    | (refine qf rfl _ _ rfl rfl rfl (qa heq) ?_))
   go_ret2;exact ⟨.inl rfl,qa hgf⟩
  ·have hp:=qa hans rfl;subst hp
   go_wp2_with (first
    | (refine wpList_load_mid rfl 202 _ rfl b6 0 rfl QB.toList _ hrB Tryz.underlying202 rfl (by rw [infoQ];simp [hA74]) ?_;rw [Array.toArray_toList])
    | (refine wpList_load_mid rfl 202 _ rfl (w.heap.size+1) 0 rfl Q.toList _ hrQ Tryz.underlying202 rfl (by rw [infoQ];simp [hq74]) ?_;rw [Array.toArray_toList])
    | (refine qf rfl _ _ rfl rfl rfl (qa heq) ?_))
   go_ret2;exact ⟨.inr rfl,qa hgf⟩
 ·go_simp;have y0:(w0.drew.alloc (.cells Tryz.zeroCells291 291)).heap[w0.heap.size]?=some (.cells Tryz.zeroCells291 291):=heap_alloc_new w0.drew _;have h5:w.heap.size<w0.heap.size:=xg hHeld.mq.m;have h6:w.heap.size+1<w0.heap.size:=xg hHeld.mq.q;have hBw:w.heap.size<=w0.heap.size:=by omega
  have hBg:w0.heap.size≠g:=by omega
  have hB2:w0.heap.size≠w.heap.size:=by omega
  have hB3:w0.heap.size≠w.heap.size+1:=by omega
  clear h5 h6;refine hK.out _ _ (hHeld.next ((Gr.refl w0.drew).alloc _ _)) (fun hHeld=>?_);clear hK K
  try simp only [C.py]
  refine C.rd 4 fun K hK=>?_
  go_simp;refine (qa hpl _).mono ?_;rintro e wa ⟨rfl,hga⟩;have y7:=(Below.block hga _ (xg y0)).trans y0;refine hK.out _ _ (hHeld.next hga) (fun hHeld=>?_);clear hK K
  try simp only [C.py]
  refine C.tq 5 (.pointer (some ⟨g,pl*75,none⟩)) hHeld ?_;refine C.ty 6 (.agg RR) rfl (y_s hR75 (by rfl) _ rfl g (pl*75) rfl (fun W h=>qa hRg W h)) hHeld ?_;refine C.rd 8 fun K hK=>?_
  rw [if_pos (by rfl)];refine wp_store_row 291 _ _ rfl w0.heap.size RR rfl rfl 291 Tryz.zeroCells291 y7 (by rw [hR75];exact infoS75) (by rw [hR75];exact zeroS) (qa hRone) ?_;have y8:(wa.setRow w0.heap.size RR).heap[w0.heap.size]?=some (.cells RR 291):=setRow_heap _ _ _ _ _ _ y7;refine hK.out _ _ (hHeld.put hBg hB2 hB3 hBw RR) (fun hHeld=>?_);clear hK K
  try simp only [C.py]
  refine wpAnyH_done (by kernel_rfl) ?_ _;generalize wa.setRow w0.heap.size RR=w8 at hHeld y8 ⊢
  have hrB:w8.rangeAt w0.heap.size 0 QB.toList:=fun j v hv=>by
   have hj:=(List.getElem?_eq_some_iff.1 hv).1;rw [Array.length_toList,hA74] at hj;rw [Nat.zero_add,qm y8,<-Array.getElem?_toList,<-List.getElem?_take_of_lt hj,qa hQl];exact hv
  have hrQ:=hHeld.mq.rq;have c74:w8.cell? ⟨w0.heap.size,74,none⟩=some (.int .u64 p):=by rw [qm y8];exact hRat
  have hgf:=hide hHeld.mq.gr;generalize w0.heap.size=b6 at hrB c74 ⊢;clear hHeld y8 hpl hRg hRone hQl;cases E
  ·go_wp2_with (first
    | (refine wpList_load_mid rfl 202 _ rfl b6 0 rfl QB.toList _ hrB Tryz.underlying202 rfl (by rw [infoQ];simp [hA74]) ?_;rw [Array.toArray_toList])
    | (refine wpList_load_mid rfl 202 _ rfl (w.heap.size+1) 0 rfl Q.toList _ hrQ Tryz.underlying202 rfl (by rw [infoQ];simp [hq74]) ?_;rw [Array.toArray_toList])
    | (refine qf rfl _ _ rfl rfl rfl (qa heq) ?_))
   go_ret2;exact ⟨.inl rfl,qa hgf⟩
  ·have hp:=qa hans rfl;subst hp
   go_wp2_with (first
    | (refine wpList_load_mid rfl 202 _ rfl b6 0 rfl QB.toList _ hrB Tryz.underlying202 rfl (by rw [infoQ];simp [hA74]) ?_;rw [Array.toArray_toList])
    | (refine wpList_load_mid rfl 202 _ rfl (w.heap.size+1) 0 rfl Q.toList _ hrQ Tryz.underlying202 rfl (by rw [infoQ];simp [hq74]) ?_;rw [Array.toArray_toList])
    | (refine qf rfl _ _ rfl rfl rfl (qa heq) ?_))
   go_ret2;exact ⟨.inr rfl,qa hgf⟩
end Go.Proofs.YtnfakamfmkhlbaaGreatDoor.C
