import Derived.Test.YtnfakamfmkhlbabGreatDoorKb11
import Derived.Stop.RegionWithIn
import Derived.Test.YtnfakamfmkhlbabGreatDoorKb4
import Derived.Test.YtnfakamfmkhlbabGreatDoorKb7
import Derived.ChangeKeysEq
import Derived.Test.YtnfakamfmkhlbabGreatDoorKb2
import Derived.Lib.IndexLaws
import Derived.LoopTactic
import Derived.Deep.LoopGhost
import Derived.Below
import Derived.Laws.Rows
import Derived.Deep.RegionHeld3
set_option maxRecDepth 100000
set_option maxHeartbeats 4000000
set_option linter.unusedSimpArgs false
namespace Go.Proofs.YtnfakamfmkhlbabGreatDoor.C
open Go.ChangeShapes Go.WideShapes Go.ChangeAt Go.RowKit Go.Shelf
open Go.Proofs.YtnfakamfmkhlbabGreatDoor.P
attribute [local go_sem] setCell_drewN alloc_drewN Oper.semAt_some
def mvC (x:Mv):Array Value:=#[.int .i64 (x.1:Int),.int .i64 (x.2.1:Int),.int .u8 (x.2.2.toNat:Int)]
end Go.Proofs.YtnfakamfmkhlbabGreatDoor.C
namespace Go.Proofs.YtnfakamfmkhlbabGreatDoor.C
open Go.ChangeShapes Go.WideShapes Go.ChangeAt Go.RowKit Go.Shelf
open Go.Proofs.YtnfakamfmkhlbabGreatDoor.P
attribute [local go_sem] setCell_drewN alloc_drewN
theorem only_mk (g gf:Nat) (lb lf:Array Value) (w:World):Calls Tryz.prog 67 #[.func (.func g) #[] lb,.func (.func gf) #[] lf] w fun e w'=>e=.returned (.func (.func 155) #[] #[.pointer (some ⟨w.heap.size,0,none⟩),.pointer (some ⟨w.heap.size+1,0,none⟩)])/\w'.heap[w.heap.size]?=some (.cells #[.func (.func g) #[] lb] 141)/\w'.heap[w.heap.size+1]?=some (.cells #[.func (.func gf) #[] lf] 143)/\Gr w w':=by
 have hmf:∀ (fn:Fn) (first cap:Array Value) (w:World),(Instr.makeFunc fn first cap).run Tryz.prog w=.ok (.func fn first cap) w:=fun _ _ _ _=>rfl
 go_enter Tryz.func67,Tryz.ntmps67;go_wp2;go_ret;obtain ⟨h1,h2⟩:=heapTwo w (.cells #[.func (.func g) #[] lb] 141) (.cells #[.func (.func gf) #[] lf] 143);exact ⟨rfl,h1,h2,((Gr.refl w).alloc _ _).alloc _ _⟩
def movS (z:Nat->UInt8) (wh:Bool) (fc:Nat->Bool) (b:Int):List Mv:=uptoS (layS z 64) wh (sideB (layS z 64) wh) (sideB (layS z 64) (!wh)) (behB b) fc 6
theorem movesS_it {z:Nat->UInt8} {wh:Bool} {fc:Nat->Bool} {b h g:Int} {PA:Array Value} (r:Row z wh fc b h g PA) (hok:layOk z=true) (hb0:-1<=b) (hb1:b<=63) (Bp:Nat) (T:Obj->Prop) (hTm:∀ o,T o->∃ c fr,o=.cells c 87 fr) (w:World)
  (hp:w.heap[Bp]?=some (.cells PA 70)) (hT:TabIn w) (hC:CasTab w) :
  It Tryz.prog 128 #[.pointer (some ⟨Bp,0,none⟩)] encM T (fun k=>k=Bp\/k=2\/k=3) (movS z wh fc b) w :=
 movesC_it r.size (fun W=>fieldOf_any r hok hb0 hb1 W) Bp T hTm w hp hT hC
theorem setsMoves_mk (PA:Array Value) (w:World):Calls Tryz.prog 61 #[.agg PA] w fun e w'=>e=.returned (.func (.func 128) #[] #[.pointer (some ⟨w.heap.size,0,none⟩)])/\w'.heap[w.heap.size]?=some (.cells PA 70)/\Gr w w':=by
 have hmf:∀ (fn:Fn) (first cap:Array Value) (w:World),(Instr.makeFunc fn first cap).run Tryz.prog w=.ok (.func fn first cap) w:=fun _ _ _ _=>rfl
 go_enter Tryz.func61,Tryz.ntmps61;go_wp2;go_ret;exact ⟨rfl,World.alloc_heap_new _ _,(Gr.refl w).alloc _ _⟩
end Go.Proofs.YtnfakamfmkhlbabGreatDoor.C
namespace Go.Proofs.YtnfakamfmkhlbabGreatDoor.C
open Go.ChangeShapes Go.WideShapes Go.ChangeAt Go.RowKit Go.Shelf
open Go.Proofs.YtnfakamfmkhlbabGreatDoor.P
attribute [local go_sem] setCell_drewN alloc_drewN Oper.semAt_some
theorem oneM_any (a b c:Int) (w:World):Calls Tryz.prog 185 #[.agg #[.int .i64 a,.int .i64 b,.int .u8 c]] w fun e w'=>e=.returned (.int .i64 1)/\Gr w w':=by
 go_enter Tryz.func185,Tryz.ntmps185;go_wp2;go_ret;exact ⟨rfl,(Gr.refl w).alloc _ _⟩
theorem sumM_any {g:Nat} {lb:Array Value} {C:Nat->Prop} {xs:List Mv} {w:World} (hit:It Tryz.prog g lb encM (fun _=>False) C xs w) (heg:∀ args w,(callFunc g args).run Tryz.prog w=.ok (.enter g args) w) (hCb:∀ k,C k->k<w.heap.size) (hlen:xs.length<9223372036854775807) :
  Calls Tryz.prog 184 #[.func (.func g) #[] lb,.func (.func 185) #[] #[]] w fun e w'=>e=.returned (.int .i64 (xs.length:Int))/\Gr w w':=by
 refine (callsIn_wide (n:=9)).1 ?_;refine callsIn_of_wp_marks Tryz.func184 rfl trivial ?_ rfl;simp only [Tryz.ntmps184,List.size_toArray,List.length_cons,List.length_nil,Nat.reduceAdd,Nat.reduceSub,Array.replicate_succ,Array.replicate_zero,List.push_toArray,List.append_toArray,List.nil_append,List.cons_append];refine wpIn_wide.2 ?_;go_wp2_with fail;obtain ⟨h1,h2⟩:=heapTwo w (.cells #[.func (.func 185) #[] #[]] 262) (.cells #[.int .i64 0] 3);have hg2:Gr w ((w.alloc (.cells #[.func (.func 185) #[] #[]] 262)).alloc (.cells #[.int .i64 0] 3)):=((Gr.refl w).alloc _ _).alloc _ _;have hs2:((w.alloc (.cells #[.func (.func 185) #[] #[]] 262)).alloc (.cells #[.int .i64 0] 3)).heap.size=w.heap.size+2:=by simp
 generalize ((w.alloc (.cells #[.func (.func 185) #[] #[]] 262)).alloc (.cells #[.int .i64 0] 3))=w2 at h1 h2 hg2 hs2 ⊢
 refine wpIn_wide.1 (range_out (n:=9) (gf:=g) (lb:=lb) rfl heg hit (fun _ h=>h.elim) (fun k hk=>by have:=hCb k hk;omega) (Fr.of_gr hg2) (fun _=>rfl)
  (fun pre V=>V.heap[w.heap.size]?=some (.cells #[.func (.func 185) #[] #[]] 262)/\V.heap[w.heap.size+1]?=some (.cells #[.int .i64 (pre.length:Int)] 3)/\Gr w V/\w2.heap.size<=V.heap.size)
  (fun _ _ _=>False)
  ?sI (fun _ _ _ _ h _=>h) ⟨h1,h2,hg2,Nat.le_refl _⟩ ?rnd ?done (fun _ _ _ _ _ _ h _=>h.elim))
 case sI=>exact fun s A A' h f=>⟨f.same _ _ h.1 (.inl (by omega)),f.same _ _ h.2.1 (.inl (by omega)),Below.trans h.2.2.1 (f.below (n:=w.heap.size) (Below.size h.2.2.1) (fun k o hk=>.inl (by omega))),Nat.le_trans h.2.2.2 f.size⟩
 case done =>
  rintro D V hD ⟨k1,k2,hg,hsz⟩ hK;have c2:=(cell_of_box_l k2).1;go_wp2_with fail;refine ⟨by simp,.inl ⟨_,_,rfl,run_takeDeferred hK,?_⟩⟩;exact ⟨_,results_tmp rfl _ _ _,rfl,Below.trans hg (belowK_b (w:=w2) (n₀:=w.heap.size) (by omega) _ D _ _ hD hK rfl rfl)⟩
 case rnd =>
  rintro l1 pre ⟨fr,tt,u⟩ V hbl hx ⟨k1,k2,hg,hsz⟩ hl;have hl':l1<V.heap.size:=hl.elim fun r hr=>(Array.getElem?_eq_some_iff.1 hr).1
  simp only [encM,mvV];gi_wp2;refine ⟨(Fr.refl _ _).alloc _,?_⟩;intro V2 f2 hI2 hl2;obtain ⟨k1,k2,hg,hsz⟩:=hI2;have kx:V2.heap[V.heap.size]?=some (.cells #[.int .i64 (fr:Int),.int .i64 (tt:Int),.int .u8 (u.toNat:Int)] 87):=f2.same _ _ (World.alloc_heap_new V _) (by omega);generalize V.heap.size=Bx at kx ⊢
  have hpl:pre.length+1<=xs.length:=by
   have:=hx.length_le;simpa using this
  have hwr:IntKind.i64.wrap ((pre.length:Int)+1)=(pre.length:Int)+1:=by rw [IntKind.wrap_i64];omega
  have d1:V2.drew.cell? ⟨w.heap.size,0,none⟩=some (.func (.func 185) #[] #[]):=(cell_of_box_l k1).1;have d2:V2.drew.cell? ⟨w.heap.size+1,0,none⟩=some (.int .i64 (pre.length:Int)):=(cell_of_box_l k2).1;have d3:V2.drew.frozen? ⟨w.heap.size+1,0,none⟩=false:=(cell_of_box_l k2).2;obtain ⟨x0,x1,x2⟩:=mv_cells (show V2.drew.heap[Bx]?=_ from kx)
  have aft:∀ W',Gr V2.drew W'->(W'.cell? ⟨w.heap.size,0,none⟩=some (.func (.func 185) #[] #[])/\W'.cell? ⟨w.heap.size+1,0,none⟩=some (.int .i64 (pre.length:Int))/\W'.frozen? ⟨w.heap.size+1,0,none⟩=false):=fun W' hgw=>by
   have e1:=(Below.block hgw _ (Array.getElem?_eq_some_iff.1 (show V2.drew.heap[w.heap.size]?=_ from k1)).1).trans (show V2.drew.heap[w.heap.size]?=_ from k1);have e2:=(Below.block hgw _ (Array.getElem?_eq_some_iff.1 (show V2.drew.heap[w.heap.size+1]?=_ from k2)).1).trans (show V2.drew.heap[w.heap.size+1]?=_ from k2);exact ⟨(cell_of_box_l e1).1,(cell_of_box_l e2).1,(cell_of_box_l e2).2⟩
  have aft':=hide aft;clear aft
  have fin:Hid (∀ W',Gr V2.drew W'->Fr (Rnd1 w2.heap.size (fun _=>False) C) V2 (W'.setCell ⟨w.heap.size+1,0,none⟩ (.int .i64 ((pre.length:Int)+1)))/\(W'.setCell ⟨w.heap.size+1,0,none⟩ (.int .i64 ((pre.length:Int)+1))).heap[w.heap.size]?=some (.cells #[.func (.func 185) #[] #[]] 262)/\(W'.setCell ⟨w.heap.size+1,0,none⟩ (.int .i64 ((pre.length:Int)+1))).heap[w.heap.size+1]?=some (.cells #[.int .i64 ((pre++[((fr,tt,u):Mv)]).length:Int)] 3)/\Gr w (W'.setCell ⟨w.heap.size+1,0,none⟩ (.int .i64 ((pre.length:Int)+1)))/\w2.heap.size<=(W'.setCell ⟨w.heap.size+1,0,none⟩ (.int .i64 ((pre.length:Int)+1))).heap.size):=hide (fun W' hgw=>by
   have hg3:Gr V2 W':=Gr.trans (Gr.refl V2).drew hgw;have e1:=(Below.block hg3 _ (Array.getElem?_eq_some_iff.1 k1).1).trans k1;have e2:=(Below.block hg3 _ (Array.getElem?_eq_some_iff.1 k2).1).trans k2;refine ⟨(Fr.of_gr hg3).setCell _ ?_,by rw [Below.heap_setCell _ _ _ _ (by simp)];exact e1,?_,Below.setCell (Gr.trans hg hg3) (show w.heap.size<=w.heap.size+1 by omega) _,?_⟩
   ·rintro o-(q|q)
    ·have:=hCb _ q;simp at this;omega
    ·have:=q.1;simp at this;omega
   ·have:=set_box (v:=.int .i64 ((pre.length:Int)+1)) e2;rw [this];simp
   ·have:=Below.size hg3;simp [World.setCell];omega)
  gi_wp2;gi_region_with (refine ⟨trivial,?_⟩;gi_at_call 185;refine ((callsIn_wide.2 (oneM_any _ _ _ _)).inRound l1).mono ?_;rintro e wc ⟨rfl,hgc⟩;obtain ⟨a1,a2,a3⟩:=unhide aft' wc hgc)
  all_goals
   gi_wp2;exact unhide fin _ hgc
theorem countM_any {g:Nat} {lb:Array Value} {C:Nat->Prop} {xs:List Mv} {w:World} (hit:It Tryz.prog g lb encM (fun _=>False) C xs w) (heg:∀ args w,(callFunc g args).run Tryz.prog w=.ok (.enter g args) w) (hCb:∀ k,C k->k<w.heap.size) (hlen:xs.length<9223372036854775807) :
  Calls Tryz.prog 94 #[.func (.func g) #[] lb] w fun e w'=>e=.returned (.int .i64 (xs.length:Int))/\Gr w w':=by
 have hsum:=hide (sumM_any hit heg hCb hlen);go_enter Tryz.func94,Tryz.ntmps94;go_wp2_with (go_at_call 184;refine (unhide hsum).mono ?_;rintro e w' ⟨rfl,hg⟩);go_ret;exact ⟨rfl,hg⟩
end Go.Proofs.YtnfakamfmkhlbabGreatDoor.C
namespace Go.Proofs.YtnfakamfmkhlbabGreatDoor.C
def nI (l:List UInt8):List Int:=l.map (fun c=>(c.toNat:Int))
def wrStep (st:List UInt8 × Nat) (c:UInt8):List UInt8 × Nat:=if c=46 then (st.1,st.2+1) else (st.1++gapS st.2++[c],0)
def wrL (zs:List UInt8):List UInt8 × Nat:=zs.foldl wrStep ([],0)
theorem wrL_snoc (zs:List UInt8) (c:UInt8):wrL (zs++[c])=wrStep (wrL zs) c:=by unfold wrL;rw [List.foldl_append];rfl
theorem wrK_wrL (z:Nat->UInt8):∀ k,wrK z k=wrL ((List.range k).map z)
 | 0=>rfl
 | k+1=>by
   rw [List.range_succ,List.map_append,List.map_cons,List.map_nil,wrL_snoc,<-wrK_wrL z k];rfl
theorem wrL_dots (zs:List UInt8):∀ d,wrL (zs++List.replicate d 46)=((wrL zs).1,(wrL zs).2+d)
 | 0=>by simp
 | d+1=>by
   rw [List.replicate_succ',<-List.append_assoc,wrL_snoc,wrL_dots zs d];unfold wrStep;rw [if_pos rfl];rfl
def okL (c:UInt8):Bool:=c==46||letS c
theorem let_46:letS 46=false:=by decide
theorem nI_app (a b:List UInt8):nI (a++b)=nI a++nI b:=List.map_append
theorem nI_rep (d:Nat):nI (List.replicate d 46)=List.replicate d 46:=by unfold nI;rw [List.map_replicate];rfl
theorem nI_len (a:List UInt8):(nI a).length=a.length:=List.length_map _
theorem dig_val (c:UInt8) (h:digS c=true):1<=c.toNat-48/\c.toNat-48<=8/\UInt8.ofNat (48+(c.toNat-48))=c:=by
 unfold digS at h;simp only [Bool.and_eq_true,decide_eq_true_eq] at h;refine ⟨by omega,by omega,?_⟩;rw [show 48+(c.toNat-48)=c.toNat from by omega];simp
theorem read_write (l:List UInt8):∀ acc a,rkFold l=some (acc,a)->∃ zs,acc=nI zs/\zs.all okL=true/\(a=false->wrL zs=(l,0))/\(a=true->∃ t g,wrL zs=(t,g)/\1<=g/\l=t++[UInt8.ofNat (48+g)]):=by
 induction hn:l.length generalizing l with
 | zero =>
  have:l=[]:=List.length_eq_zero_iff.mp hn;subst this;intro acc a h;unfold rkFold at h;simp at h;obtain ⟨rfl,rfl⟩:=h;exact ⟨[],rfl,rfl,fun _=>rfl,fun h=>by simp at h⟩
 | succ n ih =>
  have hne:l≠[]:=fun e=>by subst e;simp at hn
  obtain ⟨m,c,rfl⟩:∃ m c,l=m++[c]:=⟨l.dropLast,l.getLast hne,(List.dropLast_concat_getLast hne).symm⟩;intro acc a h;rw [rkFold_snoc] at h;cases hm:rkFold m with
  | none=>rw [hm] at h;simp [rkStep] at h
  | some st =>
   obtain ⟨acc0,a0⟩:=st;rw [hm] at h;obtain ⟨zs,e1,e2,e3,e4⟩:=ih m (by simpa using hn) acc0 a0 hm;unfold rkStep at h;simp only at h;by_cases hd:digS c=true
   ·rw [if_pos hd] at h;split at h
    ·simp at h
    ·rename_i hc;simp only [Bool.or_eq_true,decide_eq_true_eq,not_or] at hc;have ha0:a0=false:=by simpa using hc.1
     simp only [Option.some.injEq,Prod.mk.injEq] at h;obtain ⟨h1,h2⟩:=h;obtain ⟨d1,d2,d3⟩:=dig_val c hd;refine ⟨zs++List.replicate (c.toNat-48) 46,by rw [nI_app,nI_rep,<-e1];exact h1.symm,?_,fun h=>by rw [<-h2] at h;simp at h,fun _=>⟨m,c.toNat-48,?_,d1,by rw [d3]⟩⟩
     ·rw [List.all_append,e2];simp [okL]
     ·rw [wrL_dots,e3 ha0];simp
   ·rw [if_neg hd] at h;by_cases hl:letS c=true
    ·rw [if_pos hl] at h;split at h
     ·simp at h
     ·simp only [Option.some.injEq,Prod.mk.injEq] at h;obtain ⟨h1,h2⟩:=h;have hc46:¬ c=46:=fun e=>by rw [e,let_46] at hl;simp at hl
      refine ⟨zs++[c],by rw [nI_app,<-e1];exact h1.symm,?_,fun _=>?_,fun h=>by rw [<-h2] at h;simp at h⟩
      ·rw [List.all_append,e2];simp [okL,hl]
      ·rw [wrL_snoc];unfold wrStep;rw [if_neg hc46];cases ha:a0 with
       | false=>rw [e3 ha];simp [gapS]
       | true =>
        obtain ⟨t,g,k1,k2,k3⟩:=e4 ha;rw [k1,k3];have:gapS g=[UInt8.ofNat (48+g)]:=by unfold gapS;rw [if_neg (by omega)]
        simp [this]
    ·rw [if_neg hl] at h;simp at h
theorem rank_back (l:List UInt8) (r:List Int) (h:rankS l=some r):∃ zs,r=nI zs/\zs.length=8/\zs.all okL=true/\(wrL zs).1++gapS (wrL zs).2=l:=by
 unfold rankS at h;cases hf:rkFold l with
 | none=>rw [hf] at h;simp at h
 | some st =>
  obtain ⟨acc,a⟩:=st;rw [hf] at h;simp only at h;split at h
  ·rename_i h8;simp at h;subst h;obtain ⟨zs,e1,e2,e3,e4⟩:=read_write l acc a hf;refine ⟨zs,e1,by rw [e1,nI_len] at h8;exact h8,e2,?_⟩;cases a with
   | false=>rw [e3 rfl];simp [gapS]
   | true =>
    obtain ⟨t,g,k1,k2,k3⟩:=e4 rfl;rw [k1,k3];have:gapS g=[UInt8.ofNat (48+g)]:=by unfold gapS;rw [if_neg (by omega)]
    simp [this]
  ·simp at h
theorem ib_cases (c:UInt8):∀ l:List UInt8,(Lib.indexByte l c=-1/\c∉l)\/∃ a b,l=a++c :: b/\c∉a/\Lib.indexByte l c=(a.length:Int)
 | []=>Or.inl ⟨rfl,by simp⟩
 | x :: l=>by
   unfold Lib.indexByte;by_cases hx:x=c
   ·subst hx;right;exact ⟨[],l,rfl,by simp,by simp⟩
   ·have hb:(x==c)=false:=by simpa using hx
    rw [hb];simp only [Bool.false_eq_true,if_false];rcases ib_cases c l with ⟨h1,h2⟩|⟨a,b,h1,h2,h3⟩
    ·left;rw [h1];exact ⟨by simp,by simp only [List.mem_cons,not_or];exact ⟨fun e=>hx e.symm,h2⟩⟩
    ·right;refine ⟨x :: a,b,by rw [h1];rfl,by simp only [List.mem_cons,not_or];exact ⟨fun e=>hx e.symm,h2⟩,?_⟩;rw [h3];have:((a.length:Int)==-1)=false:=by simp
     rw [this];simp
theorem split_miss (c:UInt8) (k:Nat) (l:List UInt8) (h:c∉l):Lib.splitK [c] 0 k l=[l]:=by
 cases k with
 | zero=>rfl
 | succ k =>
  unfold Lib.splitK;rw [Lib.index_one];rcases ib_cases c l with ⟨h1,_⟩|⟨a,b,h1,_,_⟩
  ·rw [h1];simp
  ·rw [h1] at h;simp at h
theorem split_hit (c:UInt8) (k:Nat) (a b:List UInt8) (h:c∉a):Lib.splitK [c] 0 (k+1) (a++c :: b)=a :: Lib.splitK [c] 0 k b:=by
 conv=>lhs;unfold Lib.splitK
 rw [Lib.index_one];rcases ib_cases c (a++c :: b) with ⟨_,h2⟩|⟨a',b',h1,h2,h3⟩
 ·simp at h2
 ·have ha:a'=a/\b'=b:=by
   have key:∀ (p q p' q':List UInt8),p++c :: q=p'++c :: q'->c∉p->c∉p'->p=p'/\q=q':=by
    intro p;induction p with
    | nil =>
     intro q p' q' e _ h';cases p' with
     | nil=>simp at e;exact ⟨rfl,e⟩
     | cons y p'=>simp at e h';exact absurd e.1 h'.1
    | cons x p ih =>
     intro q p' q' e h h';cases p' with
     | nil=>simp at e h;exact absurd e.1.symm h.1
     | cons y p' =>
      simp at e h h';obtain ⟨e1,e2⟩:=ih q p' q' e.2 h.2 h'.2;exact ⟨by rw [e.1,e1],e2⟩
   obtain ⟨e1,e2⟩:=key a b a' b' h1 h h2;exact ⟨e1.symm,e2.symm⟩
  rw [h3,ha.1];have:((a.length:Int)==-1)=false:=by simp
  rw [this];simp
theorem join_cons2 (x y:List UInt8) (r:List (List UInt8)) (sep:List UInt8):Lib.join (x :: y :: r) sep=x++sep++Lib.join (y :: r) sep:=by
 simp [Lib.join,List.intercalate,List.intersperse]
theorem split_ne (c:UInt8) (k:Nat) (l:List UInt8):∃ x r,Lib.splitK [c] 0 k l=x :: r:=by
 cases k with
 | zero=>exact ⟨_,_,rfl⟩
 | succ k=>unfold Lib.splitK;split<;>exact ⟨_,_,rfl⟩
theorem join_split (c:UInt8):∀ (k:Nat) (l:List UInt8),Lib.join (Lib.splitK [c] 0 k l) [c]=l
 | 0,l=>Lib.join_one l [c]
 | k+1,l=>by
   rcases ib_cases c l with ⟨_,h2⟩|⟨a,b,rfl,h2,_⟩
   ·rw [split_miss c _ l h2,Lib.join_one]
   ·rw [split_hit c k a b h2];obtain ⟨x,r,e⟩:=split_ne c k b;rw [e,join_cons2,<-e,join_split c k b];simp
theorem words_data (c:UInt8) (n:Nat) (s:ByteArray):(wordsS c n s).map (·.data.toList)=Lib.splitK [c] 0 (min n (s.size+1)-1) s.data.toList:=by
 unfold wordsS;rw [Lib.splitB_data]
theorem words_join (c:UInt8) (n:Nat) (s:ByteArray):Lib.join ((wordsS c n s).map (·.data.toList)) [c]=s.data.toList:=by
 rw [words_data,join_split]
theorem side_back (s:ByteArray) (b:Bool) (h:sideS s=some b):s.data.toList=[if b then 119 else 98]:=by
 unfold sideS at h;rw [Lib.toList_data] at h;by_cases h1:s.data.toList=[119]
 ·rw [if_pos h1] at h;simp at h;subst h;exact h1
 ·rw [if_neg h1] at h;by_cases h2:s.data.toList=[98]
  ·rw [if_pos h2] at h;simp at h;subst h;exact h2
  ·rw [if_neg h2] at h;simp at h
theorem rest_step (l:List UInt8) (i:Nat):restS l i=(if leftS l i then [clc i] else [])++restS l (i+1):=by
 show restS l i=(if Lib.hasPrefix (restS l i) [clc i] then [clc i] else [])++Lib.trimPrefix (restS l i) [clc i];unfold Lib.trimPrefix;cases h:Lib.hasPrefix (restS l i) [clc i] with
 | false=>simp
 | true =>
  simp only [if_true];unfold Lib.hasPrefix at h;obtain ⟨t,ht⟩:=List.isPrefixOf_iff_prefix.mp h;rw [<-ht];simp
theorem wc_rest (l:List UInt8):∀ i,l=wcS (leftS l) i++restS l i
 | 0=>rfl
 | i+1=>by
   rw [wcS_step,List.append_assoc,<-rest_step];exact wc_rest l i
theorem castle_back (l:List UInt8) (f:Nat->Bool) (h:castS l=some f):wcastS f=l:=by
 unfold castS at h;by_cases h1:l=[45]
 ·rw [if_pos h1] at h;simp at h;subst h;rw [h1];rfl
 ·rw [if_neg h1] at h;by_cases h2:(!l.isEmpty&&(restS l 4).isEmpty)=true
  ·rw [if_pos h2] at h;simp at h;subst h;simp only [Bool.and_eq_true,Bool.not_eq_true',List.isEmpty_iff] at h2;have:=wc_rest l 4;rw [h2.2,List.append_nil] at this;unfold wcastS;rw [<-this];rw [h2.1];rfl
  ·rw [if_neg h2] at h;simp at h
theorem two_list (s:ByteArray) (h:s.size=2):s.data.toList=[s[0],s[1]]:=by
 have a:=take_snoc s 0 (by omega);have b:=take_snoc s 1 (by omega);have c:s.data.toList.take 2=s.data.toList:=List.take_of_length_le (by simp [h]);rw [c,a] at b;simpa using b
theorem behind_back (s:ByteArray) (n:Int) (h:behS s=some n):wbehS n=s.data.toList/\(n=-1\/(0<=n/\n<64)):=by
 unfold behS at h;by_cases h1:s.toList=[45]
 ·rw [if_pos h1] at h;simp at h;subst h;rw [Lib.toList_data] at h1;rw [h1];exact ⟨rfl,Or.inl rfl⟩
 ·rw [if_neg h1] at h;unfold sqS at h;by_cases h2:s.size=2
  ·rw [dif_pos h2] at h;by_cases h3:97<=s[0].toNat/\s[0].toNat<=104/\49<=s[1].toNat/\s[1].toNat<=56
   ·rw [if_pos h3] at h;simp only [natI,Option.some.injEq] at h;subst h;refine ⟨?_,Or.inr (by omega)⟩;unfold wbehS nameS;rw [if_neg (by omega),two_list s h2,Int.toNat_natCast];rw [show 97+(s[0].toNat-97+8*(s[1].toNat-49))%8=s[0].toNat from by omega,show 49+(s[0].toNat-97+8*(s[1].toNat-49))/8=s[1].toNat from by omega];simp
   ·rw [if_neg h3] at h;simp [natI] at h
  ·rw [dif_neg h2] at h;simp [natI] at h
theorem digit_back:∀ n,n<256->dg (UInt8.ofNat n)=true->UInt8.ofNat (48+(n-48))=UInt8.ofNat n/\48<=n/\n<=57:=by decide +kernel
theorem dg_val (c:UInt8) (h:dg c=true):UInt8.ofNat (48+(c.toNat-48))=c/\48<=c.toNat/\c.toNat<=57:=by
 have:=digit_back c.toNat c.toNat_lt;rw [UInt8.ofNat_toNat] at this;exact this h
theorem dv_pos:∀ (l:List UInt8),l≠[]->l.all dg=true->l.head?≠some 48->1<=dv l:=by
 intro l;induction hn:l.length generalizing l with
 | zero=>intro h;exact absurd (List.length_eq_zero_iff.mp hn) h
 | succ n ih =>
  intro hne ha hh;obtain ⟨m,c,rfl⟩:∃ m c,l=m++[c]:=⟨l.dropLast,l.getLast hne,(List.dropLast_concat_getLast hne).symm⟩;rw [dv_snoc];rw [List.all_append] at ha;simp only [Bool.and_eq_true,List.all_cons,List.all_nil,Bool.and_true] at ha;by_cases hm:m=[]
  ·subst hm;have h48:c≠48:=by simpa using hh
   have:=dg_val c ha.2;have:c.toNat≠48:=fun e=>h48 (UInt8.toNat_inj.mp (by simpa using e))
   omega
  ·have:=ih m (by simpa using hn) hm ha.1 (by
    cases m with
    | nil=>exact absurd rfl hm
    | cons x r=>simpa using hh)
   omega
theorem dec_dv:∀ (l:List UInt8),l≠[]->l.all dg=true->(1<l.length->l.head?≠some 48)->Lib.decDigits (dv l)=l:=by
 intro l;induction hn:l.length generalizing l with
 | zero=>intro h;exact absurd (List.length_eq_zero_iff.mp hn) h
 | succ n ih =>
  intro hne ha hh;obtain ⟨m,c,rfl⟩:∃ m c,l=m++[c]:=⟨l.dropLast,l.getLast hne,(List.dropLast_concat_getLast hne).symm⟩;rw [dv_snoc];rw [List.all_append] at ha;simp only [Bool.and_eq_true,List.all_cons,List.all_nil,Bool.and_true] at ha;obtain ⟨c1,c2,c3⟩:=dg_val c ha.2;by_cases hm:m=[]
  ·subst hm;unfold Lib.decDigits;rw [dif_pos (by simp [dv];omega)];simp [dv,c1]
  ·have hh':m.head?≠some 48:=by
    have:=hh (by
     have:0<m.length:=List.length_pos_iff.mpr hm;simp at hn;omega)
    cases m with
    | nil=>exact absurd rfl hm
    | cons x r=>simpa using this
   have hp:=dv_pos m hm ha.1 hh';unfold Lib.decDigits;rw [dif_neg (by omega),show (10*dv m+(c.toNat-48))/10=dv m from by omega,show (10*dv m+(c.toNat-48))%10=c.toNat-48 from by omega,c1,ih m (by simpa using hn) hm ha.1 (fun _=>hh')]
theorem clock_back (l:List UInt8) (n:Nat) (h:clkS l=some n):Lib.itoa (n:Int)=l/\n<=65535:=by
 unfold clkS at h;split at h
 ·rename_i hc;simp at h;subst h;refine ⟨?_,hc.2.2.2.2⟩;unfold Lib.itoa;rw [if_neg (by omega),Int.toNat_natCast];exact dec_dv l (fun e=>by subst e;simp at hc) hc.2.2.2.1 hc.2.2.1
 ·simp at h
def zB (B:List UInt8) (i:Nat):UInt8:=B.getD i 0
def rowL (B:List UInt8) (j:Nat):List UInt8:=(B.drop (8*j)).take 8
def wr1 (zs:List UInt8):List UInt8:=(wrL zs).1++gapS (wrL zs).2
theorem row_is (B:List UInt8) (j:Nat) (h:8*j+8<=B.length):(List.range 8).map (fun f=>zB B (8*j+f))=rowL B j:=by
 apply List.ext_getElem
 ·simp [rowL];omega
 ·intro i h1 h2;have hi:i<8:=by simpa using h1
  simp [rowL,zB,List.getElem?_eq_getElem (show 8*j+i<B.length by omega)]
theorem wrow_is (B:List UInt8) (i:Nat) (h:8*(7-i)+8<=B.length):wrowS (zB B) i=wr1 (rowL B (7-i)):=by
 unfold wrowS wrankS wr1;rw [wrK_wrL,row_is B (7-i) h]
theorem wrows_is (B:List UInt8) (h:B.length=64):(wrowsS (zB B)).map (·.data.toList)=(List.range 8).map (fun i=>wr1 (rowL B (7-i))):=by
 unfold wrowsS;rw [List.map_map];apply List.map_congr_left;intro i _;exact wrow_is B i (by omega)
theorem chunk (L:List (List UInt8)) (h:∀ r∈L,r.length=8):∀ j (hj:j<L.length),rowL L.flatten j=L[j]:=by
 induction L with
 | nil=>intro j hj;simp at hj
 | cons r t ih =>
  intro j hj;have hr:=h r (by simp);cases j with
  | zero=>simp [rowL,hr]
  | succ j =>
   have:=ih (fun x hx=>h x (by simp [hx])) j (by simpa using hj);unfold rowL at this ⊢;rw [List.flatten_cons,show 8*(j+1)=r.length+8*j from by omega,List.drop_length_add_append,this];rfl
theorem ranks_back:∀ (xs:List ByteArray) (rs:List (List Int)),ranksS xs=some rs->∃ zss:List (List UInt8),rs=zss.map nI/\(∀ z∈zss,z.length=8/\z.all okL=true)/\zss.map wr1=xs.map (·.data.toList)
 | [],rs,h=>by simp [ranksS] at h;subst h;exact ⟨[],rfl,by simp,rfl⟩
 | x :: t,rs,h=>by
   unfold ranksS at h;cases h1:rankS x.data.toList with
   | none=>rw [h1] at h;simp at h
   | some a =>
    cases h2:ranksS t with
    | none=>rw [h1,h2] at h;simp at h
    | some b =>
     rw [h1,h2] at h;simp at h;subst h;obtain ⟨zs,k1,k2,k3,k4⟩:=rank_back _ _ h1;obtain ⟨zss,e1,e2,e3⟩:=ranks_back t b h2;refine ⟨zs :: zss,by rw [k1,e1];rfl,?_,?_⟩
     ·intro z hz;rcases List.mem_cons.mp hz with rfl|hz
      ·exact ⟨k2,k3⟩
      ·exact e2 z hz
     ·show wr1 zs :: zss.map wr1=_ :: _;rw [e3];unfold wr1;rw [k4]
theorem flat_len (L:List (List UInt8)) (h:∀ r∈L,r.length=8):L.flatten.length=8*L.length:=by
 induction L with
 | nil=>rfl
 | cons r t ih=>rw [List.flatten_cons,List.length_append,ih (fun x hx=>h x (by simp [hx])),h r (by simp)];simp;omega
theorem board_back (x:ByteArray) (b:List Int) (h:boardS x=some b):∃ B,b=nI B/\B.length=64/\B.all okL=true/\wboardS (zB B)=x.data.toList:=by
 unfold boardS at h;split at h
 ·rename_i h8;cases hr:ranksS (wordsS 47 9 x) with
  | none=>rw [hr] at h;simp at h
  | some rs =>
   rw [hr] at h;simp at h;obtain ⟨zss,e1,e2,e3⟩:=ranks_back _ _ hr;have hl:zss.length=8:=by have:=congrArg List.length e3;simpa [h8] using this
   have hrev:∀ r∈zss.reverse,r.length=8:=fun r hr=>(e2 r (by simpa using hr)).1
   have hB:zss.reverse.flatten.length=64:=by rw [flat_len _ hrev];simp [hl]
   refine ⟨zss.reverse.flatten,?_,hB,?_,?_⟩
   ·rw [<-h,e1];unfold nI;rw [List.map_flatten,List.map_reverse]
   ·rw [List.all_eq_true];intro c hc;obtain ⟨r,hr,hcr⟩:=List.mem_flatten.mp hc;exact List.all_eq_true.mp (e2 r (by simpa using hr)).2 c hcr
   ·unfold wboardS;rw [wrows_is _ hB]
    have:(List.range 8).map (fun i=>wr1 (rowL zss.reverse.flatten (7-i)))=zss.map wr1:=by
     apply List.ext_getElem
     ·simp [hl]
     ·intro i h1 h2;have hi:i<8:=by simpa using h1
      simp only [List.getElem_map,List.getElem_range];rw [chunk _ hrev (7-i) (by simp [hl];omega),List.getElem_reverse];congr 2;omega
    rw [this,e3,words_join]
 ·simp at h
theorem read_back (s:ByteArray) (p:Pos) (h:readS s=some p):∃ B,p.board=nI B/\B.length=64/\B.all okL=true/\(p.behind=-1\/(0<=p.behind/\p.behind<64))/\(0<=p.half/\p.half<=65535)/\(0<=p.full/\p.full<=65535) ∧
  writeS (zB B) p.white p.castle p.behind p.half p.full=s.data.toList:=by
 unfold readS at h;split at h
 ·rename_i x0 x1 x2 x3 x4 x5 hw;unfold six at h;split at h
  ·rename_i b wh c e hh f k0 k1 k2 k3 k4 k5;simp at h;subst h;obtain ⟨B,b1,b2,b3,b4⟩:=board_back _ _ k0;obtain ⟨e1,e2⟩:=behind_back _ _ k3;obtain ⟨h1,h2⟩:=clock_back _ _ k4;obtain ⟨f1,f2⟩:=clock_back _ _ k5;refine ⟨B,b1,b2,b3,e2,by simp only;omega,by simp only;omega,?_⟩;have hj:=words_join 32 7 s;rw [hw] at hj;rw [<-hj];unfold writeS;simp only [List.map_cons,List.map_nil];rw [b4,<-side_back _ _ k1,castle_back _ _ k2,e1,h1,f1]
  ·simp at h
 ·simp at h
end Go.Proofs.YtnfakamfmkhlbabGreatDoor.C
namespace Go.Proofs.YtnfakamfmkhlbabGreatDoor.C
open Go.ChangeShapes Go.WideShapes Go.ChangeAt Go.RowKit
open Go.Proofs.YtnfakamfmkhlbabGreatDoor.P
attribute [local go_sem] setCell_drewN alloc_drewN
def posZ (p:Pos) (i:Nat):UInt8:=UInt8.ofNat (p.board.getD i 0).toNat
def posCan (p:Pos):Bool:=canS (posZ p) p.white p.castle p.behind p.half p.full
theorem posZ_is {p:Pos} {B:List UInt8} (h:p.board=nI B):posZ p=zB B:=by
 funext i;unfold posZ zB nI at *;rw [h];rcases Nat.lt_or_ge i B.length with hi|hi
 ·rw [List.getD_eq_getElem?_getD,List.getElem?_map,List.getElem?_eq_getElem hi,List.getD_eq_getElem?_getD,List.getElem?_eq_getElem hi];simp
 ·rw [List.getD_eq_getElem?_getD,List.getElem?_map,List.getElem?_eq_none hi,List.getD_eq_getElem?_getD,List.getElem?_eq_none hi];rfl
theorem row_posA (z:Nat->UInt8) (A:Array Value) (hs:A.size=64) (hA:∀ i,i<64->A[i]?=some (.int .u8 ((z i).toNat:Int))) (wh:Bool) (f:Nat->Bool) (b h g:Int):Row z wh f b h g (posA A wh (f 0) (f 1) (f 2) (f 3) b h g):=by
 have hp:∀ i,(posA A wh (f 0) (f 1) (f 2) (f 3) b h g)[i]?=if i<64 then A[i]? else (#[.bool wh,.bool (f 0),.bool (f 1),.bool (f 2),.bool (f 3),.int .i64 b,.int .i64 h,.int .i64 g]:Array Value)[i-64]?:=fun i=>by
  unfold posA;rw [Array.getElem?_append,hs]
 refine ⟨by unfold posA;rw [Array.size_append,hs];rfl,fun i hi=>?_,?_,fun i hi=>?_,?_,?_,?_⟩
 ·rw [hp,if_pos hi];exact hA i hi
 ·rw [hp];rfl
 ·rw [hp,if_neg (by omega)];have:i=0\/i=1\/i=2\/i=3:=by omega
  rcases this with rfl|rfl|rfl|rfl<;>rfl
 ·rw [hp];rfl
 ·rw [hp];rfl
 ·rw [hp];rfl
theorem boardA_at {p:Pos} {B:List UInt8} (h:p.board=nI B) (hl:B.length=64):((p.board.map (Value.int .u8)).toArray).size=64/\∀ i,i<64->((p.board.map (Value.int .u8)).toArray)[i]?=some (.int .u8 ((posZ p i).toNat:Int)):=by
 refine ⟨by rw [h];simp [nI,hl],fun i hi=>?_⟩;rw [posZ_is h,h];unfold nI zB;rw [List.getElem?_toArray,List.getElem?_map,List.getElem?_map,List.getElem?_eq_getElem (by omega),List.getD_eq_getElem?_getD,List.getElem?_eq_getElem (by omega)];rfl
theorem row_read {s:ByteArray} {p:Pos} (h:readS s=some p):Row (posZ p) p.white p.castle p.behind p.half p.full (posV p):=by
 obtain ⟨B,h1,h2,_⟩:=read_back s p h;obtain ⟨a1,a2⟩:=boardA_at h1 h2;exact row_posA _ _ a1 a2 _ _ _ _ _
def ParseEnd (s:ByteArray) (e:Ending):Prop :=
 (∃ p,readS s=some p/\posCan p=true/\e=.returned (.tuple #[.agg (posV p),.int .i64 0])) ∨
 (∃ p,readS s=some p/\posCan p=false/\e=.returned (.tuple #[.agg Tryz.zeroCells70,.int .i64 2])) ∨
 (readS s=none/\e=.returned (.tuple #[.agg Tryz.zeroCells70,.int .i64 1]))
theorem posV_ones {p:Pos} {B:List UInt8} (h:p.board=nI B) (hl:B.length=64):(posV p).size=72/\(posV p).all (·.oneCell')=true:=by
 obtain ⟨a1,a2⟩:=boardA_at h hl;refine posA_ones ⟨a1,?_⟩ _ _ _ _ _ _ _ _;rw [List.all_toArray,List.all_eq_true];intro v hv;obtain ⟨z,_,rfl⟩:=List.mem_map.mp hv;rfl
theorem ReadEnd.plain {s:ByteArray} {e:Ending} (h:ReadEnd s e):∃ A ok,e=.returned (.tuple #[.agg A,.bool ok])/\A.size=72/\A.all (·.oneCell')=true/\(ok=true->∃ p,readS s=some p/\A=posV p)/\(ok=false->readS s=none):=by
 rcases h with ⟨p,h1,h2,rfl⟩|⟨h1,rfl⟩
 ·obtain ⟨B,b1,b2,_⟩:=read_back s p h1;have:=posV_ones b1 b2;exact ⟨posV p,true,rfl,this.1,this.2,fun _=>⟨p,h1,rfl⟩,fun h=>by cases h⟩
 ·exact ⟨Tryz.zeroCells70,false,rfl,zeroP,zeroP_ones,(fun h=>by cases h),fun _=>h1⟩
structure Pp (w:World) (bp:Nat) (A:Array Value) (cur:World):Prop where
 res:cur.heap[w.heap.size]?=some (.cells Tryz.zeroCells70 70)
 p:cur.heap[bp]?=some (.cells A 70)
 lt:bp<cur.heap.size
 lr:w.heap.size<cur.heap.size
 gr:Gr w cur
 tab:TabIn cur
 homes:Homes cur
theorem Pp.next {w cur cur':World} {bp:Nat} {A:Array Value} (h:Pp w bp A cur) (g:Gr cur cur'):Pp w bp A cur' :=
 ⟨by rw [Below.block g _ h.lr];exact h.res,by rw [Below.block g _ h.lt];exact h.p,Nat.lt_of_lt_of_le h.lt (Below.size g),Nat.lt_of_lt_of_le h.lr (Below.size g),Gr.trans h.gr g,h.tab.gr g,h.homes.gr g⟩
theorem parse_any (s:ByteArray) (hs:s.size<4294967281) (m:Int) (w:World) (hm:w.cell? ⟨4,0,none⟩=some (.int .i64 m)) (hz:4<w.heap.size) (hT:TabIn w) (hH:Homes w):Calls Tryz.prog 34 #[.string s] w fun e w'=>ParseEnd s e/\Gr w w':=by
 have hg1:Gr w (w.alloc (.cells Tryz.zeroCells70 70)):=(Gr.refl w).alloc _ _;have hT1:=hide (hT.gr hg1);have hH1:=hide (hH.gr hg1)
 have hr:Hid (Calls Tryz.prog 62 #[.string s] (w.alloc (.cells Tryz.zeroCells70 70)) fun e w'=>∃ A ok,e=.returned (.tuple #[.agg A,.bool ok])/\A.size=72/\A.all (·.oneCell')=true/\(ok=true->∃ p,readS s=some p/\A=posV p)/\(ok=false->readS s=none)/\Gr (w.alloc (.cells Tryz.zeroCells70 70)) w'):=hide ((read_any s hs m _ (by rw [World.cell?_alloc_past _ _ _ hz];exact hm) (by rw [World.size_alloc];omega)).mono fun e w' h=>by
  obtain ⟨A,ok,h1,h2,h3,h4,h5⟩:=h.1.plain;exact ⟨A,ok,h1,h2,h3,h4,h5,h.2⟩)
 have hb1:Hid ((w.alloc (.cells Tryz.zeroCells70 70)).heap[w.heap.size]?=some (.cells Tryz.zeroCells70 70)):=hide (heap_alloc_new _ _);have hl1:Hid (w.heap.size<(w.alloc (.cells Tryz.zeroCells70 70)).heap.size):=hide (by rw [World.size_alloc];omega);have hg1':=hide hg1;clear hg1 hT hH hm hz hs;go_enter Tryz.func34,Tryz.ntmps34
 go_upto_region 2 with (first
  | (go_at_call 62;refine (unhide hr).mono ?_;rintro e w3 ⟨A,ok,rfl,hz,ho,hy,hn,hg3⟩)
  | (refine wpList_store_row rfl 70 _ _ rfl w3.heap.size A rfl rfl 70 _ (heap_alloc_new _ _) (by rw [hz];exact infoP) (by rw [hz];exact zeroP.symm) ho ?_))
 generalize hw4:(w3.alloc (.cells Tryz.zeroCells70 70)).setRow w3.heap.size A=w4;have hg4:Gr w3 w4:=by rw [<-hw4];exact ((Gr.refl w3).alloc _ _).setRow _ (Nat.le_refl _) _
 have hg14:=Gr.trans hg3 hg4;have hp:Pp w w3.heap.size A w4:=⟨by rw [Below.block hg14 _ (unhide hl1)];exact unhide hb1,by rw [<-hw4];exact setRow_heap _ _ _ _ _ _ (heap_alloc_new w3 _),by rw [<-hw4,size_setRow,World.size_alloc];omega,Nat.lt_of_lt_of_le (unhide hl1) (Below.size hg14),Gr.trans (unhide hg1') hg14,(unhide hT1).gr hg14,(unhide hH1).gr hg14⟩;generalize w3.heap.size=bp at hp ⊢;clear hw4 hg4 hg14 hg3 hr hb1 hl1 hg1' hT1 hH1;cases ok
 ·have hend:Hid (ParseEnd s (.returned (.tuple #[.agg Tryz.zeroCells70,.int .i64 1]))):=hide (.inr (.inr ⟨hn rfl,rfl⟩));clear hn hy;go_wp2_with (refine wpList_store_row rfl 70 _ _ rfl w.heap.size Tryz.zeroCells70 rfl rfl 70 Tryz.zeroCells70 (Pp.res (bp:=bp) (A:=A) (by assumption)) (by rw [zeroP];exact infoP) rfl zeroP_ones ?_);exact bodyPost_ret (v:=.tuple #[.agg Tryz.zeroCells70,.int .i64 1]) (results_cell_tmp Tryz.results34 _ _ w.heap.size 70 _ (0,0) _ rfl (setRow_heap _ _ _ _ _ _ hp.res) Tryz.underlying70 rfl (by rw [zeroP];exact infoP)) rfl ⟨unhide hend,hp.gr.setRow _ (Nat.le_refl _) _⟩
 ·obtain ⟨p,hp1,hp2⟩:=hy rfl;have hcan:Hid (∀ W:World,TabIn W->Homes W->Calls Tryz.prog 63 #[.agg A] W fun e w'=>e=.returned (.bool (posCan p))/\Gr W w'):=hide fun W t h=>by rw [hp2];exact can_any (row_read hp1) W t h
  clear hy hn;obtain ⟨q,hq⟩:∃ q,posCan p=q:=⟨_,rfl⟩;cases q
  ·have hend:Hid (ParseEnd s (.returned (.tuple #[.agg Tryz.zeroCells70,.int .i64 2]))):=hide (.inr (.inl ⟨p,hp1,hq,rfl⟩));rw [hq] at hcan;clear hp1 hp2 hq;go_wp2_with (first|(refine wpList_store_row rfl 70 _ _ rfl w.heap.size Tryz.zeroCells70 rfl rfl 70 Tryz.zeroCells70 (Pp.res (bp:=bp) (A:=A) (by assumption)) (by rw [zeroP];exact infoP) rfl zeroP_ones ?_)|(refine wpList_load_row rfl 70 _ rfl bp rfl 70 A (0,0) _ (Pp.p (w:=w) (by assumption)) Tryz.underlying70 rfl (by rw [hz];exact infoP) ?_)|(go_at_call 63;refine (unhide hcan _ (Pp.tab (w:=w) (bp:=bp) (A:=A) (by assumption)) (Pp.homes (w:=w) (bp:=bp) (A:=A) (by assumption))).mono ?_;rintro e w5 ⟨rfl,hg5⟩;have hp5:=Pp.next (by assumption) hg5));exact bodyPost_ret (v:=.tuple #[.agg Tryz.zeroCells70,.int .i64 2]) (results_cell_tmp Tryz.results34 _ _ w.heap.size 70 _ (0,0) _ rfl (setRow_heap _ _ _ _ _ _ hp5.res) Tryz.underlying70 rfl (by rw [zeroP];exact infoP)) rfl ⟨unhide hend,hp5.gr.setRow _ (Nat.le_refl _) _⟩
  ·have hend:Hid (ParseEnd s (.returned (.tuple #[.agg A,.int .i64 0]))):=hide (.inl ⟨p,hp1,hq,by rw [hp2]⟩);rw [hq] at hcan;clear hp1 hp2 hq;go_wp2_with (first|(refine wpList_store_row rfl 70 _ _ rfl w.heap.size A rfl rfl 70 Tryz.zeroCells70 (Pp.res (bp:=bp) (A:=A) (by assumption)) (by rw [hz];exact infoP) (by rw [hz];exact zeroP.symm) ho ?_)|(refine wpList_load_row rfl 70 _ rfl bp rfl 70 A (0,0) _ (Pp.p (w:=w) (by assumption)) Tryz.underlying70 rfl (by rw [hz];exact infoP) ?_)|(go_at_call 63;refine (unhide hcan _ (Pp.tab (w:=w) (bp:=bp) (A:=A) (by assumption)) (Pp.homes (w:=w) (bp:=bp) (A:=A) (by assumption))).mono ?_;rintro e w5 ⟨rfl,hg5⟩;have hp5:=Pp.next (by assumption) hg5));exact bodyPost_ret (v:=.tuple #[.agg A,.int .i64 0]) (results_cell_tmp Tryz.results34 _ _ w.heap.size 70 _ (0,0) _ rfl (setRow_heap _ _ _ _ _ _ hp5.res) Tryz.underlying70 rfl (by rw [hz];exact infoP)) rfl ⟨unhide hend,hp5.gr.setRow _ (Nat.le_refl _) _⟩
theorem beh_in {z:Nat->UInt8} {wh:Bool} {b:Int} (h:behOk z wh b=true):b=-1\/(0<=b/\b<64):=by
 unfold behOk at h;cases wh<;>simp at h<;>omega
theorem clk_in {h g:Int} (k:clkOk h g=true):(0<=h/\h<=65535)/\(1<=g/\g<=65535):=by
 unfold clkOk at k;simp at k;omega
theorem okY_okL:∀ c:UInt8,okY c=true->okL c=true:=by
 have:∀ n:Fin 256,okY (UInt8.ofNat n.val)=true->okL (UInt8.ofNat n.val)=true:=by decide +kernel
 intro c;have:=this ⟨c.toNat,c.toNat_lt⟩;simpa using this
theorem can_gives {z:Nat->UInt8} {wh:Bool} {f:Nat->Bool} {b h g:Int} (k:canS z wh f b h g=true):(∀ i,i<64->okL (z i)=true)/\(b=-1\/(0<=b/\b<64))/\(0<=h/\h<=65535)/\(1<=g/\g<=65535):=by
 unfold canS canM at k;simp only [Bool.and_eq_true] at k;obtain ⟨k0,⟨⟨⟨⟨⟨_,_⟩,_⟩,k4⟩,k5⟩,_⟩⟩:=k;refine ⟨fun i hi=>?_,beh_in k4,(clk_in k5).1,(clk_in k5).2⟩;unfold layOk at k0;exact okY_okL _ (List.all_eq_true.1 k0 i (List.mem_range.2 hi))
theorem rowp_is {z:Nat->UInt8} {wh:Bool} {f:Nat->Bool} {b h g:Int} {PA:Array Value} (r:Row z wh f b h g PA):∃ A,A.size=64/\(∀ i,i<64->A[i]?=some (.int .u8 ((z i).toNat:Int)))/\PA=posA A wh (f 0) (f 1) (f 2) (f 3) b h g:=by
 have hs:(PA.extract 0 64).size=64:=by rw [Array.size_extract,r.size];rfl
 have ha:∀ i,i<64->(PA.extract 0 64)[i]?=some (.int .u8 ((z i).toNat:Int)):=fun i hi=>by
  rw [Array.getElem?_extract,if_pos (by rw [r.size];omega),Nat.zero_add];exact r.sq i hi
 refine ⟨PA.extract 0 64,hs,ha,?_⟩;have r2:=row_posA z _ hs ha wh f b h g;apply Array.ext_getElem?;intro i;by_cases h0:i<64
 ·rw [r.sq i h0,r2.sq i h0]
 ·by_cases h1:i<72
  ·have:i=64\/i=65+0\/i=65+1\/i=65+2\/i=65+3\/i=69\/i=70\/i=71:=by omega
   rcases this with rfl|rfl|rfl|rfl|rfl|rfl|rfl|rfl
   ·rw [r.wh,r2.wh]
   ·rw [r.c 0 (by omega),r2.c 0 (by omega)]
   ·rw [r.c 1 (by omega),r2.c 1 (by omega)]
   ·rw [r.c 2 (by omega),r2.c 2 (by omega)]
   ·rw [r.c 3 (by omega),r2.c 3 (by omega)]
   ·rw [r.b,r2.b]
   ·rw [r.h,r2.h]
   ·rw [r.g,r2.g]
  ·rw [Array.getElem?_eq_none (by rw [r.size];omega),Array.getElem?_eq_none (by rw [r2.size];omega)]
end Go.Proofs.YtnfakamfmkhlbabGreatDoor.C
namespace Go.Proofs.YtnfakamfmkhlbabGreatDoor.C
open Go.ChangeShapes Go.WideShapes Go.ChangeAt Go.RowKit
open Go.Proofs.YtnfakamfmkhlbabGreatDoor.P
theorem plain5:Tryz.prog.plainKey 5=true:=by kernel_rfl
theorem plain4:Tryz.prog.plainKey 4=true:=by kernel_rfl
theorem plain3:Tryz.prog.plainKey 3=true:=by kernel_rfl
theorem info5:∃ i,Tryz.prog.info? 5=some i:=Option.isSome_iff_exists.1 (show (Tryz.prog.info? 5).isSome=true by kernel_rfl)
theorem info4b:∃ i,Tryz.prog.info? 4=some i:=Option.isSome_iff_exists.1 (show (Tryz.prog.info? 4).isSome=true by kernel_rfl)
theorem cells5:Tryz.prog.cellsOf 5=1:=by kernel_rfl
theorem cells4:Tryz.prog.cellsOf 4=1:=by kernel_rfl
theorem under25:Tryz.prog.underlying 70=some (.struct (Tryz.prog.fieldsOf 70)):=by kernel_rfl
theorem stood25:Tryz.prog.stoodInHeld 70=false:=by kernel_rfl
theorem fields25 : (Tryz.prog.fieldsOf 70).toList.map (fun f => (f.name != "_", f.type, f.offset)) = [(true, 67, 0), (true, 4, 64), (true, 68, 65), (true, 3, 69), (true, 3, 70), (true, 3, 71)] := by kernel_rfl
theorem part64 (xs:Array Value) (w:World):(part 67 xs 0).run Tryz.prog w=.ok (.agg (xs.extract 0 64)) w:=by
 simp [part,isAgg,run_underlying Tryz.underlying67,sizeOf,typeInfo]
 kernel_rfl
theorem part4 (xs:Array Value) (w:World):(part 68 xs 65).run Tryz.prog w=.ok (.agg (xs.extract 65 69)) w:=by
 simp [part,isAgg,run_underlying Tryz.underlying68,sizeOf,typeInfo]
 kernel_rfl
theorem rowAt_of {b:Nat} {A:Array Value} {t:TypeId} {w:World} (h:w.heap[b]?=some (.cells A t)):RowAt b A w :=
 ⟨(Array.getElem?_eq_some_iff.1 h).1,fun j v hv=>by rw [cell_of_row _ _ _ _ _ _ h,Nat.zero_add,<-Array.getElem?_toList];exact hv⟩
theorem castOk_congr (z:Nat->UInt8) {f f':Nat->Bool} (h:∀ i,i<4->f i=f' i):castOk z f=castOk z f':=by
 have e:∀ f:Nat->Bool,castOk z f=(castN z f 0&&(castN z f 1&&(castN z f 2&&castN z f 3))):=fun f=>by
  show ([0,1,2,3]:List Nat).all (castN z f)=_;simp [List.all_cons]
 rw [e,e];simp only [castN,castAt,h 0 (by omega),h 1 (by omega),h 2 (by omega),h 3 (by omega)]
theorem canS_congr (z:Nat->UInt8) (wh:Bool) {f f':Nat->Bool} (b h g:Int) (k:∀ i,i<4->f i=f' i):canS z wh f b h g=canS z wh f' b h g:=by
 unfold canS canM;rw [castOk_congr z k]
theorem row_ones {z:Nat->UInt8} {wh:Bool} {f:Nat->Bool} {b h g:Int} {PA:Array Value} (r:Row z wh f b h g PA):PA.all (·.oneCell')=true:=by
 obtain ⟨A,a1,a2,rfl⟩:=rowp_is r;refine (posA_ones ⟨a1,?_⟩ wh (f 0) (f 1) (f 2) (f 3) b h g).2;rw [Array.all_eq_true];intro i hi;have:=a2 i (by omega);rw [Array.getElem?_eq_getElem hi] at this;simp only [Option.some.injEq] at this;rw [this];rfl
def firstB:ByteArray:=⟨#[114,110,98,113,107,98,110,114,47,112,112,112,112,112,112,112,112,47,56,47,56,47,56,47,56,47,80,80,80,80,80,80,80,80,47,82,78,66,81,75,66,78,82,32,119,32,75,81,107,113,32,45,32,48,32,49]⟩
end Go.Proofs.YtnfakamfmkhlbabGreatDoor.C
namespace Go.Proofs.YtnfakamfmkhlbabGreatDoor.C
open Go.ChangeShapes Go.WideShapes Go.ChangeAt Go.RowKit
theorem ib_at:∀ {l:List UInt8} {c:UInt8} {k:Nat},(∀ j,j<k->l[j]?≠some c)->l[k]?=some c->Lib.indexByte l c=(k:Int)
 | [],_,_,_,h=>by simp at h
 | b :: l,c,0,_,h=>by
   have:b=c:=by simpa using h
   unfold Lib.indexByte;simp [this]
 | b :: l,c,k+1,hn,h=>by
   have hb:(b==c)=false:=by
    have:=hn 0 (by omega);simpa using this
   have ih:=ib_at (l:=l) (c:=c) (k:=k) (fun j hj=>by have:=hn (j+1) (by omega);simpa using this) (by simpa using h);unfold Lib.indexByte;rw [hb,ih];have:((k:Int)==-1)=false:=by simp
   simp [this]
theorem ib_no:∀ {l:List UInt8} {c:UInt8},(∀ j,j<l.length->l[j]?≠some c)->Lib.indexByte l c=-1
 | [],_,_=>rfl
 | b :: l,c,hn=>by
   have hb:(b==c)=false:=by
    have:=hn 0 (by simp);simpa using this
   have ih:=ib_no (l:=l) (c:=c) (fun j hj=>by have:=hn (j+1) (by simp;omega);simpa using this);unfold Lib.indexByte;rw [hb,ih];rfl
end Go.Proofs.YtnfakamfmkhlbabGreatDoor.C
namespace Go.Proofs.YtnfakamfmkhlbabGreatDoor.C
open Go.ChangeShapes Go.WideShapes Go.ChangeAt Go.RowKit
open Go.Proofs.YtnfakamfmkhlbabGreatDoor.P
def manL (k:Nat) (b:Bool):UInt8:=lettersL.getD (if b then k else k+6) 0
def homeK (i:Nat):Int:=if 2<=i then 60 else 4
def homeT (i:Nat):Int:=(if 2<=i then 56 else 0)+(if i%2=0 then 6 else 2)
def homeR (i:Nat):Int:=(if 2<=i then 56 else 0)+(if i%2=0 then 7 else 0)
end Go.Proofs.YtnfakamfmkhlbabGreatDoor.C
namespace Go.Proofs.YtnfakamfmkhlbabGreatDoor.C
open Go.ChangeShapes Go.WideShapes Go.ChangeAt Go.RowKit
open Go.Proofs.YtnfakamfmkhlbabGreatDoor.P
attribute [local go_sem] setCell_drewN alloc_drewN
theorem find_at {p:Nat->Bool} {k:Nat} (h:∀ j,j<k->p j=false) (hk:p k=true) (h64:k<64):(List.range 64).find? p=some k:=by
 rw [List.find?_eq_some_iff_getElem];refine ⟨hk,k,by simpa using h64,by simp,fun j hj=>by simp [h j hj]⟩
theorem find_no {p:Nat->Bool} (h:∀ j,j<64->p j=false):(List.range 64).find? p=none:=by
 rw [List.find?_eq_none];intro j hj;rw [h j (List.mem_range.1 hj)];decide
theorem kingR_at {z:Nat->UInt8} {b:Bool} {k:Nat} (h:∀ j,j<k->(z j==kingL b)=false) (hk:(z k==kingL b)=true) (h64:k<64):kingR z b=(k:Int):=by
 unfold kingR;rw [find_at h hk h64]
theorem kingR_no {z:Nat->UInt8} {b:Bool} (h:∀ j,j<64->(z j==kingL b)=false):kingR z b=-1:=by
 unfold kingR;rw [find_no h]
end Go.Proofs.YtnfakamfmkhlbabGreatDoor.C
