import Derived.Test.YtnfakamfmkhlbaaGreatDoorZe21
set_option maxRecDepth 100000
set_option maxHeartbeats 4000000
set_option linter.unusedSimpArgs false
namespace Go.Proofs.YtnfakamfmkhlbaaGreatDoor.C
open Go.ChangeShapes Go.WideShapes Go.ChangeAt Go.RowKit Go.Shelf
open Go.Proofs.YtnfakamfmkhlbaaGreatDoor.P
attribute [local go_sem] qd qi Oper.semAt_some
def hitB (z:Nat->UInt8) (bw:Bool) (s:Stp) (far:Bool) (y:Nat):Bool:=manB (z y) bw&&goesB (z y) (-s.1,-s.2)&&(!far||farB (z y))
def hitL (z:Nat->UInt8) (bw:Bool) (s:Stp):Bool->List Nat->Bool
 | _,[]=>false
 | far,y :: r=>hitB z bw s far y||hitL z bw s true r
theorem hit_snoc (z:Nat->UInt8) (bw:Bool) (s:Stp) (y:Nat):∀ (far:Bool) (pre:List Nat),hitL z bw s far (pre++[y])=(hitL z bw s far pre||hitB z bw s (far||!pre.isEmpty) y)
 | far,[]=>by simp [hitL]
 | far,x :: r=>by
   have:=hit_snoc z bw s y true r;simp only [List.cons_append,hitL,this,Bool.true_or,List.isEmpty_cons,Bool.not_false,Bool.or_true,Bool.or_assoc]
theorem hit_pre (z:Nat->UInt8) (bw:Bool) (s:Stp):∀ (pre xs:List Nat) (far:Bool),pre <+: xs->hitL z bw s far pre=true->hitL z bw s far xs=true
 | [],_,_,_,h=>by simp [hitL] at h
 | x :: r,[],_,h,_=>by simp at h
 | x :: r,y :: q,far,h,hh=>by
   obtain ⟨rfl,h2⟩:=List.cons_prefix_cons.1 h;simp only [hitL,Bool.or_eq_true] at hh ⊢;rcases hh with hh|hh
   ·exact .inl hh
   ·exact .inr (hit_pre z bw s r q true h2 hh)
def attLB (z:Nat->UInt8) (x:Nat) (bw:Bool):Bool:=(List.range 16).any fun k=>hitL z bw (stN k) false (wkL z (stN k) x)
theorem wkN_lt {z:Nat->UInt8} {s:Stp}:∀ (n x:Nat),x<64->∀ y∈wkN z s n x,y<64
 | 0,_,_,y,h=>by simp [wkN] at h
 | n+1,x,hx,y,h=>by
   unfold wkN at h;split at h
   ·rename_i hon;have h2:=(nx_is hon).2;rcases List.mem_cons.1 h with rfl|h
    ·exact h2
    ·split at h
     ·exact wkN_lt n _ h2 y h
     ·cases h
   ·cases h
theorem wk_lt {z:Nat->UInt8} {s:Stp} {x y:Nat} (hx:x<64) (h:y∈wkL z s x):y<64:=wkN_lt 8 x hx y h
theorem qjw {n:Nat} {fn:Func} {tmps:Array Value} {R:Ending->World->Prop} {B:Nat}:∀ (Ds:List Nat) (w:World),Marks B Ds w →
  (∀ w',Fr (fun k o=>k<B\/o.isCells=true) w w'->∃ v,(results fn tmps).run Tryz.prog w'=.ok v w'/\R (.returned v) w')->LeavesInM Fence.wide n Tryz.prog fn tmps R (Ds.map markD) .returning w:=by
 intro Ds;induction Ds with
 | nil =>
  intro w _ hR;obtain ⟨v,h1,h2⟩:=hR w (Fr.refl _ _);exact ⟨_,h1,h2⟩
 | cons D Ds ih =>
  intro w hM hR;obtain ⟨hB,hD⟩:=hM.2 D (by simp)
  have f:Fr (fun k o=>k<B\/o.isCells=true) w (w.putObj D (.deferred none)):=(Fr.refl _ _).putObj _ (fun o e q=>by
   rw [hD] at e;cases e;rcases q with q|q
   ·omega
   ·cases q)
  refine ⟨by simp,.inl ⟨D,_,rfl,run_takeDeferred hD,ih _ ⟨(List.nodup_cons.1 hM.1).2,fun D' hD'=>⟨(hM.2 D' (List.mem_cons_of_mem _ hD')).1,?_⟩⟩ (fun w' f'=>hR w' (f.trans f'))⟩⟩;have hne:D'≠D:=fun e=>(List.nodup_cons.1 hM.1).1 (e▸hD')
  exact (World.putObj_heap_other hne).trans (hM.2 D' (List.mem_cons_of_mem _ hD')).2
theorem res_att (tmps:Array Value) (w:World) (b:Nat) (v:Value) (hp:tmps.getD 6 undef=.pointer (some ⟨b,0,none⟩)) (hc:w.cell? ⟨b,0,none⟩=some v):(results Tryz.f97 tmps).run Tryz.prog w=.ok v w:=by
 have hp':tmps[6]?.getD undef=.pointer (some ⟨b,0,none⟩):=by simpa using hp
 simp [results,Tryz.results97,hp',asAddr,go_sem,hc]
structure AtS (bw:Bool) (A:Array Value) (w:World) (Ds:List Nat) (W:World):Prop where
 sq:W.heap[w.heap.size]?=some (.cells A 22)
 bb:W.heap[w.heap.size+1]?=some (.cells #[.bool bw] 4)
 rs:W.heap[w.heap.size+2]?=some (.cells #[.bool false] 4)
 ms:Marks w.heap.size Ds W
 gr:Gr w W
theorem AtS.fr {bw:Bool} {A:Array Value} {w:World} {Ds:List Nat} {W W':World} {Q:Nat->Obj->Prop} (h:AtS bw A w Ds W) (f:Fr Q W W') (hq:∀ k o,(k<=w.heap.size+2\/k∈Ds)->Q k o):AtS bw A w Ds W' :=
 ⟨f.same _ _ h.sq (hq _ _ (.inl (by omega))),f.same _ _ h.bb (hq _ _ (.inl (by omega))),f.same _ _ h.rs (hq _ _ (.inl (by omega))),h.ms.fr f (fun k o _ _ _ hk=>hq k o (.inr hk)),Below.trans h.gr (f.below (n:=w.heap.size) (Below.size h.gr) (fun k o hk=>hq k o (.inl (by omega))))⟩
theorem qx6 {z:Nat->UInt8} {A:Array Value} {B:Nat} {W:World} {t:TypeId} (hA:∀ i,i<64->A[i]?=some (.int .u8 ((z i).toNat:Int))) (h:W.heap[B]?=some (.cells A t)):Bz z B W:=fun i hi=>by
 rw [cell_of_row _ _ _ _ _ _ h];exact hA i hi
def AtI (z:Nat->UInt8) (x:Nat) (bw:Bool) (A:Array Value) (w:World) (gk:Nat) (a:Act) (wr:World):Prop :=
 ∃ (k:Nat) (Ds:List Nat) (u4 u7 u8 u9 u10 u11 u14 u15 u16 u17 u18 u19 u20 u21 u22 u23 u24 u25 u26 u27 u28 u29 u30 u31 u32 u33 u34 u35 u36 u37 u38 u39 u40:Value),k+gk=16/\a={ tmps:=#[.agg A,.int .i64 (x:Int),.bool bw,.pointer (some ⟨w.heap.size,0,none⟩),u4,.pointer (some ⟨w.heap.size+1,0,none⟩),.pointer (some ⟨w.heap.size+2,0,none⟩),u7,u8,u9,u10,u11,.agg stepsV.toArray,.int .i64 (k:Int),u14,u15,u16,u17,u18,u19,u20,u21,u22,u23,u24,u25,u26,u27,u28,u29,u30,u31,u32,u33,u34,u35,u36,u37,u38,u39,u40],defers:=Ds.map markD }/\AtS bw A w Ds wr/\∀ j,j<k->hitL z bw (stN j) false (wkL z (stN j) x)=false
theorem attL_any (z:Nat->UInt8) (A:Array Value) (_hsz:A.size=64) (hA:∀ i,i<64->A[i]?=some (.int .u8 ((z i).toNat:Int))) (x:Nat) (hx:x<64) (bw:Bool) (w:World) (hS:StTab w) :
  Calls Tryz.prog 97 #[.agg A,.int .i64 (x:Int),.bool bw] w fun e w'=>e=.returned (.bool (attLB z x bw))/\Gr w w':=by
 refine (callsIn_wide (n:=9)).1 ?_;refine callsIn_of_wp_marks Tryz.func97 rfl trivial ?_ rfl;simp only [Tryz.ntmps97,List.size_toArray,List.length_cons,List.length_nil,Nat.reduceAdd,Nat.reduceSub,Array.replicate_succ,Array.replicate_zero,List.push_toArray,List.append_toArray,List.nil_append,List.cons_append];refine wpIn_wide.2 ?_;obtain ⟨x1,x2,x3,x4⟩:=heapThree w (.cells A 22) (.cells #[.bool bw] 4) (.cells #[.bool false] 4);have hg3:Gr w (((w.alloc (.cells A 22)).alloc (.cells #[.bool bw] 4)).alloc (.cells #[.bool false] 4)):=(((Gr.refl w).alloc _ _).alloc _ _).alloc _ _;have hS3:=hS.gr hg3;go_wp2_with (refine wpList_load_mid rfl 241 _ rfl 1 0 rfl stepsV _ hS3.1 Tryz.underlying241 rfl infoS32 ?_);have hat:AtS bw A w [] (((w.alloc (.cells A 22)).alloc (.cells #[.bool bw] 4)).alloc (.cells #[.bool false] 4)):=⟨x1,x2,x3,⟨List.nodup_nil,fun D hD=>absurd hD List.not_mem_nil⟩,hg3⟩;generalize (((w.alloc (.cells A 22)).alloc (.cells #[.bool bw] 4)).alloc (.cells #[.bool false] 4))=w3 at hat ⊢;clear x1 x2 x3 x4 hg3 hS3 hS;refine wpIn_wide.1 (wpIn_loop_ghost (rm:=9) (AtI z x bw A w) 16 ?start ?round)
 case start=>exact ⟨0,[],undef,undef,undef,undef,undef,undef,undef,undef,undef,undef,undef,undef,undef,undef,undef,undef,undef,undef,undef,undef,undef,undef,undef,undef,undef,undef,undef,undef,undef,undef,undef,undef,undef,rfl,rfl,hat,fun j hj=>absurd hj (Nat.not_lt_zero j)⟩
 case round =>
  clear hat;rintro gk a wr ⟨k,Ds,u4,u7,u8,u9,u10,u11,u14,u15,u16,u17,u18,u19,u20,u21,u22,u23,u24,u25,u26,u27,u28,u29,u30,u31,u32,u33,u34,u35,u36,u37,u38,u39,u40,hk,rfl,hM,hno⟩;have hM':=hide hM;have hno':=hide hno;clear hM hno;by_cases hlt:k<16
  ·have hix:=ixst k hlt;obtain ⟨hsm,hnz⟩:=stN_small k
   have hno2:Hid (hitL z bw (stN k) false (wkL z (stN k) x)=false->∀ j,j<k+1->hitL z bw (stN j) false (wkL z (stN j) x)=false):=hide (fun h j hj=>by
    by_cases e:j=k
    ·subst e;exact h
    ·exact qa hno' j (by omega))
   have hyes:Hid (hitL z bw (stN k) false (wkL z (stN k) x)=true->attLB z x bw=true):=hide (fun h=>List.any_eq_true.2 ⟨k,List.mem_range.2 hlt,h⟩);clear hno';generalize stN k=st at hix hsm hnz hno2 hyes;obtain ⟨a,b⟩:=st;simp only at hix hnz;have hk0:(0:Int)<=(k:Int):=by omega
   have hk16:(k:Int)<16:=by omega
   have hmk:=hide (fun W=>walk_mk w.heap.size x a b W);obtain ⟨y1,y2⟩:=heapTwo wr (.cells #[.int .i64 a,.int .i64 b] 240) (.cells #[.bool false] 4);have hgA:Gr wr ((wr.alloc (.cells #[.int .i64 a,.int .i64 b] 240)).alloc (.cells #[.bool false] 4)):=((Gr.refl wr).alloc _ _).alloc _ _;have hsA:((wr.alloc (.cells #[.int .i64 a,.int .i64 b] 240)).alloc (.cells #[.bool false] 4)).heap.size=wr.heap.size+2:=by simp
   obtain ⟨y1a,y1b⟩:=xc y1;refine wpIn_wide.2 ?_;go_wp2_with (go_at_call 158;refine (qa hmk _).mono ?_;rintro e w6 ⟨rfl,hwk,hg6,hs6⟩);rw [hsA] at hwk hs6;have k0:=(Below.block hg6 wr.heap.size (by omega)).trans y1;have k1:=(Below.block hg6 (wr.heap.size+1) (by omega)).trans y2;have hM6:AtS bw A w Ds w6:=(qa hM').fr (Q:=fun _ _=>True) (Fr.of_gr (Gr.trans hgA hg6)) (fun _ _ _=>trivial);have hw3:w.heap.size+3<=wr.heap.size:=by have:=(Array.getElem?_eq_some_iff.1 (qa hM').rs).1;omega
   have hDs:∀ D∈Ds,D<w6.heap.size:=fun D hD=>(Array.getElem?_eq_some_iff.1 (hM6.ms.2 D hD).2).1
   clear hgA hsA y1 y2 y1a y1b hg6 hix hM' hmk;generalize wr.heap.size=Bs at hw3 hwk hs6 k0 k1 ⊢;have hwk6:=hwk.wk (qx6 hA hM6.sq)
   have mst:∀ {V V':World},AtS bw A w Ds V->Fr (Own1 w6.heap.size (fun _=>False)) V V'->AtS bw A w Ds V':=fun h f=>h.fr f (fun j o hj=>.inl (by
    rcases hj with hj|hj
    ·omega
    ·exact hDs _ hj))
   refine wpIn_wide.1 (xf (n:=9) (gf:=232) (lb:=wkA (Bs+2)) rfl (enters_of Tryz.func232 (by kernel_rfl) rfl)
    (walk_it z x hx a b hsm hnz (Bs+2+1) (Bs+2+2) (Bs+2) w.heap.size (fun _=>False) w6 hwk6) (fun _ h=>h.elim) (by rintro j (rfl|rfl|rfl|rfl)<;>omega) (Fr.refl _ _) (fun _=>rfl)
    (fun pre V=>AtS bw A w Ds V/\V.heap[Bs]?=some (.cells #[.int .i64 a,.int .i64 b] 240)/\V.heap[Bs+1]?=some (.cells #[.bool (!pre.isEmpty)] 4)/\hitL z bw (a,b) false pre=false/\w6.heap.size<=V.heap.size)
    (fun c pre V=>c=.ret/\hitL z bw (a,b) false pre=true/\V.heap[w.heap.size+2]?=some (.cells #[.bool true] 4)/\Marks w.heap.size Ds V/\Gr w V/\w6.heap.size<=V.heap.size)
    ?sI ?sX ⟨hM6,k0,k1,rfl,Nat.le_refl _⟩ ?rnd ?done ?stop)
   case sI=>exact fun s V V' h f=>⟨mst h.1 f,f.same _ _ h.2.1 (.inl (by omega)),f.same _ _ h.2.2.1 (.inl (by omega)),h.2.2.2.1,Nat.le_trans h.2.2.2.2 f.size⟩
   case sX=>exact fun c s V V' h f=>⟨h.1,h.2.1,f.same _ _ h.2.2.1 (.inl (by omega)),h.2.2.2.1.fr f (fun j o _ _ _ hj=>.inl (hDs _ hj)),Below.trans h.2.2.2.2.1 (f.below (n:=w.heap.size) (Below.size h.2.2.2.2.1) (fun j o hj=>.inl (by omega))),Nat.le_trans h.2.2.2.2.2 f.size⟩
   case done =>
    rintro D V hD ⟨hMV,_,_,hhit,_⟩ hK;go_wp2_with fail
    have hms:Marks w.heap.size (D :: Ds) V:=⟨List.nodup_cons.2 ⟨fun h=>by have:=hDs D h;omega,hMV.ms.1⟩,fun D' hD'=>by
      rcases List.mem_cons.1 hD' with rfl|hD'
      ·exact ⟨by omega,hK⟩
      ·exact hMV.ms.2 D' hD'⟩
    exact ⟨gk-1,by omega,k+1,D :: Ds,_,_,_,_,_,_,_,_,_,_,_,_,_,_,_,_,_,_,_,_,_,_,_,_,_,_,_,_,_,_,_,_,_,by omega,rfl,⟨hMV.sq,hMV.bb,hMV.rs,hms,hMV.gr⟩,qa hno2 hhit⟩
   case stop =>
    rintro D c pre V hD hpre ⟨rfl,hhit,hrs,hms,hgr,_⟩ hK;have hv:Hid (attLB z x bw=true):=hide (qa hyes (hit_pre z bw (a,b) pre _ false hpre hhit))
    have hms2:Marks w.heap.size (D :: Ds) V:=⟨List.nodup_cons.2 ⟨fun h=>by have:=hDs D h;omega,hms.1⟩,fun D' hD'=>by
      rcases List.mem_cons.1 hD' with rfl|hD'
      ·exact ⟨by omega,hK⟩
      ·exact hms.2 D' hD'⟩
    refine wpIn_wide.2 ?_;go_wp2_with fail;refine qjw (D :: Ds) V hms2 (fun w' f=>⟨.bool true,res_att _ _ (w.heap.size+2) _ rfl (qe (f.same _ _ hrs (.inr rfl))).1,by rw [qa hv],Below.trans hgr (f.below (n:=w.heap.size) (Below.size hgr) (fun j o hj=>.inl hj))⟩)
   case rnd =>
    intro l1 pre y V hbl hxy hI hl;simp only [encI];gi_wp2;refine ⟨Fr.refl _ _,?_⟩;intro V2 f2 hI2 hl2;obtain ⟨hM2,s2,far2,hh2,sz2⟩:=hI2;have hy64:y<64:=wk_lt hx (qqf hxy);have hy0:(0:Int)<=(y:Int):=by omega
    have hy1:(y:Int)<64:=by omega
    have cy:=qx6 hA hM2.sq y hy64;have cb:=(qe hM2.bb).1;obtain ⟨cs0,cs1⟩:=xc s2;have hsn:=hit_snoc z bw (a,b) y false pre;rw [hh2] at hsn;have hman:=hide (fun W=>qxa (z y) bw W);have hback:=hide (fun W=>stepBack_any a b hsm W)
    have hsb:small (-a,-b):=by
     obtain ⟨h1,h2,h3,h4⟩:=hsm;simp only at h1 h2 h3 h4;exact ⟨by simp only;omega,by simp only;omega,by simp only;omega,by simp only;omega⟩
    have hgoes:=hide (fun W=>goes_any (z y) (-a) (-b) hsb W);have hfar:=hide (fun W=>qj0 (z y) W);have hM2':=hide hM2;have far2':=hide far2;have s2':=hide s2;obtain ⟨f,hf⟩:∃ f,Hid ((!pre.isEmpty)=f):=⟨_,hide rfl⟩;have hne:Hid ((!(pre++[y]).isEmpty)=true):=hide (by cases pre<;>rfl)
    rw [qa hf] at far2 hsn;have cf:=(qe far2).1;obtain ⟨m1,h1⟩:∃ m,manB (z y) bw=m:=⟨_,rfl⟩;obtain ⟨g1,h2⟩:∃ m,goesB (z y) (-a,-b)=m:=⟨_,rfl⟩;obtain ⟨r1,h3⟩:∃ m,farB (z y)=m:=⟨_,rfl⟩;have hsn2:Hid (hitL z bw (a,b) false (pre++[y])=(m1&&g1&&(!f||r1))):=hide (by rw [hsn];simp only [hitB,h1,h2,h3,Bool.false_or]);rw [h1] at hman;rw [h2] at hgoes;rw [h3] at hfar
    have keep:Hid (∀ W',Gr V2 W'->W'.cell? ⟨Bs+1,0,none⟩=some (.bool f)/\W'.frozen? ⟨Bs+1,0,none⟩=false/\W'.cell? ⟨w.heap.size+2,0,none⟩=some (.bool false)/\W'.frozen? ⟨w.heap.size+2,0,none⟩=false):=hide (fun W' hg=>by
     have e1:=qe ((Below.block hg _ (Array.getElem?_eq_some_iff.1 far2).1).trans far2);have e2:=qe ((Below.block hg _ (Array.getElem?_eq_some_iff.1 (qa hM2').rs).1).trans (qa hM2').rs);exact ⟨e1.1,e1.2,e2.1,e2.2⟩)
    have fin0:Hid (∀ W',Gr V2 W'->hitL z bw (a,b) false (pre++[y])=false->Fr (Rnd1 w6.heap.size (fun _=>False) (fun k=>k=Bs+2+1\/k=Bs+2+2\/k=Bs+2\/k=w.heap.size)) V2 (W'.setCell ⟨Bs+1,0,none⟩ (.bool true))/\AtS bw A w Ds (W'.setCell ⟨Bs+1,0,none⟩ (.bool true))/\(W'.setCell ⟨Bs+1,0,none⟩ (.bool true)).heap[Bs]?=some (.cells #[.int .i64 a,.int .i64 b] 240)/\(W'.setCell ⟨Bs+1,0,none⟩ (.bool true)).heap[Bs+1]?=some (.cells #[.bool (!(pre++[y]).isEmpty)] 4)/\hitL z bw (a,b) false (pre++[y])=false/\w6.heap.size<=(W'.setCell ⟨Bs+1,0,none⟩ (.bool true)).heap.size):=hide (fun W' hg h=>by
     have e1:=(Below.block hg _ (Array.getElem?_eq_some_iff.1 far2).1).trans far2;have fs:Fr (fun k o=>k≠Bs+1) V2 (W'.setCell ⟨Bs+1,0,none⟩ (.bool true)):=(Fr.of_gr hg).setCell _ (fun o _ q=>q rfl);refine ⟨(Fr.of_gr hg).setCell _ ?_,(qa hM2').fr fs (fun j o hj=>?_),fs.same _ _ (qa s2') (by omega),?_,h,?_⟩
     ·rintro o-(q|q)
      ·simp only at q;omega
      ·have:=q.1;simp only at this;omega
     ·rcases hj with hj|hj
      ·omega
      ·intro e;subst e;have q1:=((qa hM2').ms.2 _ hj).2;rw [far2] at q1;cases q1
     ·rw [qa hne];exact jl e1
     ·have:=fs.size;omega)
    have fin1:Hid (∀ W',Gr V2 W'->hitL z bw (a,b) false (pre++[y])=true->Fr (Rnd1 w6.heap.size (fun _=>False) (fun k=>k=Bs+2+1\/k=Bs+2+2\/k=Bs+2\/k=w.heap.size)) V2 (W'.setCell ⟨w.heap.size+2,0,none⟩ (.bool true))/\hitL z bw (a,b) false (pre++[y])=true/\(W'.setCell ⟨w.heap.size+2,0,none⟩ (.bool true)).heap[w.heap.size+2]?=some (.cells #[.bool true] 4)/\Marks w.heap.size Ds (W'.setCell ⟨w.heap.size+2,0,none⟩ (.bool true))/\Gr w (W'.setCell ⟨w.heap.size+2,0,none⟩ (.bool true))/\w6.heap.size<=(W'.setCell ⟨w.heap.size+2,0,none⟩ (.bool true)).heap.size):=hide (fun W' hg h=>by
     have e1:=(Below.block hg _ (Array.getElem?_eq_some_iff.1 (qa hM2').rs).1).trans (qa hM2').rs;have fs:Fr (fun k o=>k≠w.heap.size+2) V2 (W'.setCell ⟨w.heap.size+2,0,none⟩ (.bool true)):=(Fr.of_gr hg).setCell _ (fun o _ q=>q rfl);refine ⟨(Fr.of_gr hg).setCell _ ?_,h,jl e1,(qa hM2').ms.fr fs (fun j o _ _ hj0 hj e=>?_),Below.setCell (Gr.trans (qa hM2').gr hg) (show w.heap.size<=w.heap.size+2 by omega) _,?_⟩
     ·rintro o-(q|q)
      ·simp only at q;omega
      ·have:=q.1;simp only at this;omega
     ·subst e;have q1:=((qa hM2').ms.2 _ hj).2;rw [(qa hM2').rs] at q1;cases q1
     ·have:=fs.size;omega)
    clear hM2 far2 s2 hh2 hsn;cases m1
    ·gi_wp2_with (first
      | (refine ⟨trivial,?_⟩;gi_at_call 159;refine ((callsIn_wide.2 (qa hman _)).inRound l1).mono ?_;rintro e wc ⟨rfl,rfl⟩;obtain ⟨p1,p2,p3,p4⟩:=qa keep _ (Gr.refl _))
      | (with_reducible refine And.intro (zk _) ?_))
     all_goals first
      | exact qa fin0 _ (Gr.refl _) (by rw [qa hsn2];rfl)
      | (exfalso;rename_i xx bb h1 h2;exact absurd h1 (by simp [undef]))
      | (exfalso;rename_i xx bb h1;exact absurd h1 (by simp [undef]))
    ·cases g1
     ·gi_wp2_with (first
       | (refine ⟨trivial,?_⟩;gi_at_call 159;refine ((callsIn_wide.2 (qa hman _)).inRound l1).mono ?_;rintro e wc ⟨rfl,rfl⟩;obtain ⟨p1,p2,p3,p4⟩:=qa keep _ (Gr.refl _))
       | (refine ⟨trivial,?_⟩;gi_at_call 161;refine ((callsIn_wide.2 (qa hback _)).inRound l1).mono ?_;rintro e wd ⟨rfl,hgd⟩)
       | (refine ⟨trivial,?_⟩;gi_at_call 160;refine ((callsIn_wide.2 (qa hgoes _)).inRound l1).mono ?_;rintro e we ⟨rfl,hge⟩;obtain ⟨q1,q2,q3,q4⟩:=qa keep _ (Gr.trans hgd hge))
       | (with_reducible refine And.intro (zk _) ?_))
      all_goals first
       | exact qa fin0 _ (Gr.trans hgd hge) (by rw [qa hsn2];rfl)
       | (exfalso;rename_i xx bb h1 h2;exact absurd h1 (by simp [undef]))
       | (exfalso;rename_i xx bb h1;exact absurd h1 (by simp [undef]))
     ·cases f
      ·gi_wp2_with (first
        | (refine ⟨trivial,?_⟩;gi_at_call 159;refine ((callsIn_wide.2 (qa hman _)).inRound l1).mono ?_;rintro e wc ⟨rfl,rfl⟩;obtain ⟨p1,p2,p3,p4⟩:=qa keep _ (Gr.refl _))
        | (refine ⟨trivial,?_⟩;gi_at_call 161;refine ((callsIn_wide.2 (qa hback _)).inRound l1).mono ?_;rintro e wd ⟨rfl,hgd⟩)
        | (refine ⟨trivial,?_⟩;gi_at_call 160;refine ((callsIn_wide.2 (qa hgoes _)).inRound l1).mono ?_;rintro e we ⟨rfl,hge⟩;obtain ⟨q1,q2,q3,q4⟩:=qa keep _ (Gr.trans hgd hge))
        | (with_reducible refine And.intro (zk _) ?_))
       all_goals first
        | exact (fun t=>⟨t.1,rfl,t.2⟩) (qa fin1 _ (Gr.trans hgd hge) (by rw [qa hsn2];rfl))
        | (exfalso;rename_i xx bb h1 h2;exact absurd h1 (by simp [undef]))
        | (exfalso;rename_i xx bb h1;exact absurd h1 (by simp [undef]))
      ·cases r1
       ·gi_wp2_with (first
         | (refine ⟨trivial,?_⟩;gi_at_call 159;refine ((callsIn_wide.2 (qa hman _)).inRound l1).mono ?_;rintro e wc ⟨rfl,rfl⟩;obtain ⟨p1,p2,p3,p4⟩:=qa keep _ (Gr.refl _))
         | (refine ⟨trivial,?_⟩;gi_at_call 161;refine ((callsIn_wide.2 (qa hback _)).inRound l1).mono ?_;rintro e wd ⟨rfl,hgd⟩)
         | (refine ⟨trivial,?_⟩;gi_at_call 160;refine ((callsIn_wide.2 (qa hgoes _)).inRound l1).mono ?_;rintro e we ⟨rfl,hge⟩;obtain ⟨q1,q2,q3,q4⟩:=qa keep _ (Gr.trans hgd hge))
         | (refine ⟨trivial,?_⟩;gi_at_call 162;refine ((callsIn_wide.2 (qa hfar _)).inRound l1).mono ?_;rintro e wf ⟨rfl,rfl⟩)
         | (with_reducible refine And.intro (zk _) ?_))
        all_goals first
         | exact qa fin0 _ (Gr.trans hgd hge) (by rw [qa hsn2];rfl)
         | (exfalso;rename_i xx bb h1 h2;exact absurd h1 (by simp [undef]))
         | (exfalso;rename_i xx bb h1;exact absurd h1 (by simp [undef]))
       ·gi_wp2_with (first
         | (refine ⟨trivial,?_⟩;gi_at_call 159;refine ((callsIn_wide.2 (qa hman _)).inRound l1).mono ?_;rintro e wc ⟨rfl,rfl⟩;obtain ⟨p1,p2,p3,p4⟩:=qa keep _ (Gr.refl _))
         | (refine ⟨trivial,?_⟩;gi_at_call 161;refine ((callsIn_wide.2 (qa hback _)).inRound l1).mono ?_;rintro e wd ⟨rfl,hgd⟩)
         | (refine ⟨trivial,?_⟩;gi_at_call 160;refine ((callsIn_wide.2 (qa hgoes _)).inRound l1).mono ?_;rintro e we ⟨rfl,hge⟩;obtain ⟨q1,q2,q3,q4⟩:=qa keep _ (Gr.trans hgd hge))
         | (refine ⟨trivial,?_⟩;gi_at_call 162;refine ((callsIn_wide.2 (qa hfar _)).inRound l1).mono ?_;rintro e wf ⟨rfl,rfl⟩)
         | (with_reducible refine And.intro (zk _) ?_))
        all_goals first
         | exact (fun t=>⟨t.1,rfl,t.2⟩) (qa fin1 _ (Gr.trans hgd hge) (by rw [qa hsn2];rfl))
         | (exfalso;rename_i xx bb h1 h2;exact absurd h1 (by simp [undef]))
         | (exfalso;rename_i xx bb h1;exact absurd h1 (by simp [undef]))
  ·have hk16:k=16:=by omega
   subst hk16
   have hv:Hid (attLB z x bw=false):=hide (by
    unfold attLB;rw [List.any_eq_false];intro j hj;rw [qa hno' j (List.mem_range.1 hj)];decide)
   have hrs:=(qa hM').rs;obtain ⟨c1,c2⟩:=qe hrs;refine wpIn_wide.2 ?_;go_wp2_with fail;have hrs2:(wr.setCell ⟨w.heap.size+2,0,none⟩ (.bool false)).heap[w.heap.size+2]?=some (.cells #[.bool false] 4):=jl hrs;have fs:Fr (fun k o=>k≠w.heap.size+2) wr (wr.setCell ⟨w.heap.size+2,0,none⟩ (.bool false)):=(Fr.refl _ _).setCell _ (fun o _ q=>q rfl);have hgr:Gr w (wr.setCell ⟨w.heap.size+2,0,none⟩ (.bool false)):=Below.setCell (qa hM').gr (show w.heap.size<=w.heap.size+2 by omega) _
   have hms:Marks w.heap.size Ds (wr.setCell ⟨w.heap.size+2,0,none⟩ (.bool false)):=(qa hM').ms.fr fs (fun j o _ _ hj0 hj e=>by
    subst e;have q1:=((qa hM').ms.2 _ hj).2;rw [hrs] at q1;cases q1)
   refine qjw Ds _ hms (fun w' f=>⟨.bool false,res_att _ _ (w.heap.size+2) _ rfl (qe (f.same _ _ hrs2 (.inr rfl))).1,by rw [qa hv],Below.trans hgr (f.below (n:=w.heap.size) (Below.size hgr) (fun j o hj=>.inl hj))⟩)
def attS (z:Nat->UInt8) (x k:Nat):List Nat:=if goesB (z x) (stN k) then (if farB (z x) then wkL z (stN k) x else (wkL z (stN k) x).take 1) else []
def attU (z:Nat->UInt8) (x k:Nat):List Nat:=(List.range k).flatMap (attS z x)
theorem attU_succ (z:Nat->UInt8) (x k:Nat):attU z x (k+1)=attU z x k++attS z x k:=by
 unfold attU;rw [List.range_succ,List.flatMap_append];simp
theorem attU_pre (z:Nat->UInt8) (x:Nat) {k:Nat} (hk:k<16):attU z x k++attS z x k <+: attU z x 16:=by
 rw [<-attU_succ];unfold attU;refine flat_pre _ ?_;refine ⟨(List.range 16).drop (k+1),?_⟩;have:k=0\/k=1\/k=2\/k=3\/k=4\/k=5\/k=6\/k=7\/k=8\/k=9\/k=10\/k=11\/k=12\/k=13\/k=14\/k=15:=by omega
 rcases this with rfl|rfl|rfl|rfl|rfl|rfl|rfl|rfl|rfl|rfl|rfl|rfl|rfl|rfl|rfl|rfl<;>decide
def OnlyMv (T:Obj->Prop):Prop:=∀ o,T o->∃ c fr,o=.cells c 94 fr
theorem OnlyMv.cells {T:Obj->Prop} (h:OnlyMv T):∀ o,T o->o.isCells=true:=fun o ho=>by obtain ⟨c,fr,rfl⟩:=h o ho;rfl
theorem OnlyMv.no {T:Obj->Prop} (h:OnlyMv T) {c:Array Value} {ty:TypeId} {fr:Nat × Nat} (hne:ty≠94):¬ T (.cells c ty fr):=fun q=>by
 obtain ⟨c',fr',e⟩:=h _ q;cases e;exact hne rfl
def Far (B k:Nat) (V:World):Prop:=B<=k/\∃ c ty fr,ty≠94/\V.heap[k]?=some (.cells c ty fr)
theorem rnd_in {B b:Nat} {T:Obj->Prop} {C C':Nat->Prop} {V W:World} (f:Fr (Rnd1 B T C) V W) (hT:OnlyMv T) (hb:B<=b) (h:∀ k,C' k->C k\/Far B k V):Fr (Rnd1 b T C') V W :=
 f.mono fun k o e q=>by
  rcases q with q|q
  ·rcases h k q with h|⟨h1,c,ty,fr,h2,h3⟩
   ·exact .inl h
   ·rw [h3] at e;cases e;exact .inr ⟨h1,hT.no h2⟩
  ·exact .inr ⟨by omega,q.2⟩
theorem qp {B k:Nat} {V:World} {c:Array Value} {ty:TypeId} (hb:B<=k) (ht:ty≠94) (h:V.heap[k]?=some (.cells c ty)):Far B k V:=⟨hb,c,ty,_,ht,h⟩
theorem Far.keep {B k:Nat} {T:Obj->Prop} {C:Nat->Prop} {V W:World} {o:Obj} (h:Far B k V) (hT:OnlyMv T) (f:Fr (Rnd1 B T C) V W) (e:V.heap[k]?=some o):W.heap[k]?=some o:=by
 obtain ⟨h1,c,ty,fr,h2,h3⟩:=h;refine f.same k o e (.inr ⟨h1,?_⟩);rw [h3] at e;cases e;exact hT.no h2
structure Ak (z:Nat->UInt8) (x l B Wb Bl Bq Bf A:Nat) (Ds:List Nat) (W:World):Prop where
 yb:W.heap[Wb]?=some (.cells #[.func (.yield l) #[] #[]] 189)
 cl:W.cell? ⟨Bl,0,none⟩=some (.int .u8 ((z x).toNat:Int))
 cq:W.cell? ⟨Bq,0,none⟩=some (.pointer (some ⟨A,0,none⟩))
 cf:W.cell? ⟨Bf,0,none⟩=some (.int .i64 (x:Int))
 bd:Bz z A W
 st:StTab W
 ms:Marks B Ds W
theorem Ak.fr {z:Nat->UInt8} {x l B Wb Bl Bq Bf A:Nat} {Ds:List Nat} {W W':World} {Q:Nat->Obj->Prop} (h:Ak z x l B Wb Bl Bq Bf A Ds W) (f:Fr Q W W') (hq:∀ k o,(k=Wb\/k=Bl\/k=Bq\/k=Bf\/k=A\/k=1\/k∈Ds)->W.heap[k]?=some o->Q k o):Ak z x l B Wb Bl Bq Bf A Ds W' :=
  ⟨f.same _ _ h.yb (hq _ _ (by simp) h.yb),f.cell h.cl (fun o e=>hq _ o (by simp) e),f.cell h.cq (fun o e=>hq _ o (by simp) e),f.cell h.cf (fun o e=>hq _ o (by simp) e),
   fun i hi=>f.cell (h.bd i hi) (fun o e=>hq _ o (by simp) e),⟨fun j v hv=>f.cell (h.st.1 j v hv) (fun o e=>hq _ o (by simp) e),Nat.lt_of_lt_of_le h.st.2 f.size⟩,h.ms.fr f (fun k o _ _ e hk=>hq k o (by simp [hk]) e)⟩
theorem Ak.gr {z:Nat->UInt8} {x l B Wb Bl Bq Bf A:Nat} {Ds:List Nat} {W W':World} (h:Ak z x l B Wb Bl Bq Bf A Ds W) (g:Gr W W'):Ak z x l B Wb Bl Bq Bf A Ds W':=h.fr (Q:=fun _ _=>True) (Fr.of_gr g) (fun _ _ _ _=>trivial)
theorem Ak.below {z:Nat->UInt8} {x l B Wb Bl Bq Bf A:Nat} {Ds:List Nat} {W W' W0:World} {T:Obj->Prop} {n:Nat} (h0:Ak z x l B Wb Bl Bq Bf A Ds W0) (hn:W0.heap.size<=n) (h:Ak z x l B Wb Bl Bq Bf A Ds W) (f:Fr (Own1 n T) W W'):Ak z x l B Wb Bl Bq Bf A Ds W':=h.fr f (fun k o hk _=>by
 refine .inl ?_;have lc:∀ {p:Addr} {v:Value},W0.cell? p=some v->p.block<n:=fun hp=>Nat.lt_of_lt_of_le (World.block_lt_of_cell? _ _ hp) hn
 rcases hk with rfl|rfl|rfl|rfl|rfl|rfl|hk
 ·exact Nat.lt_of_lt_of_le (Array.getElem?_eq_some_iff.1 h0.yb).1 hn
 ·exact lc h0.cl
 ·exact lc h0.cq
 ·exact lc h0.cf
 ·exact lc (h0.bd 0 (by omega))
 ·exact Nat.lt_of_lt_of_le h0.st.2 hn
 ·exact Nat.lt_of_lt_of_le (Array.getElem?_eq_some_iff.1 (h0.ms.2 k hk).2).1 hn)
theorem Ak.rnd {z:Nat->UInt8} {x l B Wb Bl Bq Bf A:Nat} {Ds:List Nat} {W W':World} {T:Obj->Prop} {C:Nat->Prop} (h:Ak z x l B Wb Bl Bq Bf A Ds W) (hT:OnlyMv T) (hB:B<=Wb) (hC:∀ k,(k=Bl\/k=Bq\/k=Bf\/k=A\/k=1)->C k) (f:Fr (Rnd1 B T C) W W'):Ak z x l B Wb Bl Bq Bf A Ds W':=h.fr f (fun k o hk e=>by
 rcases hk with rfl|hk|hk|hk|hk|hk|hk
 ·rw [h.yb] at e;cases e;exact .inr ⟨hB,hT.no (by decide)⟩
 ·exact .inl (hC _ (by simp [hk]))
 ·exact .inl (hC _ (by simp [hk]))
 ·exact .inl (hC _ (by simp [hk]))
 ·exact .inl (hC _ (by simp [hk]))
 ·exact .inl (hC _ (by simp [hk]))
 ·rw [(h.ms.2 k hk).2] at e;cases e;exact .inr ⟨(h.ms.2 k hk).1,fun q=>by have:=hT.cells _ q;cases this⟩)
theorem jq {B D:Nat} {Ds:List Nat} {V:World} (h:Marks B Ds V) (hD:B<=D) (hn:D∉Ds) (hK:V.heap[D]?=some (.deferred (some []))):Marks B (D :: Ds) V :=
 ⟨List.nodup_cons.2 ⟨hn,h.1⟩,fun D' hD'=>by
  rcases List.mem_cons.1 hD' with rfl|hD'
  ·exact ⟨hD,hK⟩
  ·exact h.2 D' hD'⟩
theorem Ak.cons {z:Nat->UInt8} {x l B Wb Bl Bq Bf A D:Nat} {Ds:List Nat} {W:World} (h:Ak z x l B Wb Bl Bq Bf A Ds W) (hD:B<=D) (hn:D∉Ds) (hK:W.heap[D]?=some (.deferred (some []))):Ak z x l B Wb Bl Bq Bf A (D :: Ds) W :=
 ⟨h.yb,h.cl,h.cq,h.cf,h.bd,h.st,jq h.ms hD hn hK⟩
def AkN (z:Nat->UInt8) (x k:Nat) (fa:Bool) (J:List Nat->World->Prop) (pre:List Nat) (V:World):Prop:=(fa=true\/pre=[])/\J (attU z x k++pre) V
def AkX (z:Nat->UInt8) (x l B Wb Bl Bq Bf A:Nat) (Ds:List Nat) (k:Nat) (fa:Bool) (J Jx:List Nat->World->Prop) (c:Code) (pre:List Nat) (V:World):Prop:=(c=.ret/\∃ q,q <+: attU z x 16/\Jx q V)\/(c=.exit 2/\Ak z x l B Wb Bl Bq Bf A Ds V/\fa=false/\∃ y,pre=[y]/\J (attU z x k++[y]) V)
def AkI (z:Nat->UInt8) (x l B Wb Bl Bq Bf A:Nat) (J:List Nat->World->Prop) (gk:Nat) (a:Act) (wr:World):Prop :=
 ∃ (k:Nat) (Ds:List Nat) (u5 u6 u7 u10 u11 u12 u13 u14 u15 u16 u17 u18 u19 u20 u21 u22 u23 u24 u25 u26 u27 u28:Value),k+gk=16/\a={ tmps:=#[.func (.yield l) #[] #[],.pointer (some ⟨Bl,0,none⟩),.pointer (some ⟨Bq,0,none⟩),.pointer (some ⟨Bf,0,none⟩),.pointer (some ⟨Wb,0,none⟩),u5,u6,u7,.agg stepsV.toArray,.int .i64 (k:Int),u10,u11,u12,u13,u14,u15,u16,u17,u18,u19,u20,u21,u22,u23,u24,u25,u26,u27,u28],defers:=Ds.map markD }/\Ak z x l B Wb Bl Bq Bf A Ds wr/\J (attU z x k) wr
theorem attacks_it (z:Nat->UInt8) (x:Nat) (hx:x<64) (Bl Bq Bf A:Nat) (T:Obj->Prop) (hTm:OnlyMv T) (w:World) (hl:w.cell? ⟨Bl,0,none⟩=some (.int .u8 ((z x).toNat:Int))) (hq:w.cell? ⟨Bq,0,none⟩=some (.pointer (some ⟨A,0,none⟩))) (hf:w.cell? ⟨Bf,0,none⟩=some (.int .i64 (x:Int))) (hb:Bz z A w) (hs:StTab w) :
  It Tryz.prog 313 #[.pointer (some ⟨Bl,0,none⟩),.pointer (some ⟨Bq,0,none⟩),.pointer (some ⟨Bf,0,none⟩)] encI T (fun k=>k=Bl\/k=Bq\/k=Bf\/k=A\/k=1) (attU z x 16) w:=by
 intro l B J Jx W f0 hB hJ hJx hY h0
 have hA0:Ak z x l B W.heap.size Bl Bq Bf A [] (W.alloc (.cells #[.func (.yield l) #[] #[]] 189)):=by
  have f1:=f0.trans ((Fr.refl (fun k _=>k=Bl\/k=Bq\/k=Bf\/k=A\/k=1) W).alloc (.cells #[.func (.yield l) #[] #[]] 189));exact ⟨World.alloc_heap_new W _,f1.cell hl (fun _ _=>by simp),f1.cell hq (fun _ _=>by simp),f1.cell hf (fun _ _=>by simp),hb.fr f1 (fun _=>by simp),hs.fr f1 (fun _=>by simp),⟨List.nodup_nil,fun D hD=>absurd hD List.not_mem_nil⟩⟩
 have hJ0:=hJ _ _ _ h0 ((Fr.refl _ W).alloc (.cells #[.func (.yield l) #[] #[]] 189));refine (callsIn_wide (n:=9)).1 ?_;refine callsIn_of_wp_marks Tryz.func313 rfl trivial ?_ rfl;simp only [Tryz.ntmps313,List.size_toArray,List.length_cons,List.length_nil,Nat.reduceAdd,Nat.reduceSub,Array.replicate_succ,Array.replicate_zero,List.push_toArray,List.append_toArray,List.nil_append,List.cons_append];refine wpIn_wide.2 ?_;clear h0 f0 hl hq hf hb hs;go_wp2_with (refine wpList_load_mid rfl 241 _ rfl 1 0 rfl stepsV _ hA0.st.1 Tryz.underlying241 rfl infoS32 ?_);generalize W.alloc (.cells #[.func (.yield l) #[] #[]] 189)=w1 at hA0 hJ0 ⊢;generalize W.heap.size=Wb at hA0 hB ⊢;refine wpIn_wide.1 (wpIn_loop_ghost (rm:=9) (AkI z x l B Wb Bl Bq Bf A J) 16 ?start ?round)
 case start=>exact ⟨0,[],undef,undef,undef,undef,undef,undef,undef,undef,undef,undef,undef,undef,undef,undef,undef,undef,undef,undef,undef,undef,undef,undef,rfl,rfl,hA0,hJ0⟩
 case round =>
  clear hA0 hJ0;rintro gk a wr ⟨k,Ds,u5,u6,u7,u10,u11,u12,u13,u14,u15,u16,u17,u18,u19,u20,u21,u22,u23,u24,u25,u26,u27,u28,hk,rfl,hM,hJk⟩;have hM':=hide hM;have hJk':=hide hJk;clear hJk;have hBl:=hM.cl;have hBq:=hM.cq;have hBf:=hM.cf;clear hM;by_cases hlt:k<16
  ·have hix:=ixst k hlt;obtain ⟨hsm,hnz⟩:=stN_small k;have hsc:Hid (attU z x (k+1)=attU z x k++attS z x k):=hide (attU_succ z x k);have hpr:Hid (attU z x k++attS z x k <+: attU z x 16):=hide (attU_pre z x hlt);have hsS:Hid (attS z x k=if goesB (z x) (stN k) then (if farB (z x) then wkL z (stN k) x else (wkL z (stN k) x).take 1) else []):=hide rfl;generalize attS z x k=aS at hsc hpr hsS;generalize stN k=st at hix hsm hnz hsS;obtain ⟨a,b⟩:=st;simp only at hix hnz;have hk0:(0:Int)<=(k:Int):=by omega
   have hk16:(k:Int)<16:=by omega
   have hmk:=hide (fun W=>walk_mk A x a b W);have hgo:=hide (fun W=>goes_any (z x) a b hsm W);have hgA:Gr wr (wr.alloc (.cells #[.int .i64 a,.int .i64 b] 240)):=(Gr.refl wr).alloc _ _;obtain ⟨y1a,y1b⟩:=xc (World.alloc_heap_new wr (.cells #[.int .i64 a,.int .i64 b] 240));have hM1:=(qa hM').gr hgA;have c1:=hM1.cl;have hltA:wr.heap.size<(wr.alloc (.cells #[.int .i64 a,.int .i64 b] 240)).heap.size:=by simp
   obtain ⟨g1,hg1⟩:∃ g,goesB (z x) (a,b)=g:=⟨_,rfl⟩;rw [hg1] at hgo hsS;refine wpIn_wide.2 ?_;cases g1
   ·go_wp2_with (go_at_call 160;refine (qa hgo _).mono ?_;rintro e wg ⟨rfl,hgg⟩);have hgw:=Gr.trans hgA hgg;exact ⟨gk-1,by omega,k+1,Ds,_,_,_,_,_,_,_,_,_,_,_,_,_,_,_,_,_,_,_,_,_,_,by omega,rfl,(qa hM').gr hgw,by rw [qa hsc,qa hsS];simpa using hJ _ _ _ (qa hJk') (Fr.of_gr hgw)⟩
   ·have key:Hid (∀ wg,Gr (wr.alloc (.cells #[.int .i64 a,.int .i64 b] 240)) wg->wg.cell? ⟨Bq,0,none⟩=some (.pointer (some ⟨A,0,none⟩))/\wg.cell? ⟨Bf,0,none⟩=some (.int .i64 (x:Int))/\wg.cell? ⟨wr.heap.size,0,none⟩=some (.int .i64 a)/\wg.cell? ⟨wr.heap.size,1,none⟩=some (.int .i64 b)):=hide (fun wg hgg=>⟨(hM1.gr hgg).cq,(hM1.gr hgg).cf,(Below.cell hgg (p:=⟨wr.heap.size,0,none⟩) hltA).trans y1a,(Below.cell hgg (p:=⟨wr.heap.size,1,none⟩) hltA).trans y1b⟩)
    go_wp2_with (first
     | (go_at_call 160;refine (qa hgo _).mono ?_;rintro e wg ⟨rfl,hgg⟩;obtain ⟨q1,q2,q3,q4⟩:=qa key _ hgg)
     | (go_at_call 158;refine (qa hmk _).mono ?_;rintro e w6 ⟨rfl,hwk,hg6,hs6⟩))
    have hM6:Ak z x l B Wb Bl Bq Bf A Ds w6:=(qa hM').gr (Gr.trans hgA (Gr.trans hgg hg6));have hJ6:=hJ _ _ _ (qa hJk') (Fr.of_gr (Gr.trans hgA (Gr.trans hgg hg6)));have hDs:∀ D∈Ds,D<w6.heap.size:=fun D hD=>(Array.getElem?_eq_some_iff.1 (hM6.ms.2 D hD).2).1
    have hWb6:Wb<w6.heap.size:=(Array.getElem?_eq_some_iff.1 hM6.yb).1;have hWr:Wb<wr.heap.size:=(Array.getElem?_eq_some_iff.1 (qa hM').yb).1;have hBg:wr.heap.size<wg.heap.size:=by have:=Below.size hgg;omega
    have hA6:A<w6.heap.size:=World.block_lt_of_cell? _ _ (hM6.bd 0 (by omega));clear hgA y1a y1b hg6 hix hmk hgg hgo key q1 q2 q3 q4 c1 hM1 hltA hBl hBq hBf;generalize wg.heap.size=Bw at hBg hwk hs6 ⊢;generalize wr.heap.size=Bs at hBg hWr ⊢;have hwk6:=hwk.wk hM6.bd;obtain ⟨fa,hfa⟩:∃ f,farB (z x)=f:=⟨_,rfl⟩;rw [hfa] at hsS;have hgf:=hide (fun W=>qj0 (z x) W);rw [hfa] at hgf;have hB6:B<=w6.heap.size:=by omega
    have hs7:Bw+3<=w6.heap.size:=by omega
    clear hs6
    refine wpIn_wide.1 (xf (n:=9) (gf:=232) (lb:=wkA Bw) rfl (enters_of Tryz.func232 (by kernel_rfl) rfl)
     (walk_it z x hx a b hsm hnz (Bw+1) (Bw+2) Bw A T w6 hwk6) hTm.cells (by rintro j (rfl|rfl|rfl|rfl);exact (by omega);exact (by omega);exact (by omega);exact hA6) (Fr.refl _ _) (fun _=>rfl)
     (fun pre V=>Ak z x l B Wb Bl Bq Bf A Ds V/\WkAt A x a b Bw V/\AkN z x k fa J pre V)
     (fun c pre V=>Marks B Ds V/\AkX z x l B Wb Bl Bq Bf A Ds k fa J Jx c pre V)
     ?sI ?sX ⟨hM6,hwk,.inr rfl,by simpa using hJ6⟩ ?rnd ?done ?stop)
    case sI=>exact fun s V V' h f=>⟨hM6.below (Nat.le_refl _) h.1 f,⟨f.same _ _ h.2.1.b0 (.inl (by omega)),f.same _ _ h.2.1.b1 (.inl (by omega)),f.same _ _ h.2.1.b2 (.inl (by omega))⟩,⟨h.2.2.1,qn hJ hB6 _ _ _ h.2.2.2 f⟩⟩
    case sX=>exact fun c s V V' h f=>⟨h.1.fr f (fun j o _ _ _ hj=>.inl (hDs _ hj)),h.2.imp (fun h=>⟨h.1,h.2.elim fun q hq=>⟨q,hq.1,qn hJx hB6 _ _ _ hq.2 f⟩⟩) (fun h=>⟨h.1,hM6.below (Nat.le_refl _) h.2.1 f,h.2.2.1,h.2.2.2.elim fun y hy=>⟨y,hy.1,qn hJ hB6 _ _ _ hy.2 f⟩⟩)⟩
    case done =>
     rintro D V hD ⟨hMV,_,hfe,hJV⟩ hK
     have hne:attU z x (k+1)=attU z x k++wkL z (a,b) x:=by
      rw [qa hsc,qa hsS];rcases hfe with rfl|hfe
      ·rfl
      ·rw [hfe];cases fa<;>rfl
     have hne':=hide hne;clear hne;go_wp2_with fail;exact ⟨gk-1,by omega,k+1,D :: Ds,_,_,_,_,_,_,_,_,_,_,_,_,_,_,_,_,_,_,_,_,_,_,by omega,rfl,hMV.cons (by omega) (fun h=>by have:=hDs D h;omega) hK,by rw [qa hne'];exact hJV⟩
    case stop =>
     rintro D c pre V hD hpre ⟨hms,⟨rfl,q,hq1,hq2⟩|⟨rfl,hMV,hfa0,y,rfl,hJy⟩⟩ hK
     ·refine wpIn_wide.2 ?_;go_wp2_with fail;exact xa (T:=T) Tryz.results313 hTm.cells (D :: Ds) V (jq hms (by omega) (fun h=>by have:=hDs D h;omega) hK) (fun v w' f=>⟨⟨v,rfl⟩,.inr ⟨q,hq1,hJx _ _ _ hq2 f⟩⟩)
     ·have hne:Hid (attU z x (k+1)=attU z x k++[y]):=hide (by
       rw [qa hsc,qa hsS,hfa0];obtain ⟨r,hr⟩:=hpre;rw [<-hr];rfl)
      refine wpIn_wide.2 ?_;go_wp2_with fail;exact ⟨gk-1,by omega,k+1,D :: Ds,_,_,_,_,_,_,_,_,_,_,_,_,_,_,_,_,_,_,_,_,_,_,by omega,rfl,hMV.cons (by omega) (fun h=>by have:=hDs D h;omega) hK,by rw [qa hne];exact hJy⟩
    case rnd =>
     intro l1 pre y V hbl hxy hI hl;simp only [encI];gi_wp2;refine ⟨Fr.refl _ _,?_⟩;intro V2 f2 hI2 hl2;obtain ⟨hM2,hwk2,hfe,hJ2⟩:=hI2;have cy:=(qe hM2.yb).1;have cl:=hM2.cl
     have hpy:attU z x k++pre++[y] <+: attU z x 16:=by
      refine List.IsPrefix.trans ?_ (qa hpr);rw [List.append_assoc,qa hsS];refine (List.prefix_append_right_inj _).2 ?_;rcases hfe with hfe|hfe
      ·rw [hfe];exact hxy
      ·rw [hfe] at hxy ⊢;obtain ⟨r,hr⟩:=hxy;cases fa
       ·rw [<-hr];exact ⟨[],rfl⟩
       ·exact ⟨r,hr⟩
     obtain ⟨fn,tmps,assign,body,hyy,hR⟩:=xu (m':=8) (hY (attU z x k++pre) y V2 hpy hJ2);have hy':(Instr.yield l #[.int .i64 (y:Int)]).run Tryz.prog V2=.ok (.round l fn tmps assign body) V2:=hyy;clear hyy;have hM2':=hide hM2;have hwk2':=hide hwk2;clear hM2 hwk2 hI hl f2;gi_wp2;have hR':RoundIn (Fence.wide.inRound l1) 8 Tryz.prog l fn tmps assign body V2 (fun e W'=>Fr (Rnd1 B T (fun k=>k=Bl\/k=Bq\/k=Bf\/k=A\/k=1)) V2 W'/\((e=.returned (.bool true)/\J (attU z x k++pre++[y]) W')\/(e=.returned (.bool false)/\Jx (attU z x k++pre++[y]) W'))):=hR;clear hR;refine hR'.mono ?_;clear hR' hy';intro e V4 h4;obtain ⟨f4,h4⟩:=h4
     have fc1:Fr (Rnd1 w6.heap.size T (fun j=>j=Bw+1\/j=Bw+2\/j=Bw\/j=A)) V2 V4:=rnd_in f4 hTm hB6 (by
      rintro j (rfl|rfl|rfl|rfl)
      ·exact .inr (qp (by omega) (by decide) (qa hwk2').b1)
      ·exact .inr (qp (by omega) (by decide) (qa hwk2').b2)
      ·exact .inr (qp (by omega) (by decide) (qa hwk2').b0)
      ·exact .inl (by simp))
     have hM4:Ak z x l B Wb Bl Bq Bf A Ds V4:=(qa hM2').rnd hTm hB (fun j hj=>hj) f4;have cl4:=hM4.cl;have hM4':=hide hM4;have fc1':=hide fc1;clear hM4 fc1;rcases h4 with ⟨rfl,hJ4⟩|⟨rfl,hx4⟩
     ·have hwk4:Hid (WkAt A x a b Bw V4):=hide ⟨(qp (by omega) (by decide) (qa hwk2').b0).keep hTm f4 (qa hwk2').b0,(qp (by omega) (by decide) (qa hwk2').b1).keep hTm f4 (qa hwk2').b1,(qp (by omega) (by decide) (qa hwk2').b2).keep hTm f4 (qa hwk2').b2⟩;cases fa
      ·obtain rfl:pre=[]:=by
        rcases hfe with h|h
        ·cases h
        ·exact h
       gi_wp2_with (refine ⟨trivial,?_⟩;gi_at_call 162;refine ((callsIn_wide.2 (qa hgf _)).inRound l1).mono ?_;rintro e wf ⟨rfl,rfl⟩);exact ⟨qa fc1',(qa hM4').ms,.inr ⟨rfl,qa hM4',rfl,y,rfl,by simpa using hJ4⟩⟩
      ·gi_wp2_with (refine ⟨trivial,?_⟩;gi_at_call 162;refine ((callsIn_wide.2 (qa hgf _)).inRound l1).mono ?_;rintro e wf ⟨rfl,rfl⟩);exact ⟨qa fc1',qa hM4',qa hwk4,.inl rfl,by rw [<-List.append_assoc];exact hJ4⟩
     ·gi_wp2;exact ⟨qa fc1',(qa hM4').ms,.inl ⟨rfl,_,hpy,hx4⟩⟩
  ·have hk16:k=16:=by omega
   subst hk16;refine wpIn_wide.2 ?_;go_wp2_with fail;exact xa (T:=T) Tryz.results313 hTm.cells Ds wr (qa hM').ms (fun v w' f=>⟨⟨v,rfl⟩,.inl (hJ _ _ _ (qa hJk') f)⟩)
end Go.Proofs.YtnfakamfmkhlbaaGreatDoor.C
