import Derived.Test.YtnfakamfmkhlbaaGreatDoorZe28
import Derived.Test.YtnfakamfmkhlbaaGreatDoorZe19
import Derived.Test.YtnfakamfmkhlbaaGreatDoorZe21
import Derived.Test.YtnfakamfmkhlbaaGreatDoorZe7
set_option maxRecDepth 100000
set_option maxHeartbeats 4000000
set_option linter.unusedSimpArgs false
namespace Go.Proofs.YtnfakamfmkhlbaaGreatDoor.C
open Go.ChangeShapes Go.WideShapes Go.ChangeAt Go.RowKit Go.Shelf
open Go.Proofs.YtnfakamfmkhlbaaGreatDoor.P
attribute [local go_sem] qd qi Oper.semAt_some
def letP (z:Nat->UInt8) (wh:Bool) (b:Int) (x:Mv):Bool:=!(attLB (plZ z b x) (kingR (plZ z b x) wh).toNat (!wh))
def letL (z:Nat->UInt8) (wh:Bool) (fc:Nat->Bool) (b:Int):List Mv:=(alU z wh fc b 64).filter (letP z wh b)
structure LetOk (z:Nat->UInt8) (wh:Bool) (fc:Nat->Bool) (b:Int):Prop where
 home:KgHome z wh fc
 k1:∀ f t u,(f,t,u)∈alU z wh fc b 64->kingB (z f)=true->t=f+2->f+3<64
 k2:∀ f t u,(f,t,u)∈alU z wh fc b 64->kingB (z f)=true->t+2=f->4<=f
 kg:∀ x,x∈alU z wh fc b 64->∃ y:Nat,y<64/\kingR (plZ z b x) wh=(y:Int)
theorem alU_ok {z:Nat->UInt8} {wh:Bool} {fc:Nat->Bool} {b:Int} (hh:KgHome z wh fc) {x:Mv} (h:x∈alU z wh fc b 64):okM x:=by
 unfold alU alS at h;obtain ⟨f,hf,h⟩:=List.mem_flatMap.1 h;have hf':=List.mem_range.1 hf;split at h
 ·rename_i hm;obtain ⟨t,ht,h⟩:=List.mem_flatMap.1 h;exact turns_ok hf' (tg_lt hf' (hh f hf' hm) ht) h
 ·cases h
theorem attS_len (z:Nat->UInt8) (f k:Nat):(attS z f k).length<=8:=by
 have hw:∀ n x,(wkN z (stN k) n x).length<=n:=by
  intro n;induction n with
  | zero=>intro x;simp [wkN]
  | succ n ih =>
   intro x;unfold wkN;split
   ·have:=ih (nx x (stN k));split
    ·simp;omega
    ·simp
   ·simp
 unfold attS;split
 ·split
  ·exact hw 8 f
  ·have:=hw 8 f;simp only [List.length_take];unfold wkL;omega
 ·simp
theorem tg_len (z:Nat->UInt8) (wh:Bool) (fc:Nat->Bool) (b:Int) (f:Nat):(tgL z wh fc b f).length<=130:=by
 unfold tgL;rw [List.length_append];have h1:((attU z f 16).filter (mayB z wh b f)).length<=16*8:=Nat.le_trans (List.length_filter_le _ _) (js (by simp) fun k _=>attS_len z f k)
 have h2:(if pawnB (z f) then ahT z (ahM wh f) (wkL z (0,ahS wh) f) else if kingB (z f) then cgR z wh fc f++cgM z wh fc f else []).length<=2:=by
  split
  ·unfold ahT;have e1:=(List.takeWhile_prefix (fun v=>z v==46) (l:=(wkL z (0,ahS wh) f).take (ahM wh f))).length_le;have e2:=List.length_take_le (ahM wh f) (wkL z (0,ahS wh) f);have e3:=ahM_le wh f;omega
  ·split
   ·rw [List.length_append];have e1:(cgR z wh fc f).length<=1:=by unfold cgR;split<;>simp
    have e2:(cgM z wh fc f).length<=1:=by unfold cgM;split<;>simp
    omega
   ·simp
 omega
theorem letL_len (z:Nat->UInt8) (wh:Bool) (fc:Nat->Bool) (b:Int):(letL z wh fc b).length<=1000000:=by
 have h:(alU z wh fc b 64).length<=64*(130*4):=by
  unfold alU;refine js (by simp) fun f _=>?_
  unfold alS;split
  ·exact js (tg_len z wh fc b f) fun t _=>turns_len _ _ _
  ·simp
 have:=List.length_filter_le (letP z wh b) (alU z wh fc b 64);unfold letL;omega
theorem qqi (PA:Array Value) (w:World):Calls Tryz.prog 98 #[.agg PA] w fun e w'=>∃ B1 Bt Bf,e=.returned (.func (.func 235) #[] #[.pointer (some ⟨Bt,0,none⟩),.pointer (some ⟨Bf,0,none⟩)])/\w'.heap[w.heap.size]?=some (.cells PA 25)/\w'.heap[B1]?=some (.cells #[.pointer (some ⟨w.heap.size,0,none⟩)] 250)/\w'.heap[Bt]?=some (.cells #[.func (.func 236) #[] #[.pointer (some ⟨B1,0,none⟩)]] 178)/\w'.heap[Bf]?=some (.cells #[.func (.func 165) #[] #[.pointer (some ⟨w.heap.size,0,none⟩)]] 252)/\Gr w w':=by
 have hmf:∀ (fn:Fn) (first cap:Array Value) (w:World),(Instr.makeFunc fn first cap).run Tryz.prog w=.ok (.func fn first cap) w:=fun _ _ _ _=>rfl
 have x1:=World.alloc_heap_new w (.cells PA 25);have hg1:Gr w (w.alloc (.cells PA 25)):=(Gr.refl w).alloc _ _;go_enter Tryz.func98,Tryz.ntmps98
 go_wp2_with (first
  | (go_at_call 164;refine (allMoves_mk _ _).mono ?_;rintro e w2 ⟨rfl,x2,hg2⟩)
  | (go_at_call 163;refine (only_mk _ _ _ _ _).mono ?_;rintro e w3 ⟨rfl,x3,x4,hg3⟩))
 go_ret;have hg23:=Gr.trans hg2 hg3;rw [World.size_alloc] at x2;exact ⟨w.heap.size+1,_,_,rfl,(Below.block hg23 _ (Array.getElem?_eq_some_iff.1 x1).1).trans x1,(Below.block hg3 _ (Array.getElem?_eq_some_iff.1 x2).1).trans x2,x3,x4,Gr.trans hg1 hg23⟩
theorem mkL {z:Nat->UInt8} {wh:Bool} {fc:Nat->Bool} {b h g:Int} {PA:Array Value} (r:Row z wh fc b h g PA) (hok:LetOk z wh fc b) (w:World) (hS:StTab w) :
  MkIt 98 235 PA (letL z wh fc b) w where
 em:=enters_of Tryz.func98 (by kernel_rfl) rfl
 ei:=enters_of Tryz.func235 (by kernel_rfl) rfl
 ok:=fun x hx=>alU_ok hok.home (List.mem_filter.1 hx).1
 len:=letL_len z wh fc b
 go:=by
  intro T hTm W hg;refine (qqi PA W).mono ?_;rintro e w' ⟨B1,Bt,Bf,rfl,hp,h1,ht,hf,hg2⟩;have hgw:=Gr.trans hg hg2;have hS':=hS.gr hgw;have hps:=Ps.of r hp;have hit:=qzb hok.home B1 W.heap.size T hTm w' (qe h1).1 hps hS';refine ⟨_,_,rfl,hg2,?_,onlyM_it hit (enters_of Tryz.func236 (by kernel_rfl) rfl) (enters_of Tryz.func165 (by kernel_rfl) rfl) (OnlyMv.cells hTm) (fun c fr=>OnlyMv.no hTm (by decide)) ?_ Bt Bf (letP z wh b) ht hf ?_⟩
  ·rintro k ((rfl|rfl|rfl)|rfl|rfl)
   ·exact (Array.getElem?_eq_some_iff.1 h1).1
   ·exact (Array.getElem?_eq_some_iff.1 hp).1
   ·exact hS'.2
   ·exact (Array.getElem?_eq_some_iff.1 ht).1
   ·exact (Array.getElem?_eq_some_iff.1 hf).1
  ·rintro k (rfl|rfl|rfl)
   ·exact (Array.getElem?_eq_some_iff.1 h1).1
   ·exact (Array.getElem?_eq_some_iff.1 hp).1
   ·exact hS'.2
  ·rintro ⟨f,t,u⟩ hx V fV;obtain ⟨y,hy,hky⟩:=hok.kg _ hx;have hm:=alU_ok hok.home hx;have:=judge_any r f t u hm.1 hm.2 (hok.k1 f t u hx) (hok.k2 f t u hx) y hy hky W.heap.size V (fV.same _ _ hp (.inr (.inl rfl))) (hS'.fr fV (fun _=>.inr (.inr rfl)));have e:letP z wh b (f,t,u)=!(attLB (plZ z b (f,t,u)) y (!wh)):=by unfold letP;rw [hky];rfl
   rw [e];exact this
def nilW:Array Value:=#[.nilFunc,.nilFunc]
def letA:Array Value:=wayA 97 98
def setA:Array Value:=wayA 104 105
theorem infoW:(Tryz.prog.info? 84).map (·.size)=some 2:=by kernel_rfl
theorem ju (a b:Nat):(wayA a b).all (·.oneCell')=true:=by simp [wayA,Value.oneCell']
theorem jg:nilW.all (·.oneCell')=true:=by simp [nilW,Value.oneCell']
theorem quick_any (w:World):Calls Tryz.prog 47 #[] w fun e w'=>e=.returned (.agg setA)/\Gr w w':=by
 go_enter Tryz.func47,Tryz.ntmps47;go_wp2_with (refine wpList_store_row rfl 84 _ _ rfl w.heap.size setA rfl rfl 84 nilW (heap_alloc_new _ _) infoW rfl (ju _ _) ?_);exact bodyPost_ret (v:=.agg setA) (results_cell_row Tryz.results47 _ _ w.heap.size 84 _ (0,0) _ rfl (setRow_heap _ _ _ _ _ _ (heap_alloc_new w _)) Tryz.underlying84 rfl infoW) rfl ⟨rfl,((Gr.refl w).alloc _ _).setRow _ (Nat.le_refl _) _⟩
def ofV (n:Int):Value:=if n=1 then .tuple #[.agg letA,.bool true] else if n=2 then .tuple #[.agg setA,.bool true] else .tuple #[.agg nilW,.bool false]
theorem of_any (n:Int) (w:World):Calls Tryz.prog 44 #[.int .i64 n] w fun e w'=>e=.returned (ofV n)/\Gr w w':=by
 by_cases h1:n=1
 ·subst h1;go_enter Tryz.func44,Tryz.ntmps44;go_wp2_with (refine wpList_store_row rfl 84 _ _ rfl w.heap.size letA rfl rfl 84 nilW (heap_alloc_new _ _) infoW rfl (ju _ _) ?_);exact bodyPost_ret (v:=.tuple #[.agg letA,.bool true]) (qj Tryz.results44 _ _ w.heap.size 84 _ (0,0) _ rfl (setRow_heap _ _ _ _ _ _ (heap_alloc_new w _)) Tryz.underlying84 rfl infoW) rfl ⟨rfl,((Gr.refl w).alloc _ _).setRow _ (Nat.le_refl _) _⟩
 ·by_cases h2:n=2
  ·subst h2;have e0:Hid ((w.alloc (.cells nilW 84)).heap[w.heap.size]?=some (.cells nilW 84)):=hide (heap_alloc_new w _);have g0:Hid (Gr w (w.alloc (.cells nilW 84))):=hide ((Gr.refl w).alloc _ _);have l0:Hid (w.heap.size<(w.alloc (.cells nilW 84)).heap.size):=hide (by rw [World.size_alloc];omega);go_enter Tryz.func44,Tryz.ntmps44
   go_wp2_with (first
    | (go_at_call 47;refine (quick_any _).mono ?_;rintro e w2 ⟨rfl,hg2⟩;have e2:=(Below.block hg2 _ (qa l0)).trans (qa e0))
    | (refine wpList_store_row rfl 84 _ _ rfl w.heap.size setA rfl rfl 84 nilW e2 infoW rfl (ju _ _) ?_))
   exact bodyPost_ret (v:=.tuple #[.agg setA,.bool true]) (qj Tryz.results44 _ _ w.heap.size 84 _ (0,0) _ rfl (setRow_heap _ _ _ _ _ _ e2) Tryz.underlying84 rfl infoW) rfl ⟨rfl,(Gr.trans (qa g0) hg2).setRow _ (Nat.le_refl _) _⟩
  ·have hv:ofV n=.tuple #[.agg nilW,.bool false]:=by unfold ofV;rw [if_neg h1,if_neg h2]
   rw [hv];go_enter Tryz.func44,Tryz.ntmps44;go_wp2_with (refine wpList_store_row rfl 84 _ _ rfl w.heap.size nilW rfl rfl 84 nilW (heap_alloc_new _ _) infoW rfl jg ?_);exact bodyPost_ret (v:=.tuple #[.agg nilW,.bool false]) (qj Tryz.results44 _ _ w.heap.size 84 _ (0,0) _ rfl (setRow_heap _ _ _ _ _ _ (heap_alloc_new w _)) Tryz.underlying84 rfl infoW) rfl ⟨rfl,((Gr.refl w).alloc _ _).setRow _ (Nat.le_refl _) _⟩
structure Ct (m:Int) (w:World):Prop where
 mx:w.cell? ⟨4,0,none⟩=some (.int .i64 m)
 ml:4<w.heap.size
 tab:TabIn w
 homes:Homes w
theorem Ct.gr {m:Int} {w w':World} (h:Ct m w) (g:Gr w w'):Ct m w' :=
 ⟨(Below.cell g (p:=⟨4,0,none⟩) h.ml).trans h.mx,Nat.lt_of_lt_of_le h.ml (Below.size g),h.tab.gr g,h.homes.gr g⟩
def waL (p:Pos) (n:Int):List Mv:=if n=1 then letL (posZ p) p.white p.castle p.behind else movS (posZ p) p.white p.castle p.behind
def nilS:Value:=.slice none 0 0
def MovesEnd (s:ByteArray) (n:Int) (base:Nat) (e:Ending) (w':World):Prop :=
 (readS s=none/\e=.returned (.tuple #[nilS,.int .i64 1])) ∨
 (∃ p,readS s=some p/\posCan p=false/\e=.returned (.tuple #[nilS,.int .i64 2])) ∨
 (∃ p,readS s=some p/\posCan p=true/\¬ (n=1\/n=2)/\e=.returned (.tuple #[nilS,.int .i64 3])) ∨
 (∃ p v,readS s=some p/\posCan p=true/\(n=1\/n=2)/\e=.returned (.tuple #[v,.int .i64 0])/\Strs base v (txts (sortM (waL p n))) w')
theorem strs_le {base base':Nat} {v:Value} {xs:List ByteArray} {w:World} (h:Strs base v xs w) (hb:base'<=base):Strs base' v xs w:=by
 refine ⟨h.1,?_⟩;rcases h.2 with ⟨a,b⟩|⟨g,cap,cur,e,hg,r⟩
 ·exact .inl ⟨a,b⟩
 ·exact .inr ⟨g,cap,cur,e,Nat.le_trans hb hg,r⟩
structure Tabs (w:World):Prop where
 cas:CasTab w
 st:StTab w
theorem Tabs.gr {w w':World} (h:Tabs w) (g:Gr w w'):Tabs w':=⟨h.cas.gr g,h.st.gr g⟩
theorem can_lay {p:Pos} (h:posCan p=true):layOk (posZ p)=true:=by
 unfold posCan canS at h;simp only [Bool.and_eq_true] at h;exact h.1
theorem qq1 {s:ByteArray} {p:Pos} (h:readS s=some p):-1<=p.behind/\p.behind<=63:=by
 obtain ⟨B,_,_,_,hb,_⟩:=zo s p h;omega
def BadK (s:ByteArray) (k:Int):Prop:=(k=1/\readS s=none)\/(k=2/\∃ p,readS s=some p/\posCan p=false)
theorem xo (s:ByteArray):(∃ p,readS s=some p/\posCan p=true/\∀ e,ParseEnd s e->e=.returned (.tuple #[.agg (posV p),.int .i64 0]))\/(∃ k,k≠0/\BadK s k/\∀ e,ParseEnd s e->e=.returned (.tuple #[.agg Tryz.zeroCells25,.int .i64 k])):=by
 cases hr:readS s with
 | none =>
  refine .inr ⟨1,by decide,.inl ⟨rfl,hr⟩,fun e h=>?_⟩;rcases h with ⟨q,q1,_,_⟩|⟨q,q1,_,_⟩|⟨_,rfl⟩
  ·rw [hr] at q1;cases q1
  ·rw [hr] at q1;cases q1
  ·rfl
 | some p =>
  cases hc:posCan p with
  | true =>
   refine .inl ⟨p,rfl,hc,fun e h=>?_⟩;rcases h with ⟨q,q1,q2,rfl⟩|⟨q,q1,q2,_⟩|⟨q1,_⟩
   ·rw [hr] at q1;obtain rfl:=Option.some.inj q1;rfl
   ·rw [hr] at q1;obtain rfl:=Option.some.inj q1;rw [hc] at q2;cases q2
   ·rw [hr] at q1;cases q1
  | false =>
   refine .inr ⟨2,by decide,.inr ⟨rfl,p,hr,hc⟩,fun e h=>?_⟩;rcases h with ⟨q,q1,q2,rfl⟩|⟨q,q1,q2,rfl⟩|⟨q1,_⟩
   ·rw [hr] at q1;obtain rfl:=Option.some.inj q1;rw [hc] at q2;cases q2
   ·rfl
   ·rw [hr] at q1;cases q1
theorem bad_moves {s:ByteArray} {n k:Int} {base:Nat} {w':World} (h:BadK s k):MovesEnd s n base (.returned (.tuple #[nilS,.int .i64 k])) w':=by
 rcases h with ⟨rfl,h⟩|⟨rfl,p,h1,h2⟩
 ·exact .inl ⟨h,rfl⟩
 ·exact .inr (.inl ⟨p,h1,h2,rfl⟩)
theorem qvq (s:ByteArray) (hs:s.size<4294967281) (n:Int) (hL:∀ p,readS s=some p->posCan p=true->LetOk (posZ p) p.white p.castle p.behind) (m:Int) (w:World) (hc:Ct m w) (ht:Tabs w) :
  Calls Tryz.prog 20 #[.string s,.int .i64 n] w fun e w'=>MovesEnd s n w.heap.size e w'/\Gr w w':=by
 have h1:Hid (Calls Tryz.prog 12 #[.string s] w fun e w'=>ParseEnd s e/\Gr w w'):=hide (qjp s hs m w hc.mx hc.ml hc.tab hc.homes);rcases xo s with ⟨p,hr,hcan,hone⟩|⟨k,hk,hbad,hone⟩
 ·have h2:Hid (Calls Tryz.prog 12 #[.string s] w fun e w'=>e=.returned (.tuple #[.agg (posV p),.int .i64 0])/\Gr w w'):=hide ((qa h1).mono fun e w' h=>⟨hone e h.1,h.2⟩);have hrow:=jn hr;have hz:=hrow.size;have ho:=hide (qz hrow);have hb:=qq1 hr
  have htx:Hid (∀ W:World,Gr w W->∀ q,(n=1/\q=letA\/n=2/\q=setA)->Calls Tryz.prog 45 #[.agg q,.agg (posV p)] W fun e w'=>∃ v,e=.returned v/\Strs W.heap.size v (txts (sortM (waL p n))) w'/\Gr W w'):=hide (by
   rintro W hg q (⟨rfl,rfl⟩|⟨rfl,rfl⟩)
   ·exact qxb hz ((mkL hrow (hL p hr hcan) W (ht.gr hg).st))
   ·exact qxb hz ((mkS hrow (can_lay hcan) hb.1 hb.2 W (hc.gr hg).tab (ht.gr hg).cas)))
  have hend:Hid (∀ base v w',(n=1\/n=2)->Strs base v (txts (sortM (waL p n))) w'->MovesEnd s n base (.returned (.tuple #[v,.int .i64 0])) w'):=hide fun base v w' hn hv=>.inr (.inr (.inr ⟨p,v,hr,hcan,hn,rfl,hv⟩))
  have hend3:Hid (∀ base w',¬ (n=1\/n=2)->MovesEnd s n base (.returned (.tuple #[nilS,.int .i64 3])) w'):=hide fun base w' hn=>.inr (.inr (.inl ⟨p,hr,hcan,hn,rfl⟩))
  generalize posV p=A at h2 hz ho htx;clear h1 hone hrow hr hcan hb hL hc ht hs;go_enter Tryz.func20,Tryz.ntmps20
  go_upto_region 2 with (first
   | (go_at_call 12;refine (qa h2).mono ?_;rintro e w3 ⟨rfl,hg3⟩)
   | (refine wpList_store_row rfl 25 _ _ rfl w3.heap.size A rfl rfl 25 _ (heap_alloc_new _ _) (by rw [hz];exact infoP) (by rw [hz];exact zeroP.symm) (qa ho) ?_))
  generalize hw4:(w3.alloc (.cells Tryz.zeroCells25 25)).setRow w3.heap.size A=w4;have hk4:Tb w w3.heap.size A w4:=⟨Gr.trans hg3 (by rw [<-hw4];exact ((Gr.refl w3).alloc _ _).setRow _ (Nat.le_refl _) _),by rw [<-hw4];exact setRow_heap _ _ _ _ _ _ (heap_alloc_new w3 _),by rw [<-hw4,size_setRow,World.size_alloc];omega⟩;generalize w3.heap.size=b1 at hk4 ⊢;clear hw4 hg3 h2;go_upto_region 4 with fail;by_cases hn:n=1\/n=2
  ·obtain ⟨q,hq,hof,ha2⟩:∃ q,(n=1/\q=letA\/n=2/\q=setA)/\ofV n=.tuple #[.agg q,.bool true]/\(∃ ga gm,q=wayA ga gm):=by
    rcases hn with rfl|rfl
    ·exact ⟨letA,.inl ⟨rfl,rfl⟩,rfl,_,_,rfl⟩
    ·exact ⟨setA,.inr ⟨rfl,rfl⟩,rfl,_,_,rfl⟩
   obtain ⟨ga,gm,rfl⟩:=ha2;have hofc:Hid (∀ W,Calls Tryz.prog 44 #[.int .i64 n] W fun e w'=>e=.returned (.tuple #[.agg (wayA ga gm),.bool true])/\Gr W w'):=hide fun W=>by rw [<-hof];exact of_any n W
   have hn':=hide hn;have hq':=hide hq;clear hof hn hq
   go_upto_region 5 with (first
    | (go_at_call 44;refine (qa hofc _).mono ?_;rintro e w5 ⟨rfl,hg5⟩)
    | (refine wpList_store_row rfl 84 _ _ rfl w5.heap.size (wayA ga gm) rfl rfl 84 nilW (heap_alloc_new _ _) infoW rfl (ju _ _) ?_))
   have hg6:Gr w5 ((w5.alloc (.cells #[.nilFunc,.nilFunc] 84)).setRow w5.heap.size (wayA ga gm)):=((Gr.refl w5).alloc _ _).setRow _ (Nat.le_refl _) _;have hw6:((w5.alloc (.cells #[.nilFunc,.nilFunc] 84)).setRow w5.heap.size (wayA ga gm)).heap[w5.heap.size]?=some (.cells (wayA ga gm) 84):=setRow_heap _ _ _ _ _ _ (heap_alloc_new w5 _);have hk6:=hk4.next (Gr.trans hg5 hg6);generalize ((w5.alloc (.cells #[.nilFunc,.nilFunc] 84)).setRow w5.heap.size (wayA ga gm))=w6 at hw6 hk6 ⊢;generalize w5.heap.size=b2 at hw6 ⊢;clear hk4 hg5 hg6 hofc
   go_wp2_with (first
    | (refine wpList_load_row rfl 25 _ rfl b1 rfl 25 A (0,0) _ (Tb.p (w:=w) hk6) Tryz.underlying25 rfl (by rw [hz];exact infoP) ?_)
    | (refine wpList_load_row rfl 84 _ rfl b2 rfl 84 (wayA ga gm) (0,0) _ hw6 Tryz.underlying84 rfl infoW ?_)
    | (go_at_call 45;refine (qa htx _ hk6.gr _ (qa hq')).mono ?_;rintro e w7 ⟨v,rfl,hv,hg7⟩))
   go_ret2;exact ⟨qa hend _ _ _ (qa hn') (strs_le hv (Below.size hk6.gr)),Gr.trans hk6.gr hg7⟩
  ·have hof:ofV n=.tuple #[.agg nilW,.bool false]:=by unfold ofV;rw [if_neg (fun h=>hn (.inl h)),if_neg (fun h=>hn (.inr h))]
   have hofc:Hid (∀ W,Calls Tryz.prog 44 #[.int .i64 n] W fun e w'=>e=.returned (.tuple #[.agg nilW,.bool false])/\Gr W w'):=hide fun W=>by rw [<-hof];exact of_any n W
   have hn':=hide hn;clear hof hn
   go_wp2_with (first
    | (go_at_call 44;refine (qa hofc _).mono ?_;rintro e w5 ⟨rfl,hg5⟩)
    | (refine wpList_store_row rfl 84 _ _ rfl w5.heap.size nilW rfl rfl 84 nilW (heap_alloc_new _ _) infoW rfl jg ?_))
   go_ret2;exact ⟨qa hend3 _ _ (qa hn'),Gr.trans (Gr.trans hk4.gr hg5) (((Gr.refl w5).alloc _ _).setRow _ (Nat.le_refl _) _)⟩
 ·have h2:Hid (Calls Tryz.prog 12 #[.string s] w fun e w'=>e=.returned (.tuple #[.agg Tryz.zeroCells25,.int .i64 k])/\Gr w w'):=hide ((qa h1).mono fun e w' h=>⟨hone e h.1,h.2⟩);have hend:Hid (∀ base w',MovesEnd s n base (.returned (.tuple #[nilS,.int .i64 k])) w'):=hide fun base w'=>bad_moves hbad
  clear h1 hone hbad hL hc ht hs;go_enter Tryz.func20,Tryz.ntmps20
  go_upto_region 2 with (first
   | (go_at_call 12;refine (qa h2).mono ?_;rintro e w3 ⟨rfl,hg3⟩)
   | (refine wpList_store_row rfl 25 _ _ rfl w3.heap.size Tryz.zeroCells25 rfl rfl 25 _ (heap_alloc_new _ _) (by rw [zeroP];exact infoP) rfl zeroP_ones ?_))
  have hg4:Gr w ((w3.alloc (.cells Tryz.zeroCells25 25)).setRow w3.heap.size Tryz.zeroCells25):=Gr.trans hg3 (((Gr.refl w3).alloc _ _).setRow _ (Nat.le_refl _) _);generalize (w3.alloc (.cells Tryz.zeroCells25 25)).setRow w3.heap.size Tryz.zeroCells25=w4 at hg4 ⊢;go_wp2;go_ret2;exact ⟨qa hend _ _,hg4⟩
end Go.Proofs.YtnfakamfmkhlbaaGreatDoor.C
namespace Go.Proofs.YtnfakamfmkhlbaaGreatDoor.C
open Go.RowKit
open Go.Proofs.YtnfakamfmkhlbaaGreatDoor.P
def ray (s:Stp):Nat->Nat->List Nat
 | 0,_=>[]
 | n+1,x=>if onB x s then nx x s :: ray s n (nx x s) else []
def upT (z:Nat->UInt8):List Nat->List Nat
 | []=>[]
 | y :: r=>y :: (if z y=46 then upT z r else [])
theorem wk_up (z:Nat->UInt8) (s:Stp):∀ n x,wkN z s n x=upT z (ray s n x)
 | 0,_=>rfl
 | n+1,x=>by
   unfold wkN ray;split
   ·unfold upT;rw [wk_up z s n (nx x s)]
   ·rfl
theorem mem_up (z:Nat->UInt8) (y:Nat):∀ l:List Nat,y∈upT z l↔∃ i:Nat,l[i]?=some y/\∀ j,j<i->∀ v,l[j]?=some v->z v=46
 | []=>by simp [upT]
 | a :: r=>by
   unfold upT;rw [List.mem_cons];constructor
   ·rintro (rfl|h)
    ·exact ⟨0,rfl,fun j hj=>absurd hj (Nat.not_lt_zero j)⟩
    ·split at h
     ·rename_i ha;obtain ⟨i,h1,h2⟩:=(mem_up z y r).1 h;refine ⟨i+1,by simpa using h1,fun j hj v hv=>?_⟩;cases j with
      | zero=>simp at hv;rw [<-hv];exact ha
      | succ j=>exact h2 j (by omega) v (by simpa using hv)
     ·cases h
   ·rintro ⟨i,h1,h2⟩;cases i with
    | zero=>simp at h1;exact .inl h1.symm
    | succ i =>
     right;have ha:z a=46:=h2 0 (by omega) a rfl;rw [if_pos ha];exact (mem_up z y r).2 ⟨i,by simpa using h1,fun j hj v hv=>h2 (j+1) (by omega) v (by simpa using hv)⟩
theorem hit_up (z:Nat->UInt8) (bw:Bool) (s:Stp):∀ (l:List Nat) (far:Bool),hitL z bw s far (upT z l)=true↔∃ (i y:Nat),l[i]?=some y/\(∀ j,j<i->∀ v,l[j]?=some v->z v=46)/\hitB z bw s (far||decide (0<i)) y=true
 | [],far=>by simp [upT,hitL]
 | a :: r,far=>by
   unfold upT hitL;rw [Bool.or_eq_true];constructor
   ·rintro (h|h)
    ·exact ⟨0,a,rfl,fun j hj=>absurd hj (Nat.not_lt_zero j),by simpa using h⟩
    ·split at h
     ·rename_i ha;obtain ⟨i,y,h1,h2,h3⟩:=(hit_up z bw s r true).1 h;refine ⟨i+1,y,by simpa using h1,fun j hj v hv=>?_,by simpa using h3⟩;cases j with
      | zero=>simp at hv;rw [<-hv];exact ha
      | succ j=>exact h2 j (by omega) v (by simpa using hv)
     ·simp [hitL] at h
   ·rintro ⟨i,y,h1,h2,h3⟩;cases i with
    | zero=>simp at h1;subst h1;left;simpa using h3
    | succ i =>
     right;have ha:z a=46:=h2 0 (by omega) a rfl;rw [if_pos ha];exact (hit_up z bw s r true).2 ⟨i,y,by simpa using h1,fun j hj v hv=>h2 (j+1) (by omega) v (by simpa using hv),by simpa using h3⟩
def rr (k x:Nat):List Nat:=ray (stN k) 8 x
def rayOk (k x i:Nat):Bool:=match (rr k x)[i]? with
 | none=>true
 | some y=>decide (y<64)&&decide (LI (x:Int) (y:Int)=i+1)&&(if k%2=0 then stI (x:Int) (y:Int) else slI (x:Int) (y:Int))&&(List.range (i+1)).all fun j=>decide ((rr k x)[j]?=some (pI (x:Int) (y:Int) (j+1)).toNat)
theorem ray_ok:∀ k,k<8->∀ x,x<64->∀ i,i<8->rayOk k x i=true:=by decide +kernel
theorem ray_len (s:Stp):∀ n x,(ray s n x).length<=n
 | 0,_=>Nat.le_refl _
 | n+1,x=>by
   unfold ray;split
   ·rw [List.length_cons];have:=ray_len s n (nx x s);omega
   ·simp
theorem on_st:∀ x,x<64->∀ y,y<64->stI ((x:Nat):Int) ((y:Nat):Int)=true->([0,2,4,6].any fun k=>(rr k x).contains y)=true:=by decide +kernel
theorem on_sl:∀ x,x<64->∀ y,y<64->slI ((x:Nat):Int) ((y:Nat):Int)=true->([1,3,5,7].any fun k=>(rr k x).contains y)=true:=by decide +kernel
def letr (p:Nat):UInt8:=lettersL.getD p 0
theorem letr_all:∀ n:Nat,n<256->∀ p:Nat,p<12->ixc (UInt8.ofNat n)=(p:Int)->UInt8.ofNat n=letr p:=by decide +kernel
theorem zz {c:UInt8} {p:Nat} (hp:p<12) (h:ixc c=(p:Int)):c=letr p:=by
 have:=letr_all c.toNat c.toNat_lt p hp;rw [UInt8.ofNat_toNat] at this;exact this h
def isFar (i:Nat):Bool:=i==2||i==3||i==4
def neg (s:Stp):Stp:=(-s.1,-s.2)
def par (i k:Nat):Bool:=if k%2=0 then (i==3||i==4) else (i==2||i==4)
theorem far_is:∀ p,p<12->farB (letr p)=isFar (p%6):=by decide +kernel
theorem qjb:∀ p,p<12->isFar (p%6)=true->∀ k,k<16->goesB (letr p) (stN k)=(decide (k<8)&&par (p%6) k)/\goesB (letr p) (neg (stN k))=(decide (k<8)&&par (p%6) k):=by decide +kernel
def nearI (p:Nat) (x y:Int):Bool:=attI (fun _=>46) (p%6) (if p<6 then 1 else -1) x y
theorem near_1:∀ p,p<12->isFar (p%6)=false->∀ k,k<16->∀ x:Nat,x<64->(goesB (letr p) (stN k)&&onB x (stN k))=true->nearI p (x:Int) (nx x (stN k):Nat)=true:=by decide +kernel
theorem near_3:∀ p,p<12->isFar (p%6)=false->∀ k,k<16->∀ x:Nat,x<64->(goesB (letr p) (neg (stN k))&&onB x (stN k))=true->nearI p (nx x (stN k):Nat) (x:Int)=true:=by decide +kernel
theorem near_2:∀ p,p<12->isFar (p%6)=false->∀ x,x<64->∀ y,y<64->nearI p ((x:Nat):Int) ((y:Nat):Int)=true->((List.range 16).any fun k=>goesB (letr p) (stN k)&&onB x (stN k)&&decide (nx x (stN k)=y))=true:=by decide +kernel
theorem near_4:∀ p,p<12->isFar (p%6)=false->∀ x,x<64->∀ y,y<64->nearI p ((y:Nat):Int) ((x:Nat):Int)=true->((List.range 16).any fun k=>goesB (letr p) (neg (stN k))&&onB x (stN k)&&decide (nx x (stN k)=y))=true:=by decide +kernel
theorem man_all:∀ n,n<256->okY (UInt8.ofNat n)=true->∀ b:Bool,manB (UInt8.ofNat n) b=decide (coc (UInt8.ofNat n)=sdb b):=by decide +kernel
theorem qqg {c:UInt8} (h:okY c=true) (b:Bool):manB c b=decide (coc c=sdb b):=by
 have:=man_all c.toNat c.toNat_lt;rw [UInt8.ofNat_toNat] at this;exact this h b
theorem nx_lt {x:Nat} {s:Stp} (h:onB x s=true):nx x s<64:=(nx_is h).2
theorem ray_lt (s:Stp):∀ n x,∀ y∈ray s n x,y<64
 | 0,_,y,h=>by cases h
 | n+1,x,y,h=>by
   unfold ray at h;split at h
   ·rename_i hon;rcases List.mem_cons.1 h with rfl|h
    ·exact nx_lt hon
    ·exact ray_lt s n _ y h
   ·cases h
theorem rr_0 (k x:Nat):(rr k x)[0]?=if onB x (stN k) then some (nx x (stN k)) else none:=by
 unfold rr ray;split<;>rfl
theorem rr_at {k x i y:Nat} (hk:k<8) (hx:x<64) (h:(rr k x)[i]?=some y):y<64/\LI (x:Int) (y:Int)=i+1/\(if k%2=0 then stI (x:Int) (y:Int) else slI (x:Int) (y:Int))=true/\∀ j,j<=i->(rr k x)[j]?=some (pI (x:Int) (y:Int) (j+1)).toNat:=by
 have hi:i<8:=by
  have h1:=(List.getElem?_eq_some_iff.1 h).1;have h2:=ray_len (stN k) 8 x;unfold rr at h1;omega
 have:=ray_ok k hk x hx i hi;unfold rayOk at this;rw [h] at this;simp only [Bool.and_eq_true,decide_eq_true_eq,List.all_eq_true,List.mem_range] at this;exact ⟨this.1.1.1,this.1.1.2,this.1.2,fun j hj=>this.2 j (by omega)⟩
theorem qvy {z:Nat->UInt8} {k x y:Nat} (hk:k<8) (hx:x<64):y∈wkL z (stN k) x↔y∈rr k x/\freeI (zI z) (pI (x:Int) (y:Int)) (LI (x:Int) (y:Int))=true:=by
 have e46:∀ v,z v=46↔zI z v=46:=fun v=>by
  unfold zI;constructor
  ·intro h;rw [h];rfl
  ·intro h;apply UInt8.toNat_inj.1;have:(z v).toNat=46:=by omega
   rw [this];rfl
 unfold wkL;rw [wk_up,mem_up];unfold freeI;rw [decide_eq_true_eq];constructor
 ·rintro ⟨i,h1,h2⟩;obtain ⟨a1,a2,a3,a4⟩:=rr_at hk hx h1;refine ⟨List.mem_iff_getElem?.2 ⟨i,h1⟩,fun t ht t1=>?_⟩;have h3:=a4 (t-1) (by omega);rw [show t-1+1=t from by omega] at h3;exact (e46 _).1 (h2 (t-1) (by omega) _ h3)
 ·rintro ⟨h1,h2⟩;obtain ⟨i,h1⟩:=List.mem_iff_getElem?.1 h1;obtain ⟨a1,a2,a3,a4⟩:=rr_at hk hx h1;refine ⟨i,h1,fun j hj v hv=>?_⟩;have h3:=a4 j (by omega);rw [show ray (stN k) 8 x=rr k x from rfl,h3] at hv;rw [<-Option.some.inj hv];exact (e46 _).2 (h2 (j+1) (by omega) (by omega))
theorem far_mem {z:Nat->UInt8} {i x y:Nat} {s:Int} (hi:isFar i=true) (hx:x<64) (hy:y<64):(∃ k,k<8/\par i k=true/\y∈wkL z (stN k) x)↔attI (zI z) i s (x:Int) (y:Int)=true:=by
 have ha:attI (zI z) i s (x:Int) (y:Int)=(((i==3||i==4)&&stI (x:Int) (y:Int)||(i==2||i==4)&&slI (x:Int) (y:Int))&&freeI (zI z) (pI (x:Int) (y:Int)) (LI (x:Int) (y:Int))):=by
  have:i=2\/i=3\/i=4:=by simp [isFar] at hi;omega
  rcases this with rfl|rfl|rfl<;>simp [attI]
 rw [ha,Bool.and_eq_true,Bool.or_eq_true,Bool.and_eq_true,Bool.and_eq_true];constructor
 ·rintro ⟨k,hk,hp,hm⟩;obtain ⟨m1,m2⟩:=(qvy hk hx).1 hm;obtain ⟨j,hj⟩:=List.mem_iff_getElem?.1 m1;obtain ⟨a1,a2,a3,a4⟩:=rr_at hk hx hj;refine ⟨?_,m2⟩;unfold par at hp;split at hp
  ·rename_i h2;rw [if_pos h2] at a3;exact .inl ⟨hp,a3⟩
  ·rename_i h2;rw [if_neg h2] at a3;exact .inr ⟨hp,a3⟩
 ·rintro ⟨h1,h2⟩;rcases h1 with ⟨p1,p2⟩|⟨p1,p2⟩
  ·obtain ⟨k,hk,hm⟩:=List.any_eq_true.1 (on_st x hx y hy p2);have hk':k<8/\k%2=0:=by simp at hk;omega
   exact ⟨k,hk'.1,by unfold par;rw [if_pos hk'.2];exact p1,(qvy hk'.1 hx).2 ⟨by simpa using hm,h2⟩⟩
  ·obtain ⟨k,hk,hm⟩:=List.any_eq_true.1 (on_sl x hx y hy p2);have hk':k<8/\¬ (k%2=0):=by simp at hk;omega
   exact ⟨k,hk'.1,by unfold par;rw [if_neg hk'.2];exact p1,(qvy hk'.1 hx).2 ⟨by simpa using hm,h2⟩⟩
theorem qvx {z:Nat->UInt8} {p:Nat} (hp:p<12) (h:isFar (p%6)=false) (bw:Bool) (hb:p/6=bg bw/6) (x y:Int):nearI p x y=attI (zI z) (p%6) (sdb bw) x y:=by
 have hs:(if p<6 then (1:Int) else -1)=sdb bw:=by
  cases bw
  ·rw [if_neg (by simp [bg] at hb;omega)];rfl
  ·rw [if_pos (by simp [bg] at hb;omega)];rfl
 unfold nearI;rw [hs];have:p%6=0\/p%6=1\/p%6=5:=by simp [isFar] at h;omega
 rcases this with e|e|e<;>(rw [e];simp [attI])
theorem wk_take (z:Nat->UInt8) (s:Stp) (x:Nat):(wkL z s x).take 1=if onB x s then [nx x s] else []:=by
 unfold wkL wkN;split<;>rfl
theorem qqy {z:Nat->UInt8} {f:Nat} (hf:f<64) {bw:Bool} {i:Nat} (hi:i<6) (hc:ixc (z f)=((bg bw+i:Nat):Int)) {y:Nat} (hy:y<64):y∈attU z f 16↔attI (zI z) i (sdb bw) (f:Int) (y:Int)=true:=by
 have hbg:bg bw=0\/bg bw=6:=by cases bw<;>simp [bg]
 have hp:bg bw+i<12:=by omega
 have hz:=zz hp hc;have hm:(bg bw+i)%6=i:=by omega
 have hd:(bg bw+i)/6=bg bw/6:=by omega
 unfold attU;rw [List.mem_flatMap];cases hfar:isFar i with
 | true =>
  rw [<-far_mem (s:=sdb bw) hfar hf hy];have hF:=far_is (bg bw+i) hp;have hG:=qjb (bg bw+i) hp (by rw [hm];exact hfar);rw [hm] at hF hG;constructor
  ·rintro ⟨k,hk,h⟩;have hk:=List.mem_range.1 hk;unfold attS at h;rw [hz,(hG k hk).1,hF,hfar,if_pos rfl] at h;split at h
   ·rename_i hg;rw [Bool.and_eq_true,decide_eq_true_eq] at hg;exact ⟨k,hg.1,hg.2,h⟩
   ·cases h
  ·rintro ⟨k,hk,h1,h2⟩;refine ⟨k,List.mem_range.2 (by omega),?_⟩;unfold attS;rw [hz,(hG k (by omega)).1,hF,hfar,if_pos (by rw [h1];simp [hk]),if_pos rfl];exact h2
 | false =>
  rw [<-hm,<-qvx hp (by rw [hm];exact hfar) bw hd];have hF:=far_is (bg bw+i) hp;rw [hm] at hF;constructor
  ·rintro ⟨k,hk,h⟩;have hk:=List.mem_range.1 hk;unfold attS at h;rw [hz,hF,hfar,wk_take] at h;split at h
   ·rename_i hg;rw [if_neg (by simp)] at h;split at h
    ·rename_i hon;rw [List.mem_singleton.1 h];exact near_1 _ hp (by rw [hm];exact hfar) k hk f hf (by rw [hg,hon];rfl)
    ·cases h
   ·cases h
  ·intro h;obtain ⟨k,hk,h2⟩:=List.any_eq_true.1 (near_2 _ hp (by rw [hm];exact hfar) f hf y hy h);simp only [Bool.and_eq_true,decide_eq_true_eq] at h2;refine ⟨k,hk,?_⟩;unfold attS;rw [hz,hF,hfar,wk_take,if_pos h2.1.1,if_neg (by simp),if_pos h2.1.2,h2.2];exact List.mem_singleton.2 rfl
theorem qkc {z:Nat->UInt8} (hok:layOk z=true) {i:Nat} (hi:i<6) (h0:i≠0) {s t:Int} {x y:Nat} (hx:x<64) (hy:y<64):attI (zI z) i s (x:Int) (y:Int)=attI (zI z) i t (y:Int) (x:Int):=by
 have e1:=qqe hok true i hi y x hy hx;have e2:=qqe hok true i hi x y hx hy;have hk:kindN true i=i+2:=by unfold kindN;rw [if_neg h0]
 rw [hk] at e1 e2;rw [zw _ i h0 s (sdb true),zw _ i h0 t (sdb true),<-e1,<-e2];exact reach_sym (i+2) y x (by omega) (by omega) hy hx _
theorem ji {z:Nat->UInt8} (hok:layOk z=true) {n:Nat} (hn:n<64):okY (z n)=true:=by
 unfold layOk at hok;exact List.all_eq_true.1 hok n (List.mem_range.2 hn)
theorem jb {z:Nat->UInt8} (hok:layOk z=true) {x:Nat} (hx:x<64) (bw:Bool):attLB z x bw=attR z (x:Int) bw:=by
 have hbg:bg bw=0\/bg bw=6:=by cases bw<;>simp [bg]
 rw [Bool.eq_iff_iff];unfold attLB attR;rw [List.any_eq_true,List.any_eq_true];constructor
 ·rintro ⟨k,hk,h⟩;have hk:=List.mem_range.1 hk;unfold wkL at h;rw [wk_up] at h;obtain ⟨i,n,h1,h2,h3⟩:=(hit_up z bw (stN k) _ false).1 h;have hn:n<64:=ray_lt (stN k) 8 x n (List.mem_iff_getElem?.2 ⟨i,h1⟩);unfold hitB at h3;rw [Bool.and_eq_true,Bool.and_eq_true,qqg (ji hok hn),decide_eq_true_eq] at h3;obtain ⟨⟨hm,hg⟩,hfr⟩:=h3;refine ⟨n,List.mem_range.2 hn,?_⟩;rw [Bool.and_eq_true,decide_eq_true_eq];refine ⟨hm,?_⟩;obtain ⟨i',hi',e1,e2⟩:=zh hm;rw [e2];have hp:bg bw+i'<12:=by omega
  have hz:=zz hp e1;have hmd:(bg bw+i')%6=i':=by omega
  have hF:=far_is (bg bw+i') hp;rw [hz,show ((-(stN k).1,-(stN k).2):Stp)=neg (stN k) from rfl] at hg;rw [hz] at hfr;cases hfar:isFar i' with
  | true =>
   have hG:=(qjb (bg bw+i') hp (by rw [hmd];exact hfar) k hk).2;rw [hG,hmd,Bool.and_eq_true,decide_eq_true_eq] at hg
   have hmem:n∈wkL z (stN k) x:=by
    unfold wkL;rw [wk_up];exact (mem_up z n _).2 ⟨i,h1,h2⟩
   rw [qkc hok hi' (by simp [isFar] at hfar;omega) (t:=sdb bw) hn hx];exact (far_mem hfar hx hn).1 ⟨k,hg.1,hg.2,hmem⟩
  | false =>
   rw [hF,hmd,hfar] at hfr
   have hi0:i=0:=by
    rcases Nat.eq_zero_or_pos i with e|e
    ·exact e
    ·simp [e] at hfr
   subst hi0;rw [show ray (stN k) 8 x=rr k x from rfl,rr_0] at h1;split at h1
   ·rename_i hon;have hnx:=Option.some.inj h1;have:=near_3 _ hp (by rw [hmd];exact hfar) k hk x hx (by rw [hg,hon];rfl);rw [hnx,qvx (z:=z) hp (by rw [hmd];exact hfar) bw (by omega),hmd] at this;exact this
   ·cases h1
 ·rintro ⟨n,hn,h⟩;have hn:=List.mem_range.1 hn;rw [Bool.and_eq_true,decide_eq_true_eq] at h;obtain ⟨hm,ha⟩:=h;obtain ⟨i',hi',e1,e2⟩:=zh hm;rw [e2] at ha;have hp:bg bw+i'<12:=by omega
  have hz:=zz hp e1;have hmd:(bg bw+i')%6=i':=by omega
  have hF:=far_is (bg bw+i') hp;rw [hmd] at hF;have hman:manB (z n) bw=true:=by rw [qqg (ji hok hn)];exact decide_eq_true hm
  cases hfar:isFar i' with
  | true =>
   rw [qkc hok hi' (by simp [isFar] at hfar;omega) (t:=sdb bw) hn hx] at ha;obtain ⟨k,hk,hpr,hmem⟩:=(far_mem hfar hx hn).2 ha;have hG:=(qjb (bg bw+i') hp (by rw [hmd];exact hfar) k (by omega)).2;refine ⟨k,List.mem_range.2 (by omega),?_⟩;unfold wkL at hmem ⊢;rw [wk_up] at hmem ⊢;obtain ⟨i,h1,h2⟩:=(mem_up z n _).1 hmem;refine (hit_up z bw (stN k) _ false).2 ⟨i,n,h1,h2,?_⟩;unfold hitB;rw [hman,hz,show ((-(stN k).1,-(stN k).2):Stp)=neg (stN k) from rfl,hG,hmd,hpr,hF,hfar];simp [hk]
  | false =>
   rw [<-hmd,<-qvx hp (by rw [hmd];exact hfar) bw (by omega)] at ha;obtain ⟨k,hk,h2⟩:=List.any_eq_true.1 (near_4 _ hp (by rw [hmd];exact hfar) x hx n hn ha);simp only [Bool.and_eq_true,decide_eq_true_eq] at h2;refine ⟨k,hk,?_⟩;unfold wkL;rw [wk_up];refine (hit_up z bw (stN k) _ false).2 ⟨0,n,?_,fun j hj=>absurd hj (Nat.not_lt_zero j),?_⟩
   ·rw [show ray (stN k) 8 x=rr k x from rfl,rr_0,if_pos h2.1.2,h2.2]
   ·unfold hitB;rw [hman,hz,show ((-(stN k).1,-(stN k).2):Stp)=neg (stN k) from rfl,h2.1.1];simp
structure Can (z:Nat->UInt8) (wh:Bool) (fc:Nat->Bool) (b:Int):Prop where
 ok:layOk z=true
 k1:∀ bb,kinR z bb 64=1
 pw:∀ bb:Bool,∀ n,n<64->ixc (z n)=((bg bb:Nat):Int)->¬ (n/8=0\/n/8=7)
 c0:fc 0=true->z 4=75/\z 7=82
 c1:fc 1=true->z 4=75/\z 0=82
 c2:fc 2=true->z 60=107/\z 63=114
 c3:fc 3=true->z 60=107/\z 56=114
 beh:behOk z wh b=true
theorem u8_of {c:UInt8} {n:Int} {d:UInt8} (h:(c.toNat:Int)=n) (hd:(d.toNat:Int)=n):c=d:=UInt8.toNat_inj.1 (by omega)
theorem qv9 {z:Nat->UInt8} {wh:Bool} {fc:Nat->Bool} {b h g:Int} (hc:canS z wh fc b h g=true):Can z wh fc b:=by
 unfold canS canM at hc;simp only [Bool.and_eq_true] at hc;obtain ⟨hok,⟨⟨⟨⟨h1,h2⟩,h3⟩,h4⟩,_⟩,_⟩:=hc;have hs:∀ bb,sideOk (layS z 64) bb=true:=fun bb=>by cases bb<;>assumption
 have hca:∀ i,i<4->castN z fc i=true:=fun i hi=>List.all_eq_true.1 h3 i (List.mem_range.2 hi)
 have cc:∀ ks kl rs rl k (a d:UInt8),(a.toNat:Int)=kl->(d.toNat:Int)=rl->castAt z fc ks kl rs rl k=true->fc k=true->z ks=a/\z rs=d:=by
  intro ks kl rs rl k a d ha hd h hf;unfold castAt at h;rw [hf] at h;simp only [Bool.not_true,Bool.false_or,Bool.and_eq_true,decide_eq_true_eq] at h;exact ⟨u8_of h.1 ha,u8_of h.2 hd⟩
 refine ⟨hok,fun bb=>?_,fun bb=>?_,cc _ _ _ _ _ _ _ rfl rfl (hca 0 (by omega)),cc _ _ _ _ _ _ _ rfl rfl (hca 1 (by omega)),cc _ _ _ _ _ _ _ rfl rfl (hca 2 (by omega)),cc _ _ _ _ _ _ _ rfl rfl (hca 3 (by omega)),h4⟩
 ·have:=hs bb;unfold sideOk at this;simp only [Bool.and_eq_true,decide_eq_true_eq] at this;have h:=this.1.1;rw [kings_len] at h;omega
 ·have:=hs bb;unfold sideOk at this;simp only [Bool.and_eq_true,decide_eq_true_eq] at this;exact (qq2 z bb).1 this.2
theorem dot_bit {z:Nat->UInt8} (hok:layOk z=true) {n:Nat} (hn:n<64):(takenB (layS z 64)).getLsbD n=!(z n==46):=by
 rw [taken_bit z n hn];have h:=ji hok hn;rw [ok_ix] at h;cases hz:(z n==46) with
 | true =>
  have:z n=46:=by simpa using hz
  rw [this];decide +kernel
 | false=>rw [hz,Bool.false_or] at h;simpa using h
theorem own_oth (m:Nat->BitVec 64) (wh:Bool):sideB m wh ||| sideB m (!wh)=takenB m:=by
 cases wh
 ·exact BitVec.or_comm _ _
 ·rfl
theorem qjm {z:Nat->UInt8} (hok:layOk z=true) {wh:Bool} {i:Nat} (hi:i<6) {f t:Nat} (hf:f<64) (ht:t<64):(reachB (kndN wh i) f (takenB (layS z 64))).getLsbD t=attI (zI z) i (sdb wh) (f:Int) (t:Int):=by
 by_cases h:i=0
 ·subst h;cases wh
  ·show (reachB 2 f _).getLsbD t=_;have e1:reachB 2 f (takenB (layS z 64))=bpB f:=rfl;rw [e1,bp_is f hf t ht];rfl
  ·show (reachB 1 f _).getLsbD t=_;have e1:reachB 1 f (takenB (layS z 64))=wpB f:=rfl;rw [e1,wp_is f hf t ht];rfl
 ·have hk:kndN wh i=i+2:=by unfold kndN;rw [if_neg h]
  have e2:=qqe hok true i hi f t hf ht;have hk2:kindN true i=i+2:=by unfold kindN;rw [if_neg h]
  rw [hk,<-hk2,e2];exact qkc hok hi h ht hf
theorem qvw (s:BitVec 64) {n:Nat} (hn:n<64):(~~~s).getLsbD n=!(s.getLsbD n):=by
 rw [BitVec.getLsbD_not];simp [hn]
theorem man_bit {z:Nat->UInt8} (hok:layOk z=true) (wh:Bool) {n:Nat} (hn:n<64):(sideB (layS z 64) wh).getLsbD n=manB (z n) wh:=by
 rw [qx8 z wh n hn,qqg (ji hok hn)]
theorem pk_all:∀ p,p<12->pawnB (letr p)=decide (p%6=0)/\kingB (letr p)=decide (p%6=5):=by decide +kernel
theorem zp {z:Nat->UInt8} {wh:Bool} {i f:Nat} (hi:i<6) (hc:ixc (z f)=((bg wh+i:Nat):Int)):pawnB (z f)=decide (i=0)/\kingB (z f)=decide (i=5):=by
 have hbg:bg wh=0\/bg wh=6:=by cases wh<;>simp [bg]
 rw [zz (by omega) hc];have:=pk_all (bg wh+i) (by omega)
 rwa [show (bg wh+i)%6=i from by omega] at this
theorem targ_mid {z:Nat->UInt8} {wh:Bool} {fc:Nat->Bool} {b:Int} (hok:layOk z=true) {i f t:Nat} (h0:i≠0) (h5:i≠5) (hi:i<6) (hf:f<64) (ht:t<64) (hc:ixc (z f)=((bg wh+i:Nat):Int)) :
  t∈tgL z wh fc b f↔(targB (layS z 64) wh (sideB (layS z 64) wh) (sideB (layS z 64) (!wh)) (behB b) fc i (kndN wh i) f).getLsbD t=true:=by
 obtain ⟨hp,hk⟩:=zp hi hc;rw [decide_eq_false h0] at hp;rw [decide_eq_false h5] at hk;unfold tgL targB;rw [hp,hk,if_neg h0,if_neg h5,own_oth,BitVec.getLsbD_and,qjm hok hi hf ht,qvw _ ht,man_bit hok wh ht,Bool.and_eq_true,<-qqy hf hi hc ht];simp only [Bool.false_eq_true,if_false,List.append_nil,List.mem_filter];unfold mayB;rw [hp,if_neg (by simp)]
end Go.Proofs.YtnfakamfmkhlbaaGreatDoor.C
