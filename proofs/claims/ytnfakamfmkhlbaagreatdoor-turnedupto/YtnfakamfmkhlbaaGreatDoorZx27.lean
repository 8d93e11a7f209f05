import Derived.Test.YtnfakamfmkhlbaaGreatDoorZx26
import Derived.Test.YtnfakamfmkhlbaaGreatDoorZx18
import Derived.Test.YtnfakamfmkhlbaaGreatDoorZx15
import Derived.Test.YtnfakamfmkhlbaaGreatDoorKz2
set_option maxRecDepth 100000
set_option maxHeartbeats 4000000
set_option linter.unusedSimpArgs false
namespace Go.Proofs.YtnfakamfmkhlbaaGreatDoor.C
open Go.ChangeShapes Go.WideShapes Go.ChangeAt Go.RowKit Go.Shelf
open Go.Proofs.YtnfakamfmkhlbaaGreatDoor.P
attribute [local go_sem] qb qd Oper.semAt_some
def letP (z:Nat->UInt8) (wh:Bool) (b:Int) (x:Mv):Bool:=!(attLB (plZ z b x) (kingR (plZ z b x) wh).toNat (!wh))
def letL (z:Nat->UInt8) (wh:Bool) (fc:Nat->Bool) (b:Int):List Mv:=(alU z wh fc b 64).filter (letP z wh b)
structure LetOk (z:Nat->UInt8) (wh:Bool) (fc:Nat->Bool) (b:Int):Prop where
 home:KgHome z wh fc
 k1:∀ f t u,(f,t,u)∈alU z wh fc b 64->kingB (z f)=true->t=f+2->f+3<64
 k2:∀ f t u,(f,t,u)∈alU z wh fc b 64->kingB (z f)=true->t+2=f->4<=f
 kg:∀ x,x∈alU z wh fc b 64->∃ y:Nat,y<64/\kingR (plZ z b x) wh=(y:Int)
theorem alU_ok {z:Nat->UInt8} {wh:Bool} {fc:Nat->Bool} {b:Int} (hh:KgHome z wh fc) {x:Mv} (h:x∈alU z wh fc b 64):okM x:=by
 unfold alU alS at h;obtain ⟨f,hf,h⟩:=List.mem_flatMap.1 h;have hf':=List.mem_range.1 hf;split at h
 ·rename_i hm;obtain ⟨t,ht,h⟩:=List.mem_flatMap.1 h;exact turns_ok hf' (tg_lt hf' (hh f hf' hm) ht) h
 ·cases h
theorem attS_len (z:Nat->UInt8) (f k:Nat):(attS z f k).length<=8:=by
 have hw:∀ n x,(wkN z (stN k) n x).length<=n:=by
  intro n;induction n with
  | zero=>intro x;simp [wkN]
  | succ n ih =>
   intro x;unfold wkN;split
   ·have:=ih (nx x (stN k));split
    ·simp;omega
    ·simp
   ·simp
 unfold attS;split
 ·split
  ·exact hw 8 f
  ·have:=hw 8 f;simp only [List.length_take];unfold wkL;omega
 ·simp
theorem tg_len (z:Nat->UInt8) (wh:Bool) (fc:Nat->Bool) (b:Int) (f:Nat):(tgL z wh fc b f).length<=130:=by
 unfold tgL;rw [List.length_append];have h1:((attU z f 16).filter (mayB z wh b f)).length<=16*8:=Nat.le_trans (List.length_filter_le _ _) (xo (by simp) fun k _=>attS_len z f k)
 have h2:(if pawnB (z f) then ahT z (ahM wh f) (wkL z (0,ahS wh) f) else if kingB (z f) then cgR z wh fc f++cgM z wh fc f else []).length<=2:=by
  split
  ·unfold ahT;have e1:=(List.takeWhile_prefix (fun v=>z v==46) (l:=(wkL z (0,ahS wh) f).take (ahM wh f))).length_le;have e2:=List.length_take_le (ahM wh f) (wkL z (0,ahS wh) f);have e3:=ahM_le wh f;omega
  ·split
   ·rw [List.length_append];have e1:(cgR z wh fc f).length<=1:=by unfold cgR;split<;>simp
    have e2:(cgM z wh fc f).length<=1:=by unfold cgM;split<;>simp
    omega
   ·simp
 omega
theorem letL_len (z:Nat->UInt8) (wh:Bool) (fc:Nat->Bool) (b:Int):(letL z wh fc b).length<=1000000:=by
 have h:(alU z wh fc b 64).length<=64*(130*4):=by
  unfold alU;refine xo (by simp) fun f _=>?_
  unfold alS;split
  ·exact xo (tg_len z wh fc b f) fun t _=>turns_len _ _ _
  ·simp
 have:=List.length_filter_le (letP z wh b) (alU z wh fc b 64);unfold letL;omega
theorem qx0 (PA:Array Value) (w:World):Calls Tryz.prog 98 #[.agg PA] w fun e w'=>∃ B1 Bt Bf,e=.returned (.func (.func 235) #[] #[.pointer (some ⟨Bt,0,none⟩),.pointer (some ⟨Bf,0,none⟩)])/\w'.heap[w.heap.size]?=some (.cells PA 25)/\w'.heap[B1]?=some (.cells #[.pointer (some ⟨w.heap.size,0,none⟩)] 250)/\w'.heap[Bt]?=some (.cells #[.func (.func 236) #[] #[.pointer (some ⟨B1,0,none⟩)]] 178)/\w'.heap[Bf]?=some (.cells #[.func (.func 165) #[] #[.pointer (some ⟨w.heap.size,0,none⟩)]] 252)/\Gr w w':=by
 have hmf:∀ (fn:Fn) (first cap:Array Value) (w:World),(Instr.makeFunc fn first cap).run Tryz.prog w=.ok (.func fn first cap) w:=fun _ _ _ _=>rfl
 have x1:=World.alloc_heap_new w (.cells PA 25);have hg1:Gr w (w.alloc (.cells PA 25)):=(Gr.refl w).alloc _ _;go_enter Tryz.func98,Tryz.ntmps98
 go_wp2_with (first
  | (go_at_call 164;refine (allMoves_mk _ _).mono ?_;rintro e w2 ⟨rfl,x2,hg2⟩)
  | (go_at_call 163;refine (only_mk _ _ _ _ _).mono ?_;rintro e w3 ⟨rfl,x3,x4,hg3⟩))
 go_ret;have hg23:=Gr.trans hg2 hg3;rw [World.size_alloc] at x2;exact ⟨w.heap.size+1,_,_,rfl,(Below.block hg23 _ (Array.getElem?_eq_some_iff.1 x1).1).trans x1,(Below.block hg3 _ (Array.getElem?_eq_some_iff.1 x2).1).trans x2,x3,x4,Gr.trans hg1 hg23⟩
theorem mkL {z:Nat->UInt8} {wh:Bool} {fc:Nat->Bool} {b h g:Int} {PA:Array Value} (r:Row z wh fc b h g PA) (hok:LetOk z wh fc b) (w:World) (hS:StTab w) :
  MkIt 98 235 PA (letL z wh fc b) w where
 em:=enters_of Tryz.func98 (by kernel_rfl) rfl
 ei:=enters_of Tryz.func235 (by kernel_rfl) rfl
 ok:=fun x hx=>alU_ok hok.home (List.mem_filter.1 hx).1
 len:=letL_len z wh fc b
 go:=by
  intro T hTm W hg;refine (qx0 PA W).mono ?_;rintro e w' ⟨B1,Bt,Bf,rfl,hp,h1,ht,hf,hg2⟩;have hgw:=Gr.trans hg hg2;have hS':=hS.gr hgw;have hps:=Ps.of r hp;have hit:=allMoves_it hok.home B1 W.heap.size T hTm w' (qc h1).1 hps hS';refine ⟨_,_,rfl,hg2,?_,onlyM_it hit (enters_of Tryz.func236 (by kernel_rfl) rfl) (enters_of Tryz.func165 (by kernel_rfl) rfl) (OnlyMv.cells hTm) (fun c fr=>OnlyMv.no hTm (by decide)) ?_ Bt Bf (letP z wh b) ht hf ?_⟩
  ·rintro k ((rfl|rfl|rfl)|rfl|rfl)
   ·exact (Array.getElem?_eq_some_iff.1 h1).1
   ·exact (Array.getElem?_eq_some_iff.1 hp).1
   ·exact hS'.2
   ·exact (Array.getElem?_eq_some_iff.1 ht).1
   ·exact (Array.getElem?_eq_some_iff.1 hf).1
  ·rintro k (rfl|rfl|rfl)
   ·exact (Array.getElem?_eq_some_iff.1 h1).1
   ·exact (Array.getElem?_eq_some_iff.1 hp).1
   ·exact hS'.2
  ·rintro ⟨f,t,u⟩ hx V fV;obtain ⟨y,hy,hky⟩:=hok.kg _ hx;have hm:=alU_ok hok.home hx;have:=judge_any r f t u hm.1 hm.2 (hok.k1 f t u hx) (hok.k2 f t u hx) y hy hky W.heap.size V (fV.same _ _ hp (.inr (.inl rfl))) (hS'.fr fV (fun _=>.inr (.inr rfl)));have e:letP z wh b (f,t,u)=!(attLB (plZ z b (f,t,u)) y (!wh)):=by unfold letP;rw [hky];rfl
   rw [e];exact this
def nilW:Array Value:=#[.nilFunc,.nilFunc]
def letA:Array Value:=wayA 97 98
def setA:Array Value:=wayA 104 105
theorem infoW:(Tryz.prog.info? 84).map (·.size)=some 2:=by kernel_rfl
theorem zz (a b:Nat):(wayA a b).all (·.oneCell')=true:=by simp [wayA,Value.oneCell']
theorem nilW_ones:nilW.all (·.oneCell')=true:=by simp [nilW,Value.oneCell']
theorem qxt (w:World):Calls Tryz.prog 47 #[] w fun e w'=>e=.returned (.agg setA)/\Gr w w':=by
 go_enter Tryz.func47,Tryz.ntmps47;go_wp2_with (refine wpList_store_row rfl 84 _ _ rfl w.heap.size setA rfl rfl 84 nilW (heap_alloc_new _ _) infoW rfl (zz _ _) ?_);exact bodyPost_ret (v:=.agg setA) (results_cell_row Tryz.results47 _ _ w.heap.size 84 _ (0,0) _ rfl (setRow_heap _ _ _ _ _ _ (heap_alloc_new w _)) Tryz.underlying84 rfl infoW) rfl ⟨rfl,((Gr.refl w).alloc _ _).setRow _ (Nat.le_refl _) _⟩
def ofV (n:Int):Value:=if n=1 then .tuple #[.agg letA,.bool true] else if n=2 then .tuple #[.agg setA,.bool true] else .tuple #[.agg nilW,.bool false]
theorem of_any (n:Int) (w:World):Calls Tryz.prog 44 #[.int .i64 n] w fun e w'=>e=.returned (ofV n)/\Gr w w':=by
 by_cases h1:n=1
 ·subst h1;go_enter Tryz.func44,Tryz.ntmps44;go_wp2_with (refine wpList_store_row rfl 84 _ _ rfl w.heap.size letA rfl rfl 84 nilW (heap_alloc_new _ _) infoW rfl (zz _ _) ?_);exact bodyPost_ret (v:=.tuple #[.agg letA,.bool true]) (qe Tryz.results44 _ _ w.heap.size 84 _ (0,0) _ rfl (setRow_heap _ _ _ _ _ _ (heap_alloc_new w _)) Tryz.underlying84 rfl infoW) rfl ⟨rfl,((Gr.refl w).alloc _ _).setRow _ (Nat.le_refl _) _⟩
 ·by_cases h2:n=2
  ·subst h2;have e0:Hid ((w.alloc (.cells nilW 84)).heap[w.heap.size]?=some (.cells nilW 84)):=hide (heap_alloc_new w _);have g0:Hid (Gr w (w.alloc (.cells nilW 84))):=hide ((Gr.refl w).alloc _ _);have l0:Hid (w.heap.size<(w.alloc (.cells nilW 84)).heap.size):=hide (by rw [World.size_alloc];omega);go_enter Tryz.func44,Tryz.ntmps44
   go_wp2_with (first
    | (go_at_call 47;refine (qxt _).mono ?_;rintro e w2 ⟨rfl,hg2⟩;have e2:=(Below.block hg2 _ (qa l0)).trans (qa e0))
    | (refine wpList_store_row rfl 84 _ _ rfl w.heap.size setA rfl rfl 84 nilW e2 infoW rfl (zz _ _) ?_))
   exact bodyPost_ret (v:=.tuple #[.agg setA,.bool true]) (qe Tryz.results44 _ _ w.heap.size 84 _ (0,0) _ rfl (setRow_heap _ _ _ _ _ _ e2) Tryz.underlying84 rfl infoW) rfl ⟨rfl,(Gr.trans (qa g0) hg2).setRow _ (Nat.le_refl _) _⟩
  ·have hv:ofV n=.tuple #[.agg nilW,.bool false]:=by unfold ofV;rw [if_neg h1,if_neg h2]
   rw [hv];go_enter Tryz.func44,Tryz.ntmps44;go_wp2_with (refine wpList_store_row rfl 84 _ _ rfl w.heap.size nilW rfl rfl 84 nilW (heap_alloc_new _ _) infoW rfl nilW_ones ?_);exact bodyPost_ret (v:=.tuple #[.agg nilW,.bool false]) (qe Tryz.results44 _ _ w.heap.size 84 _ (0,0) _ rfl (setRow_heap _ _ _ _ _ _ (heap_alloc_new w _)) Tryz.underlying84 rfl infoW) rfl ⟨rfl,((Gr.refl w).alloc _ _).setRow _ (Nat.le_refl _) _⟩
structure Ct (m:Int) (w:World):Prop where
 mx:w.cell? ⟨4,0,none⟩=some (.int .i64 m)
 ml:4<w.heap.size
 tab:TabIn w
 homes:Homes w
theorem Ct.gr {m:Int} {w w':World} (h:Ct m w) (g:Gr w w'):Ct m w' :=
 ⟨(Below.cell g (p:=⟨4,0,none⟩) h.ml).trans h.mx,Nat.lt_of_lt_of_le h.ml (Below.size g),h.tab.gr g,h.homes.gr g⟩
def waL (p:Pos) (n:Int):List Mv:=if n=1 then letL (posZ p) p.white p.castle p.behind else movS (posZ p) p.white p.castle p.behind
def nilS:Value:=.slice none 0 0
def MovesEnd (s:ByteArray) (n:Int) (base:Nat) (e:Ending) (w':World):Prop :=
 (readS s=none/\e=.returned (.tuple #[nilS,.int .i64 1])) ∨
 (∃ p,readS s=some p/\posCan p=false/\e=.returned (.tuple #[nilS,.int .i64 2])) ∨
 (∃ p,readS s=some p/\posCan p=true/\¬ (n=1\/n=2)/\e=.returned (.tuple #[nilS,.int .i64 3])) ∨
 (∃ p v,readS s=some p/\posCan p=true/\(n=1\/n=2)/\e=.returned (.tuple #[v,.int .i64 0])/\Strs base v (txts (sortM (waL p n))) w')
theorem strs_le {base base':Nat} {v:Value} {xs:List ByteArray} {w:World} (h:Strs base v xs w) (hb:base'<=base):Strs base' v xs w:=by
 refine ⟨h.1,?_⟩;rcases h.2 with ⟨a,b⟩|⟨g,cap,cur,e,hg,r⟩
 ·exact .inl ⟨a,b⟩
 ·exact .inr ⟨g,cap,cur,e,Nat.le_trans hb hg,r⟩
structure Tabs (w:World):Prop where
 cas:CasTab w
 st:StTab w
theorem Tabs.gr {w w':World} (h:Tabs w) (g:Gr w w'):Tabs w':=⟨h.cas.gr g,h.st.gr g⟩
theorem can_lay {p:Pos} (h:posCan p=true):layOk (posZ p)=true:=by
 unfold posCan canS at h;simp only [Bool.and_eq_true] at h;exact h.1
theorem qxb {s:ByteArray} {p:Pos} (h:readS s=some p):-1<=p.behind/\p.behind<=63:=by
 obtain ⟨B,_,_,_,hb,_⟩:=qqb s p h;omega
def BadK (s:ByteArray) (k:Int):Prop:=(k=1/\readS s=none)\/(k=2/\∃ p,readS s=some p/\posCan p=false)
theorem xq (s:ByteArray):(∃ p,readS s=some p/\posCan p=true/\∀ e,ParseEnd s e->e=.returned (.tuple #[.agg (posV p),.int .i64 0]))\/(∃ k,k≠0/\BadK s k/\∀ e,ParseEnd s e->e=.returned (.tuple #[.agg Tryz.zeroCells25,.int .i64 k])):=by
 cases hr:readS s with
 | none =>
  refine .inr ⟨1,by decide,.inl ⟨rfl,hr⟩,fun e h=>?_⟩;rcases h with ⟨q,q1,_,_⟩|⟨q,q1,_,_⟩|⟨_,rfl⟩
  ·rw [hr] at q1;cases q1
  ·rw [hr] at q1;cases q1
  ·rfl
 | some p =>
  cases hc:posCan p with
  | true =>
   refine .inl ⟨p,rfl,hc,fun e h=>?_⟩;rcases h with ⟨q,q1,q2,rfl⟩|⟨q,q1,q2,_⟩|⟨q1,_⟩
   ·rw [hr] at q1;obtain rfl:=Option.some.inj q1;rfl
   ·rw [hr] at q1;obtain rfl:=Option.some.inj q1;rw [hc] at q2;cases q2
   ·rw [hr] at q1;cases q1
  | false =>
   refine .inr ⟨2,by decide,.inr ⟨rfl,p,hr,hc⟩,fun e h=>?_⟩;rcases h with ⟨q,q1,q2,rfl⟩|⟨q,q1,q2,rfl⟩|⟨q1,_⟩
   ·rw [hr] at q1;obtain rfl:=Option.some.inj q1;rw [hc] at q2;cases q2
   ·rfl
   ·rw [hr] at q1;cases q1
theorem bad_moves {s:ByteArray} {n k:Int} {base:Nat} {w':World} (h:BadK s k):MovesEnd s n base (.returned (.tuple #[nilS,.int .i64 k])) w':=by
 rcases h with ⟨rfl,h⟩|⟨rfl,p,h1,h2⟩
 ·exact .inl ⟨h,rfl⟩
 ·exact .inr (.inl ⟨p,h1,h2,rfl⟩)
theorem qqa (s:ByteArray) (hs:s.size<4294967281) (n:Int) (hL:∀ p,readS s=some p->posCan p=true->LetOk (posZ p) p.white p.castle p.behind) (m:Int) (w:World) (hc:Ct m w) (ht:Tabs w) :
  Calls Tryz.prog 20 #[.string s,.int .i64 n] w fun e w'=>MovesEnd s n w.heap.size e w'/\Gr w w':=by
 have h1:Hid (Calls Tryz.prog 12 #[.string s] w fun e w'=>ParseEnd s e/\Gr w w'):=hide (qqf s hs m w hc.mx hc.ml hc.tab hc.homes);rcases xq s with ⟨p,hr,hcan,hone⟩|⟨k,hk,hbad,hone⟩
 ·have h2:Hid (Calls Tryz.prog 12 #[.string s] w fun e w'=>e=.returned (.tuple #[.agg (posV p),.int .i64 0])/\Gr w w'):=hide ((qa h1).mono fun e w' h=>⟨hone e h.1,h.2⟩);have hrow:=jp hr;have hz:=hrow.size;have ho:=hide (jq hrow);have hb:=qxb hr
  have htx:Hid (∀ W:World,Gr w W->∀ q,(n=1/\q=letA\/n=2/\q=setA)->Calls Tryz.prog 45 #[.agg q,.agg (posV p)] W fun e w'=>∃ v,e=.returned v/\Strs W.heap.size v (txts (sortM (waL p n))) w'/\Gr W w'):=hide (by
   rintro W hg q (⟨rfl,rfl⟩|⟨rfl,rfl⟩)
   ·exact qql hz ((mkL hrow (hL p hr hcan) W (ht.gr hg).st))
   ·exact qql hz ((mkS hrow (can_lay hcan) hb.1 hb.2 W (hc.gr hg).tab (ht.gr hg).cas)))
  have hend:Hid (∀ base v w',(n=1\/n=2)->Strs base v (txts (sortM (waL p n))) w'->MovesEnd s n base (.returned (.tuple #[v,.int .i64 0])) w'):=hide fun base v w' hn hv=>.inr (.inr (.inr ⟨p,v,hr,hcan,hn,rfl,hv⟩))
  have hend3:Hid (∀ base w',¬ (n=1\/n=2)->MovesEnd s n base (.returned (.tuple #[nilS,.int .i64 3])) w'):=hide fun base w' hn=>.inr (.inr (.inl ⟨p,hr,hcan,hn,rfl⟩))
  generalize posV p=A at h2 hz ho htx;clear h1 hone hrow hr hcan hb hL hc ht hs;go_enter Tryz.func20,Tryz.ntmps20
  go_upto_region 2 with (first
   | (go_at_call 12;refine (qa h2).mono ?_;rintro e w3 ⟨rfl,hg3⟩)
   | (refine wpList_store_row rfl 25 _ _ rfl w3.heap.size A rfl rfl 25 _ (heap_alloc_new _ _) (by rw [hz];exact infoP) (by rw [hz];exact zeroP.symm) (qa ho) ?_))
  generalize hw4:(w3.alloc (.cells Tryz.zeroCells25 25)).setRow w3.heap.size A=w4;have hk4:Tb w w3.heap.size A w4:=⟨Gr.trans hg3 (by rw [<-hw4];exact ((Gr.refl w3).alloc _ _).setRow _ (Nat.le_refl _) _),by rw [<-hw4];exact setRow_heap _ _ _ _ _ _ (heap_alloc_new w3 _),by rw [<-hw4,size_setRow,World.size_alloc];omega⟩;generalize w3.heap.size=b1 at hk4 ⊢;clear hw4 hg3 h2;go_upto_region 4 with fail;by_cases hn:n=1\/n=2
  ·obtain ⟨q,hq,hof,ha2⟩:∃ q,(n=1/\q=letA\/n=2/\q=setA)/\ofV n=.tuple #[.agg q,.bool true]/\(∃ ga gm,q=wayA ga gm):=by
    rcases hn with rfl|rfl
    ·exact ⟨letA,.inl ⟨rfl,rfl⟩,rfl,_,_,rfl⟩
    ·exact ⟨setA,.inr ⟨rfl,rfl⟩,rfl,_,_,rfl⟩
   obtain ⟨ga,gm,rfl⟩:=ha2;have hofc:Hid (∀ W,Calls Tryz.prog 44 #[.int .i64 n] W fun e w'=>e=.returned (.tuple #[.agg (wayA ga gm),.bool true])/\Gr W w'):=hide fun W=>by rw [<-hof];exact of_any n W
   have hn':=hide hn;have hq':=hide hq;clear hof hn hq
   go_upto_region 5 with (first
    | (go_at_call 44;refine (qa hofc _).mono ?_;rintro e w5 ⟨rfl,hg5⟩)
    | (refine wpList_store_row rfl 84 _ _ rfl w5.heap.size (wayA ga gm) rfl rfl 84 nilW (heap_alloc_new _ _) infoW rfl (zz _ _) ?_))
   have hg6:Gr w5 ((w5.alloc (.cells #[.nilFunc,.nilFunc] 84)).setRow w5.heap.size (wayA ga gm)):=((Gr.refl w5).alloc _ _).setRow _ (Nat.le_refl _) _;have hw6:((w5.alloc (.cells #[.nilFunc,.nilFunc] 84)).setRow w5.heap.size (wayA ga gm)).heap[w5.heap.size]?=some (.cells (wayA ga gm) 84):=setRow_heap _ _ _ _ _ _ (heap_alloc_new w5 _);have hk6:=hk4.next (Gr.trans hg5 hg6);generalize ((w5.alloc (.cells #[.nilFunc,.nilFunc] 84)).setRow w5.heap.size (wayA ga gm))=w6 at hw6 hk6 ⊢;generalize w5.heap.size=b2 at hw6 ⊢;clear hk4 hg5 hg6 hofc
   go_wp2_with (first
    | (refine wpList_load_row rfl 25 _ rfl b1 rfl 25 A (0,0) _ (Tb.p (w:=w) hk6) Tryz.underlying25 rfl (by rw [hz];exact infoP) ?_)
    | (refine wpList_load_row rfl 84 _ rfl b2 rfl 84 (wayA ga gm) (0,0) _ hw6 Tryz.underlying84 rfl infoW ?_)
    | (go_at_call 45;refine (qa htx _ hk6.gr _ (qa hq')).mono ?_;rintro e w7 ⟨v,rfl,hv,hg7⟩))
   go_ret2;exact ⟨qa hend _ _ _ (qa hn') (strs_le hv (Below.size hk6.gr)),Gr.trans hk6.gr hg7⟩
  ·have hof:ofV n=.tuple #[.agg nilW,.bool false]:=by unfold ofV;rw [if_neg (fun h=>hn (.inl h)),if_neg (fun h=>hn (.inr h))]
   have hofc:Hid (∀ W,Calls Tryz.prog 44 #[.int .i64 n] W fun e w'=>e=.returned (.tuple #[.agg nilW,.bool false])/\Gr W w'):=hide fun W=>by rw [<-hof];exact of_any n W
   have hn':=hide hn;clear hof hn
   go_wp2_with (first
    | (go_at_call 44;refine (qa hofc _).mono ?_;rintro e w5 ⟨rfl,hg5⟩)
    | (refine wpList_store_row rfl 84 _ _ rfl w5.heap.size nilW rfl rfl 84 nilW (heap_alloc_new _ _) infoW rfl nilW_ones ?_))
   go_ret2;exact ⟨qa hend3 _ _ (qa hn'),Gr.trans (Gr.trans hk4.gr hg5) (((Gr.refl w5).alloc _ _).setRow _ (Nat.le_refl _) _)⟩
 ·have h2:Hid (Calls Tryz.prog 12 #[.string s] w fun e w'=>e=.returned (.tuple #[.agg Tryz.zeroCells25,.int .i64 k])/\Gr w w'):=hide ((qa h1).mono fun e w' h=>⟨hone e h.1,h.2⟩);have hend:Hid (∀ base w',MovesEnd s n base (.returned (.tuple #[nilS,.int .i64 k])) w'):=hide fun base w'=>bad_moves hbad
  clear h1 hone hbad hL hc ht hs;go_enter Tryz.func20,Tryz.ntmps20
  go_upto_region 2 with (first
   | (go_at_call 12;refine (qa h2).mono ?_;rintro e w3 ⟨rfl,hg3⟩)
   | (refine wpList_store_row rfl 25 _ _ rfl w3.heap.size Tryz.zeroCells25 rfl rfl 25 _ (heap_alloc_new _ _) (by rw [zeroP];exact infoP) rfl zeroP_ones ?_))
  have hg4:Gr w ((w3.alloc (.cells Tryz.zeroCells25 25)).setRow w3.heap.size Tryz.zeroCells25):=Gr.trans hg3 (((Gr.refl w3).alloc _ _).setRow _ (Nat.le_refl _) _);generalize (w3.alloc (.cells Tryz.zeroCells25 25)).setRow w3.heap.size Tryz.zeroCells25=w4 at hg4 ⊢;go_wp2;go_ret2;exact ⟨qa hend _ _,hg4⟩
theorem qq6 {z:Nat->UInt8} {B:Array Value} (hok:layOk z=true) (hs:B.size=64) (hB:∀ i,i<64->B[i]?=some (.int .u8 ((z i).toNat:Int))) (sq:Int) (h0:0<=sq) (h1:sq<=63) (bw:Bool) (w:World) :
  Calls Tryz.prog 104 #[.agg B,.int .i64 sq,.bool bw] w fun e w'=>e=.returned (.bool (attackedS (layS z 64) sq bw))/\Gr w w':=by
 have hlay:=hide (lay_yes hok hs hB);have hbox:Hid ((w.alloc (.cells B 22)).heap[w.heap.size]?=some (.cells B 22)):=hide (heap_alloc_new w _);have hg1:Hid (Gr w (w.alloc (.cells B 22))):=hide ((Gr.refl w).alloc _ _);have hat:Hid (∀ M W,IsMen (layS z 64) M->Calls Tryz.prog 145 #[.agg M,.int .i64 sq,.bool bw] W fun e w'=>e=.returned (.bool (attackedS (layS z 64) sq bw))/\Gr W w'):=hide fun M W h=>ze _ M h sq h0 h1 bw W
 generalize attackedS (layS z 64) sq bw=R at hat ⊢;generalize layS z 64=m at hlay hat;clear hB hok h0 h1;go_enter Tryz.func104,Tryz.ntmps104
 go_upto_region 2 with (first
  | (refine wpList_load_row rfl 22 _ rfl w.heap.size rfl 22 B (0,0) _ (qa hbox) Tryz.underlying22 rfl (by rw [hs];exact info64) ?_)
  | (go_at_call 73;refine (qa hlay _).mono ?_;rintro e w2 ⟨M,rfl,hM,hg2⟩)
  | (refine wpList_store_row rfl 151 _ _ rfl w2.heap.size M rfl rfl 151 _ (heap_alloc_new _ _) hM.info hM.1.symm hM.ones ?_))
 generalize hw3:(w2.alloc (.cells #[.int .u64 0,.int .u64 0,.int .u64 0,.int .u64 0,.int .u64 0,.int .u64 0,.int .u64 0,.int .u64 0,.int .u64 0,.int .u64 0,.int .u64 0,.int .u64 0] 151)).setRow w2.heap.size M=w3;have hb3:w3.heap[w2.heap.size]?=some (.cells M 151):=by rw [<-hw3];exact setRow_heap _ _ _ _ _ _ (heap_alloc_new w2 _)
 have hg3:Gr w w3:=Gr.trans (Gr.trans (qa hg1) hg2) (by rw [<-hw3];exact ((Gr.refl w2).alloc _ _).setRow _ (Nat.le_refl _) _);generalize w2.heap.size=b2 at hb3 ⊢;clear hw3 hg2 hbox hlay hg1
 go_wp2_with (first
  | (refine wpList_load_row rfl 151 _ rfl b2 rfl 151 M (0,0) _ hb3 Tryz.underlying151 rfl hM.info ?_)
  | (go_at_call 145;refine (qa hat M _ hM).mono ?_;rintro e w4 ⟨rfl,hg4⟩))
 go_ret;exact ⟨rfl,Gr.trans hg3 hg4⟩
def restC (c:UInt8):Bool:=c==46||c==75||c==107
def lightC (c:UInt8):Bool:=c==78||c==110||c==66||c==98
def ltN (z:Nat->UInt8) (k:Nat):Nat:=((List.range k).filter fun i=>lightC (z i)).length
def deadB (z:Nat->UInt8):Bool:=(List.range 64).all (fun i=>restC (z i)||lightC (z i))&&decide (ltN z 64<=1)
theorem ltN_succ (z:Nat->UInt8) (k:Nat):ltN z (k+1)=ltN z k+if lightC (z k) then 1 else 0:=by
 unfold ltN;rw [List.range_succ,List.filter_append,List.length_append];cases h:lightC (z k)<;>simp [h]
theorem ltN_le (z:Nat->UInt8) (k:Nat):ltN z k<=k:=by
 have:=List.length_filter_le (fun i=>lightC (z i)) (List.range k);unfold ltN;simpa using this
theorem dead_bad {z:Nat->UInt8} {k:Nat} (hk:k<64) (h:(restC (z k)||lightC (z k))=false):deadB z=false:=by
 unfold deadB
 have:(List.range 64).all (fun i=>restC (z i)||lightC (z i))=false:=by
  rw [List.all_eq_false];exact ⟨k,List.mem_range.2 hk,by rw [h];simp⟩
 rw [this];rfl
theorem dead_all {z:Nat->UInt8} (h:∀ j,j<64->(restC (z j)||lightC (z j))=true):deadB z=decide (((ltN z 64:Nat):Int)<=1):=by
 unfold deadB;have:(List.range 64).all (fun i=>restC (z i)||lightC (z i))=true:=List.all_eq_true.2 fun j hj=>h j (List.mem_range.1 hj)
 rw [this,Bool.true_and];apply decide_eq_decide.2;omega
def Split (c:UInt8):Prop:=(restC c=true/\lightC c=false/\(((c.toNat:Int)=46\/(c.toNat:Int)=75\/(c.toNat:Int)=107)))\/(restC c=false/\lightC c=true/\((c.toNat:Int)=78\/(c.toNat:Int)=110\/(c.toNat:Int)=66\/(c.toNat:Int)=98))\/((restC c||lightC c)=false/\∀ n∈[(46:Int),75,107,78,110,66,98],((c.toNat:Int)==n)=false)
instance (c:UInt8):Decidable (Split c):=by unfold Split;infer_instance
theorem split_all:∀ n,n<256->Split (UInt8.ofNat n):=by decide +kernel
theorem letter_split (c:UInt8):Split c:=by
 have:=split_all c.toNat c.toNat_lt
 rwa [UInt8.ofNat_toNat] at this
theorem isDead_any (z:Nat->UInt8) (B:Array Value) (hs:B.size=64) (hB:∀ i,i<64->B[i]?=some (.int .u8 ((z i).toNat:Int))) (w:World):Calls Tryz.prog 170 #[.agg B] w fun e w'=>e=.returned (.bool (deadB z))/\Gr w w':=by
 have hB':=hide hB;clear hB;have hbox:Hid ((w.alloc (.cells B 22)).heap[w.heap.size]?=some (.cells B 22)):=hide (heap_alloc_new w _);go_enter Tryz.func170,Tryz.ntmps170;go_wp2_with (refine wpList_load_row rfl 22 _ rfl w.heap.size rfl 22 B (0,0) _ (qa hbox) Tryz.underlying22 rfl (by rw [hs];exact info64) ?_);go_loopg [3,7] 64 (fun g l n wr=>∃ k:Nat,k+g=64/\n=.int .i64 k/\l=.int .i64 (ltN z k:Nat)/\(∀ j,j<k->(restC (z j)||lightC (z j))=true)/\wr=w.alloc (.cells B 22))
 case atStart=>exact ⟨0,rfl,rfl,rfl,fun j hj=>absurd hj (Nat.not_lt_zero j),rfl⟩
 case round =>
  obtain ⟨k,k1,rfl,rfl,k3,rfl⟩:=hrel;have k3':=hide k3;clear k3;by_cases hlt:k<64
  ·have hix:=ix64 B k hlt _ (qa hB' k hlt);have hk0:(0:Int)<=(k:Int):=by omega
   have hk6:(k:Int)<64:=by omega
   have hl64:=ltN_le z k;have hsucc:=hide (ltN_succ z k)
   have nextJ:Hid ((restC (z k)||lightC (z k))=true->∀ j,j<k+1->(restC (z j)||lightC (z j))=true):=hide (fun h j hj=>by
    by_cases hjk:j=k
    ·subst hjk;exact h
    ·exact qa k3' j (by omega))
   rcases letter_split (z k) with ⟨a1,a2,a3⟩|⟨a1,a2,a3⟩|⟨a1,a2⟩
   ·have hne:=hide (qa nextJ (by rw [a1];rfl));have hsc:Hid (ltN z (k+1)=ltN z k):=hide (by rw [qa hsucc,a2];rfl);clear nextJ hsucc a1 a2;rcases a3 with e|e|e
    all_goals
     rw [e] at hix;clear e;go_wp2;go_roundg (gk-1)
     case measure=>omega
     case rel=>exact ⟨k+1,by omega,by go_num,by rw [qa hsc],qa hne,rfl⟩
   ·have hne:=hide (qa nextJ (by rw [a2];simp));have hsc:Hid (ltN z (k+1)=ltN z k+1):=hide (by rw [qa hsucc,a2];rfl);clear nextJ hsucc a1 a2;rcases a3 with e|e|e|e
    all_goals
     rw [e] at hix;clear e;go_wp2;go_roundg (gk-1)
     case measure=>omega
     case rel=>exact ⟨k+1,by omega,by go_num,(by rw [qa hsc];go_num),qa hne,rfl⟩
   ·have hbad:=hide (dead_bad hlt a1);have e1:=a2 46 (by simp);have e2:=a2 75 (by simp);have e3:=a2 107 (by simp);have e4:=a2 78 (by simp);have e5:=a2 110 (by simp);have e6:=a2 66 (by simp);have e7:=a2 98 (by simp);clear a2 a1 nextJ hsucc;go_wp2;go_ret;exact ⟨by rw [qa hbad];rfl,(Gr.refl w).alloc _ _⟩
  ·have ek:k=64:=by omega
   subst ek;have hall:=hide (dead_all (qa k3'));clear k3';go_wp2;go_ret;exact ⟨by rw [qa hall];rfl,(Gr.refl w).alloc _ _⟩
structure Ck (w:World) (ga gm:Nat) (PA:Array Value) (W:World):Prop where
 q:W.heap[w.heap.size]?=some (.cells (wayA ga gm) 84)
 pa:W.heap[w.heap.size+1]?=some (.cells PA 25)
 gr:Gr w W
theorem Ck.next {w W W':World} {ga gm:Nat} {PA:Array Value} (h:Ck w ga gm PA W) (g:Gr W W'):Ck w ga gm PA W' :=
 ⟨(Below.block g _ (Array.getElem?_eq_some_iff.1 h.q).1).trans h.q,(Below.block g _ (Array.getElem?_eq_some_iff.1 h.pa).1).trans h.pa,Gr.trans h.gr g⟩
theorem ck_start (w:World) (ga gm:Nat) (PA:Array Value):Ck w ga gm PA ((w.alloc (.cells (wayA ga gm) 84)).alloc (.cells PA 25)):=by
 obtain ⟨e1,e2⟩:=heapTwo w (.cells (wayA ga gm) 84) (.cells PA 25);exact ⟨e1,e2,((Gr.refl w).alloc _ _).alloc _ _⟩
def chkS (z:Nat->UInt8) (wh:Bool):Bool:=attackedS (layS z 64) (kingR z wh) (!wh)
theorem checkQ_any {z:Nat->UInt8} {wh:Bool} {fc:Nat->Bool} {b h g:Int} {PA:Array Value} (r:Row z wh fc b h g PA) (hok:layOk z=true) (h0:0<=kingR z wh) (h1:kingR z wh<=63) (w:World) :
  Calls Tryz.prog 101 #[.agg setA,.agg PA] w fun e w'=>e=.returned (.bool (chkS z wh))/\Gr w w':=by
 obtain ⟨b1,b2⟩:=board_of r;have hz:=r.size;have hwh:=r.wh;have hking:=hide (fun W=>kingP_any z _ b2 wh W);have hatt:=hide (fun W=>qq6 hok b1 b2 (kingR z wh) h0 h1 (!wh) W);unfold chkS;generalize attackedS (layS z 64) (kingR z wh) (!wh)=R at hatt ⊢;generalize kingR z wh=kk at hking hatt;have hA0:=ck_start w 104 105 PA;clear r hok b1 b2 h0 h1;simp only [setA,wayA];go_enter Tryz.func101,Tryz.ntmps101;go_upto_region 1 with fail;show Code.wp _ _ _ _ ((w.alloc (.cells (wayA 104 105) 84)).alloc (.cells PA 25));generalize ((w.alloc (.cells (wayA 104 105) 84)).alloc (.cells PA 25))=wA at hA0 ⊢;refine wp_region_held_drew (S:=Ck w 104 105 PA) (by kernel_rfl) (hA0.next (Gr.refl _).drew) (fun hHeld=>?_);refine C.tq 0 (.pointer (some ⟨w.heap.size,0,none⟩)) hHeld ?_;refine C.ty 1 (.func (.func 104) #[] #[]) rfl (Or.inl ⟨by rfl,fun w' hw=>(by have cq:w'.cell? ⟨w.heap.size,0,none⟩=some (.func (.func 104) #[] #[]):=(by rw [cell_of_row _ _ _ _ _ _ hw.q];rfl);go_simp)⟩) hHeld ?_;refine C.tq 2 (.pointer (some ⟨w.heap.size+1,0,none⟩)) hHeld ?_;refine C.ty 3 (.agg (PA.toList.take 64).toArray) rfl (y_board hz (by rfl) _ rfl (w.heap.size+1) rfl (fun _ h=>xv h.pa)) hHeld ?_;refine C.tq 4 (.pointer (some ⟨w.heap.size+1,0,none⟩)) hHeld ?_;refine C.ty 5 (.agg (PA.toList.take 64).toArray) rfl (y_board hz (by rfl) _ rfl (w.heap.size+1) rfl (fun _ h=>xv h.pa)) hHeld ?_;refine C.tq 6 (.pointer (some ⟨w.heap.size+1,64,none⟩)) hHeld ?_;refine C.ty 7 (.bool wh) rfl (Or.inl ⟨by rfl,fun w' hw=>(by have cw:w'.cell? ⟨w.heap.size+1,64,none⟩=some (.bool wh):=(by rw [cell_of_row _ _ _ _ _ _ hw.pa];exact hwh);go_simp)⟩) hHeld ?_;refine C.tq 9 (.pointer (some ⟨w.heap.size+1,64,none⟩)) hHeld ?_;refine C.ty 10 (.bool wh) rfl (Or.inl ⟨by rfl,fun w' hw=>(by have cw:w'.cell? ⟨w.heap.size+1,64,none⟩=some (.bool wh):=(by rw [cell_of_row _ _ _ _ _ _ hw.pa];exact hwh);go_simp)⟩) hHeld ?_;refine C.tq 11 (.bool (!wh)) hHeld ?_;refine C.rd 8 fun K hK=>?_
 go_simp;refine (qa hking _).mono ?_;rintro e wa ⟨rfl,hga⟩;refine hK.out _ _ (hHeld.next hga) (fun hHeld=>?_);clear hK K;refine C.rd 12 fun K hK=>?_
 go_simp;refine (qa hatt _).mono ?_;rintro e wb ⟨rfl,hgb⟩;refine hK.out _ _ (hHeld.next hgb) (fun hHeld=>?_);clear hK K;refine C.rd 13 fun K hK=>?_
 go_simp;refine hK.out _ _ hHeld (fun hHeld=>?_);clear hK K;refine wpAnyH_done (by kernel_rfl) ?_ _;go_wp2_with fail;go_ret;exact ⟨rfl,hHeld.gr⟩
def overN (z:Nat->UInt8) (c:Bool) (n:Int):Int:=if n=0 then (if c then 1 else 2) else if deadB z then 3 else 0
theorem over_any (z:Nat->UInt8) (B:Array Value) (hs:B.size=64) (hB:∀ i,i<64->B[i]?=some (.int .u8 ((z i).toNat:Int))) (c:Bool) (n:Int) (w:World):Calls Tryz.prog 103 #[.agg B,.bool c,.int .i64 n] w fun e w'=>e=.returned (.int .i64 (overN z c n))/\Gr w w':=by
 have hd:=hide (fun W=>isDead_any z B hs hB W);have hbox:Hid ((w.alloc (.cells B 22)).heap[w.heap.size]?=some (.cells B 22)):=hide (heap_alloc_new w _);have hg1:Hid (Gr w (w.alloc (.cells B 22))):=hide ((Gr.refl w).alloc _ _);unfold overN;generalize deadB z=D at hd ⊢;clear hB;by_cases hn:n=0
 ·subst hn;rw [if_pos rfl];cases c
  all_goals
   go_enter Tryz.func103,Tryz.ntmps103;go_wp2_with fail;go_ret;exact ⟨rfl,qa hg1⟩
 ·rw [if_neg hn];have hn0:(n==0)=false:=beq_eq_false_iff_ne.2 hn;cases D
  all_goals
   go_enter Tryz.func103,Tryz.ntmps103
   go_wp2_with (first
    | (refine wpList_load_row rfl 22 _ rfl w.heap.size rfl 22 B (0,0) _ (qa hbox) Tryz.underlying22 rfl (by rw [hs];exact info64) ?_)
    | (go_at_call 170;refine (qa hd _).mono ?_;rintro e w2 ⟨rfl,hg2⟩))
   go_ret;exact ⟨rfl,Gr.trans (qa hg1) hg2⟩
end Go.Proofs.YtnfakamfmkhlbaaGreatDoor.C
