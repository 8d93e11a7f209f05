import Derived.Test.YtnfakamfmkhlbaaGreatDoorZk7
import Derived.Test.YtnfakamfmkhlbaaGreatDoorKz2
import Derived.Test.YtnfakamfmkhlbaaGreatDoorKz3
set_option maxRecDepth 100000
set_option maxHeartbeats 4000000
set_option linter.unusedSimpArgs false
namespace Go.Proofs.YtnfakamfmkhlbaaGreatDoor.C
open Go.ChangeShapes Go.WideShapes Go.ChangeAt Go.RowKit Go.Shelf
open Go.Proofs.YtnfakamfmkhlbaaGreatDoor.P
attribute [local go_sem] qd qi Oper.semAt_some
theorem perftR_any (s:ByteArray) (hs:s.size<4294967281) (D n:Int) (w:World) :
  Calls Tryz.prog 199 #[.string s,.int .i64 D,.int .i64 n] w fun e w'=>PrfEnd s D n e/\Gr w w':=by
 have h1:Hid (Calls Tryz.prog 38 #[.string s] w fun e w'=>ParseEnd s e/\Gr w w'):=hide (qz0 s hs w);rcases xo s with ⟨p,hr,hcan,hone⟩|⟨k,hk,hbad,hone⟩
 ·have h2:Hid (Calls Tryz.prog 38 #[.string s] w fun e w'=>e=.returned (.tuple #[.agg (posV p),.int .i64 0])/\Gr w w'):=hide ((qa h1).mono fun e w' h=>⟨hone e h.1,h.2⟩);have hrow:=jn hr;have hz:=hrow.size;have ho:=hide (qz hrow);obtain ⟨R,hR⟩:∃ R:Nat->Nat,Hid (R=fun d=>pathsN d (posZ p) p.white (fcN p.castle) p.behind):=⟨_,hide rfl⟩
  have hpa:Hid (∀ (d:Nat),d<=3->∀ W,Calls Tryz.prog 120 #[.agg (posV p),.int .i64 (d:Int)] W fun e w'=>e=.returned (.int .u64 ((R d:Nat):Int))/\Gr W w'):=hide fun d hd W=>by
   rw [qa hR];exact pathsR_any d hd (Ok.of hr hcan) (row_fcN hrow) W
  have hend:Hid (∀ d:Nat,D=(d:Int)->d<=3->(n=1\/n=2)->PrfEnd s D n (.returned (.tuple #[.int .u64 ((R d:Nat):Int),.int .i64 0]))):=hide fun d e1 e2 e3=>.inr ⟨p,d,hr,hcan,e1,e2,e3,by rw [qa hR]⟩
  have hend5:Hid (¬ (0<=D/\D<=3)->PrfEnd s D n (.returned (.tuple #[.int .u64 0,.int .i64 5]))):=hide fun e=>.inl ⟨5,.inr (.inl ⟨p,hr,hcan,e,rfl⟩),rfl⟩
  have hend3:Hid ((0<=D/\D<=3)->¬ (n=1\/n=2)->PrfEnd s D n (.returned (.tuple #[.int .u64 0,.int .i64 3]))):=hide fun e q=>.inl ⟨3,.inr (.inr ⟨p,hr,hcan,e,q,rfl⟩),rfl⟩
  generalize posV p=A at h2 hz ho hpa;clear h1 hone hrow hr hcan hs hR;go_enter Tryz.func199,Tryz.ntmps199
  go_upto_region 2 with (first
   | (go_at_call 38;refine (qa h2).mono ?_;rintro e w3 ⟨rfl,hg3⟩)
   | (refine wpList_store_row rfl 25 _ _ rfl w3.heap.size A rfl rfl 25 _ (heap_alloc_new _ _) (by rw [hz];exact infoP) (by rw [hz];exact zeroP.symm) (qa ho) ?_))
  have hg4:Gr w ((w3.alloc (.cells Tryz.zeroCells25 25)).setRow w3.heap.size A):=Gr.trans hg3 (((Gr.refl w3).alloc _ _).setRow _ (Nat.le_refl _) _);have hb4:((w3.alloc (.cells Tryz.zeroCells25 25)).setRow w3.heap.size A).heap[w3.heap.size]?=some (.cells A 25):=setRow_heap _ _ _ _ _ _ (heap_alloc_new w3 _);generalize (w3.alloc (.cells Tryz.zeroCells25 25)).setRow w3.heap.size A=w4 at hg4 hb4 ⊢;generalize w3.heap.size=b1 at hb4 ⊢;have hrw:=hide (xr hb4);have hg4':=hide hg4;clear hg3 h2 ho hb4 hg4;by_cases hd:0<=D/\D<=3
  ·have q1:¬ D<0:=by omega
   have q2:¬ 3<D:=by omega
   by_cases hn:n=1\/n=2
   ·obtain ⟨d,rfl⟩:=Int.eq_ofNat_of_zero_le hd.1;have hd3:d<=3:=by omega
    have hE:=hide (qa hend d rfl hd3 hn);have hP:=hide (qa hpa d hd3);clear hend hend5 hend3 hpa hd;go_upto_region 4 with fail;go_cut [35] from 26 (fun s35 wx=>s35=.bool false/\wx=w4)
    case first =>
     rcases hn with rfl|rfl
     ·go_wp2_with fail;go_meet
      case rel=>exact ⟨rfl,rfl⟩
     ·go_wp2_with fail;go_meet
      case rel=>exact ⟨rfl,rfl⟩
    case rest =>
     obtain ⟨rfl,hww⟩:=hcut;subst hww;clear hn
     go_wp2_with (first
      | (refine ql (by rfl) _ rfl b1 rfl hz (qa hrw) ?_)
      | (go_at_call 120;refine (qa hP _).mono ?_;rintro e w5 ⟨rfl,hg5⟩))
     go_ret2;exact ⟨qa hE,Gr.trans (qa hg4') hg5⟩
   ·have hE:=hide (qa hend3 hd hn);have n1:(n != 1)=true:=by rw [bne_iff_ne];exact fun e=>hn (.inl e)
    have n2:(n != 2)=true:=by rw [bne_iff_ne];exact fun e=>hn (.inr e)
    clear hend hend5 hend3 hpa hd hn;go_wp2_with fail;go_ret2;exact ⟨qa hE,qa hg4'⟩
  ·have hE:=hide (qa hend5 hd);clear hend hend5 hend3 hpa;by_cases q1:D<0
   ·clear hd;go_wp2_with fail;go_ret2;exact ⟨qa hE,qa hg4'⟩
   ·have q2:3<D:=by omega
    clear hd;go_wp2_with fail;go_ret2;exact ⟨qa hE,qa hg4'⟩
 ·have h2:Hid (Calls Tryz.prog 38 #[.string s] w fun e w'=>e=.returned (.tuple #[.agg Tryz.zeroCells25,.int .i64 k])/\Gr w w'):=hide ((qa h1).mono fun e w' h=>⟨hone e h.1,h.2⟩);have hend:Hid (PrfEnd s D n (.returned (.tuple #[.int .u64 0,.int .i64 k]))):=hide (.inl ⟨k,.inl hbad,rfl⟩);have k2:(k != 0)=true:=by rw [bne_iff_ne];exact hk
  have k3:(k==0)=false:=by rw [beq_eq_false_iff_ne];exact hk
  clear h1 hone hbad hk hs;go_enter Tryz.func199,Tryz.ntmps199
  go_upto_region 2 with (first
   | (go_at_call 38;refine (qa h2).mono ?_;rintro e w3 ⟨rfl,hg3⟩)
   | (refine wpList_store_row rfl 25 _ _ rfl w3.heap.size Tryz.zeroCells25 rfl rfl 25 _ (heap_alloc_new _ _) (by rw [zeroP];exact infoP) rfl zeroP_ones ?_))
  have hg4:Gr w ((w3.alloc (.cells Tryz.zeroCells25 25)).setRow w3.heap.size Tryz.zeroCells25):=Gr.trans hg3 (((Gr.refl w3).alloc _ _).setRow _ (Nat.le_refl _) _);generalize (w3.alloc (.cells Tryz.zeroCells25 25)).setRow w3.heap.size Tryz.zeroCells25=w4 at hg4 ⊢;clear hg3 h2;go_wp2_with fail;go_ret2;exact ⟨qa hend,hg4⟩
theorem prf_one (s:ByteArray) (D n:Int):∃ (v k:Int),∀ e,PrfEnd s D n e->e=.returned (.tuple #[.int .u64 v,.int .i64 k]):=by
 have bad:∀ k k',TocBad s D 0 n k->TocBad s D 0 n k'->k=k':=by
  rintro k k' (a|⟨p,a1,a2,a3,rfl⟩|⟨p,a1,a2,a3,a4,rfl⟩) (b|⟨q,b1,b2,b3,rfl⟩|⟨q,b1,b2,b3,b4,rfl⟩)
  ·exact err_one (t:=⟨#[]⟩) (.inl a) (.inl b)
  ·exact (qqc a b1 b2).elim
  ·exact (qqc a b1 b2).elim
  ·exact (qqc b a1 a2).elim
  ·rfl
  ·exact (a3 b3).elim
  ·exact (qqc b a1 a2).elim
  ·exact (b3 a3).elim
  ·rfl
 have no:∀ k p (m:Nat),TocBad s D 0 n k->readS s=some p->posCan p=true->D=(m:Int)->m<=3->(n=1\/n=2)->False:=by
  rintro k p m (a|⟨q,_,_,a,_⟩|⟨q,_,_,_,a,_⟩) hr hc hm h3 hn
  ·exact qqc a hr hc
  ·exact a ⟨by omega,by omega⟩
  ·exact a hn
 by_cases h:∃ k,TocBad s D 0 n k
 ·obtain ⟨k,hk⟩:=h;refine ⟨0,k,fun e he=>?_⟩;rcases he with ⟨k',a,rfl⟩|⟨p,m,a,b,c,d,e',rfl⟩
  ·rw [bad k k' hk a]
  ·exact (no k p m hk a b c d e').elim
 ·by_cases h2:∃ p,∃ m:Nat,readS s=some p/\D=(m:Int)
  ·obtain ⟨p,m,hr,hm⟩:=h2;refine ⟨((pathsN m (posZ p) p.white (fcN p.castle) p.behind:Nat):Int),0,fun e he=>?_⟩;rcases he with ⟨k',a,rfl⟩|⟨p',m',a,b,c,d,e',rfl⟩
   ·exact (h ⟨k',a⟩).elim
   ·rw [hr] at a;obtain rfl:m=m':=by omega
    rw [<-Option.some.inj a]
  ·refine ⟨0,0,fun e he=>?_⟩;rcases he with ⟨k',a,rfl⟩|⟨p',m',a,b,c,d,e',rfl⟩
   ·exact (h ⟨k',a⟩).elim
   ·exact (h2 ⟨p',m',a,c⟩).elim
abbrev Cc:=Nat × Nat × Nat
def wldA (lv:Value):Array Value:=#[.int .i64 0,.slice none 0 0,.slice none 0 0,.slice none 0 0,.slice none 0 0,lv]
def ptrC (cs:List Cc):List Value:=cs.map fun c=>.pointer (some ⟨c.1,0,none⟩)
structure Wi (wb:Nat) (lv:Value) (cs:List Cc) (w W:World):Prop where
 wb:W.heap[wb]?=some (.cells (wldA lv) 116)
 own:W.ownsRow w.heap.size 61 1 lv cs.length (ptrC cs)
 ca:∀ c∈cs,CacI c.1 c.2.1 c.2.2 W/\w.heap.size<=c.1/\w.heap.size<=c.2.1
 pw:cs.Pairwise fun a b=>a.2.1≠b.2.1
 gr:Gr w W
theorem pw_one {α:Type} {f:α->Nat}:∀ {l:List α},l.Pairwise (fun a b=>f a≠f b)->∀ a∈l,∀ b∈l,f a=f b->a=b
 | [],_,a,ha,_,_,_=>absurd ha List.not_mem_nil
 | c :: r,h,a,ha,b,hb,e=>by
   rw [List.pairwise_cons] at h;rcases List.mem_cons.1 ha with ea|ha'
   ·rcases List.mem_cons.1 hb with eb|hb'
    ·rw [ea,eb]
    ·exact (h.1 b hb' (by rw [<-ea];exact e)).elim
   ·rcases List.mem_cons.1 hb with eb|hb'
    ·exact (h.1 a ha' (by rw [<-eb];exact e.symm)).elim
    ·exact pw_one h.2 a ha' b hb' e
theorem ty_ne {W:World} {a b:Nat} {c c':Array Value} {t t':TypeId} {f f':Nat × Nat} (h:W.heap[a]?=some (.cells c t f)) (h':W.heap[b]?=some (.cells c' t' f')) (hn:t≠t'):a≠b:=fun e=>by
 subst e;rw [h] at h';injection h' with h';injection h' with _ h' _;exact hn h'
theorem own_ty {W W':World} {base k g:Nat} {e t:TypeId} {v:Value} {xs:List Value} {S:Array Value} {fr:Nat × Nat} (h:W.ownsRow base e 1 v k xs) (hg:W.heap[g]?=some (.cells S t fr)) (hn:e≠t) (f:Fx g W W'):W'.ownsRow base e 1 v k xs:=by
 refine ⟨h.1,?_⟩;rcases h.2 with h2|⟨g',cap,cur,hv,hb',hg',rest⟩
 ·exact .inl h2
 ·exact .inr ⟨g',cap,cur,hv,hb',f.at hg' (ty_ne hg' hg hn),rest⟩
theorem Wi.gr' {wb:Nat} {lv:Value} {cs:List Cc} {w W W':World} (h:Wi wb lv cs w W) (k:Gr W W'):Wi wb lv cs w W' :=
 ⟨(Below.block k _ (xg h.wb)).trans h.wb,qjq h.own k,fun c hc=>⟨(h.ca c hc).1.gr k,(h.ca c hc).2⟩,h.pw,Gr.trans h.gr k⟩
theorem Wi.asked {wb:Nat} {lv:Value} {cs:List Cc} {w W W':World} (h:Wi wb lv cs w W) {c:Cc} (hc:c∈cs) (f:Fx c.2.1 W W') (hC:CacI c.1 c.2.1 c.2.2 W'):Wi wb lv cs w W':=by
 obtain ⟨S,fr,hS⟩:=(memA _ _ (h.ca c hc).1.le).ob _ (h.ca c hc).1.m;refine ⟨f.at h.wb (ty_ne h.wb hS (by decide)),own_ty h.own hS (by decide) f,fun d hd=>⟨?_,(h.ca d hd).2⟩,h.pw,(Fx.trans (Fx.of h.gr) f).gr (h.ca c hc).2.2⟩;by_cases e:d.2.1=c.2.1
 ·rw [pw_one (f:=fun a:Cc=>a.2.1) h.pw d hd c hc e];exact hC
 ·exact (h.ca d hd).1.fx f (ty_ne (h.ca d hd).1.c hS (by decide)) e
theorem pick_any (c:Int) (hc1:-9223372036854775808<=c) (hc2:c<=9223372036854775807) (n:Nat) (hn:0<n) (w:World):Calls Tryz.prog 198 #[.int .i64 c,.int .i64 (n:Int)] w fun e w'=>(∃ j:Nat,j<n/\e=.returned (.int .i64 (j:Int)))/\w'=w:=by
 have hnz:((n:Int)==0)=false:=by rw [beq_eq_false_iff_ne];omega
 have hnz2:¬ ((n:Int)=0):=by omega
 have hnz3:¬ (n=0):=by omega
 by_cases h:c<0
 ·have e1:IntKind.i64.wrap (c+1)=c+1:=by rw [IntKind.wrap_i64];omega
  have e2:IntKind.i64.wrap (-(c+1))=-(c+1):=by rw [IntKind.wrap_i64];omega
  obtain ⟨m,hm⟩:∃ m:Nat,-(c+1)=(m:Int):=⟨(-(c+1)).toNat,by omega⟩;rw [hm] at e2;have e3:(m:Int).tmod (n:Int)=((m%n:Nat):Int):=by rw [Int.tmod_eq_emod_of_nonneg (by omega)];omega
  have hlt:=Nat.mod_lt m hn
  have e4:IntKind.i64.wrap ((m%n:Nat):Int)=((m%n:Nat):Int):=by
   have:m%n<=m:=Nat.mod_le _ _;rw [IntKind.wrap_i64];omega
  generalize m%n=j at e3 hlt e4;go_enter Tryz.func198,Tryz.ntmps198;go_wp2_with fail;go_ret;exact ⟨⟨j,hlt,rfl⟩,rfl⟩
 ·obtain ⟨m,rfl⟩:=Int.eq_ofNat_of_zero_le (show 0<=c by omega);have e3:(m:Int).tmod (n:Int)=((m%n:Nat):Int):=by rw [Int.tmod_eq_emod_of_nonneg (by omega)];omega
  have hlt:=Nat.mod_lt m hn
  have e4:IntKind.i64.wrap ((m%n:Nat):Int)=((m%n:Nat):Int):=by
   have:m%n<=m:=Nat.mod_le _ _;rw [IntKind.wrap_i64];omega
  generalize m%n=j at e3 hlt e4;go_enter Tryz.func198,Tryz.ntmps198;go_wp2_with fail;go_ret;exact ⟨⟨j,hlt,rfl⟩,rfl⟩
def opA (kd ca:Int) (fen s:ByteArray) (nn wy:Int):Array Value:=#[.int .i64 kd,.int .i64 ca,.string fen,.string s,.int .i64 nn,.int .i64 wy]
theorem infoP61:(Tryz.prog.info? 61).map (fun i=>(i.zero,i.size,i.bytes))=some (some (.pointer none),1,8):=by kernel_rfl
theorem qg {W:World} {base k q:Nat} {e t:TypeId} {v:Value} {xs:List Value} {c:Array Value} {fr:Nat × Nat} (h:W.ownsRow base e 1 v k xs) (hq:W.heap[q]?=some (.cells c t fr)) (hn:e≠t):some q≠v.ownBlock:=fun e'=>by
 rcases h.2 with ⟨rfl,_⟩|⟨g',cap,cur,rfl,_,hg',_⟩
 ·simp [Value.ownBlock] at e'
 ·obtain rfl:q=g':=by simpa [Value.ownBlock] using e'
  exact ty_ne hg' hq hn rfl
theorem own_blk {W:World} {base k:Nat} {e:TypeId} {v:Value} {xs:List Value} (h:W.ownsRow base e 1 v k xs):∀ q,v.ownBlock=some q->base<=q:=by
 intro q hq;rcases h.2 with ⟨rfl,_⟩|⟨g',cap,cur,rfl,hb,_⟩
 ·simp [Value.ownBlock] at hq
 ·obtain rfl:g'=q:=by simpa [Value.ownBlock] using hq
  exact hb
theorem own_slice {W:World} {base k:Nat} {e:TypeId} {v:Value} {xs:List Value} (h:W.ownsRow base e 1 v k xs):∃ a b c,v=.slice a b c:=by
 rcases h.2 with ⟨rfl,_⟩|⟨g',cap,cur,rfl,_⟩
 ·exact ⟨_,_,_,rfl⟩
 ·exact ⟨_,_,_,rfl⟩
theorem Wi.grown {wb:Nat} {lv:Value} {cs:List Cc} {w W W':World} (h:Wi wb lv cs w W) (k:W.grownBy W' lv.ownBlock):W'.heap[wb]?=some (.cells (wldA lv) 116)/\(∀ c:Cc,CacI c.1 c.2.1 c.2.2 W->CacI c.1 c.2.1 c.2.2 W')/\Gr w W':=by
 refine ⟨(k.block _ (xg h.wb) (qg h.own h.wb (by decide))).trans h.wb,fun c hc=>?_,Below.grown h.gr k (Below.size h.gr) (own_blk h.own)⟩;obtain ⟨S,fr,hS⟩:=(memA _ _ hc.le).ob _ hc.m
 exact ⟨(k.block _ (xg hc.c) (qg h.own hc.c (by decide))).trans hc.c,(memA _ _ hc.le).st _ _ hc.m ⟨k.os,k.tape,k.output,k.size,fun q o e hq=>by
  subst hq;exact (k.block _ (qr hS) (qg h.own hS (by decide))).trans e⟩,hc.aw,hc.ne,hc.le⟩
theorem qkg (ca:Int) (fen s:ByteArray) (nn wy:Int) (wb:Nat) (lv:Value) (cs:List Cc) (hcs:cs.length<=4294967296) (w W:World) (hwt:Wt w) (h:Wi wb lv cs w W) (hwb:w.heap.size<=wb) :
  Calls Tryz.prog 122 #[.pointer (some ⟨wb,0,none⟩),.agg (opA 1 ca fen s nn wy)] W fun e W'=>e=.returned (.bool true)/\∃ lv' cs',cs'.length<=cs.length+1/\Wi wb lv' cs' w W':=by
 obtain ⟨i0,hi,hz0,hz1,hz2⟩:=info_parts infoP61;have hi':=hide hi;clear hi;have hg0:Gr W (W.alloc (.cells (opA 1 ca fen s nn wy) 118)):=(Gr.refl W).alloc _ _;have x1:=heap_alloc_new W (.cells (opA 1 ca fen s nn wy) 118);by_cases hr:0<=ca/\ca<=4096
 ·obtain ⟨n,rfl⟩:=Int.eq_ofNat_of_zero_le hr.1;have hn:n<=4096:=by omega
  have q1:¬ (n:Int)<0:=by omega
  have q2:¬ (4096:Int)<(n:Int):=by omega
  have h0:=hide (h.gr' hg0);go_enter Tryz.func122,Tryz.ntmps122;go_upto_region 1 with fail;show Code.wp _ _ _ _ (W.alloc (.cells (opA 1 (n:Int) fen s nn wy) 118));generalize W.alloc (.cells (opA 1 (n:Int) fen s nn wy) 118)=w0 at x1 hg0 h0 ⊢;have c0:w0.cell? ⟨W.heap.size,0,none⟩=some (.int .i64 1):=by rw [qm x1];rfl
  have c1:w0.cell? ⟨W.heap.size,1,none⟩=some (.int .i64 (n:Int)):=by rw [qm x1];rfl
  have hnew:=hide (newC_any n hn w0 (hwt.gr (qa h0).gr));go_upto_region 3 with (go_at_call 33;refine (qa hnew).mono ?_;rintro e w1 ⟨⟨bc,g,rfl,hC,hb1,hb2⟩,hg1⟩);have h1:=hide ((qa h0).gr' hg1);have d1:=(Below.cell hg1 (World.block_lt_of_cell? _ _ c1)).trans c1;have hs0:=Below.size (qa h0).gr
  have hold:Hid (∀ c∈cs,c.2.1≠g):=hide fun c hc e=>by
   obtain ⟨S,fr,hS⟩:=(memA _ _ ((qa h0).ca c hc).1.le).ob _ ((qa h0).ca c hc).1.m;have:=qr hS;omega
  clear hnew c0 c1 x1 hg0 h;have dl:w1.cell? ⟨wb,5,none⟩=some lv:=by rw [qm (qa h1).wb];rfl
  have hcl:∀ j u',[Value.pointer (some ⟨bc,0,none⟩)][j]?=some u'->(w1.alloc (.cells #[.pointer (some ⟨bc,0,none⟩)] 61)).cell? ((⟨w1.heap.size,0,none⟩:Addr).add j)=some u':=cell_one_new _ _ _;have hsz1:=Below.size (qa h1).gr;have h2:=hide ((qa h1).gr' ((Gr.refl w1).alloc #[.pointer (some ⟨bc,0,none⟩)] 61));have hC2:=hide (hC.gr ((Gr.refl w1).alloc #[.pointer (some ⟨bc,0,none⟩)] 61));go_upto_region 7 with (at_builtin;refine wpList_append_own _ rfl (.tmp 41) (.tmp 43) 114 rfl w.heap.size 61 i0 (.pointer none) 1 8 Tryz.underlying114 (qa hi') hz0 hz1 hz2 rfl (by decide) lv cs.length (ptrC cs) rfl (qa h2).own ⟨w1.heap.size,0,none⟩ 1 1 [.pointer (some ⟨bc,0,none⟩)] rfl rfl hcl (by simp [Value.oneCell']) (by unfold maxLen;omega) (by omega) (by simp;omega) ?_;intro v' w3 hown' hgrow hnil;obtain ⟨sa,sb,sc,rfl⟩:=own_slice hown';obtain ⟨g1,g2,g3⟩:=(qa h2).grown hgrow;have z5:w3.cell? ⟨wb,5,none⟩=some lv:=by { rw [qm g1];rfl };have zf:w3.frozen? ⟨wb,5,none⟩=false:=xy g1)
  have hfin:Hid (Wi wb (.slice sa sb sc) (cs++[(bc,g,n)]) w (w3.setCell ⟨wb,5,none⟩ (.slice sa sb sc))):=hide (by
   have fs:Fx wb w3 (w3.setCell ⟨wb,5,none⟩ (.slice sa sb sc)):=(Fr.refl _ _).setCell _ (fun _ _ q=>q rfl);refine ⟨qy g1,?_,fun c hc=>?_,?_,Below.setCell g3 hwb _⟩
   ·rw [show ptrC (cs++[(bc,g,n)])=ptrC cs++[.pointer (some ⟨bc,0,none⟩)] by simp [ptrC],List.length_append];exact own_ty hown' g1 (by decide) fs
   ·have old:∀ c:Cc,CacI c.1 c.2.1 c.2.2 w3->CacI c.1 c.2.1 c.2.2 (w3.setCell ⟨wb,5,none⟩ (.slice sa sb sc)):=fun c k=>by
     obtain ⟨S,fr,hS⟩:=(memA _ _ k.le).ob _ k.m;exact k.fx fs (ty_ne k.c g1 (by decide)) (ty_ne hS g1 (by decide))
    rcases List.mem_append.1 hc with hc|hc
    ·exact ⟨old c (g2 c ((qa h2).ca c hc).1),((qa h2).ca c hc).2⟩
    ·rw [List.mem_singleton.1 hc];exact ⟨old (bc,g,n) (g2 (bc,g,n) (qa hC2)),by show w.heap.size<=bc;omega,by show w.heap.size<=g;omega⟩
   ·rw [List.pairwise_append];exact ⟨(qa h2).pw,List.pairwise_singleton _ _,fun a ha b hb=>by rw [List.mem_singleton.1 hb];exact qa hold a ha⟩)
  clear hgrow hown' h2 hC2 hold hC g1 g2 g3;go_wp2_with fail;go_ret;exact ⟨rfl,(Value.slice sa sb sc),_,by simp,qa hfin⟩
 ·have hbad:=hide (fun W=>newC_bad ca (by omega) W);have h0:=hide (h.gr' hg0);clear h;go_enter Tryz.func122,Tryz.ntmps122;go_upto_region 1 with fail;show Code.wp _ _ _ _ (W.alloc (.cells (opA 1 ca fen s nn wy) 118));generalize W.alloc (.cells (opA 1 ca fen s nn wy) 118)=w0 at x1 hg0 h0 ⊢;have c0:w0.cell? ⟨W.heap.size,0,none⟩=some (.int .i64 1):=by rw [qm x1];rfl
  have c1:w0.cell? ⟨W.heap.size,1,none⟩=some (.int .i64 ca):=by rw [qm x1];rfl
  by_cases q1:ca<0
  ·clear hr
   go_wp2_with (first
    | (go_at_call 33;refine (qa hbad _).mono ?_;rintro e w' ⟨rfl,hww⟩;have hww':=hww.symm;subst hww';clear hww)
    | (go_at_call 16;refine (num_any _ _).mono ?_;rintro e w' ⟨rfl,hww⟩;have hww':=hww.symm;subst hww';clear hww))
   go_ret;exact ⟨rfl,lv,cs,by omega,qa h0⟩
  ·have q2:4096<ca:=by omega
   clear hr
   go_wp2_with (first
    | (go_at_call 33;refine (qa hbad _).mono ?_;rintro e w' ⟨rfl,hww⟩;have hww':=hww.symm;subst hww';clear hww)
    | (go_at_call 16;refine (num_any _ _).mono ?_;rintro e w' ⟨rfl,hww⟩;have hww':=hww.symm;subst hww';clear hww))
   go_ret;exact ⟨rfl,lv,cs,by omega,qa h0⟩
theorem Wi.shape {wb:Nat} {lv:Value} {cs:List Cc} {w W:World} (h:Wi wb lv cs w W):∃ a c,lv=.slice a cs.length c/\(cs.length≠0->∃ g,a=some ⟨g,0,none⟩):=by
 rcases h.own.2 with ⟨rfl,h0⟩|⟨g',cap,cur,rfl,hb,hg',hle,hcap,hcs,htk⟩
 ·exact ⟨none,0,by rw [h0],fun k=>absurd h0 k⟩
 ·exact ⟨_,_,rfl,fun _=>⟨g',rfl⟩⟩
structure Qc (wb:Nat) (lv:Value) (cs:List Cc) (w:World) (B:Nat) (A:Array Value) (W:World):Prop where
 wi:Wi wb lv cs w W
 op:W.heap[B]?=some (.cells A 118)
theorem Qc.cl {wb:Nat} {lv:Value} {cs:List Cc} {w:World} {B:Nat} {A:Array Value} {W:World} (h:Qc wb lv cs w B A W):W.cell? ⟨wb,5,none⟩=some lv:=by rw [qm h.wi.wb];rfl
theorem Qc.c {wb:Nat} {lv:Value} {cs:List Cc} {w:World} {B:Nat} {A:Array Value} {W:World} (h:Qc wb lv cs w B A W) (i:Nat):W.cell? ⟨B,i,none⟩=A[i]?:=qm h.op i
theorem Qc.gr {wb:Nat} {lv:Value} {cs:List Cc} {w:World} {B:Nat} {A:Array Value} {W W':World} (h:Qc wb lv cs w B A W) (k:Gr W W'):Qc wb lv cs w B A W':=⟨h.wi.gr' k,(Below.block k _ (xg h.op)).trans h.op⟩
theorem Qc.el {wb:Nat} {g c:Nat} {cs:List Cc} {w:World} {B:Nat} {A:Array Value} {W:World} (h:Qc wb (.slice (some ⟨g,0,none⟩) cs.length c) cs w B A W) (j:Nat) (hj:j<cs.length):W.cell? ⟨g,j,none⟩=some (.pointer (some ⟨cs[j].1,0,none⟩)):=by
 rcases h.wi.own.2 with ⟨h1,h0⟩|⟨g',cap,cur,h1,hb,hg',hle,hcap,hcs,htk⟩
 ·omega
 ·obtain rfl:g=g':=by injection h1 with h1;injection h1 with h1;injection h1
  rw [qm hg',<-Array.getElem?_toList];have h1:(cur.toList.take (cs.length*1))[j]?=cur.toList[j]?:=by rw [List.getElem?_take,if_pos (by omega)]
  rw [<-h1,htk,ptrC,List.getElem?_map,List.getElem?_eq_getElem hj];rfl
theorem qkh (kd ca:Int) (hk:kd≠1) (hc1:-9223372036854775808<=ca) (hc2:ca<=9223372036854775807) (fen s:ByteArray) (hs:fen.size<4294967281) (nn wy:Int) (wb:Nat) (lv:Value) (cs:List Cc) (m:Int) (w W:World) (hc:Ct m w) (htb:Tabs w) (h:Wi wb lv cs w W) :
  Calls Tryz.prog 122 #[.pointer (some ⟨wb,0,none⟩),.agg (opA kd ca fen s nn wy)] W fun e W'=>e=.returned (.bool true)/\Wi wb lv cs w W':=by
 have hg0:Gr W (W.alloc (.cells (opA kd ca fen s nn wy) 118)):=(Gr.refl W).alloc _ _;have x1:=heap_alloc_new W (.cells (opA kd ca fen s nn wy) 118);have hwt:=jj hc htb;obtain ⟨v,k,hvk⟩:=prf_one fen nn wy;have h0:=hide (h.gr' hg0);have hrf:Hid (∀ W,Calls Tryz.prog 199 #[.string fen,.int .i64 nn,.int .i64 wy] W fun e w'=>e=.returned (.tuple #[.int .u64 v,.int .i64 k])/\Gr W w'):=hide fun W=>(perftR_any fen hs nn wy W).mono fun e w' q=>⟨hvk e q.1,q.2⟩
 have hpf:Hid (∀ W,Wi wb lv cs w W->∀ c∈cs,Calls Tryz.prog 34 #[.pointer (some ⟨c.1,0,none⟩),.string fen,.int .i64 nn,.int .i64 wy] W fun e w'=>e=.returned (.tuple #[.int .u64 v,.int .i64 k])/\Wi wb lv cs w w'/\Fx c.2.1 W w'):=hide fun W hW c hm =>
  (perft_any c.1 c.2.1 c.2.2 fen hs nn wy m W (hc.gr hW.gr) (htb.gr hW.gr) (hW.ca c hm).1 (hwt.lt (hW.ca c hm).2.1)).mono fun e w' q=>⟨hvk e q.1,hW.asked hm q.2.1 q.2.2,q.2.1⟩
 have hpk:Hid (∀ n:Nat,0<n->∀ w,Calls Tryz.prog 198 #[.int .i64 ca,.int .i64 (n:Int)] w fun e w'=>(∃ j:Nat,j<n/\e=.returned (.int .i64 (j:Int)))/\w'=w):=hide fun n hn w=>pick_any ca hc1 hc2 n hn w
 have hk1:(kd==1)=false:=by rw [beq_eq_false_iff_ne];exact hk
 have hne:Hid (∀ c∈cs,W.heap.size≠c.2.1):=hide fun c hm=>by
  obtain ⟨S,fr,hS⟩:=(memA _ _ (h.ca c hm).1.le).ob _ (h.ca c hm).1.m;have:=qr hS;omega
 clear h hvk hc htb hs hc1 hc2;go_enter Tryz.func122,Tryz.ntmps122;go_upto_region 1 with fail;show Code.wp _ _ _ _ (W.alloc (.cells (opA kd ca fen s nn wy) 118));generalize W.alloc (.cells (opA kd ca fen s nn wy) 118)=w0 at x1 hg0 h0 ⊢;have c0:w0.cell? ⟨W.heap.size,0,none⟩=some (.int .i64 kd):=by rw [qm x1];rfl
 have c1:w0.cell? ⟨W.heap.size,1,none⟩=some (.int .i64 ca):=by rw [qm x1];rfl
 have c2:w0.cell? ⟨W.heap.size,2,none⟩=some (.string fen):=by rw [qm x1];rfl
 have c4:w0.cell? ⟨W.heap.size,4,none⟩=some (.int .i64 nn):=by rw [qm x1];rfl
 have c5:w0.cell? ⟨W.heap.size,5,none⟩=some (.int .i64 wy):=by rw [qm x1];rfl
 obtain ⟨sa,sc,rfl,hsel⟩:=(qa h0).shape;have cl:w0.cell? ⟨wb,5,none⟩=some (.slice sa cs.length sc):=by rw [qm (qa h0).wb];rfl
 by_cases hz:cs.length=0
 ·have hz1:((cs.length:Int)==0)=true:=by rw [beq_iff_eq];omega
  clear hsel x1;go_wp2_with fail;go_ret;exact ⟨rfl,qa h0⟩
 ·have hz1:((cs.length:Int)==0)=false:=by rw [beq_eq_false_iff_ne];omega
  obtain ⟨g,rfl⟩:=hsel hz;have hpk':=hide (qa hpk cs.length (by omega));have hQ:Hid (Qc wb (.slice (some ⟨g,0,none⟩) cs.length sc) cs w W.heap.size (opA kd ca fen s nn wy) w0):=hide ⟨qa h0,x1⟩;clear hsel x1 hpk h0 hg0;generalize W.heap.size=B at hQ hne c0 c1 c2 c4 c5 ⊢;go_upto_region 10 with fail;clear c0 c1 c2 c4 c5 cl;refine wp_region_held_drew (S:=Qc wb (.slice (some ⟨g,0,none⟩) cs.length sc) cs w B (opA kd ca fen s nn wy)) (by kernel_rfl) ((qa hQ).gr (Gr.refl _).drew) (fun hHeld=>?_);clear hQ;refine C.ty 0 (.pointer (some ⟨wb,0,none⟩)) rfl (Or.inl ⟨by rfl,fun w' hw=>(by go_simp;try rfl)⟩) hHeld ?_;refine C.ty 1 (.pointer (some ⟨wb,0,none⟩)) rfl (Or.inl ⟨by rfl,fun w' hw=>(by go_simp;try rfl)⟩) hHeld ?_;refine C.ty 2 (.pointer (some ⟨wb,5,none⟩)) rfl (Or.inl ⟨by rfl,fun w' hw=>(by go_simp;try rfl)⟩) hHeld ?_;refine C.ty 3 (.slice (some ⟨g,0,none⟩) cs.length sc) rfl (Or.inl ⟨by rfl,fun w' hw=>(by have e:=hw.cl;go_simp;try rfl)⟩) hHeld ?_;refine C.ty 4 (.pointer (some ⟨B,1,none⟩)) rfl (Or.inl ⟨by rfl,fun w' hw=>(by go_simp;try rfl)⟩) hHeld ?_;refine C.ty 5 (.int .i64 ca) rfl (Or.inl ⟨by rfl,fun w' hw=>(by have e:=hw.c 1;go_simp;try rfl)⟩) hHeld ?_;refine C.ty 6 (.pointer (some ⟨wb,0,none⟩)) rfl (Or.inl ⟨by rfl,fun w' hw=>(by go_simp;try rfl)⟩) hHeld ?_;refine C.ty 7 (.pointer (some ⟨wb,0,none⟩)) rfl (Or.inl ⟨by rfl,fun w' hw=>(by go_simp;try rfl)⟩) hHeld ?_;refine C.ty 8 (.pointer (some ⟨wb,5,none⟩)) rfl (Or.inl ⟨by rfl,fun w' hw=>(by go_simp;try rfl)⟩) hHeld ?_;refine C.ty 9 (.slice (some ⟨g,0,none⟩) cs.length sc) rfl (Or.inl ⟨by rfl,fun w' hw=>(by have e:=hw.cl;go_simp;try rfl)⟩) hHeld ?_;refine C.ty 10 (.int .i64 (cs.length:Int)) rfl (Or.inl ⟨by rfl,fun w' hw=>(by go_simp;try rfl)⟩) hHeld ?_;refine C.ty 14 (.pointer (some ⟨B,2,none⟩)) rfl (Or.inl ⟨by rfl,fun w' hw=>(by go_simp;try rfl)⟩) hHeld ?_;refine C.ty 15 (.string fen) rfl (Or.inl ⟨by rfl,fun w' hw=>(by have e:=hw.c 2;go_simp;try rfl)⟩) hHeld ?_;refine C.ty 16 (.pointer (some ⟨B,4,none⟩)) rfl (Or.inl ⟨by rfl,fun w' hw=>(by go_simp;try rfl)⟩) hHeld ?_;refine C.ty 17 (.int .i64 nn) rfl (Or.inl ⟨by rfl,fun w' hw=>(by have e:=hw.c 4;go_simp;try rfl)⟩) hHeld ?_;refine C.ty 18 (.pointer (some ⟨B,5,none⟩)) rfl (Or.inl ⟨by rfl,fun w' hw=>(by go_simp;try rfl)⟩) hHeld ?_;refine C.ty 19 (.int .i64 wy) rfl (Or.inl ⟨by rfl,fun w' hw=>(by have e:=hw.c 5;go_simp;try rfl)⟩) hHeld ?_;refine C.rd 11 fun K hK=>?_
  go_simp;refine (qa hpk' _).mono ?_;rintro e w2 ⟨⟨j,hj,rfl⟩,rfl⟩;refine hK.out _ _ hHeld (fun hHeld=>?_);clear hK K
  try simp only [C.py]
  have k0:(0:Int)<=(j:Int):=by omega
  have kl:(j:Int)<(cs.length:Int):=by omega
  have hmem:cs[j]∈cs:=List.getElem_mem hj;refine C.ty 12 (.pointer (some ⟨g,j,none⟩)) rfl (Or.inl ⟨by rfl,fun w' hw=>(by go_simp;try rfl)⟩) hHeld ?_;refine C.ty 13 (.pointer (some ⟨cs[j].1,0,none⟩)) rfl (Or.inl ⟨by rfl,fun w' hw=>(by have e:=hw.el j hj;go_simp;try rfl)⟩) hHeld ?_;refine C.rd 20 fun K hK=>?_
  go_simp;refine (qa hpf _ hHeld.wi _ hmem).mono ?_;rintro e w3 ⟨rfl,hW3,hf3⟩;refine hK.out _ _ ⟨hW3,hf3.at hHeld.op (qa hne _ hmem)⟩ (fun hHeld=>?_);clear hK K
  try simp only [C.py]
  refine C.ty 21 (.tuple #[.int .u64 v,.int .i64 k]) rfl (Or.inl ⟨by rfl,fun w' hw=>(by go_simp;try rfl)⟩) hHeld ?_;refine C.ty 22 (.int .u64 v) rfl (Or.inl ⟨by rfl,fun w' hw=>(by go_simp;try rfl)⟩) hHeld ?_;refine C.ty 23 (.int .i64 k) rfl (Or.inl ⟨by rfl,fun w' hw=>(by go_simp;try rfl)⟩) hHeld ?_;refine C.rd 24 fun K hK=>?_
  go_simp;refine hK.out _ _ hHeld (fun hHeld=>?_);clear hK K
  try simp only [C.py]
  refine C.rd 25 fun K hK=>?_
  go_simp;refine hK.out _ _ hHeld (fun hHeld=>?_);clear hK K
  try simp only [C.py]
  refine wpAnyH_done (by kernel_rfl) ?_ _;have d2:w3.cell? ⟨B,2,none⟩=some (.string fen):=hHeld.c 2;have d4:w3.cell? ⟨B,4,none⟩=some (.int .i64 nn):=hHeld.c 4;have d5:w3.cell? ⟨B,5,none⟩=some (.int .i64 wy):=hHeld.c 5;have hW3':=hide hW3;clear hHeld hW3 hf3 hmem k0 kl hne hpf hpk'
  go_wp2_with (first
   | (go_at_call 199;refine (qa hrf _).mono ?_;rintro e w4 ⟨rfl,hg4⟩)
   | (go_at_call 16;refine (num_any _ _).mono ?_;rintro e w' ⟨rfl,hww⟩;have hww':=hww.symm;subst hww';clear hww))
  go_ret;exact ⟨rfl,(qa hW3').gr' hg4⟩
end Go.Proofs.YtnfakamfmkhlbaaGreatDoor.C
