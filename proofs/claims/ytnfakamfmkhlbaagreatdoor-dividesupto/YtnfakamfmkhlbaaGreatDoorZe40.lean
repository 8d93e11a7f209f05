import Derived.Test.YtnfakamfmkhlbaaGreatDoorZe39
import Derived.Test.YtnfakamfmkhlbaaGreatDoorKz2
import Derived.Test.YtnfakamfmkhlbaaGreatDoorKz3
set_option maxRecDepth 100000
set_option maxHeartbeats 4000000
set_option linter.unusedSimpArgs false
namespace Go.Proofs.YtnfakamfmkhlbaaGreatDoor.C
open Go.ChangeShapes Go.WideShapes Go.ChangeAt Go.RowKit Go.Shelf
open Go.Proofs.YtnfakamfmkhlbaaGreatDoor.P
attribute [local go_sem] qd qi Oper.semAt_some
abbrev Ct2:=ByteArray × Nat
def ctC (c:Ct2):List Value:=[.string c.1,.int .u64 (c.2:Int)]
def rowC (l:List Ct2):List Value:=l.flatMap ctC
theorem rowC_snoc (l:List Ct2) (c:Ct2):rowC (l++[c])=rowC l++ctC c:=by simp [rowC]
def Cts (base:Nat) (v:Value) (l:List Ct2) (w:World):Prop:=w.ownsRow base 70 2 v l.length (rowC l)
theorem infoCt:(Tryz.prog.info? 70).map (fun i=>(i.zero,i.size,i.bytes))=some (some (.agg #[.string ⟨#[]⟩,.int .u64 0]),2,24):=by kernel_rfl
theorem cts_block {base:Nat} {v:Value} {l:List Ct2} {w:World} (h:Cts base v l w):∀ k,v.ownBlock=some k->base<=k:=by
 intro k hk;rcases h.2 with ⟨rfl,_⟩|⟨g,cap,cur,rfl,hb,_⟩
 ·simp [Value.ownBlock] at hk
 ·obtain rfl:g=k:=by simpa [Value.ownBlock] using hk
  exact hb
def divL (d:Nat) (z:Nat->UInt8) (wh:Bool) (fc:Nat->Bool) (b:Int) (l:List Mv):List Ct2:=l.map fun x=>(str (txt x),behN d z wh fc b x)
def DivEnd (s:ByteArray) (d n:Int) (base:Nat) (e:Ending) (w':World):Prop :=
 (∃ k,BadK s k/\e=.returned (.tuple #[nilS,.int .i64 k])) ∨
 (∃ p,readS s=some p/\posCan p=true/\¬ (1<=d/\d<=3)/\e=.returned (.tuple #[nilS,.int .i64 5])) ∨
 (∃ p,readS s=some p/\posCan p=true/\(1<=d/\d<=3)/\¬ (n=1\/n=2)/\e=.returned (.tuple #[nilS,.int .i64 3])) ∨
 (∃ p v,∃ m:Nat,readS s=some p/\posCan p=true/\d=(m:Int)+1/\m<=2/\(n=1\/n=2)/\e=.returned (.tuple #[v,.int .i64 0]) ∧
  Cts base v (divL m (posZ p) p.white (fcN p.castle) p.behind (sortM (movS (posZ p) p.white (fcN p.castle) p.behind))) w')
structure Rq (b1:Nat) (A:Array Value) (w1 W:World):Prop where
 p:W.heap[b1]?=some (.cells A 25)
 gr:Gr w1 W
theorem Rq.next {b1:Nat} {A:Array Value} {w1 W W':World} (h:Rq b1 A w1 W) (g:Gr W W'):Rq b1 A w1 W':=⟨(Below.block g _ (xg h.p)).trans h.p,Gr.trans h.gr g⟩
theorem qz9 (w:World) (S:ByteArray) (x:Nat):∀ j u',[Value.string S,.int .u64 (x:Int)][j]?=some u'->(w.alloc (.cells #[.string S,.int .u64 (x:Int)] 70)).cell? ((⟨w.heap.size,0,none⟩:Addr).add j)=some u':=fun j u' hu=>by
 rw [Addr.add_lit,Nat.zero_add,World.cell?_alloc_at _ _ _ _ rfl,<-Array.getElem?_toList];exact hu
theorem divideR_any (s:ByteArray) (hs:s.size<4294967281) (D n:Int) (w:World) :
  Calls Tryz.prog 56 #[.string s,.int .i64 D,.int .i64 n] w fun e w'=>DivEnd s D n w.heap.size e w'/\Gr w w':=by
 have h1:Hid (Calls Tryz.prog 38 #[.string s] w fun e w'=>ParseEnd s e/\Gr w w'):=hide (qz0 s hs w);rcases xo s with ⟨p,hr,hcan,hone⟩|⟨k,hk,hbad,hone⟩
 ·have h2:Hid (Calls Tryz.prog 38 #[.string s] w fun e w'=>e=.returned (.tuple #[.agg (posV p),.int .i64 0])/\Gr w w'):=hide ((qa h1).mono fun e w' h=>⟨hone e h.1,h.2⟩);have hrow:=jn hr;have hz:=hrow.size;have ho:=hide (qz hrow);by_cases hd:1<=D/\D<=3
  ·by_cases hn:n=1\/n=2
   ·obtain ⟨i0,hi,hz0,hz1,hz2⟩:=info_parts infoCt;have hi':=hide hi;clear hi;obtain ⟨m,hm⟩:∃ m:Nat,D=(m:Int)+1:=⟨(D-1).toNat,by omega⟩;have hm2:m<=2:=by omega
    have o:=Ok.of hr hcan;have r:=row_fcN hrow;have hend:Hid (∀ base v w',Cts base v (divL m (posZ p) p.white (fcN p.castle) p.behind (allR (posZ p) p.white (fcN p.castle) p.behind)) w'->DivEnd s D n base (.returned (.tuple #[v,.int .i64 0])) w'):=hide fun base v w' hv=>.inr (.inr (.inr ⟨p,v,m,hr,hcan,hm,hm2,hn,rfl,by rw [<-all_same o.good o.b0 o.b1];exact hv⟩))
    have ed:IntKind.i64.wrap (D-1)=(m:Int):=by rw [IntKind.wrap_i64];omega
    have q1:¬ D<1:=by omega
    have q2:¬ 3<D:=by omega
    clear hm hd;have hpm:=all_perm o.good o.b0 o.b1;have hall:Hid (∀ W:World,Calls Tryz.prog 95 #[.agg (posV p)] W fun e w'=>∃ v,e=.returned v/\Mrs W.heap.size v (allR (posZ p) p.white (fcN p.castle) p.behind) w'/\Gr W w'):=hide fun W=>allO_any o r W
    have hbh:Hid (∀ f t u,(f,t,u)∈allR (posZ p) p.white (fcN p.castle) p.behind->(∀ W:World,Calls Tryz.prog 96 #[.agg #[.int .i64 (f:Int),.int .i64 (t:Int),.int .u8 (u.toNat:Int)]] W fun e w'=>e=.returned (.string (str (txt (f,t,u))))/\Gr W w')/\∀ W:World,Calls Tryz.prog 121 #[.agg (posV p),.agg #[.int .i64 (f:Int),.int .i64 (t:Int),.int .u8 (u.toNat:Int)]] W fun e w'=>∃ Q,e=.returned (.agg Q)/\(∀ V:World,Calls Tryz.prog 120 #[.agg Q,.int .i64 (m:Int)] V fun e w'=>e=.returned (.int .u64 ((behN m (posZ p) p.white (fcN p.castle) p.behind (f,t,u):Nat):Int))/\Gr V w')/\Gr W w'):=hide fun f t u hx=>by
     have hx':=hpm.mem_iff.1 hx;obtain ⟨hf,ht,_⟩:=o.mv hx';refine ⟨fun W=>moveR_any f t hf ht u W,fun W=>(qj7 o r hx' W).mono ?_⟩;rintro e w' ⟨Q,rfl,hq,hg⟩;exact ⟨Q,rfl,fun V=>pathsR_any m (by omega) (o.next hx') hq V,hg⟩
    have hlen:(allR (posZ p) p.white (fcN p.castle) p.behind).length<=20480:=upI_len _ _ _ _ 64;have hdl:Hid (∀ l,divL m (posZ p) p.white (fcN p.castle) p.behind l=l.map fun x=>(str (txt x),behN m (posZ p) p.white (fcN p.castle) p.behind x)):=hide fun _=>rfl
    rw [qa hdl] at hend;generalize behN m (posZ p) p.white (fcN p.castle) p.behind=val at hbh hend;generalize allR (posZ p) p.white (fcN p.castle) p.behind=ys at hall hbh hlen hend;obtain ⟨cf,hcf⟩:∃ cf:Mv->Ct2,cf=fun x=>(str (txt x),val x):=⟨_,rfl⟩
    rw [<-hcf] at hend;generalize posV p=A at h2 hz ho hall hbh;clear h1 hone hrow hr hcan hs hdl hpm o r;go_enter Tryz.func56,Tryz.ntmps56
    go_upto_region 2 with (first
     | (go_at_call 38;refine (qa h2).mono ?_;rintro e w3 ⟨rfl,hg3⟩)
     | (refine wpList_store_row rfl 25 _ _ rfl w3.heap.size A rfl rfl 25 _ (heap_alloc_new _ _) (by rw [hz];exact infoP) (by rw [hz];exact zeroP.symm) (qa ho) ?_))
    generalize hw4:(w3.alloc (.cells Tryz.zeroCells25 25)).setRow w3.heap.size A=w4;have hk4:Tb w w3.heap.size A w4:=⟨Gr.trans hg3 (by rw [<-hw4];exact ((Gr.refl w3).alloc _ _).setRow _ (Nat.le_refl _) _),by rw [<-hw4];exact setRow_heap _ _ _ _ _ _ (heap_alloc_new w3 _),by rw [<-hw4,size_setRow,World.size_alloc];omega⟩;generalize w3.heap.size=b1 at hk4 ⊢;clear hw4 hg3 h2 ho;go_upto_region 4 with fail;go_cut [38] from 29 (fun s38 wx=>s38=.bool false/\wx=w4)
    case first =>
     rcases hn with rfl|rfl
     ·go_wp2_with fail;go_meet
      case rel=>exact ⟨rfl,rfl⟩
     ·go_wp2_with fail;go_meet
      case rel=>exact ⟨rfl,rfl⟩
    case rest =>
     obtain ⟨rfl,hww⟩:=hcut;subst hww;have hrw:=hide (xr hk4.p)
     go_upto_region 10 with (first
      | (go_at_call 95;refine (qa hall _).mono ?_;rintro e w1 ⟨v,rfl,hv,hg1⟩;obtain ⟨pp,cap,rfl,hcap,hel⟩:=mrs_form hv)
      | (refine ql (by rfl) _ rfl b1 rfl hz (qa hrw) ?_))
     have hgw:=hide (Gr.trans hk4.gr hg1);have hp1:=hide ((Below.block hg1 _ (xg hk4.p)).trans hk4.p);have hel':=hide hel;clear hall hv hg1 hk4 hrw hel hn;go_wp2_with fail;go_loopg [10,12,13] ys.length (fun g v i _ wr=>∃ k:Nat,k+g=ys.length/\i=.int .i64 (k:Int)/\Cts w1.heap.size v ((ys.take k).map cf) wr/\Gr w1 wr)
     case atStart=>exact ⟨0,by omega,rfl,⟨rfl,.inl ⟨rfl,rfl⟩⟩,Gr.refl _⟩
     case round =>
      obtain ⟨k,k1,rfl,hst,hgr⟩:=hrel;by_cases hlt:k<ys.length
      ·obtain ⟨gg,rfl,x0,x1,x2⟩:=qa hel' k hlt;have hblt:gg<w1.heap.size:=World.block_lt_of_cell? _ _ x0;have hpk:=(Below.block hgr _ (xg (qa hp1))).trans (qa hp1);have hmem:ys[k]∈ys:=List.getElem_mem _;have htk:Hid (ys.take (k+1)=ys.take k++[ys[k]]):=hide (List.take_succ_eq_append_getElem hlt);generalize ys[k]=y at x0 x1 x2 hmem htk;obtain ⟨f,t,u⟩:=y;obtain ⟨htx,hb1⟩:=qa hbh f t u hmem;have htx':=hide htx;have hb1':=hide hb1;have hcy:Hid (cf (f,t,u)=(str (txt (f,t,u)),val (f,t,u))):=hide (by rw [hcf]);generalize str (txt (f,t,u))=S at htx' hcy;generalize val (f,t,u)=xv at hb1' hcy;have hll:((ys.take k).map cf).length=k:=by rw [List.length_map,List.length_take];omega
       have hl2:Hid ((ys.take (k+1)).map cf=(ys.take k).map cf++[(S,xv)]):=hide (by rw [qa htk,List.map_append,<-qa hcy];rfl);obtain ⟨l0,hl0⟩:∃ l,Hid (l=(ys.take k).map cf):=⟨_,hide rfl⟩;rw [<-qa hl0] at hst hll hl2;have hst':=hide hst;have hgr':=hide hgr;have k0:(0:Int)<=(k:Int):=by omega
       have kl:(k:Int)<(ys.length:Int):=by omega
       have hwz:=Below.size hgr;clear hst hgr htx hb1 hmem hbh htk hcy hl0;go_upto_region 13 with fail;have hS0:Rq b1 A w1 wr.drew:=⟨hpk,(qa hgr').drew⟩;have hS1:Gr wr wr.drew:=(Gr.refl _).drew;refine wp_region_held_drew (S:=fun W=>Rq b1 A w1 W/\Gr wr W) (by kernel_rfl) ⟨hS0,hS1⟩ (fun hHeld=>?_);clear hS0 hS1;refine C.ty 0 (.agg A) rfl (qqz hz (by rfl) _ rfl b1 rfl (fun _ h=>xr h.1.p)) hHeld ?_;refine C.tq 1 (.slice (some ⟨gg,0,none⟩) ys.length cap) hHeld ?_;refine C.tq 2 (.int .i64 (k:Int)) hHeld ?_;refine C.tq 3 (.pointer (some ⟨gg,k*3,none⟩)) hHeld ?_
       refine wpAnyH_take (i:=4) (v:=.agg #[.int .i64 (f:Int),.int .i64 (t:Int),.int .u8 (u.toNat:Int)]) rfl (by kernel_rfl) (by kernel_rfl) (by kernel_rfl) (fun _ _ _ h=>h) (Or.inl ⟨by rfl,fun w' hw=>(by
        have e0:=(Below.cell hw.1.gr hblt).trans x0;have e1:=(Below.cell hw.1.gr hblt).trans x1;have e2:=(Below.cell hw.1.gr hblt).trans x2;go_simp;try rfl)⟩) hHeld ?_
       simp only [C.py];refine C.tq 6 (.int .i64 D) hHeld ?_;refine C.ty 7 (.int .i64 (m:Int)) rfl (Or.inl ⟨by rfl,fun w' hw=>(by go_simp;first|done|exact ed)⟩) hHeld ?_;refine C.rd 5 fun K hK=>?_
       go_simp;refine (qa hb1' _).mono ?_;rintro e w2 ⟨Q,rfl,hq,hg2⟩;refine hK.out _ _ ⟨hHeld.1.next hg2,Gr.trans hHeld.2 hg2⟩ (fun hHeld=>?_);clear hK K
       try simp only [C.py]
       refine C.rd 8 fun K hK=>?_
       go_simp;refine (hq _).mono ?_;rintro e w3 ⟨rfl,hg3⟩;refine hK.out _ _ ⟨hHeld.1.next hg3,Gr.trans hHeld.2 hg3⟩ (fun hHeld=>?_);clear hK K
       try simp only [C.py]
       refine C.rd 9 fun K hK=>?_
       go_simp;refine hK.out _ _ hHeld (fun hHeld=>?_);clear hK K
       try simp only [C.py]
       refine wpAnyH_done (by kernel_rfl) ?_ _;have y0:=(Below.cell hHeld.1.gr hblt).trans x0;have y1:=(Below.cell hHeld.1.gr hblt).trans x1;have y2:=(Below.cell hHeld.1.gr hblt).trans x2;have hg3':=hide hHeld.1.gr;have hst3:=hide (qjq (qa hst') hHeld.2);clear hHeld hq hst' hgr' x0 x1 x2 hpk hb1'
       go_wp2_with (first
        | (go_at_call 96;refine (qa htx' _).mono ?_;rintro e w5 ⟨rfl,hg5⟩;have hg6:=Gr.trans (qa hg3') hg5;have hs6:=Below.size hg6;have hst6:=hide (qjq (qa hst3) hg5);have hcl:∀ j u',[Value.string S,.int .u64 (xv:Int)][j]?=some u'->(w5.alloc (.cells #[.string S,.int .u64 (xv:Int)] 70)).cell? ((⟨w5.heap.size,0,none⟩:Addr).add j)=some u':=qz9 w5 S xv)
        | (at_builtin;refine wpList_append_own _ rfl (.tmp 59) (.tmp 67) 54 rfl w1.heap.size 70 i0 (.agg #[.string ⟨#[]⟩,.int .u64 0]) 2 24 Tryz.underlying54 (qa hi') hz0 hz1 hz2 rfl (by decide) u10 l0.length (rowC l0) rfl ((qa hst6).alloc _) ⟨w5.heap.size,0,none⟩ 1 1 [.string S,.int .u64 (xv:Int)] rfl rfl hcl (by simp [Value.oneCell']) (by unfold maxLen;omega) (by omega) (by simp;omega) ?_;intro v' w7 hown' hgrow hnil))
       go_roundg (gk-1)
       case measure=>omega
       case rel =>
        refine ⟨k+1,by omega,by go_num,?_,?_⟩
        ·unfold Cts;rw [qa hl2,rowC_snoc,List.length_append];exact hown'
        ·exact (hg6.alloc _ _).grown hgrow (by simp;omega) (cts_block (qa hst6))
      ·have ek:k=ys.length:=by omega
       rw [ek,List.take_length] at hst;have hst':=hide hst;have hgr':=hide hgr;clear hst hgr hel' hbh hp1;subst ek;go_wp2_with fail;go_ret2;exact ⟨qa hend _ _ _ (jx (qa hst') (Below.size (qa hgw))),Gr.trans (qa hgw) (qa hgr')⟩
   ·have hend:Hid (∀ base w',DivEnd s D n base (.returned (.tuple #[nilS,.int .i64 3])) w'):=hide fun base w'=>.inr (.inr (.inl ⟨p,hr,hcan,hd,hn,rfl⟩))
    have q1:¬ D<1:=by omega
    have q2:¬ 3<D:=by omega
    have n1:(n != 1)=true:=by rw [bne_iff_ne];exact fun e=>hn (.inl e)
    have n2:(n != 2)=true:=by rw [bne_iff_ne];exact fun e=>hn (.inr e)
    have h5:Hid (∀ W:World,Calls Tryz.prog 38 #[.string s] w fun e w'=>e=.returned (.tuple #[.agg (posV p),.int .i64 0])/\Gr w w'):=hide fun _=>qa h2
    generalize posV p=A at h2 hz ho h5;clear h1 h5 hone hrow hr hcan hs;go_enter Tryz.func56,Tryz.ntmps56
    go_upto_region 2 with (first
     | (go_at_call 38;refine (qa h2).mono ?_;rintro e w3 ⟨rfl,hg3⟩)
     | (refine wpList_store_row rfl 25 _ _ rfl w3.heap.size A rfl rfl 25 _ (heap_alloc_new _ _) (by rw [hz];exact infoP) (by rw [hz];exact zeroP.symm) (qa ho) ?_))
    have hg4:Gr w ((w3.alloc (.cells Tryz.zeroCells25 25)).setRow w3.heap.size A):=Gr.trans hg3 (((Gr.refl w3).alloc _ _).setRow _ (Nat.le_refl _) _);generalize (w3.alloc (.cells Tryz.zeroCells25 25)).setRow w3.heap.size A=w4 at hg4 ⊢;clear hg3 h2 ho;clear hn hd;go_wp2_with fail;go_ret2;exact ⟨qa hend _ _,hg4⟩
  ·have hend:Hid (∀ base w',DivEnd s D n base (.returned (.tuple #[nilS,.int .i64 5])) w'):=hide fun base w'=>.inr (.inl ⟨p,hr,hcan,hd,rfl⟩)
   have h5:Hid (∀ W:World,Calls Tryz.prog 38 #[.string s] w fun e w'=>e=.returned (.tuple #[.agg (posV p),.int .i64 0])/\Gr w w'):=hide fun _=>qa h2
   generalize posV p=A at h2 hz ho h5;clear h1 h5 hone hrow hr hcan hs;go_enter Tryz.func56,Tryz.ntmps56
   go_upto_region 2 with (first
    | (go_at_call 38;refine (qa h2).mono ?_;rintro e w3 ⟨rfl,hg3⟩)
    | (refine wpList_store_row rfl 25 _ _ rfl w3.heap.size A rfl rfl 25 _ (heap_alloc_new _ _) (by rw [hz];exact infoP) (by rw [hz];exact zeroP.symm) (qa ho) ?_))
   have hg4:Gr w ((w3.alloc (.cells Tryz.zeroCells25 25)).setRow w3.heap.size A):=Gr.trans hg3 (((Gr.refl w3).alloc _ _).setRow _ (Nat.le_refl _) _);generalize (w3.alloc (.cells Tryz.zeroCells25 25)).setRow w3.heap.size A=w4 at hg4 ⊢;clear hg3 h2 ho;by_cases q1:D<1
   ·clear hd;go_wp2_with fail;go_ret2;exact ⟨qa hend _ _,hg4⟩
   ·have q2:3<D:=by omega
    clear hd;go_wp2_with fail;go_ret2;exact ⟨qa hend _ _,hg4⟩
 ·have h2:Hid (Calls Tryz.prog 38 #[.string s] w fun e w'=>e=.returned (.tuple #[.agg Tryz.zeroCells25,.int .i64 k])/\Gr w w'):=hide ((qa h1).mono fun e w' h=>⟨hone e h.1,h.2⟩);have hend:Hid (∀ base w',DivEnd s D n base (.returned (.tuple #[nilS,.int .i64 k])) w'):=hide fun base w'=>.inl ⟨k,hbad,rfl⟩
  have k2:(k != 0)=true:=by rw [bne_iff_ne];exact hk
  have k3:(k==0)=false:=by rw [beq_eq_false_iff_ne];exact hk
  clear h1 hone hbad hk hs;go_enter Tryz.func56,Tryz.ntmps56
  go_upto_region 2 with (first
   | (go_at_call 38;refine (qa h2).mono ?_;rintro e w3 ⟨rfl,hg3⟩)
   | (refine wpList_store_row rfl 25 _ _ rfl w3.heap.size Tryz.zeroCells25 rfl rfl 25 _ (heap_alloc_new _ _) (by rw [zeroP];exact infoP) rfl zeroP_ones ?_))
  have hg4:Gr w ((w3.alloc (.cells Tryz.zeroCells25 25)).setRow w3.heap.size Tryz.zeroCells25):=Gr.trans hg3 (((Gr.refl w3).alloc _ _).setRow _ (Nat.le_refl _) _);generalize (w3.alloc (.cells Tryz.zeroCells25 25)).setRow w3.heap.size Tryz.zeroCells25=w4 at hg4 ⊢;clear hg3 h2;go_wp2_with fail;go_ret2;exact ⟨qa hend _ _,hg4⟩
theorem owns_fx {g base s n:Nat} {e:TypeId} {v:Value} {xs:List Value} {W W':World} (h:W.ownsRow base e s v n xs) (f:Fx g W W') (hb:g<base):W'.ownsRow base e s v n xs:=by
 refine ⟨h.1,?_⟩;rcases h.2 with h2|⟨g',cap,cur,hv,hb',hg',rest⟩
 ·exact .inl h2
 ·exact .inr ⟨g',cap,cur,hv,hb',f.at hg' (by omega),rest⟩
structure Dl (g n:Nat) (I:World->Prop) (ga gm:Nat) (wn:Int) (PA:Array Value) (b1 b2:Nat) (base:Nat) (v:Value) (l:List Ct2) (w W:World):Prop where
 c:W.heap[b1]?=some (.cells (ctrA ga gm wn g n) 136)
 p:W.heap[b2]?=some (.cells PA 25)
 wt:Wt W
 i:I W
 fx:Fx g w W
 own:Cts base v l W
theorem Dl.next {g n:Nat} {I:World->Prop} {ga gm:Nat} {wn:Int} {PA:Array Value} {b1 b2 base:Nat} {v:Value} {l:List Ct2} {w W W':World} (h:Dl g n I ga gm wn PA b1 b2 base v l w W) (a:Away g) (f:Fx g W W') (h1:b1≠g) (h2:b2≠g) (hb:g<base) (hi:I W'):Dl g n I ga gm wn PA b1 b2 base v l w W' :=
 ⟨f.at h.c h1,f.at h.p h2,h.wt.fx a f,hi,Fx.trans h.fx f,owns_fx h.own f hb⟩
structure Dq (ga gm:Nat) (wn:Int) (g n:Nat) (PA:Array Value) (b1 b2 b3 f t:Nat) (u:UInt8) (W:World):Prop where
 c:W.heap[b1]?=some (.cells (ctrA ga gm wn g n) 136)
 p:W.heap[b2]?=some (.cells PA 25)
 m:W.heap[b3]?=some (.cells #[.int .i64 (f:Int),.int .i64 (t:Int),.int .u8 (u.toNat:Int)] 94)
theorem Dq.next {ga gm:Nat} {wn:Int} {g n:Nat} {PA:Array Value} {b1 b2 b3 f t:Nat} {u:UInt8} {W W':World} (h:Dq ga gm wn g n PA b1 b2 b3 f t u W) (x:Fx g W W') (h1:b1≠g) (h2:b2≠g) (h3:b3≠g):Dq ga gm wn g n PA b1 b2 b3 f t u W':=⟨x.at h.c h1,x.at h.p h2,x.at h.m h3⟩
theorem Dq.grown {ga gm:Nat} {wn:Int} {g n:Nat} {PA:Array Value} {b1 b2 b3 f t:Nat} {u:UInt8} {W W':World} {base:Nat} {v:Value} {l:List Ct2} (h:Dq ga gm wn g n PA b1 b2 b3 f t u W) (own:Cts base v l W) (k:W.grownBy W' v.ownBlock):Dq ga gm wn g n PA b1 b2 b3 f t u W':=by
 have no:∀ q c ty,W.heap[q]?=some (.cells c ty)->ty≠70->some q≠v.ownBlock:=fun q c ty e hn e'=>by
  rcases own.2 with ⟨rfl,_⟩|⟨g',cap,cur,rfl,_,hg',_⟩
  ·simp [Value.ownBlock] at e'
  ·obtain rfl:q=g':=by simpa [Value.ownBlock] using e'
   rw [e] at hg';injection hg' with hg';injection hg' with _ hg' _;exact hn hg'
 exact ⟨(k.block _ (xg h.c) (no _ _ _ h.c (by decide))).trans h.c,(k.block _ (xg h.p) (no _ _ _ h.p (by decide))).trans h.p,(k.block _ (xg h.m) (no _ _ _ h.m (by decide))).trans h.m⟩
theorem ctr_cells {b1 ga gm g n:Nat} {wn:Int} {W:World} (h:W.heap[b1]?=some (.cells (ctrA ga gm wn g n) 136)):W.cell? ⟨b1,0,none⟩=some (.func (.func ga) #[] #[])/\W.cell? ⟨b1,1,none⟩=some (.func (.func gm) #[] #[])/\W.cell? ⟨b1,2,none⟩=some (.int .i64 wn)/\W.cell? ⟨b1,3,none⟩=some (svN g n):=by
 refine ⟨?_,?_,?_,?_⟩<;>(rw [qm h];rfl)
theorem divideC_any {g n:Nat} {I:World->Prop} {ga gm gi:Nat} {wn:Int} (mi:MemI g n I) (aw:Away g) (wy:WayN wn ga gm gi) (d:Nat) (hd:d+1<=3) {z:Nat->UInt8} {wh:Bool} {fc:Nat->Bool} {b h gg:Int} {PA:Array Value} (o:Ok z wh fc b h gg) (r:Row z wh fc b h gg PA) (w:World) (hi:I w) (hw:Wt w) :
  Calls Tryz.prog 66 #[.agg (ctrA ga gm wn g n),.agg PA,.int .i64 ((d+1:Nat):Int)] w fun e w'=>∃ v,e=.returned v/\Cts w.heap.size v (divL d z wh fc b (sortM (movS z wh fc b))) w'/\Fx g w w'/\I w':=by
 have hz:=r.size;obtain ⟨i0,hi0',hz0,hz1,hz2⟩:=info_parts infoCt;have hi':=hide hi0';clear hi0';obtain ⟨S0,fr0,hob⟩:=mi.ob w hi;have hgl:g<w.heap.size:=(Array.getElem?_eq_some_iff.1 hob).1;obtain ⟨x1,x2⟩:=heapTwo w (.cells (ctrA ga gm wn g n) 136) (.cells PA 25);have hg0:Gr w ((w.alloc (.cells (ctrA ga gm wn g n) 136)).alloc (.cells PA 25)):=((Gr.refl w).alloc _ _).alloc _ _;have hs0:((w.alloc (.cells (ctrA ga gm wn g n) 136)).alloc (.cells PA 25)).heap.size=w.heap.size+2:=by simp
 obtain ⟨ys,hys⟩:∃ l,Hid (l=sortM (movS z wh fc b)):=⟨_,hide rfl⟩;obtain ⟨val,hval⟩:∃ f,Hid (f=behN d z wh fc b):=⟨_,hide rfl⟩;obtain ⟨cf,hcf⟩:∃ cf:Mv->Ct2,Hid (cf=fun x=>(str (txt x),val x)):=⟨_,hide rfl⟩;have hdl:divL d z wh fc b (sortM (movS z wh fc b))=ys.map cf:=by rw [qa hcf,qa hval,qa hys];rfl
 rw [hdl];clear hdl;go_enter Tryz.func66,Tryz.ntmps66;go_upto_region 2 with fail;show Code.wp _ _ _ _ ((w.alloc (.cells (ctrA ga gm wn g n) 136)).alloc (.cells PA 25));generalize ((w.alloc (.cells (ctrA ga gm wn g n) 136)).alloc (.cells PA 25))=w0 at x1 x2 hg0 hs0 ⊢;have hiw0:I w0:=mi.st _ _ hi (Fr.of_gr hg0);have hw0:=hw.gr hg0;obtain ⟨xs,hsrt,mk⟩:=wy.list r o w0 hw0;have hgm:Hid (Calls Tryz.prog 99 #[.agg (wayA ga gm),.agg PA] w0 fun e w'=>∃ v,e=.returned v/\w'.ownsRow w0.heap.size 94 3 v xs.length (rowM (sortM xs))/\Gr w0 w'):=hide (qxc hz mk);have hxl:xs.length=(sortM xs).length:=(qqd xs).symm;rw [hsrt,<-qa hys] at hgm hxl;rw [hxl] at hgm;have hlen:ys.length<=1000000:=by rw [qa hys,qqd];exact qqp z wh fc b
 have hst:Hid (∀ W W',I W->Gr W W'->I W'):=hide fun W W' hi k=>mi.st W W' hi (Fr.of_gr k)
 have hsti:Hid (∀ W W',I W->Fr (fun k _=>k=g) W W'->I W'):=hide mi.st
 have hcalls:Hid (∀ f t u,(f,t,u)∈sortM (movS z wh fc b)->(∀ W:World,Calls Tryz.prog 100 #[.agg #[.int .i64 (f:Int),.int .i64 (t:Int),.int .u8 (u.toNat:Int)]] W fun e w'=>e=.returned (.string (str (txt (f,t,u))))/\Gr W w')/\(∀ W:World,Homes W->Calls Tryz.prog 51 #[.agg PA,.agg #[.int .i64 (f:Int),.int .i64 (t:Int),.int .u8 (u.toNat:Int)]] W fun e w'=>∃ Q,e=.returned (.agg Q)/\(∀ V:World,I V->Wt V->Calls Tryz.prog 65 #[.agg (ctrA ga gm wn g n),.agg Q,.int .i64 (d:Int)] V fun e w'=>e=.returned (.int .u64 ((behN d z wh fc b (f,t,u):Nat):Int))/\Fx g V w'/\I w')/\Gr W w')):=hide fun f t u hx=>by
  have hx':=(xp _).mem_iff.1 hx;obtain ⟨c0,c1,c2,c3⟩:=o.clk;obtain ⟨hf,ht,hu,k1,k2⟩:=o.mv hx';refine ⟨fun W=>moveP_any f t hf ht u W,fun W hH=>(qvf r f t u hf ht k1 k2 c0 c1 c2 c3 W hH).mono ?_⟩;rintro e w' ⟨Q,rfl,hq,hg⟩;exact ⟨Q,rfl,fun V hi hw=>paths_any mi aw wy d (by omega) (o.next hx') hq V hi hw,hg⟩
 rw [<-qa hys,<-qa hval] at hcalls;clear hob o r hsrt hxl mk mi wy hys hval;obtain ⟨d0,d1,d2,d3⟩:=ctr_cells x1
 go_upto_region 3 with (first
  | (refine wpList_load_row rfl 25 _ rfl (w.heap.size+1) rfl 25 PA (0,0) _ (by with_reducible exact x2) Tryz.underlying25 rfl (by rw [hz];exact infoP) ?_)
  | (go_at_call 99;refine (qa hgm).mono ?_;rintro e w1 ⟨v,rfl,hv,hg1⟩;obtain ⟨pp,cap,rfl,hcap,hel⟩:=row_form hv))
 have hel':=hide hel;have hD1:Dl g n I ga gm wn PA w.heap.size (w.heap.size+1) w1.heap.size (.slice none 0 0) [] w1 w1:=⟨(Below.block hg1 _ (xg x1)).trans x1,(Below.block hg1 _ (xg x2)).trans x2,hw0.gr hg1,qa hst _ _ hiw0 hg1,Fx.refl _ _,⟨rfl,.inl ⟨rfl,rfl⟩⟩⟩;have hwt1:=hide hD1.wt;have hgb:g<w1.heap.size:=by have:=Below.size hg1;omega
 have hgW:=Gr.trans hg0 hg1;have hb1:w.heap.size≠g:=by omega
 have hb2:w.heap.size+1≠g:=by omega
 have hsz1:=Below.size hgW
 have hblk:Hid (∀ k (hk:k<ys.length),∀ g',pp=some ⟨g',0,none⟩->g'≠g):=hide fun k hk g' e=>by
  rcases hv.2 with ⟨e',_⟩|⟨g2,cap2,cur2,e',hb',_⟩
  ·injection e' with e' _ _;rw [e] at e';cases e'
  ·injection e' with e' _ _;rw [e] at e';injection e' with e';injection e' with e' _ _;omega
 clear hgm hel hv hg1 x1 x2 d0 d1 d2 d3 hiw0 hw0 hg0 hs0 hi hw;go_loopg [7,9,15] ys.length (fun gk v _ i wr=>∃ k:Nat,k+gk=ys.length/\i=.int .i64 (k:Int)/\Dl g n I ga gm wn PA w.heap.size (w.heap.size+1) w1.heap.size v ((ys.take k).map cf) w1 wr)
 case atStart=>exact ⟨0,by omega,rfl,hD1⟩
 case round =>
  clear hD1;obtain ⟨k,k1,rfl,hD⟩:=hrel;by_cases hlt:k<ys.length
  ·obtain ⟨g',hpp,x0,x1,x2⟩:=qa hel' k hlt hlt;have hg'g:=qa hblk k hlt g' hpp;subst hpp;have x0:=Fr.cell hD.fx x0 (fun _ _=>hg'g);have x1:=Fr.cell hD.fx x1 (fun _ _=>hg'g);have x2:=Fr.cell hD.fx x2 (fun _ _=>hg'g);have hmem:ys[k]∈ys:=List.getElem_mem _;have htk:Hid (ys.take (k+1)=ys.take k++[ys[k]]):=hide (List.take_succ_eq_append_getElem hlt);generalize ys[k]=y at x0 x1 x2 hmem htk;obtain ⟨f,t,u⟩:=y;obtain ⟨htx,haf⟩:=qa hcalls f t u hmem;have htx':=hide htx;have haf':=hide haf;have hcy:Hid (cf (f,t,u)=(str (txt (f,t,u)),val (f,t,u))):=hide (by rw [qa hcf]);generalize str (txt (f,t,u))=S at htx' hcy;generalize val (f,t,u)=xv at haf' hcy;have hll:((ys.take k).map cf).length=k:=by rw [List.length_map,List.length_take];omega
   have hl2:Hid ((ys.take (k+1)).map cf=(ys.take k).map cf++[(S,xv)]):=hide (by rw [qa htk,List.map_append,<-qa hcy];rfl);obtain ⟨l0,hl0⟩:∃ l,Hid (l=(ys.take k).map cf):=⟨_,hide rfl⟩;rw [<-qa hl0] at hD hll hl2;clear hl0 htk hcy;have hD':=hide hD;clear hD htx haf hmem hcalls;go_upto_region 5 with fail;have hm0:=World.alloc_heap_new wr (.cells #[.int .i64 (f:Int),.int .i64 (t:Int),.int .u8 (u.toNat:Int)] 94);have hga:Gr wr (wr.alloc (.cells #[.int .i64 (f:Int),.int .i64 (t:Int),.int .u8 (u.toNat:Int)] 94)):=(Gr.refl _).alloc _ _;have hwz:=Fx.size (qa hD').fx;have hb3:wr.heap.size≠g:=by omega
   have hD0:=(qa hD').next aw (Fx.of hga.drew) hb1 hb2 hgb (qa hst _ _ (qa hD').i hga.drew);have hS0:Dq ga gm wn g n PA w.heap.size (w.heap.size+1) wr.heap.size f t u (wr.alloc (.cells #[.int .i64 (f:Int),.int .i64 (t:Int),.int .u8 (u.toNat:Int)] 94)).drew:=⟨hD0.c,hD0.p,hm0⟩;have ed:IntKind.i64.wrap (((d+1:Nat):Int)-1)=(d:Int):=by rw [IntKind.wrap_i64];omega
   have edd:IntKind.i64.wrap (d:Int)=(d:Int):=by rw [IntKind.wrap_i64];omega
   clear hD' x0 x1 x2 hm0 hga;refine wp_region_held_drew (S:=Dq ga gm wn g n PA w.heap.size (w.heap.size+1) wr.heap.size f t u) (by kernel_rfl) hS0 (fun hHeld=>?_);clear hS0;refine C.tq 0 (u7) hHeld ?_
   refine wpAnyH_take (i:=1) (v:=.agg #[.int .i64 (f:Int),.int .i64 (t:Int),.int .u8 (u.toNat:Int)]) rfl (by kernel_rfl) (by kernel_rfl) (by kernel_rfl) (fun _ _ _ h=>h) (Or.inl ⟨by rfl,fun w' hw=>(by
    obtain ⟨e0,e1,e2⟩:=qu hw.m;go_simp;try rfl)⟩) hHeld ?_
   simp only [C.py]
   refine wpAnyH_take (i:=3) (v:=.agg (ctrA ga gm wn g n)) rfl (by kernel_rfl) (by kernel_rfl) (by kernel_rfl) (fun _ _ _ h=>h) (Or.inl ⟨by rfl,fun w' hw=>(by
    obtain ⟨e0,e1,e2,e3⟩:=ctr_cells hw.c;go_simp;rfl)⟩) hHeld ?_
   simp only [C.py];refine C.ty 4 (.agg PA) rfl (qqz hz (by rfl) _ rfl (w.heap.size+1) rfl (fun _ h=>xr h.p)) hHeld ?_
   refine wpAnyH_take (i:=5) (v:=.agg #[.int .i64 (f:Int),.int .i64 (t:Int),.int .u8 (u.toNat:Int)]) rfl (by kernel_rfl) (by kernel_rfl) (by kernel_rfl) (fun _ _ _ h=>h) (Or.inl ⟨by rfl,fun w' hw=>(by
    obtain ⟨e0,e1,e2⟩:=qu hw.m;go_simp;try rfl)⟩) hHeld ?_
   simp only [C.py];refine C.ty 7 (.int .i64 ((d+1:Nat):Int)) rfl (Or.inl ⟨by rfl,fun w' hw=>(by go_simp;try rfl)⟩) hHeld ?_;refine C.ty 8 (.int .i64 (d:Int)) rfl (Or.inl ⟨by rfl,fun w' hw=>(by go_simp;first|done|exact ed|exact edd)⟩) hHeld ?_;refine C.rd 2 fun K hK=>?_
   go_simp;refine (qa htx' _).mono ?_;rintro e w2 ⟨rfl,hg2⟩;refine hK.out _ _ (hHeld.next (Fx.of hg2) hb1 hb2 hb3) (fun hHeld=>?_);have hD2:=hD0.next aw (Fx.of hg2) hb1 hb2 hgb (qa hst _ _ hD0.i hg2);clear hg2 hD0;clear hK K
   try simp only [C.py]
   refine C.rd 6 fun K hK=>?_
   go_simp;refine (qa haf' _ hD2.wt.hom).mono ?_;rintro e w3 ⟨Q,rfl,hq,hg3⟩;refine hK.out _ _ (hHeld.next (Fx.of hg3) hb1 hb2 hb3) (fun hHeld=>?_);have hD3:=hD2.next aw (Fx.of hg3) hb1 hb2 hgb (qa hst _ _ hD2.i hg3);clear hg3 hD2;clear hK K
   try simp only [C.py]
   refine C.rd 9 fun K hK=>?_
   go_simp;refine (hq _ hD3.i hD3.wt).mono ?_;rintro e w4 ⟨rfl,hf4,hi4⟩;refine hK.out _ _ (hHeld.next hf4 hb1 hb2 hb3) (fun hHeld=>?_);have hD4:=hD3.next aw hf4 hb1 hb2 hgb hi4;clear hf4 hi4 hD3 hq;clear hK K
   try simp only [C.py]
   refine C.tq 10 (.agg #[.string S,.int .u64 (xv:Int)]) hHeld ?_;have hg5:Gr w4 (w4.alloc (.cells #[.string S,.int .u64 (xv:Int)] 70)):=(Gr.refl w4).alloc _ _;have hD5:=hD4.next aw (Fx.of hg5) hb1 hb2 hgb (qa hst _ _ hD4.i hg5);have hS5:=hHeld.next (Fx.of hg5) hb1 hb2 hb3;have hcl:=qz9 w4 S xv;clear hg5 hD4;refine C.rd 11 fun K hK=>?_
   go_simp;refine hK.out _ _ hS5 (fun hHeld=>?_);clear hK K
   try simp only [C.py]
   clear hS5;refine C.rd 12 fun K hK=>?_
   rw [if_pos (by rfl)];refine wp_append_own _ (.tmp 19) (.tmp 30) 54 rfl w1.heap.size 70 i0 (.agg #[.string ⟨#[]⟩,.int .u64 0]) 2 24 Tryz.underlying54 (qa hi') hz0 hz1 hz2 rfl (by decide) u7 l0.length (rowC l0) rfl hD5.own ⟨w4.heap.size,0,none⟩ 1 1 [.string S,.int .u64 (xv:Int)] rfl rfl hcl (by simp [Value.oneCell']) (by unfold maxLen;omega) (by omega) (Fx.size hD5.fx) ?_;intro v' w7 hown' hgrow _;have hS7:=hHeld.grown hD5.own hgrow
   have hD7:Dl g n I ga gm wn PA w.heap.size (w.heap.size+1) w1.heap.size v' (l0++[(S,xv)]) w1 w7:=by
    have blk:∀ q o,(w4.alloc (.cells #[.string S,.int .u64 (xv:Int)] 70)).heap[q]?=some o->q<w1.heap.size->w7.heap[q]?=some o:=fun q o e hq=>by
     rw [hgrow.block q (xg e) (fun e'=>by have:=cts_block hD5.own q e'.symm;omega)];exact e
    have hfr:Fr (fun q _=>q<w1.heap.size) (w4.alloc (.cells #[.string S,.int .u64 (xv:Int)] 70)) w7:=⟨hgrow.os,hgrow.tape,hgrow.output,hgrow.size,fun q o e hq=>blk q o e hq⟩;refine ⟨hS7.c,hS7.p,hD5.wt.low (qa hwt1) hfr,qa hsti _ _ hD5.i (hfr.mono fun q o _ e=>by rw [e];exact hgb),⟨hgrow.os.trans hD5.fx.os,hgrow.tape.trans hD5.fx.tape,hgrow.output.trans hD5.fx.output,Nat.le_trans hD5.fx.size hgrow.size,fun q o e hq=>blk q o (hD5.fx.at e hq) (xg e)⟩,?_⟩;unfold Cts;rw [rowC_snoc,List.length_append];exact hown'
   refine hK.out _ _ hS7 (fun hHeld=>?_);clear hK K hD5 hS7 hcl hgrow hown'
   try simp only [C.py]
   refine C.rd 13 fun K hK=>?_
   go_simp;refine hK.out _ _ hHeld (fun hHeld=>?_);clear hK K
   try simp only [C.py]
   refine wpAnyH_done (by kernel_rfl) ?_ _;have hD8:=hide hD7;clear hHeld hD7;go_wp2_with fail;go_roundg (gk-1)
   case measure=>omega
   case rel=>exact ⟨k+1,by omega,by go_num,by rw [qa hl2];exact qa hD8⟩
  ·have ek:k=ys.length:=by omega
   subst ek;rw [List.take_length] at hD;have hD':=hide hD;clear hD hel' hcalls hblk;go_wp2_with fail;go_ret;exact ⟨_,rfl,jx (qa hD').own hsz1,Fx.trans (Fx.of hgW) (qa hD').fx,(qa hD').i⟩
end Go.Proofs.YtnfakamfmkhlbaaGreatDoor.C
