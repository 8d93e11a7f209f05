import Derived.Test.YtnfakamfmkhlbaaGreatDoorZf32
import Derived.Test.YtnfakamfmkhlbaaGreatDoorZf31
import Derived.Test.YtnfakamfmkhlbaaGreatDoorZf17
import Derived.Test.YtnfakamfmkhlbaaGreatDoorZf30
import Derived.Test.YtnfakamfmkhlbaaGreatDoorZf6
import Derived.Deep.QuietTactic
import Derived.BigQuiet
import Derived.Test.YtnfakamfmkhlbaaGreatDoorZf16
import Derived.Deep.RegionHeld3
import Derived.Test.YtnfakamfmkhlbaaGreatDoorZf27
import Derived.Test.YtnfakamfmkhlbaaGreatDoorZf9
set_option maxRecDepth 100000
set_option maxHeartbeats 4000000
set_option linter.unusedSimpArgs false
namespace Go.Proofs.YtnfakamfmkhlbaaGreatDoor.C
open Go.ChangeShapes Go.WideShapes Go.ChangeAt Go.RowKit Go.Shelf
open Go.Proofs.YtnfakamfmkhlbaaGreatDoor.P
attribute [local go_sem] qb qd Oper.semAt_some
def afW (p:Pos) (x:Mv):List UInt8:=writeS (plZ (posZ p) p.behind x) (!p.white) (cfA p.castle x.1 x.2.1 4) (behA (posZ p) x.1 x.2.1) (halA (posZ p) x.1 x.2.1 p.half) (fulA p.white p.full)
def ErrK (s t:ByteArray) (k:Int):Prop:=BadK s k\/(k=1/\∃ p,readS s=some p/\posCan p=true/\mvR t=none)\/(k=4/\∃ p x,readS s=some p/\posCan p=true/\mvR t=some x/\x∉movS (posZ p) p.white p.castle p.behind)
theorem to_split (s t:ByteArray):(∃ p x,readS s=some p/\posCan p=true/\mvR t=some x/\x∈movS (posZ p) p.white p.castle p.behind/\∀ e,ToEnd s t e->e=.returned (.tuple #[.agg (posV p),.agg (mvA x),.int .i64 0])) ∨
  (∃ k,k≠0/\ErrK s t k/\∀ e,ToEnd s t e->e=.returned (.tuple #[.agg Tryz.zeroCells25,.agg zMv,.int .i64 k])):=by
 rcases xo s with ⟨p,hr,hcan,_⟩|⟨k,hk,hbad,_⟩
 ·have nobad:∀ k,¬ BadK s k:=fun k h=>by
   rcases h with ⟨_,a⟩|⟨_,q,a,b⟩
   ·rw [hr] at a;cases a
   ·rw [hr] at a;rw [<-Option.some.inj a,hcan] at b;cases b
  cases hm:mvR t with
  | none =>
   refine .inr ⟨1,by decide,.inr (.inl ⟨rfl,p,hr,hcan,hm⟩),fun e h=>?_⟩;rcases h with ⟨k,a,_⟩|⟨q,_,_,_,rfl⟩|⟨q,x,_,_,a,_⟩|⟨q,x,_,_,a,_⟩
   ·exact absurd a (nobad k)
   ·rfl
   ·rw [hm] at a;cases a
   ·rw [hm] at a;cases a
  | some x =>
   by_cases hx:x∈movS (posZ p) p.white p.castle p.behind
   ·refine .inl ⟨p,x,hr,hcan,rfl,hx,fun e h=>?_⟩;rcases h with ⟨k,a,_⟩|⟨q,_,_,a,_⟩|⟨q,y,a,_,b,c,_⟩|⟨q,y,a,_,b,_,rfl⟩
    ·exact absurd a (nobad k)
    ·rw [hm] at a;cases a
    ·rw [hr] at a;rw [hm] at b;rw [<-Option.some.inj a,<-Option.some.inj b] at c;exact absurd hx c
    ·rw [hr] at a;rw [hm] at b;rw [<-Option.some.inj a,<-Option.some.inj b]
   ·refine .inr ⟨4,by decide,.inr (.inr ⟨rfl,p,x,hr,hcan,hm,hx⟩),fun e h=>?_⟩;rcases h with ⟨k,a,_⟩|⟨q,_,_,a,_⟩|⟨q,y,_,_,_,_,rfl⟩|⟨q,y,a,_,b,c,_⟩
    ·exact absurd a (nobad k)
    ·rw [hm] at a;cases a
    ·rfl
    ·rw [hr] at a;rw [hm] at b;rw [<-Option.some.inj a,<-Option.some.inj b] at c;exact absurd c hx
 ·refine .inr ⟨k,hk,.inl hbad,fun e h=>?_⟩
  have nogood:∀ q,readS s=some q->posCan q=true->False:=fun q a b=>by
   rcases hbad with ⟨_,c⟩|⟨_,r,c,d⟩
   ·rw [c] at a;cases a
   ·rw [c] at a;rw [<-Option.some.inj a,d] at b;cases b
  rcases h with ⟨k',a,rfl⟩|⟨q,a,b,_⟩|⟨q,x,a,b,_⟩|⟨q,x,a,b,_⟩
  ·have:k'=k:=by
    rcases hbad with ⟨rfl,c⟩|⟨rfl,r,c,d⟩<;>rcases a with ⟨rfl,c'⟩|⟨rfl,r',c',d'⟩
    ·rfl
    ·rw [c] at c';cases c'
    ·rw [c] at c';cases c'
    ·rfl
   rw [this]
  ·exact (nogood q a b).elim
  ·exact (nogood q a b).elim
  ·exact (nogood q a b).elim
def PlayEnd (s t:ByteArray) (e:Ending):Prop :=
 (∃ k,k≠0/\ErrK s t k/\e=.returned (.tuple #[.string ⟨#[]⟩,.int .i64 k])) ∨
 (∃ p x,readS s=some p/\posCan p=true/\mvR t=some x/\x∈movS (posZ p) p.white p.castle p.behind/\e=.returned (.tuple #[.string ⟨(afW p x).toArray⟩,.int .i64 0]))
theorem write_row2 {z:Nat->UInt8} {wh:Bool} {f:Nat->Bool} {b h g:Int} {PA:Array Value} (r:Row z wh f b h g PA) (hb:b=-1\/(0<=b/\b<64)) (h0:0<=h) (h1:h<=65535) (g0:0<=g) (g1:g<=65535) (w:World) (ht:Tab w):Calls Tryz.prog 39 #[.agg PA] w fun e w'=>e=.returned (.string ⟨(writeS z wh f b h g).toArray⟩)/\Gr w w':=by
 obtain ⟨A,a1,a2,rfl⟩:=rowp_is r;exact write_any z A a1 a2 wh f b h g hb h0 h1 g0 g1 w ht
theorem can_clk2 {p:Pos} (h:posCan p=true):0<=p.half/\p.half<=65535/\0<=p.full/\p.full<=65535:=by
 unfold posCan canS canM at h;simp only [Bool.and_eq_true] at h;obtain ⟨_,⟨⟨⟨⟨_,_⟩,_⟩,_⟩,h5⟩,_⟩:=h;unfold clkOk at h5;simp only [Bool.and_eq_true,decide_eq_true_eq] at h5;omega
theorem qzl (z:Nat->UInt8) (f t:Nat) (hf:f<64) (ht:t<64) {h:Int} (h0:0<=h) {wh:Bool} {g:Int} (g0:0<=g) (g1:g<=65535):(behA z f t=-1\/(0<=behA z f t/\behA z f t<64))/\0<=halA z f t h/\halA z f t h<=65535/\0<=fulA wh g/\fulA wh g<=65535:=by
 unfold behA halA fulA;refine ⟨?_,?_,?_,?_,?_⟩
 ·split
  ·right;omega
  ·left;rfl
 ·split<;>omega
 ·split<;>omega
 ·split<;>omega
 ·split<;>omega
theorem rookPlay_any (s t:ByteArray) (hs:s.size<4294967281) (ht:t.size<4294967281) (m:Int) (w:World) (hc:Ct m w) (htb:Tabs w) (hpw:Tab w):Calls Tryz.prog 24 #[.string s,.string t] w fun e w'=>PlayEnd s t e/\Gr w w':=by
 have h1:=hide (toMove_any s t hs ht m w hc htb);rcases to_split s t with ⟨p,x,hr,hcan,hm,hx,hone⟩|⟨k,hk,herr,hone⟩
 ·have h2:Hid (Calls Tryz.prog 50 #[.string s,.string t] w fun e w'=>e=.returned (.tuple #[.agg (posV p),.agg (mvA x),.int .i64 0])/\Gr w w'):=hide ((qa h1).mono fun e w' h=>⟨hone e h.1,h.2⟩);have hend:Hid (PlayEnd s t (.returned (.tuple #[.string ⟨(afW p x).toArray⟩,.int .i64 0]))):=hide (.inr ⟨p,x,hr,hcan,hm,hx,rfl⟩);obtain ⟨hC,hb0,hb1⟩:=qja hr hcan;have hxl:=List.mem_filter.1 ((jg hC hb0 hb1 x).2 hx);have hok:=zb _ _ _ _ x hx;have hlo:=zx hC hb0 hb1;obtain ⟨c0,c1,c2,c3⟩:=can_clk2 hcan;have hrow:=jh hr;have hz:=hrow.size;have ho:=hide (xi hrow);obtain ⟨f,tt,u⟩:=x;have haf:Hid (∀ W,Homes W->Calls Tryz.prog 51 #[.agg (posV p),.agg #[.int .i64 (f:Int),.int .i64 (tt:Int),.int .u8 (u.toNat:Int)]] W fun e w'=>∃ Q,e=.returned (.agg Q)/\Row (plZ (posZ p) p.behind (f,tt,u)) (!p.white) (cfA p.castle f tt 4) (behA (posZ p) f tt) (halA (posZ p) f tt p.half) (fulA p.white p.full) Q/\Gr W w'):=hide (fun W hh=>qxe hrow f tt u hok.1 hok.2 (fun a b=>hlo.k1 f tt u hxl.1 a b) (fun a b=>hlo.k2 f tt u hxl.1 a b) c0 c1 c2 c3 W hh);obtain ⟨q1,q2,q3,q4,q5⟩:=qzl (posZ p) f tt hok.1 hok.2 c0 (wh:=p.white) c2 c3;have hwr:Hid (∀ Q,Row (plZ (posZ p) p.behind (f,tt,u)) (!p.white) (cfA p.castle f tt 4) (behA (posZ p) f tt) (halA (posZ p) f tt p.half) (fulA p.white p.full) Q->∀ W,Tab W->Calls Tryz.prog 39 #[.agg Q] W fun e w'=>e=.returned (.string ⟨(afW p (f,tt,u)).toArray⟩)/\Gr W w'):=hide (fun Q hQ W hT=>write_row2 hQ q1 q2 q3 q4 q5 W hT);have hmv:mvA (f,tt,u)=#[.int .i64 (f:Int),.int .i64 (tt:Int),.int .u8 (u.toNat:Int)]:=rfl;rw [hmv] at h2;generalize (⟨(afW p (f,tt,u)).toArray⟩:ByteArray)=S at hend hwr;generalize posV p=A at h2 hz ho haf;have hc':=hide hc;have hpw':=hide hpw;clear h1 hone hr hcan hm hx hC hb0 hb1 hxl hok hlo c0 c1 c2 c3 hrow q1 q2 q3 q4 q5 hc htb hpw hs ht hmv;go_enter Tryz.func24,Tryz.ntmps24
  go_upto_region 2 with (first
   | (go_at_call 50;refine (qa h2).mono ?_;rintro e w3 ⟨rfl,hg3⟩)
   | (refine wpList_store_row rfl 25 _ _ rfl w3.heap.size A rfl rfl 25 _ (by first|exact heap_alloc_new _ _|exact (heapTwo w3 _ _).1) (by rw [hz];exact infoP) (by rw [hz];exact zeroP.symm) (qa ho) ?_)
   | (refine wpList_store_row rfl 94 _ _ rfl (w3.heap.size+1) #[.int .i64 (f:Int),.int .i64 (tt:Int),.int .u8 (u.toNat:Int)] rfl rfl 94 zMv (by rw [setRow_other _ _ _ _ (by omega)];exact (heapTwo w3 _ _).2) infoMv3 rfl (by simp [Value.oneCell']) ?_))
  obtain ⟨y1,y2⟩:=heapTwo w3 (.cells Tryz.zeroCells25 25) (.cells zMv 94);have hg6:Gr w3 ((((w3.alloc (.cells Tryz.zeroCells25 25)).alloc (.cells zMv 94)).setRow w3.heap.size A).setRow (w3.heap.size+1) #[.int .i64 (f:Int),.int .i64 (tt:Int),.int .u8 (u.toNat:Int)]):=((((Gr.refl w3).alloc _ _).alloc _ _).setRow _ (Nat.le_refl _) _).setRow _ (by omega) _;have hb1:((((w3.alloc (.cells Tryz.zeroCells25 25)).alloc (.cells zMv 94)).setRow w3.heap.size A).setRow (w3.heap.size+1) #[.int .i64 (f:Int),.int .i64 (tt:Int),.int .u8 (u.toNat:Int)]).heap[w3.heap.size]?=some (.cells A 25):=by rw [setRow_other _ _ _ _ (by omega)];exact setRow_heap _ _ _ _ _ _ y1
  have hb2:((((w3.alloc (.cells Tryz.zeroCells25 25)).alloc (.cells zMv 94)).setRow w3.heap.size A).setRow (w3.heap.size+1) #[.int .i64 (f:Int),.int .i64 (tt:Int),.int .u8 (u.toNat:Int)]).heap[w3.heap.size+1]?=some (.cells #[.int .i64 (f:Int),.int .i64 (tt:Int),.int .u8 (u.toNat:Int)] 94):=setRow_heap _ _ _ _ _ _ (by rw [setRow_other _ _ _ _ (by omega)];exact y2);show Code.wp _ _ _ _ ((((w3.alloc (.cells Tryz.zeroCells25 25)).alloc (.cells zMv 94)).setRow w3.heap.size A).setRow (w3.heap.size+1) #[.int .i64 (f:Int),.int .i64 (tt:Int),.int .u8 (u.toNat:Int)]);generalize ((((w3.alloc (.cells Tryz.zeroCells25 25)).alloc (.cells zMv 94)).setRow w3.heap.size A).setRow (w3.heap.size+1) #[.int .i64 (f:Int),.int .i64 (tt:Int),.int .u8 (u.toNat:Int)])=w6 at hg6 hb1 hb2 ⊢;generalize w3.heap.size=b1 at hb1 hb2 ⊢;have m0:w6.cell? ⟨b1+1,0,none⟩=some (.int .i64 (f:Int)):=by rw [cell_of_row _ _ _ _ _ _ hb2];rfl
  have m1:w6.cell? ⟨b1+1,1,none⟩=some (.int .i64 (tt:Int)):=by rw [cell_of_row _ _ _ _ _ _ hb2];rfl
  have m2:w6.cell? ⟨b1+1,2,none⟩=some (.int .u8 (u.toNat:Int)):=by rw [cell_of_row _ _ _ _ _ _ hb2];rfl
  have hrw:=hide (jx hb1);have hgw:=hide (Gr.trans hg3 hg6);have hH6:=hide ((qa hc').gr (qa hgw)).homes;clear h2 hg3 hg6 hb1 hb2 y1 y2
  go_wp2_with (first
   | (go_at_call 51;refine (qa haf _ (qa hH6)).mono ?_;rintro e w7 ⟨Q,rfl,hQ,hg7⟩;have hgx:=hide (Gr.trans (qa hgw) hg7);have hT7:=hide ((qa hpw').gr (qa hgx)))
   | (go_at_call 39;refine (qa hwr _ hQ _ (qa hT7)).mono ?_;rintro e w8 ⟨rfl,hg8⟩)
   | (refine qm (by rfl) _ rfl b1 rfl hz (qa hrw) ?_))
  go_ret2;exact ⟨qa hend,Gr.trans (qa hgx) hg8⟩
 ·have h2:Hid (Calls Tryz.prog 50 #[.string s,.string t] w fun e w'=>e=.returned (.tuple #[.agg Tryz.zeroCells25,.agg zMv,.int .i64 k])/\Gr w w'):=hide ((qa h1).mono fun e w' h=>⟨hone e h.1,h.2⟩);have hend:Hid (PlayEnd s t (.returned (.tuple #[.string ⟨#[]⟩,.int .i64 k]))):=hide (.inl ⟨k,hk,herr,rfl⟩);have k2:(k != 0)=true:=by rw [bne_iff_ne];exact hk
  clear h1 hone hk herr hc htb hpw hs ht;go_enter Tryz.func24,Tryz.ntmps24
  go_upto_region 2 with (first
   | (go_at_call 50;refine (qa h2).mono ?_;rintro e w3 ⟨rfl,hg3⟩)
   | (refine wpList_store_row rfl 25 _ _ rfl w3.heap.size Tryz.zeroCells25 rfl rfl 25 _ (by first|exact heap_alloc_new _ _|exact (heapTwo w3 _ _).1) (by rw [zeroP];exact infoP) rfl zeroP_ones ?_)
   | (refine wpList_store_row rfl 94 _ _ rfl (w3.heap.size+1) zMv rfl rfl 94 zMv (by rw [setRow_other _ _ _ _ (by omega)];exact (heapTwo w3 _ _).2) infoMv3 rfl qqj ?_))
  have hg6:Gr w3 ((((w3.alloc (.cells Tryz.zeroCells25 25)).alloc (.cells zMv 94)).setRow w3.heap.size Tryz.zeroCells25).setRow (w3.heap.size+1) zMv):=((((Gr.refl w3).alloc _ _).alloc _ _).setRow _ (Nat.le_refl _) _).setRow _ (by omega) _;show Code.wp _ _ _ _ ((((w3.alloc (.cells Tryz.zeroCells25 25)).alloc (.cells zMv 94)).setRow w3.heap.size Tryz.zeroCells25).setRow (w3.heap.size+1) zMv);generalize ((((w3.alloc (.cells Tryz.zeroCells25 25)).alloc (.cells zMv 94)).setRow w3.heap.size Tryz.zeroCells25).setRow (w3.heap.size+1) zMv)=w6 at hg6 ⊢;have hgw:=hide (Gr.trans hg3 hg6);clear h2 hg3 hg6;go_wp2_with fail;go_ret2;exact ⟨qa hend,qa hgw⟩
end Go.Proofs.YtnfakamfmkhlbaaGreatDoor.C
namespace Go.Proofs.YtnfakamfmkhlbaaGreatDoor.C
open Go.ChangeShapes Go.WideShapes Go.ChangeAt Go.RowKit Go.Shelf
theorem rdT_4 {s:ByteArray} (h:s.size=4):rdT (s.extract 4 s.size)=(0,true):=by
 have:¬ 0<(s.extract 4 s.size).size:=by rw [ByteArray.size_extract];omega
 unfold rdT;rw [dif_neg this]
theorem rdT_5 {s:ByteArray} (h:s.size=5):rdT (s.extract 4 s.size)=(s[4],decide (0<=Lib.indexByte turnsL s[4])):=by
 have h1:0<(s.extract 4 s.size).size:=by rw [ByteArray.size_extract];omega
 have h2:(s.extract 4 s.size)[0]=s[4]:=by rw [ByteArray.getElem_extract]
 unfold rdT;rw [dif_pos h1,h2]
end Go.Proofs.YtnfakamfmkhlbaaGreatDoor.C
namespace Go.Proofs.YtnfakamfmkhlbaaGreatDoor.C
open Go.RowKit
open Go.Proofs.YtnfakamfmkhlbaaGreatDoor.P
theorem pawn_kd:∀ c:UInt8,pawnB c=decide (kdc c=0):=all256 (by decide +kernel)
theorem beq_int (a b:Int):(a==b)=decide (a=b):=rfl
theorem att0_up {z:Nat->UInt8} {wh:Bool} {f t:Nat} (h:attI (zI z) 0 (sdb wh) (f:Int) (t:Int)=true):upR f t=sdb wh:=by
 unfold attI at h;rw [if_pos rfl,Bool.and_eq_true] at h;have h2:=of_decide_eq_true h.2;unfold upR;omega
end Go.Proofs.YtnfakamfmkhlbaaGreatDoor.C
namespace Go.Proofs.YtnfakamfmkhlbaaGreatDoor.C
open Go.ChangeShapes Go.WideShapes Go.ChangeAt Go.RowKit Go.Shelf
open Go.Proofs.YtnfakamfmkhlbaaGreatDoor.P
attribute [local go_sem] qb qd Oper.semAt_some
theorem sqS_lt {s:ByteArray} {n:Nat} (h:sqS s=some n):n<64:=by
 unfold sqS at h;split at h
 ·split at h
  ·injection h with h;omega
  ·cases h
 ·cases h
theorem turn_U5:∀ c:UInt8,0<=Lib.indexByte turnsL c->c∈U5:=all256 (by decide +kernel)
theorem mvR_parts {t:ByteArray} {f tt:Nat} {u:UInt8} (h:mvR t=some (f,tt,u)):sqI (t.extract 0 2)=(f:Int)/\sqI (t.extract 2 4)=(tt:Int)/\f<64/\tt<64/\u∈U5/\((t.size=4/\u=0)\/(∃ h:t.size=5,u=t[4])):=by
 unfold mvR at h;split at h
 case isFalse=>cases h
 case isTrue h45 =>
  split at h
  case h_2=>cases h
  case h_1 a b ea eb =>
   split at h
   case isFalse=>cases h
   case isTrue hd =>
    injection h with h;injection h with h1 h;injection h with h2 h3;subst h1 h2;refine ⟨by unfold sqI;rw [ea],by unfold sqI;rw [eb],sqS_lt ea,sqS_lt eb,?_,?_⟩
    ·rcases h45 with e|e
     ·rw [rdT_4 e] at h3;rw [<-h3];decide
     ·rw [rdT_5 e] at h3 hd;rw [<-h3];exact turn_U5 _ (of_decide_eq_true hd)
    ·rcases h45 with e|e
     ·rw [rdT_4 e] at h3;exact .inl ⟨e,h3.symm⟩
     ·rw [rdT_5 e] at h3;exact .inr ⟨e,h3.symm⟩
theorem ql {W:World} {b:Nat} {o:Obj} (h:W.heap[b]?=some o):b<W.heap.size:=(Array.getElem?_eq_some_iff.1 h).1
theorem err_one {s t:ByteArray} {k k':Int} (h:ErrK s t k) (h':ErrK s t k'):k=k':=by
 rcases h with (⟨e,a⟩|⟨e,q,a,b⟩)|⟨e,q,a,b,c⟩|⟨e,q,y,a,b,c,d⟩<;>rcases h' with (⟨e',a'⟩|⟨e',q',a',b'⟩)|⟨e',q',a',b',c'⟩|⟨e',q',y',a',b',c',d'⟩<;>first|(rw [e,e'];done)|(exfalso;rw [a] at a';first|(cases a';done)|(have a2:=Option.some.inj a';subst a2;first|(rw [b] at b';cases b';done)|(rw [c] at c';cases c')))
end Go.Proofs.YtnfakamfmkhlbaaGreatDoor.C
namespace Go.Proofs.YtnfakamfmkhlbaaGreatDoor.C
open Go.RowKit
open Go.Proofs.YtnfakamfmkhlbaaGreatDoor.P
theorem qjj {z:Nat->UInt8} {bb:Bool} (h:kinR z bb 64=1):∃ y,y<64/\∀ n,n<64->(ixc (z n)=((bg bb+5:Nat):Int)↔n=y):=by
 unfold kinR at h;obtain ⟨y,hy⟩:=List.length_eq_one_iff.1 h;have hm:∀ n,n∈(List.range 64).filter (fun n=>decide (ixc (z n)=((bg bb+5:Nat):Int)))↔n=y:=fun n=>by rw [hy,List.mem_singleton]
 have h1:y<64:=List.mem_range.1 (List.mem_filter.1 ((hm y).2 rfl)).1;refine ⟨y,h1,fun n hn=>?_⟩;rw [<-hm n,List.mem_filter,decide_eq_true_eq,List.mem_range];exact ⟨fun h=>⟨hn,h⟩,fun h=>h.2⟩
theorem one_cnt:∀ y,y<64->((List.range 64).filter fun n=>decide (n=y)).length=1:=by decide +kernel
theorem kin_of {Z:Nat->UInt8} {bb:Bool} {y:Nat} (hy:y<64) (h:∀ n,n<64->(ixc (Z n)=((bg bb+5:Nat):Int)↔n=y)):kinR Z bb 64=1:=by
 unfold kinR;rw [List.filter_congr (q:=fun n=>decide (n=y)) (fun n hn=>decide_eq_decide.2 (h n (List.mem_range.1 hn)))];exact one_cnt y hy
def swp (f t n:Nat):Nat:=if n=f then t else if n=t then f else n
theorem swp_two (f t n:Nat):swp f t (swp f t n)=n:=by
 unfold swp;by_cases h1:n=f
 ·subst h1;rw [if_pos rfl];by_cases h2:t=n
  ·rw [if_pos h2,h2]
  ·rw [if_neg h2,if_pos rfl]
 ·rw [if_neg h1];by_cases h2:n=t
  ·subst h2;rw [if_pos rfl,if_pos rfl]
  ·rw [if_neg h2,if_neg h1,if_neg h2]
theorem swp_lt {f t n:Nat} (hf:f<64) (ht:t<64) (hn:n<64):swp f t n<64:=by
 unfold swp;split
 ·exact ht
 ·split
  ·exact hf
  ·exact hn
theorem swp_perm {f t:Nat} (hf:f<64) (ht:t<64):((List.range 64).map (swp f t)).Perm (List.range 64):=by
 have hnd:((List.range 64).map (swp f t)).Nodup:=by
  rw [List.nodup_iff_pairwise_ne,List.pairwise_map];exact (List.nodup_iff_pairwise_ne.1 List.nodup_range).imp fun {a c} hac h=>hac (by rw [<-swp_two f t a,h,swp_two])
 rw [List.perm_ext_iff_of_nodup hnd List.nodup_range];intro a;rw [List.mem_map,List.mem_range];constructor
 ·rintro ⟨n,hn,rfl⟩;exact swp_lt hf ht (List.mem_range.1 hn)
 ·intro ha;exact ⟨swp f t a,List.mem_range.2 (swp_lt hf ht ha),swp_two f t a⟩
theorem men_swap {z Z:Nat->UInt8} {bb:Bool} {f t:Nat} (hf:f<64) (ht:t<64) (h:∀ n,n<64->(coc (Z n)=sdb bb↔coc (z (swp f t n))=sdb bb)):menR Z bb 64=menR z bb 64:=by
 unfold menR;rw [<-List.countP_eq_length_filter,<-List.countP_eq_length_filter,<-(swp_perm hf ht).countP_eq (fun n=>decide (coc (z n)=sdb bb)),List.countP_map];refine List.countP_congr fun n hn=>?_
 simp only [Function.comp,decide_eq_true_eq];exact h n (List.mem_range.1 hn)
theorem men_le {z Z:Nat->UInt8} {bb:Bool} (h:∀ n,n<64->coc (Z n)=sdb bb->coc (z n)=sdb bb):menR Z bb 64<=menR z bb 64:=by
 unfold menR;rw [<-List.countP_eq_length_filter,<-List.countP_eq_length_filter];refine List.countP_mono_left fun n hn=>?_
 rw [decide_eq_true_eq,decide_eq_true_eq];exact h n (List.mem_range.1 hn)
structure Step1 (z Z:Nat->UInt8) (wh:Bool) (f t cs:Nat) (c:UInt8):Prop where
 at':∀ n,Z n=if n=t then c else if n=f then 46 else if n=cs then 46 else z n
 hf:f<64
 ht:t<64
 own:coc (z f)=sdb wh
 no:coc (z t)≠sdb wh
 new:coc c=sdb wh
 op:cs=t\/coc (z cs)=sdb (!wh)
theorem qxc:coc 46=0:=by decide +kernel
theorem qq9 (b:Bool):sdb b≠0:=by cases b<;>decide
theorem Step1.ne {z Z:Nat->UInt8} {wh:Bool} {f t cs:Nat} {c:UInt8} (h:Step1 z Z wh f t cs c):f≠t:=fun e=>h.no (by rw [<-e];exact h.own)
theorem Step1.men {z Z:Nat->UInt8} {wh:Bool} {f t cs:Nat} {c:UInt8} (h:Step1 z Z wh f t cs c):menR Z wh 64=menR z wh 64/\menR Z (!wh) 64<=menR z (!wh) 64:=by
 have hne:=h.ne;constructor
 ·refine men_swap h.hf h.ht fun n hn=>?_
  rw [h.at' n];unfold swp;by_cases c1:n=t
  ·rw [if_pos c1,if_neg (fun e=>hne (e.symm.trans c1)),if_pos c1];exact ⟨fun _=>h.own,fun _=>h.new⟩
  ·rw [if_neg c1];by_cases c2:n=f
   ·rw [if_pos c2,if_pos c2,qxc];exact ⟨fun e=>absurd e.symm (qq9 wh),fun e=>absurd e h.no⟩
   ·rw [if_neg c2,if_neg c2,if_neg c1];by_cases c3:n=cs
    ·rw [if_pos c3,qxc];rcases h.op with e|e
     ·exact absurd (c3.trans e) c1
     ·refine ⟨fun e'=>absurd e'.symm (qq9 wh),fun e'=>?_⟩;rw [c3,e] at e';exact absurd e'.symm (qz9 wh)
    ·rw [if_neg c3]
 ·refine men_le fun n hn hx=>?_
  rw [h.at' n] at hx;by_cases c1:n=t
  ·rw [if_pos c1,h.new] at hx;exact absurd hx (qz9 wh)
  ·rw [if_neg c1] at hx;by_cases c2:n=f
   ·rw [if_pos c2,qxc] at hx;exact absurd hx.symm (qq9 _)
   ·rw [if_neg c2] at hx;by_cases c3:n=cs
    ·rw [if_pos c3,qxc] at hx;exact absurd hx.symm (qq9 _)
    ·rwa [if_neg c3] at hx
theorem ja {z:Nat->UInt8} {wh:Bool} {b:Int} {i f t cs:Nat} {u:UInt8} (h:Plain z wh b i f t u cs) (kg:i=5->t≠f+2/\t+2≠f):Step1 z (plZ z b (f,t,u)) wh f t cs (trn (z f) u):=by
 obtain ⟨q,hq,e,_⟩:=h.tr;refine ⟨pl_at h kg,h.hf,h.ht,xk h.hi h.hc,h.no,xk hq e,?_⟩;by_cases hep:i=0/\(t:Int)=b
 ·obtain ⟨_,_,_,_,e5⟩:=h.ep hep.1 hep.2;exact .inr (xk (q:=0) (by omega) e5)
 ·exact .inl (h.nep hep)
theorem goes_att {z:Nat->UInt8} {wh:Bool} {fc:Nat->Bool} {b:Int} {f t:Nat} {u:UInt8} {i:Nat} (hi:i<6) (hc:ixc (z f)=((bg wh+i:Nat):Int)) (hg:goesR z wh fc b f t u=true) (kg:i=5->t≠f+2/\t+2≠f):attI (zI z) i (sdb wh) (f:Int) (t:Int)=true\/z t=46:=by
 have hk:=kd_ix hi hc;unfold goesR at hg;simp only [Bool.and_eq_true] at hg;obtain ⟨⟨⟨_,_⟩,hu⟩,hg⟩:=hg;by_cases e0:kdc (z f)=0
 ·have i0:i=0:=by omega
  subst i0;rw [if_pos e0] at hg;unfold pwR at hg;by_cases ha:attI (zI z) 0 (sdb wh) (f:Int) (t:Int)=true
  ·exact .inl ha
  ·rw [if_neg ha] at hg;simp only [Bool.and_eq_true,decide_eq_true_eq] at hg;exact .inr hg.1.2
 ·rw [if_neg e0] at hg;have en:(kdc (z f)).toNat=i:=by rw [hk];exact Int.toNat_natCast i
  rw [en] at hg;unfold mnR at hg;by_cases ha:attI (zI z) i (sdb wh) (f:Int) (t:Int)=true
  ·exact .inl ha
  ·exfalso
   rw [if_neg ha,Bool.and_assoc,Bool.and_eq_true,decide_eq_true_eq] at hg
   have hu0:u=0:=by
    rw [decide_eq_false e0,Bool.false_and] at hu;have:=eq_of_beq hu;exact Classical.byContradiction fun h=>by rw [decide_eq_true h] at this;cases this
   subst hu0;obtain ⟨j,hj,_,_,e1,e2,_,_⟩:=qq1.1 hg.2;have:=kg hg.1;have:=cas_two j hj;omega
theorem no_king {z:Nat->UInt8} {wh:Bool} {fc:Nat->Bool} {b:Int} {f t:Nat} {u:UInt8} {i:Nat} (hi:i<6) (hf:f<64) (ht:t<64) (hc:ixc (z f)=((bg wh+i:Nat):Int)) (hg:goesR z wh fc b f t u=true) (kg:i=5->t≠f+2/\t+2≠f) (h1:kinR z (!wh) 64=1) (ha:attR z (kingR z (!wh)) wh=false):ixc (z t)≠((bg (!wh)+5:Nat):Int):=by
 intro ek;rcases goes_att hi hc hg kg with h|h
 ·obtain ⟨y,hy,hyy,e⟩:=jz h1;obtain ⟨y',_,hk⟩:=qjj h1;have ety:t=y':=(hk t ht).1 ek
  have eyy:y=y':=(hk y hy).1 (by
   have hm:y∈sqs (layS z 64 (bg (!wh)+5)):=by rw [hyy];simp
   have:=qqc.1 hm;rw [lay_bit z _ 64 (by omega) y hy] at this;exact (of_decide_eq_true this.2).2)
  rw [e,eyy,<-ety] at ha;unfold attR at ha;rw [List.any_eq_false] at ha;refine ha f (List.mem_range.2 hf) ?_;rw [xk hi hc,(qz8 hi hc).2,h];simp
 ·rw [h,dot_ix] at ek;have:=jt wh;omega
theorem bb_two (bb wh:Bool):bb=wh\/bb=!wh:=by cases bb<;>cases wh<;>simp
theorem prom_kd:∀ c∈([80,112]:List UInt8),∀ u∈([113,114,98,110]:List UInt8),0<kdc (trn c u):=by decide +kernel
structure Brd1 (Z:Nat->UInt8):Prop where
 bad:∀ n,n<64->badR Z n=false
 kin:∀ bb,kinR Z bb 64=1
 men:∀ bb,menR Z bb 64<=16
section
variable {z:Nat->UInt8} {wh:Bool} {fc:Nat->Bool} {b:Int} {i f t cs:Nat} {u:UInt8}
theorem Plain.kings (hP:Plain z wh b i f t u cs) (kg:i=5->t≠f+2/\t+2≠f) (hk1:∀ bb,kinR z bb 64=1) (hnk:ixc (z t)≠((bg (!wh)+5:Nat):Int)):∀ bb,kinR (plZ z b (f,t,u)) bb 64=1:=by
 have hS:=ja hP kg;have hbg:=jt wh;have hne:=hS.ne;obtain ⟨q,hq,eq,q5⟩:=hP.tr;have hi:=hP.hi
 have hcs:cs=t\/ixc (z cs)=((bg (!wh):Nat):Int):=by
  by_cases hep:i=0/\(t:Int)=b
  ·obtain ⟨_,_,_,_,e5⟩:=hP.ep hep.1 hep.2;exact .inr e5
  ·exact .inl (hP.nep hep)
 intro bb;rcases bb_two bb wh with rfl|rfl
 ·obtain ⟨y,hy,hk⟩:=qjj (hk1 bb);by_cases i5:i=5
  ·have efy:f=y:=(hk f hP.hf).1 (by rw [hP.hc,i5]);refine kin_of hP.ht fun n hn=>?_
   rw [hS.at' n];by_cases c1:n=t
   ·rw [if_pos c1,eq,q5.2 i5];exact ⟨fun _=>c1,fun _=>rfl⟩
   ·rw [if_neg c1];by_cases c2:n=f
    ·rw [if_pos c2,dot_ix];exact ⟨fun e=>by omega,fun e=>absurd e c1⟩
    ·rw [if_neg c2];by_cases c3:n=cs
     ·rw [if_pos c3,dot_ix];exact ⟨fun e=>by omega,fun e=>absurd e c1⟩
     ·rw [if_neg c3,hk n hn];exact ⟨fun e=>absurd (e.trans efy.symm) c2,fun e=>absurd e c1⟩
  ·refine kin_of hy fun n hn=>?_
   rw [hS.at' n];by_cases c1:n=t
   ·rw [if_pos c1,eq];refine ⟨fun e=>?_,fun e=>?_⟩
    ·exact absurd (q5.1 (by omega)) i5
    ·have:=(hk t hP.ht).2 (c1.symm.trans e);exact absurd (xk (by omega) this) hP.no
   ·rw [if_neg c1];by_cases c2:n=f
    ·rw [if_pos c2,dot_ix];refine ⟨fun e=>by omega,fun e=>?_⟩;have:=(hk f hP.hf).2 (c2.symm.trans e);rw [hP.hc] at this;omega
    ·rw [if_neg c2];by_cases c3:n=cs
     ·rw [if_pos c3,dot_ix];refine ⟨fun e=>by omega,fun e=>?_⟩;have:=(hk n hn).2 e;rcases hcs with e'|e'
      ·exact absurd (c3.trans e') c1
      ·rw [c3,e'] at this;omega
     ·rw [if_neg c3];exact hk n hn
 ·obtain ⟨y,hy,hk⟩:=qjj (hk1 (!wh));refine kin_of hy fun n hn=>?_
  rw [hS.at' n];by_cases c1:n=t
  ·rw [if_pos c1,eq];refine ⟨fun e=>by omega,fun e=>?_⟩;exact absurd ((hk t hP.ht).2 (c1.symm.trans e)) hnk
  ·rw [if_neg c1];by_cases c2:n=f
   ·rw [if_pos c2,dot_ix];refine ⟨fun e=>by omega,fun e=>?_⟩;have:=(hk f hP.hf).2 (c2.symm.trans e);rw [hP.hc] at this;omega
   ·rw [if_neg c2];by_cases c3:n=cs
    ·rw [if_pos c3,dot_ix];refine ⟨fun e=>by omega,fun e=>?_⟩;have:=(hk n hn).2 e;rcases hcs with e'|e'
     ·exact absurd (c3.trans e') c1
     ·rw [c3,e'] at this;omega
    ·rw [if_neg c3];exact hk n hn
theorem bad_ok {c:UInt8} {bb:Bool} {q n:Nat} {Z:Nat->UInt8} (hz:Z n=c) (hq:q<6) (e:ixc c=((bg bb+q:Nat):Int)) (h:q=0->¬ (n/8=0\/n/8=7)):badR Z n=false:=by
 unfold badR;rw [hz,kd_ix hq e];cases (c==46) with
 | true=>rfl
 | false =>
  rw [decide_eq_false (show ¬ ((q:Nat):Int)<0 by omega)];by_cases q0:q=0
  ·have:=h q0;rw [decide_eq_false (show ¬ n/8=0 by omega),decide_eq_false (show ¬ n/8=7 by omega)];cases decide (((q:Nat):Int)=0)<;>rfl
  ·rw [decide_eq_false (show ¬ ((q:Nat):Int)=0 by omega)];rfl
theorem qvc {n:Nat} {Z:Nat->UInt8} (hz:Z n=46):badR Z n=false:=by
 unfold badR;rw [hz];rfl
theorem bad_eq {n:Nat} {z Z:Nat->UInt8} (hz:Z n=z n) (h:badR z n=false):badR Z n=false:=by
 unfold badR at h ⊢;rw [hz];exact h
theorem Plain.bad (hP:Plain z wh b i f t u cs) (kg:i=5->t≠f+2/\t+2≠f) (hu5:u∈U5) (hg:goesR z wh fc b f t u=true) (hb:∀ n,n<64->badR z n=false):∀ n,n<64->badR (plZ z b (f,t,u)) n=false:=by
 have hS:=ja hP kg;obtain ⟨q,hq,eq,q5⟩:=hP.tr;have hk:=kd_ix hP.hi hP.hc;intro n hn;have hat:=hS.at' n;by_cases c1:n=t
 ·rw [if_pos c1] at hat;refine bad_ok hat hq eq fun q0 hl=>?_
  rw [c1] at hl;unfold goesR at hg;simp only [Bool.and_eq_true] at hg;have hu:=eq_of_beq hg.1.2
  have hlast:lastR t=true:=by
   unfold lastR;rcases hl with e|e
   ·rw [decide_eq_true e];rfl
   ·rw [decide_eq_true e,Bool.or_true]
  rw [hlast,Bool.and_true] at hu;have hkq:=kd_ix hq eq;by_cases u0:u=0
  ·subst u0;have ht0:trn (z f) 0=z f:=by unfold trn;rw [if_pos rfl]
   rw [ht0,hk] at hkq;rw [hk,decide_eq_true (show ((i:Nat):Int)=0 by omega)] at hu;cases hu
  ·rw [decide_eq_true u0] at hu;have hz0:kdc (z f)=0:=of_decide_eq_true hu.symm;have hi0:i=0:=by omega
   have hzf:z f∈([80,112]:List UInt8):=by
    have:=zc (p:=bg wh+i) (by have:=jt wh;omega) hP.hc;rw [this,hi0];cases wh<;>decide
   have hu4:u∈([113,114,98,110]:List UInt8):=by
    unfold U5 at hu5;simp only [List.mem_cons,List.not_mem_nil,or_false] at hu5 ⊢;rcases hu5 with e|e|e|e|e
    ·exact absurd e u0
    ·exact .inr (.inr (.inl e))
    ·exact .inr (.inr (.inr e))
    ·exact .inl e
    ·exact .inr (.inl e)
   have:=prom_kd _ hzf _ hu4;omega
 ·rw [if_neg c1] at hat;by_cases c2:n=f
  ·rw [if_pos c2] at hat;exact qvc hat
  ·rw [if_neg c2] at hat;by_cases c3:n=cs
   ·rw [if_pos c3] at hat;exact qvc hat
   ·rw [if_neg c3] at hat;exact bad_eq hat (hb n hn)
theorem Plain.brd (hP:Plain z wh b i f t u cs) (kg:i=5->t≠f+2/\t+2≠f) (hu5:u∈U5) (hg:goesR z wh fc b f t u=true) (hB:Brd1 z) (hnk:ixc (z t)≠((bg (!wh)+5:Nat):Int)):Brd1 (plZ z b (f,t,u)):=by
 refine ⟨hP.bad kg hu5 hg hB.bad,hP.kings kg hB.kin hnk,fun bb=>?_⟩;obtain ⟨m1,m2⟩:=(ja hP kg).men;rcases bb_two bb wh with rfl|rfl
 ·rw [m1];exact hB.men _
 ·exact Nat.le_trans m2 (hB.men _)
end
section
variable {z:Nat->UInt8} {wh:Bool} {fc:Nat->Bool} {b:Int}
theorem cas_empty {i:Nat} (h:Cas z wh i):z (casT i)=46/\z (rN i)=46:=by
 have he:=h.e;unfold mcE at he;rw [List.all_eq_true] at he;obtain ⟨h1,h2⟩:=cas_in i h.hi;obtain ⟨j1,m1,e1⟩:=List.any_eq_true.1 h1;obtain ⟨j2,m2,e2⟩:=List.any_eq_true.1 h2;have a1:=eq_of_beq (he j1 m1);have a2:=eq_of_beq (he j2 m2);rw [of_decide_eq_true e1] at a1;rw [of_decide_eq_true e2] at a2;exact ⟨a1,a2⟩
def kgZ (z:Nat->UInt8) (i n:Nat):UInt8:=if n=casT i then z (hK i) else if n=hK i then 46 else if n=casT i then 46 else z n
theorem cas_brd {i:Nat} (h:Cas z wh i) (hB:Brd1 z):Brd1 (plZ z b (hK i,casT i,0)):=by
 obtain ⟨f1,f2,f3,f4,f5,f6,f7,f8,f9,f10,f11,f12,f13,f14,f15,f16,f17⟩:=js i h.hi;obtain ⟨e1,e2⟩:=cas_empty h;obtain ⟨hp,hk⟩:=jo (i:=5) (by omega) h.k;have hp:pawnB (z (hK i))=false:=by rw [hp];rfl
 have hk:kingB (z (hK i))=true:=by rw [hk];rfl
 have hat:=qzh (b:=b) h.hi hp hk;have hbg:=jt wh;have s1:Step1 z (kgZ z i) wh (hK i) (casT i) (casT i) (z (hK i)):=⟨fun n=>rfl,f1,f2,xk (by omega) h.k,by rw [e1,qxc];exact fun e=>qq9 wh e.symm,xk (by omega) h.k,.inl rfl⟩;have k1:kgZ z i (hR i)=z (hR i):=by unfold kgZ;rw [if_neg f15,if_neg f13,if_neg f15]
 have k2:kgZ z i (rN i)=z (rN i):=by unfold kgZ;rw [if_neg f16,if_neg f14,if_neg f16]
 have s2:Step1 (kgZ z i) (plZ z b (hK i,casT i,0)) wh (hR i) (rN i) (rN i) (z (hR i)):=by
  refine ⟨fun n=>?_,f3,f4,by rw [k1];exact xk (by omega) h.r,by rw [k2,e2,qxc];exact fun e=>qq9 wh e.symm,xk (by omega) h.r,.inl rfl⟩;rw [hat n];by_cases c1:n=hR i
  ·rw [if_pos c1,if_neg (fun e=>f17 (e.symm.trans c1)),if_pos c1]
  ·rw [if_neg c1];by_cases c2:n=rN i
   ·rw [if_pos c2,if_pos c2]
   ·rw [if_neg c2,if_neg c2,if_neg c1,if_neg c2];unfold kgZ;by_cases c3:n=casT i
    ·rw [if_pos c3,if_pos c3]
    ·rw [if_neg c3,if_neg c3,if_neg c3]
 refine ⟨fun n hn=>?_,fun bb=>?_,fun bb=>?_⟩
 ·have hn':=hat n;by_cases c1:n=hR i
  ·rw [if_pos c1] at hn';exact qvc hn'
  ·rw [if_neg c1] at hn';by_cases c2:n=rN i
   ·rw [if_pos c2] at hn';exact bad_ok hn' (q:=3) (by omega) h.r (by omega)
   ·rw [if_neg c2] at hn';by_cases c3:n=casT i
    ·rw [if_pos c3] at hn';exact bad_ok hn' (q:=5) (by omega) h.k (by omega)
    ·rw [if_neg c3] at hn';by_cases c4:n=hK i
     ·rw [if_pos c4] at hn';exact qvc hn'
     ·rw [if_neg c4] at hn';exact bad_eq hn' (hB.bad n hn)
 ·rcases bb_two bb wh with rfl|rfl
  ·obtain ⟨y,hy,hkk⟩:=qjj (hB.kin bb);have eky:hK i=y:=(hkk _ f1).1 h.k;refine kin_of f2 fun n hn=>?_
   rw [hat n];by_cases c1:n=hR i
   ·rw [if_pos c1,dot_ix];exact ⟨fun e=>by omega,fun e=>absurd (c1.symm.trans e) f15⟩
   ·rw [if_neg c1];by_cases c2:n=rN i
    ·rw [if_pos c2,h.r];exact ⟨fun e=>by omega,fun e=>absurd (c2.symm.trans e) f16⟩
    ·rw [if_neg c2];by_cases c3:n=casT i
     ·rw [if_pos c3,h.k];exact ⟨fun _=>c3,fun _=>rfl⟩
     ·rw [if_neg c3];by_cases c4:n=hK i
      ·rw [if_pos c4,dot_ix];exact ⟨fun e=>by omega,fun e=>absurd e c3⟩
      ·rw [if_neg c4,hkk n hn];exact ⟨fun e=>absurd (e.trans eky.symm) c4,fun e=>absurd e c3⟩
  ·obtain ⟨y,hy,hkk⟩:=qjj (hB.kin (!wh));have no:∀ m,m<64->ixc (z m)≠((bg (!wh)+5:Nat):Int)->m≠y:=fun m hm hx e=>hx ((hkk m hm).2 e)
   have n1:=no _ f3 (by rw [h.r];omega);have n2:=no _ f4 (by rw [e2,dot_ix];omega);have n3:=no _ f2 (by rw [e1,dot_ix];omega);have n4:=no _ f1 (by rw [h.k];omega);refine kin_of hy fun n hn=>?_
   rw [hat n];by_cases c1:n=hR i
   ·rw [if_pos c1,dot_ix];exact ⟨fun e=>by omega,fun e=>absurd (c1.symm.trans e) n1⟩
   ·rw [if_neg c1];by_cases c2:n=rN i
    ·rw [if_pos c2,h.r];exact ⟨fun e=>by omega,fun e=>absurd (c2.symm.trans e) n2⟩
    ·rw [if_neg c2];by_cases c3:n=casT i
     ·rw [if_pos c3,h.k];exact ⟨fun e=>by omega,fun e=>absurd (c3.symm.trans e) n3⟩
     ·rw [if_neg c3];by_cases c4:n=hK i
      ·rw [if_pos c4,dot_ix];exact ⟨fun e=>by omega,fun e=>absurd (c4.symm.trans e) n4⟩
      ·rw [if_neg c4];exact hkk n hn
 ·obtain ⟨a1,a2⟩:=s1.men;obtain ⟨b1,b2⟩:=s2.men;rcases bb_two bb wh with rfl|rfl
  ·rw [b1,a1];exact hB.men _
  ·exact Nat.le_trans b2 (Nat.le_trans a2 (hB.men _))
theorem cast_of {Z:Nat->UInt8} {F:Nat->Bool} (h0:F 0=true->Z 4=75/\Z 7=82) (h1:F 1=true->Z 4=75/\Z 0=82) (h2:F 2=true->Z 60=107/\Z 63=114) (h3:F 3=true->Z 60=107/\Z 56=114):castOk Z F=true:=by
 have key:∀ (ks:Nat) (kl:Int) (rs:Nat) (rl:Int) (k:Nat) (a d:UInt8),(a.toNat:Int)=kl->(d.toNat:Int)=rl->(F k=true->Z ks=a/\Z rs=d)->castAt Z F ks kl rs rl k=true:=fun ks kl rs rl k a d ea ed h=>by
  unfold castAt;cases hf:F k with
  | false=>rfl
  | true =>
   obtain ⟨e1,e2⟩:=h hf;rw [e1,e2,ea,ed,decide_eq_true rfl,decide_eq_true rfl];rfl
 unfold castOk;rw [List.all_eq_true];intro k hk;have hk:=List.mem_range.1 hk;have:k=0\/k=1\/k=2\/k=3:=by omega
 rcases this with rfl|rfl|rfl|rfl
 ·exact key 4 75 7 82 0 75 82 rfl rfl h0
 ·exact key 4 75 0 82 1 75 82 rfl rfl h1
 ·exact key 60 107 63 114 2 107 114 rfl rfl h2
 ·exact key 60 107 56 114 3 107 114 rfl rfl h3
theorem qqz {f t k:Nat} (hk:k<4) (h:cfA fc f t 4 k=true):fc k=true/\(f:Int)≠homeK k/\(t:Int)≠homeK k/\(f:Int)≠homeR k/\(t:Int)≠homeR k:=by
 unfold cfA toA tchB at h;simp only [beq_int,Bool.and_eq_true,Bool.not_eq_true',Bool.and_eq_false_iff,Bool.or_eq_false_iff,decide_eq_false_iff_not] at h;obtain ⟨h1,h2⟩:=h;rcases h2 with h2|⟨⟨a,c⟩,d,e⟩
 ·exact absurd hk h2
 ·exact ⟨h1,a,c,d,e⟩
theorem clk_after {h g:Int} (hc:clkOk h g=true) (f t:Nat):clkOk (halA z f t h) (fulA wh g)=true:=by
 unfold clkOk at hc ⊢;simp only [Bool.and_eq_true,decide_eq_true_eq] at hc ⊢;unfold halA fulA;refine ⟨⟨⟨?_,?_⟩,?_⟩,?_⟩
 ·split<;>omega
 ·split<;>omega
 ·split<;>omega
 ·split<;>omega
end
end Go.Proofs.YtnfakamfmkhlbaaGreatDoor.C
