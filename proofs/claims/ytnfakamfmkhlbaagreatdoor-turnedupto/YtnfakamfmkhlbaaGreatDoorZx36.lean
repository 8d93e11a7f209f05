import Derived.Test.YtnfakamfmkhlbaaGreatDoorZx35
import Derived.Test.YtnfakamfmkhlbaaGreatDoorZx34
import Derived.Test.YtnfakamfmkhlbaaGreatDoorZx31
import Derived.Test.YtnfakamfmkhlbaaGreatDoorKz2
import Derived.Test.YtnfakamfmkhlbaaGreatDoorKz3
set_option maxRecDepth 100000
set_option maxHeartbeats 4000000
set_option linter.unusedSimpArgs false
namespace Go.Proofs.YtnfakamfmkhlbaaGreatDoor.C
open Go.RowKit
open Go.Proofs.YtnfakamfmkhlbaaGreatDoor.P
theorem mov_u5 {z:Nat->UInt8} {wh:Bool} {fc:Nat->Bool} {b:Int} (hC:Can z wh fc b) (h0:-1<=b) (h1:b<=63) {x:Mv} (hx:x∈movS z wh fc b):x.2.2∈U5:=by
 obtain ⟨i,f',t',u',e,hi,_,_,hc,hm,hu⟩:=(zg hC).1 (List.mem_filter.1 ((zi hC h0 h1 x).2 hx)).1;obtain ⟨u2,e4,_,hu1⟩:=qq2 hu;have e5:u'=u2:=by injection e4 with _ e4;injection e4
 rw [e];show u'∈U5;rw [e5];unfold U5;rcases hu1 with e|e|e|e|e<;>rw [e]<;>decide
theorem bytes_ext {a c:ByteArray} (h:(a.toList==c.toList)=true):a=c:=by
 have:=eq_of_beq h;rw [Lib.toList_data,Lib.toList_data] at this;cases a;cases c;simp at this ⊢;exact this
theorem has_iff {z:Nat->UInt8} {wh:Bool} {fc:Nat->Bool} {b:Int} (hC:Can z wh fc b) (h0:-1<=b) (h1:b<=63) (t:ByteArray):hasT (txts (sortM (movS z wh fc b))) t=true↔∃ x,mvR t=some x/\x∈movS z wh fc b:=by
 unfold hasT txts;rw [List.any_eq_true];constructor
 ·rintro ⟨y,hy,e⟩;obtain ⟨x,hx,rfl⟩:=List.mem_map.1 hy;have hx:=(qp _).mem_iff.1 hx;have hok:=zr _ _ _ _ x hx;have:=bytes_ext e;refine ⟨x,?_,hx⟩;rw [<-this];exact mv_read hok.1 hok.2 (mov_u5 hC h0 h1 hx)
 ·rintro ⟨x,hm,hx⟩;refine ⟨str (txt x),List.mem_map.2 ⟨x,(qp _).mem_iff.2 hx,rfl⟩,?_⟩;have:t=str (txt x):=mv_text (f:=x.1) (tt:=x.2.1) (u:=x.2.2) hm;rw [this];simp
theorem sd_bad {s:ByteArray} {k:Int} (hbad:BadK s k) (t:ByteArray):(∀ base e w',MovesEnd s 2 base e w'->e=.returned (.tuple #[nilS,.int .i64 k]))/\(∀ e,LookEnd s e->e=.returned (.tuple #[.agg #[.bool false,.int .i64 0,.int .i64 0],.int .i64 k]))/\(∀ e,PlayEnd s t e->e=.returned (.tuple #[.string ⟨#[]⟩,.int .i64 k])):=by
 have nogood:∀ q,readS s=some q->posCan q=true->False:=fun q a b=>by
  rcases hbad with ⟨_,c⟩|⟨_,r,c,d⟩
  ·rw [c] at a;cases a
  ·rw [c] at a;rw [<-Option.some.inj a,d] at b;cases b
 have one:∀ k',BadK s k'->k'=k:=fun k' h'=>err_one (t:=⟨#[]⟩) (.inl h') (.inl hbad)
 refine ⟨fun base e w' h=>?_,fun e h=>?_,fun e h=>?_⟩
 ·rcases h with ⟨a,rfl⟩|⟨q,a,b,rfl⟩|⟨q,a,b,_⟩|⟨q,v,a,b,_⟩
  ·rw [one 1 (.inl ⟨rfl,a⟩)]
  ·rw [one 2 (.inr ⟨rfl,q,a,b⟩)]
  ·exact (nogood q a b).elim
  ·exact (nogood q a b).elim
 ·rcases h with ⟨k',a,rfl⟩|⟨q,a,b,rfl⟩
  ·rw [one k' a];rfl
  ·exact (nogood q a b).elim
 ·rcases h with ⟨k',_,a,rfl⟩|⟨q,x,a,b,_⟩
  ·rw [err_one a (.inl hbad)]
  ·exact (nogood q a b).elim
theorem sd_good {s:ByteArray} {p:Pos} (hr:readS s=some p) (hcan:posCan p=true):(∀ base e w',MovesEnd s 2 base e w'->MoEnd (txts (sortM (movS (posZ p) p.white p.castle p.behind))) 0 e w')/\(∀ e,LookEnd s e->e=.returned (.tuple #[.agg (lookV (posZ p) p.white p.castle p.behind),.int .i64 0])):=by
 refine ⟨fun base e w' h=>?_,fun e h=>?_⟩
 ·rcases h with ⟨a,_⟩|⟨q,a,b,_⟩|⟨q,_,_,a,_⟩|⟨q,v,a,_,_,rfl,hv⟩
  ·rw [hr] at a;cases a
  ·rw [hr] at a;rw [<-Option.some.inj a,hcan] at b;cases b
  ·exact absurd (.inr rfl) a
  ·rw [hr] at a;rw [<-Option.some.inj a] at hv;obtain ⟨pp,cap,rfl,hcap,hel⟩:=strs_form hv;exact ⟨pp,cap,rfl,hcap,hel⟩
 ·rcases h with ⟨k,a,_⟩|⟨q,a,b,rfl⟩
  ·rcases a with ⟨_,a⟩|⟨_,q,a,b⟩
   ·rw [hr] at a;cases a
   ·rw [hr] at a;rw [<-Option.some.inj a,hcan] at b;cases b
  ·rw [hr] at a;rw [<-Option.some.inj a]
theorem zB_of {Z:Nat->UInt8} (h:∀ n,64<=n->Z n=0):Z=zB ((List.range 64).map Z):=by
 funext n;unfold zB;by_cases hn:n<64
 ·rw [List.getD_eq_getElem?_getD,List.getElem?_map,List.getElem?_range hn];rfl
 ·rw [List.getD_eq_getElem?_getD,List.getElem?_eq_none (by simp;omega)];exact h n (by omega)
theorem pos_far {s:ByteArray} {p:Pos} (hr:readS s=some p):∀ n,64<=n->posZ p n=0:=by
 obtain ⟨B,h1,h2,_⟩:=qqb s p hr;intro n hn;rw [qj4 (by first|exact h1|exact h2)];unfold zB;rw [List.getD_eq_getElem?_getD,List.getElem?_eq_none (by omega)];rfl
structure Mvd (z:Nat->UInt8) (wh:Bool) (fc:Nat->Bool) (b:Int) (f t:Nat) (u:UInt8):Prop where
 far:∀ n,64<=n->plZ z b (f,t,u) n=z n
 safe:attR (plZ z b (f,t,u)) (kingR (plZ z b (f,t,u)) wh) (!wh)=false
 king:∃ y:Nat,y<64/\kingR (plZ z b (f,t,u)) wh=(y:Int)
theorem mvd_of {z:Nat->UInt8} {wh:Bool} {fc:Nat->Bool} {b:Int} (hC:Can z wh fc b) (h0:-1<=b) (h1:b<=63) {f t:Nat} {u:UInt8} (hx:(f,t,u)∈movS z wh fc b):Mvd z wh fc b f t u:=by
 have hok:=zr _ _ _ _ _ hx;have hf:f<64:=hok.1;have ht:t<64:=hok.2;have hu5:u∈U5:=mov_u5 hC h0 h1 hx;have hxl:=(zi hC h0 h1 _).2 hx;obtain ⟨i,f',t',u',e,hi,_,_,hc,hm,hu⟩:=(zg hC).1 (List.mem_filter.1 hxl).1;have e1:f=f':=by injection e
 have e2:t=t':=by injection e with _ e;injection e
 have e3:u=u':=by injection e with _ e;injection e
 subst e1 e2 e3;have hleg:=(qzb hC h0 h1 hf ht hu5).2 hxl;unfold legR at hleg;rw [Bool.and_eq_true,bz4_pl hC hi hf ht hc hm hu] at hleg;refine ⟨fun n hn=>?_,by simpa using hleg.2,(jg hC h0 h1 hi hf ht hc hm hu).1⟩;rcases classify hC hi hf ht hc hm hu with ⟨hP,kg⟩|⟨ci,hK',a1,a2,a3,a4⟩
 ·rw [(xm hP kg).at' n,if_neg (by omega),if_neg (by omega),if_neg];intro ec;by_cases hep:i=0/\(t:Int)=b
  ·obtain ⟨_,hcs,_,_,_⟩:=hP.ep hep.1 hep.2;omega
  ·have:=hP.nep hep;omega
 ·subst a1 a2 a3;obtain ⟨hp,hk⟩:=jf (i:=5) (by omega) hK'.k;have hp:pawnB (z (hK ci))=false:=by rw [hp];rfl
  have hk:kingB (z (hK ci))=true:=by rw [hk];rfl
  obtain ⟨f1,f2,f3,f4,_⟩:=jk ci hK'.hi;rw [qju (b:=b) hK'.hi hp hk n,if_neg (by omega),if_neg (by omega),if_neg (by omega),if_neg (by omega)]
theorem aft_parse {s:ByteArray} {p:Pos} (hr:readS s=some p) (hcan:posCan p=true) {x:Mv} (hx:x∈movS (posZ p) p.white p.castle p.behind):∃ Q,Row (plZ (posZ p) p.behind x) (!p.white) (cfA p.castle x.1 x.2.1 4) (behA (posZ p) x.1 x.2.1) (halA (posZ p) x.1 x.2.1 p.half) (fulA p.white p.full) Q/\layOk (plZ (posZ p) p.behind x)=true/\(⟨(afW p x).toArray⟩:ByteArray).size<4294967281/\∀ e,ParseEnd ⟨(afW p x).toArray⟩ e->e=.returned (.tuple #[.agg Q,.int .i64 0]):=by
 obtain ⟨hC,hb0,hb1⟩:=jt hr hcan;obtain ⟨f,t,u⟩:=x;have hm:=mvd_of hC hb0 hb1 hx;have hca:=can_after hcan hb0 hb1 hx;have hzB:=zB_of (Z:=plZ (posZ p) p.behind (f,t,u)) fun n hn=>(hm.far n hn).trans (pos_far hr n hn)
 have hlen:((List.range 64).map (plZ (posZ p) p.behind (f,t,u))).length=64:=by simp
 have hrow:=qq9 (plZ (posZ p) p.behind (f,t,u)) ((List.range 64).map fun n=>Value.int .u8 ((plZ (posZ p) p.behind (f,t,u) n).toNat:Int)).toArray (by simp) (fun i hi=>by simp [hi]) (!p.white) (cfA p.castle f t 4) (behA (posZ p) f t) (halA (posZ p) f t p.half) (fulA p.white p.full);refine ⟨_,hrow,(qzl hca).ok,qjz hca,fun e he=>?_⟩;rw [hzB] at hrow hca
 have he':ParseEnd ⟨(writeS (zB ((List.range 64).map (plZ (posZ p) p.behind (f,t,u)))) (!p.white) (cfA p.castle f t 4) (behA (posZ p) f t) (halA (posZ p) f t p.half) (fulA p.white p.full)).toArray⟩ e:=by
  rw [<-hzB];exact he
 exact qj6 hlen hrow hca he'
end Go.Proofs.YtnfakamfmkhlbaaGreatDoor.C
namespace Go.Proofs.YtnfakamfmkhlbaaGreatDoor.C
open Go.ChangeShapes Go.WideShapes Go.ChangeAt Go.RowKit Go.Shelf
open Go.Proofs.YtnfakamfmkhlbaaGreatDoor.P
attribute [local go_sem] qb qd Oper.semAt_some
structure Sd (w:World) (b6:Nat) (A:Array Value) (W:World):Prop where
 p:W.heap[b6]?=some (.cells A 25)
 gr:Gr w W
theorem Sd.next {w W W':World} {b6:Nat} {A:Array Value} (h:Sd w b6 A W) (g:Gr W W'):Sd w b6 A W':=⟨(Below.block g _ (qze h.p)).trans h.p,Gr.trans h.gr g⟩
theorem Sd.c64 {w W:World} {b6:Nat} {A:Array Value} {wh:Bool} (h:Sd w b6 A W) (hA:A[64]?=some (.bool wh)):W.cell? ⟨b6,64,none⟩=some (.bool wh):=by rw [ql h.p];exact hA
structure Sd2 (w:World) (b6:Nat) (A:Array Value) (b17:Nat) (Q:Array Value) (W:World):Prop where
 s:Sd w b6 A W
 q:W.heap[b17]?=some (.cells Q 25)
theorem Sd2.next {w W W':World} {b6 b17:Nat} {A Q:Array Value} (h:Sd2 w b6 A b17 Q W) (g:Gr W W'):Sd2 w b6 A b17 Q W':=⟨h.s.next g,(Below.block g _ (qze h.q)).trans h.q⟩
theorem sound_bad (s t:ByteArray) (k:Int) (hk:k≠0) (w:World) (h0:Calls Tryz.prog 19 #[] w fun e w'=>e=.returned (.bool true)/\Gr w w')
  (hP:∀ W,Gr w W->Calls Tryz.prog 12 #[.string s] W fun e w'=>e=.returned (.tuple #[.agg Tryz.zeroCells25,.int .i64 k])/\Gr W w')
  (hM:∀ W,Gr w W->Calls Tryz.prog 20 #[.string s,.int .i64 2] W fun e w'=>e=.returned (.tuple #[nilS,.int .i64 k])/\Gr W w')
  (hL:∀ W,Gr w W->Calls Tryz.prog 21 #[.string s] W fun e w'=>e=.returned (.tuple #[.agg #[.bool false,.int .i64 0,.int .i64 0],.int .i64 k])/\Gr W w')
  (hY:∀ W,Gr w W->Calls Tryz.prog 24 #[.string s,.string t] W fun e w'=>e=.returned (.tuple #[.string ⟨#[]⟩,.int .i64 k])/\Gr W w') :
  Calls Tryz.prog 7 #[.string s,.string t] w fun e w'=>e=.returned (.bool true)/\Gr w w':=by
 have h0:=hide h0;have hP:=hide hP;have hM:=hide hM;have hL:=hide hL;have hY:=hide hY;have k2:(k != 0)=true:=by rw [bne_iff_ne];exact hk
 clear hk;go_enter Tryz.func7,Tryz.ntmps7;go_upto_region 4 with (go_at_call 19;refine (qa h0).mono ?_;rintro e w1 ⟨rfl,hg1⟩)
 go_upto_region 5 with (first
  | (go_at_call 12;refine (qa hP _ hg1).mono ?_;rintro e w3 ⟨rfl,hg3⟩;have y1:=heap_alloc_new w3 (.cells Tryz.zeroCells25 25))
  | (refine wpList_store_row rfl 25 _ _ rfl w3.heap.size Tryz.zeroCells25 rfl rfl 25 Tryz.zeroCells25 (by with_reducible exact y1) (by rw [zeroP];exact infoP) rfl zeroP_ones ?_))
 have hg4:Gr w3 ((w3.alloc (.cells Tryz.zeroCells25 25)).setRow w3.heap.size Tryz.zeroCells25):=((Gr.refl w3).alloc _ _).setRow _ (Nat.le_refl _) _;generalize (w3.alloc (.cells Tryz.zeroCells25 25)).setRow w3.heap.size Tryz.zeroCells25=w4 at hg4 ⊢;have hg:=Gr.trans hg1 (Gr.trans hg3 hg4);clear hg1 hg3 hg4 y1 h0 hP;go_upto_region 6 with (go_at_call 20;refine (qa hM _ hg).mono ?_;rintro e w5 ⟨rfl,hg5⟩);have hgA:=Gr.trans hg hg5;clear hg hg5 hM;go_upto_region 7 with (go_at_call 21;refine (qa hL _ hgA).mono ?_;rintro e w6 ⟨rfl,hg6⟩);have hg7:Gr w6 (w6.alloc (.cells #[.bool false,.int .i64 0,.int .i64 0] 44)):=(Gr.refl w6).alloc _ _;show Code.wp _ _ _ _ (w6.alloc (.cells #[.bool false,.int .i64 0,.int .i64 0] 44));generalize w6.alloc (.cells #[.bool false,.int .i64 0,.int .i64 0] 44)=w7 at hg7 ⊢;have hgB:=Gr.trans hgA (Gr.trans hg6 hg7);clear hgA hg6 hg7 hL;go_upto_region 8 with (go_at_call 24;refine (qa hY _ hgB).mono ?_;rintro e w8 ⟨rfl,hg8⟩);have hgC:=hide (Gr.trans hgB hg8);clear hgB hg8 hY;go_wp2_with fail;go_ret;exact ⟨rfl,qa hgC⟩
def SdYes (w:World) (S:ByteArray) (wh:Bool):Prop:=∃ (Q:Array Value) (y':Nat),Q.size=72/\Q.all (·.oneCell')=true/\Q[64]?=some (.bool (!wh))/\(∀ W,Gr w W->Calls Tryz.prog 12 #[.string S] W fun e w'=>e=.returned (.tuple #[.agg Q,.int .i64 0])/\Gr W w') ∧
 (∀ W,Calls Tryz.prog 27 #[.agg Q,.bool wh] W fun e w'=>e=.returned (.int .i64 (y':Int))/\Gr W w')/\(∀ W,Calls Tryz.prog 26 #[.agg Q,.int .i64 (y':Int),.bool (!wh)] W fun e w'=>e=.returned (.bool false)/\Gr W w')
theorem sound_good (s t:ByteArray) (A:Array Value) (wh:Bool) (hz:A.size=72) (ho:A.all (·.oneCell')=true) (hA64:A[64]?=some (.bool wh)) (T:List ByteArray) (c:Bool) (o:Int)
  (hov:(T.length=0/\c=true/\o=1)\/(T.length=0/\c=false/\o=2)\/(0<T.length/\(o=3\/o=0))) (V:Bool) (k:Int) (S:ByteArray) (hVk:(k==0)=V) (y:Nat) (w:World)
  (h0:Calls Tryz.prog 19 #[] w fun e w'=>e=.returned (.bool true)/\Gr w w')
  (hP:∀ W,Gr w W->Calls Tryz.prog 12 #[.string s] W fun e w'=>e=.returned (.tuple #[.agg A,.int .i64 0])/\Gr W w')
  (hM:∀ W,Gr w W->Calls Tryz.prog 20 #[.string s,.int .i64 2] W fun e w'=>MoEnd T 0 e w'/\Gr W w')
  (hL:∀ W,Gr w W->Calls Tryz.prog 21 #[.string s] W fun e w'=>e=.returned (.tuple #[.agg #[.bool c,.int .i64 (T.length:Int),.int .i64 o],.int .i64 0])/\Gr W w')
  (hY:∀ W,Gr w W->Calls Tryz.prog 24 #[.string s,.string t] W fun e w'=>e=.returned (.tuple #[.string S,.int .i64 k])/\Gr W w')
  (hH:∀ pp1 c1 W,El pp1 T W->Calls Tryz.prog 25 #[.slice pp1 T.length c1,.string t] W fun e w'=>e=.returned (.bool V)/\w'=W)
  (hKi:∀ W,Calls Tryz.prog 27 #[.agg A,.bool wh] W fun e w'=>e=.returned (.int .i64 (y:Int))/\Gr W w')
  (hAt:∀ W,Calls Tryz.prog 26 #[.agg A,.int .i64 (y:Int),.bool (!wh)] W fun e w'=>e=.returned (.bool c)/\Gr W w')
  (hfin:(V=false/\(k=1\/k=4)/\S=⟨#[]⟩)\/(V=true/\k=0/\SdYes w S wh)) :
  Calls Tryz.prog 7 #[.string s,.string t] w fun e w'=>e=.returned (.bool true)/\Gr w w':=by
 have h0:=hide h0;have hP:=hide hP;have hM:=hide hM;have hL:=hide hL;have hY:=hide hY;have hH:=hide hH;have hKi:=hide hKi;have hAt:=hide hAt;have hfin:=hide hfin;have hov:=hide hov;have ho:=hide ho;have hA64:=hide hA64;have hVk:=hide hVk;go_enter Tryz.func7,Tryz.ntmps7;go_upto_region 4 with (go_at_call 19;refine (qa h0).mono ?_;rintro e w1 ⟨rfl,hg1⟩)
 go_upto_region 5 with (first
  | (go_at_call 12;refine (qa hP _ hg1).mono ?_;rintro e w3 ⟨rfl,hg3⟩;have y1:=heap_alloc_new w3 (.cells Tryz.zeroCells25 25))
  | (refine wpList_store_row rfl 25 _ _ rfl w3.heap.size A rfl rfl 25 Tryz.zeroCells25 (by with_reducible exact y1) (by rw [hz];exact infoP) (by rw [hz];exact zeroP.symm) (qa ho) ?_))
 have hg4:Gr w3 ((w3.alloc (.cells Tryz.zeroCells25 25)).setRow w3.heap.size A):=((Gr.refl w3).alloc _ _).setRow _ (Nat.le_refl _) _;have hb6:((w3.alloc (.cells Tryz.zeroCells25 25)).setRow w3.heap.size A).heap[w3.heap.size]?=some (.cells A 25):=setRow_heap _ _ _ _ _ _ y1;generalize (w3.alloc (.cells Tryz.zeroCells25 25)).setRow w3.heap.size A=w4 at hg4 hb6 ⊢;generalize w3.heap.size=b6 at hb6 ⊢;have hS:Sd w b6 A w4:=⟨hb6,Gr.trans hg1 (Gr.trans hg3 hg4)⟩;clear hg1 hg3 hg4 y1 h0 hP hb6;go_upto_region 6 with (go_at_call 20;refine (qa hM _ hS.gr).mono ?_;rintro e w5 ⟨⟨pp1,cap1,rfl,hcap1,hel1⟩,hg5⟩);have hS:=hS.next hg5;have hel:Hid (El pp1 T w5):=hide hel1;clear hg5 hM hel1;go_upto_region 7 with (go_at_call 21;refine (qa hL _ hS.gr).mono ?_;rintro e w6 ⟨rfl,hg6⟩);have hg7:Gr w6 (w6.alloc (.cells #[.bool c,.int .i64 (T.length:Int),.int .i64 o] 44)):=(Gr.refl w6).alloc _ _;have hb10:=heap_alloc_new w6 (.cells #[.bool c,.int .i64 (T.length:Int),.int .i64 o] 44);show Code.wp _ _ _ _ (w6.alloc (.cells #[.bool c,.int .i64 (T.length:Int),.int .i64 o] 44));generalize w6.alloc (.cells #[.bool c,.int .i64 (T.length:Int),.int .i64 o] 44)=w7 at hg7 hb10 ⊢;generalize w6.heap.size=b10 at hb10 ⊢;have hS:=hS.next (Gr.trans hg6 hg7);have hel:=hide ((qa hel).gr (Gr.trans hg6 hg7));clear hg6 hg7 hL;go_upto_region 8 with (go_at_call 24;refine (qa hY _ hS.gr).mono ?_;rintro e w8 ⟨rfl,hg8⟩);have hS:=hS.next hg8;have hel:=hide ((qa hel).gr hg8);have hb10:=(Below.block hg8 _ (qze hb10)).trans hb10;clear hg8 hY;go_upto_region 11 with (go_at_call 25;refine (qa hH _ _ _ (qa hel)).mono ?_;rintro e w9 ⟨rfl,hww⟩;have hww':=hww.symm;subst hww';clear hww);clear hel hH;have hA64:=qa hA64;go_cut [15] from 66 to 74 (fun s15 wx=>s15=.bool c/\Sd w b6 A wx/\wx.heap[b10]?=some (.cells #[.bool c,.int .i64 (T.length:Int),.int .i64 o] 44))
 case first =>
  have hlt10:=qze hb10;have hHeld0:Sd w b6 A w8.drew:=hS.next (Gr.refl _).drew;refine wp_region_held_drew (S:=Sd w b6 A) (by kernel_rfl) hHeld0 (fun hHeld=>?_);clear hHeld0;refine C.ty 0 (.agg A) rfl (qjb hz (by rfl) _ rfl b6 rfl (fun _ h=>xv h.p)) hHeld ?_;refine C.ty 1 (.agg A) rfl (qjb hz (by rfl) _ rfl b6 rfl (fun _ h=>xv h.p)) hHeld ?_;refine C.tq 2 (.pointer (some ⟨b6,64,none⟩)) hHeld ?_;refine C.ty 3 (.bool wh) rfl (Or.inl ⟨by rfl,fun w' hw=>(by have c64:=hw.c64 hA64;go_simp)⟩) hHeld ?_;refine C.tq 5 (.pointer (some ⟨b6,64,none⟩)) hHeld ?_;refine C.ty 6 (.bool wh) rfl (Or.inl ⟨by rfl,fun w' hw=>(by have c64:=hw.c64 hA64;go_simp)⟩) hHeld ?_;refine C.tq 7 (.bool (!wh)) hHeld ?_;refine C.rd 4 fun K hK=>?_
  go_simp;refine (qa hKi _).mono ?_;rintro e wa1 ⟨rfl,hga1⟩;refine hK.out _ _ (hHeld.next hga1) (fun hHeld=>?_);clear hK K
  try simp only [C.py]
  refine C.rd 8 fun K hK=>?_
  go_simp;refine (qa hAt _).mono ?_;rintro e wa2 ⟨rfl,hga2⟩;refine hK.out _ _ (hHeld.next hga2) (fun hHeld=>?_);clear hK K
  try simp only [C.py]
  refine C.rd 9 fun K hK=>?_
  go_simp;refine hK.out _ _ (hHeld) (fun hHeld=>?_);clear hK K
  try simp only [C.py]
  refine wpAnyH_done (by kernel_rfl) ?_ _;go_wp2_with fail;go_meet
  case rel=>exact ⟨rfl,hHeld,(Below.block (Gr.trans (Gr.trans (Gr.refl _).drew hga1) hga2) _ hlt10).trans hb10⟩
 case rest =>
  clear hS hb10;obtain ⟨rfl,hS,hb10⟩:=hcut;clear hKi hAt;have d0:wc.cell? ⟨b10,0,none⟩=some (.bool c):=by rw [ql hb10];rfl
  have d2:wc.cell? ⟨b10,2,none⟩=some (.int .i64 o):=by rw [ql hb10];rfl
  clear hb10;go_upto_region 12 with fail;go_cut [16] from 75 to 114 (fun s16 wx=>s16=.bool true/\wx=wc)
  case first =>
   clear hfin hVk hA64 hS;rcases qa hov with ⟨e,rfl,rfl⟩|⟨e,rfl,rfl⟩|⟨e,rfl|rfl⟩
   ·have e0:((T.length:Int)==0)=true:=by rw [e];rfl
    clear hov e;go_wp2_with fail;go_meet
    case rel=>exact ⟨rfl,rfl⟩
   ·have e0:((T.length:Int)==0)=true:=by rw [e];rfl
    clear hov e;go_wp2_with fail;go_meet
    case rel=>exact ⟨rfl,rfl⟩
   ·have e0:decide (0<(T.length:Int))=true:=decide_eq_true (by omega);have e1:=hide e;clear hov e;go_wp2_with fail;go_meet
    case rel=>exact ⟨by first|rw [e0]|rw [decide_eq_true (qa e1)],rfl⟩
   ·have e0:decide (0<(T.length:Int))=true:=decide_eq_true (by omega);have e1:=hide e;clear hov e;go_wp2_with fail;go_meet
    case rel=>exact ⟨by first|rw [e0]|rw [decide_eq_true (qa e1)],rfl⟩
  case rest =>
   obtain ⟨rfl,hww⟩:=hcut;have hww':=hww.symm;subst hww';clear hww hov d2;rcases qa hfin with ⟨rfl,hk,rfl⟩|⟨rfl,rfl,Q,y',hqz,hqo,hq64,hP2,hKi2,hAt2⟩
   ·have hk0:(k==0)=false:=qa hVk;have hgC:=hide hS.gr;clear hfin hVk hS hA64;rcases hk with rfl|rfl
    ·go_wp2_with fail;go_ret;exact ⟨rfl,qa hgC⟩
    ·go_wp2_with fail;go_ret;exact ⟨rfl,qa hgC⟩
   ·have hP2:=hide hP2;have hKi2:=hide hKi2;have hAt2:=hide hAt2;have hqo:=hide hqo;have hq64:=hide hq64;clear hfin hVk
    go_upto_region 18 with (first
     | (go_at_call 12;refine (qa hP2 _ hS.gr).mono ?_;rintro e w3 ⟨rfl,hg3⟩;have y1:=heap_alloc_new w3 (.cells Tryz.zeroCells25 25))
     | (refine wpList_store_row rfl 25 _ _ rfl w3.heap.size Q rfl rfl 25 Tryz.zeroCells25 (by with_reducible exact y1) (by rw [hqz];exact infoP) (by rw [hqz];exact zeroP.symm) (qa hqo) ?_))
    have hg4:Gr w3 ((w3.alloc (.cells Tryz.zeroCells25 25)).setRow w3.heap.size Q):=((Gr.refl w3).alloc _ _).setRow _ (Nat.le_refl _) _;have hb17:((w3.alloc (.cells Tryz.zeroCells25 25)).setRow w3.heap.size Q).heap[w3.heap.size]?=some (.cells Q 25):=setRow_heap _ _ _ _ _ _ y1;generalize (w3.alloc (.cells Tryz.zeroCells25 25)).setRow w3.heap.size Q=w4 at hg4 hb17 ⊢;generalize w3.heap.size=b17 at hb17 ⊢;have hS:Sd2 w b6 A b17 Q w4:=⟨hS.next (Gr.trans hg3 hg4),hb17⟩;clear hg3 hg4 y1 hP2 hb17 d0;have hHeld0:Sd2 w b6 A b17 Q w4.drew:=hS.next (Gr.refl _).drew;refine wp_region_held_drew (S:=Sd2 w b6 A b17 Q) (by kernel_rfl) hHeld0 (fun hHeld=>?_);clear hHeld0;refine C.ty 0 (.agg Q) rfl (qjb hqz (by rfl) _ rfl b17 rfl (fun _ h=>xv h.q)) hHeld ?_;refine C.ty 1 (.agg Q) rfl (qjb hqz (by rfl) _ rfl b17 rfl (fun _ h=>xv h.q)) hHeld ?_;refine C.tq 2 (.pointer (some ⟨b6,64,none⟩)) hHeld ?_;refine C.ty 3 (.bool wh) rfl (Or.inl ⟨by rfl,fun w' hw=>(by have c64:=hw.s.c64 hA64;go_simp)⟩) hHeld ?_;refine C.tq 5 (.pointer (some ⟨b6,64,none⟩)) hHeld ?_;refine C.ty 6 (.bool wh) rfl (Or.inl ⟨by rfl,fun w' hw=>(by have c64:=hw.s.c64 hA64;go_simp)⟩) hHeld ?_;refine C.tq 7 (.bool (!wh)) hHeld ?_;refine C.rd 4 fun K hK=>?_
    go_simp;refine (qa hKi2 _).mono ?_;rintro e wa1 ⟨rfl,hga1⟩;refine hK.out _ _ (hHeld.next hga1) (fun hHeld=>?_);clear hK K
    try simp only [C.py]
    refine C.rd 8 fun K hK=>?_
    go_simp;refine (qa hAt2 _).mono ?_;rintro e wa2 ⟨rfl,hga2⟩;refine hK.out _ _ (hHeld.next hga2) (fun hHeld=>?_);clear hK K
    try simp only [C.py]
    refine C.rd 9 fun K hK=>?_
    go_simp;refine hK.out _ _ (hHeld) (fun hHeld=>?_);clear hK K
    try simp only [C.py]
    refine wpAnyH_done (by kernel_rfl) ?_ _;have c17:wa2.cell? ⟨b17,64,none⟩=some (.bool (!wh)):=by rw [ql hHeld.q];exact qa hq64
    have c6:wa2.cell? ⟨b6,64,none⟩=some (.bool wh):=hHeld.s.c64 hA64;have hgC:=hide hHeld.s.gr;have hxor:Hid ((!wh) != wh):=hide (by cases wh<;>rfl)
    clear hS hHeld hA64 hq64;cases wh
    ·go_wp2_with fail;go_ret;exact ⟨rfl,qa hgC⟩
    ·go_wp2_with fail;go_ret;exact ⟨rfl,qa hgC⟩
end Go.Proofs.YtnfakamfmkhlbaaGreatDoor.C
namespace Go.Proofs.YtnfakamfmkhlbaaGreatDoor.C
open Go.RowKit
open Go.Proofs.YtnfakamfmkhlbaaGreatDoor.P
theorem row64 {z:Nat->UInt8} {wh:Bool} {fc:Nat->Bool} {b h g:Int} {PA:Array Value} (r:Row z wh fc b h g PA):PA[64]?=some (.bool wh):=r.wh
theorem sound_any (s t:ByteArray) (hs:s.size<4294967281) (ht:t.size<4294967281) (m:Int) (w:World) (hc:Ct m w) (htb:Tabs w) (hpw:Tab w):Calls Tryz.prog 7 #[.string s,.string t] w fun e w'=>e=.returned (.bool true)/\Gr w w':=by
 have h0:=begin_tw m w hc htb;have hP:∀ S:ByteArray,S.size<4294967281->∀ W,Gr w W->Calls Tryz.prog 12 #[.string S] W fun e w'=>ParseEnd S e/\Gr W w':=fun S hS W g=>qqf S hS m W (hc.gr g).mx (hc.gr g).ml (hc.gr g).tab (hc.gr g).homes
 have hM:∀ W,Gr w W->Calls Tryz.prog 20 #[.string s,.int .i64 2] W fun e w'=>MovesEnd s 2 W.heap.size e w'/\Gr W w':=fun W g=>qqa s hs 2 (fun q a b=>pos_let a b) m W (hc.gr g) (htb.gr g)
 have hL:∀ W,Gr w W->Calls Tryz.prog 21 #[.string s] W fun e w'=>LookEnd s e/\Gr W w':=fun W g=>qq5 s hs (fun p a b=>qj3 a b) m W (hc.gr g) (htb.gr g)
 have hY:∀ W,Gr w W->Calls Tryz.prog 24 #[.string s,.string t] W fun e w'=>PlayEnd s t e/\Gr W w':=fun W g=>rookPlay_any s t hs ht m W (hc.gr g) (htb.gr g) (hpw.gr g)
 rcases xq s with ⟨p,hr,hcan,hone⟩|⟨k,hk,hbad,hone⟩
 ·obtain ⟨hC,hb0,hb1⟩:=jt hr hcan;obtain ⟨e1,e2⟩:=sd_good hr hcan;have hrow:=jp hr;have hok:=hC.ok;obtain ⟨k0,k1⟩:=qj3 hr hcan;obtain ⟨y,hy⟩:∃ y:Nat,kingR (posZ p) p.white=(y:Int):=⟨(kingR (posZ p) p.white).toNat,by omega⟩;have hy64:y<64:=by omega
  have hTl:(txts (sortM (movS (posZ p) p.white p.castle p.behind))).length=(movS (posZ p) p.white p.castle p.behind).length:=by
   unfold txts;rw [List.length_map];exact (qp _).length_eq
  have hT6:(txts (sortM (movS (posZ p) p.white p.castle p.behind))).length<=1000000:=by
   obtain ⟨_,hl⟩:=all_ok hr hcan;rw [all_ways hr hcan 2 (.inr rfl)] at hl;unfold txts;rw [List.length_map];have:(sortM (waL p 2)).length=(sortM (movS (posZ p) p.white p.castle p.behind)).length:=rfl;omega
  have hchk:=chk_ref hok k0 k1
  have hov:((txts (sortM (movS (posZ p) p.white p.castle p.behind))).length=0/\chkS (posZ p) p.white=true/\overN (posZ p) (chkS (posZ p) p.white) ((movS (posZ p) p.white p.castle p.behind).length:Int)=1)\/((txts (sortM (movS (posZ p) p.white p.castle p.behind))).length=0/\chkS (posZ p) p.white=false/\overN (posZ p) (chkS (posZ p) p.white) ((movS (posZ p) p.white p.castle p.behind).length:Int)=2)\/(0<(txts (sortM (movS (posZ p) p.white p.castle p.behind))).length/\(overN (posZ p) (chkS (posZ p) p.white) ((movS (posZ p) p.white p.castle p.behind).length:Int)=3\/overN (posZ p) (chkS (posZ p) p.white) ((movS (posZ p) p.white p.castle p.behind).length:Int)=0)):=by
   rw [hTl];unfold overN;by_cases hn:(movS (posZ p) p.white p.castle p.behind).length=0
   ·rw [if_pos (by omega)];cases chkS (posZ p) p.white
    ·exact .inr (.inl ⟨hn,rfl,rfl⟩)
    ·exact .inl ⟨hn,rfl,rfl⟩
   ·rw [if_neg (by omega)];refine .inr (.inr ⟨by omega,?_⟩);cases deadB (posZ p)
    ·exact .inr rfl
    ·exact .inl rfl
  have hLk:∀ W,Gr w W->Calls Tryz.prog 21 #[.string s] W fun e w'=>e=.returned (.tuple #[.agg #[.bool (chkS (posZ p) p.white),.int .i64 ((txts (sortM (movS (posZ p) p.white p.castle p.behind))).length:Int),.int .i64 (overN (posZ p) (chkS (posZ p) p.white) ((movS (posZ p) p.white p.castle p.behind).length:Int))],.int .i64 0])/\Gr W w':=fun W g=>(hL W g).mono fun e w' h=>⟨by rw [e2 e h.1,hTl];rfl,h.2⟩
  have go:∀ (V:Bool) (k:Int) (S:ByteArray),(k==0)=V->hasT (txts (sortM (movS (posZ p) p.white p.castle p.behind))) t=V->(∀ e,PlayEnd s t e->e=.returned (.tuple #[.string S,.int .i64 k]))->((V=false/\(k=1\/k=4)/\S=⟨#[]⟩)\/(V=true/\k=0/\SdYes w S p.white))->Calls Tryz.prog 7 #[.string s,.string t] w fun e w'=>e=.returned (.bool true)/\Gr w w':=fun V k S hVk hV hpl hfin =>
   sound_good s t (posV p) p.white hrow.size (jq hrow) (row64 hrow) (txts (sortM (movS (posZ p) p.white p.castle p.behind))) (chkS (posZ p) p.white) (overN (posZ p) (chkS (posZ p) p.white) ((movS (posZ p) p.white p.castle p.behind).length:Int)) hov V k S hVk y w h0
    (fun W g=>(hP s hs W g).mono fun e w' h=>⟨hone e h.1,h.2⟩) (fun W g=>(hM W g).mono fun e w' h=>⟨e1 _ e w' h.1,h.2⟩) hLk (fun W g=>(hY W g).mono fun e w' h=>⟨hpl e h.1,h.2⟩)
    (fun p1 c1 W hel=>by rw [<-hV];exact hasK_any _ hT6 p1 c1 t W hel) (fun W=>kingK_any hrow p.white y hy64 hy W) (fun W=>by
     rw [hchk,hy];exact qqu hrow hok y hy64 (!p.white) W) hfin
  rcases to_split s t with ⟨p',x,hr',hcan',hm,hx,_⟩|⟨k,hk,herr,_⟩
  ·have ep:p'=p:=by rw [hr] at hr';exact (Option.some.inj hr').symm
   subst ep;obtain ⟨Q,hQ,hokQ,hsz,hpar⟩:=aft_parse hr hcan hx;obtain ⟨f,tt,u⟩:=x;have hmv:=mvd_of hC hb0 hb1 hx;obtain ⟨y',hy',ek'⟩:=hmv.king;have hsafe:=hmv.safe;rw [ek'] at hsafe
   refine go true 0 ⟨(afW p' (f,tt,u)).toArray⟩ rfl ((has_iff hC hb0 hb1 t).2 ⟨_,hm,hx⟩) (fun e h=>?_) (.inr ⟨rfl,rfl,Q,y',hQ.size,jq hQ,row64 hQ,fun W g=>(hP _ hsz W g).mono fun e w' h=>⟨hpar e h.1,h.2⟩,fun W=>kingK_any hQ p'.white y' hy' ek' W,fun W=>by
    have:=qqu hQ hokQ y' hy' (!p'.white) W;rw [hsafe] at this;exact this⟩)
   rcases h with ⟨k,_,herr,_⟩|⟨q,x',a,b,c,d,rfl⟩
   ·exact (err_no herr hr hcan hm hx).elim
   ·rw [hr] at a;rw [hm] at c;rw [<-Option.some.inj a,<-Option.some.inj c]
  ·have hV:hasT (txts (sortM (movS (posZ p) p.white p.castle p.behind))) t=false:=by
    cases hh:hasT (txts (sortM (movS (posZ p) p.white p.castle p.behind))) t with
    | false=>rfl
    | true =>
     obtain ⟨x,hm,hx⟩:=(has_iff hC hb0 hb1 t).1 hh;exact (err_no herr hr hcan hm hx).elim
   have hk14:k=1\/k=4:=by
    rcases herr with hb|⟨e,_⟩|⟨e,_⟩
    ·exfalso
     rcases hb with ⟨_,a⟩|⟨_,q,a,b⟩
     ·rw [hr] at a;cases a
     ·rw [hr] at a;rw [<-Option.some.inj a,hcan] at b;cases b
    ·exact .inl e
    ·exact .inr e
   refine go false k ⟨#[]⟩ (by rw [beq_eq_false_iff_ne];exact hk) hV (fun e h=>?_) (.inl ⟨rfl,hk14,rfl⟩);rcases h with ⟨k',_,herr',rfl⟩|⟨q,x',a,b,c,d,_⟩
   ·rw [err_one herr herr']
   ·exact (err_no herr a b c d).elim
 ·obtain ⟨b1,b2,b3⟩:=sd_bad hbad t;exact sound_bad s t k hk w h0 (fun W g=>(hP s hs W g).mono fun e w' h=>⟨hone e h.1,h.2⟩) (fun W g=>(hM W g).mono fun e w' h=>⟨b1 _ e w' h.1,h.2⟩) (fun W g=>(hL W g).mono fun e w' h=>⟨b2 e h.1,h.2⟩) (fun W g=>(hY W g).mono fun e w' h=>⟨b3 e h.1,h.2⟩)
end Go.Proofs.YtnfakamfmkhlbaaGreatDoor.C
