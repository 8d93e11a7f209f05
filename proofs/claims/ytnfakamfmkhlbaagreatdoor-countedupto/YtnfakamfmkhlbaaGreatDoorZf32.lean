import Derived.Test.YtnfakamfmkhlbaaGreatDoorZf2
import Derived.Test.YtnfakamfmkhlbaaGreatDoorZf6
import Derived.Test.YtnfakamfmkhlbaaGreatDoorZf30
import Derived.Test.YtnfakamfmkhlbaaGreatDoorZf17
import Derived.Test.YtnfakamfmkhlbaaGreatDoorKz2
import Derived.Test.YtnfakamfmkhlbaaGreatDoorKz3
set_option maxRecDepth 100000
set_option maxHeartbeats 4000000
set_option linter.unusedSimpArgs false
namespace Go.Proofs.YtnfakamfmkhlbaaGreatDoor.C
open Go.ChangeShapes Go.WideShapes Go.ChangeAt Go.RowKit
attribute [local go_sem] qb qd
def turnsL:List UInt8:=[113,114,98,110]
def rdT (s:ByteArray):UInt8 × Bool:=if h:0<s.size then (s[0],decide (0<=Lib.indexByte turnsL s[0])) else (0,true)
theorem readTurn_any (s:ByteArray) (w:World):Calls Tryz.prog 179 #[.string s] w fun e w'=>e=.returned (.tuple #[.int .u8 ((rdT s).1.toNat:Int),.bool (rdT s).2])/\Gr w w':=by
 by_cases h:0<s.size
 ·have e1:(rdT s)=(s[0],decide (0<=Lib.indexByte turnsL s[0])):=by unfold rdT;rw [dif_pos h]
  have hne:(s.toList==[])=false:=by
   rw [beq_eq_false_iff_ne];intro e;have:s.toList.length=0:=by rw [e];rfl
   have h2:s.toList.length=s.size:=by rw [Lib.toList_data];exact Array.length_toList
   omega
  rw [e1];have hib:=hide (fun W=>Tryz.strings_IndexByte ⟨#[113,114,98,110]⟩ (s[0].toNat:Int) W);have h0:(0:Int)<(s.size:Int):=by omega
  go_enter Tryz.func179,Tryz.ntmps179;go_upto_region 3 with fail;go_quiet ((go_at_call 138;exact Calls.quiet_of_same (qa hib _)))
  all_goals
   go_wp2;go_ret2;exact ⟨rfl,Gr.drewN (Gr.refl w) _⟩
 ·have e1:(rdT s)=(0,true):=by unfold rdT;rw [dif_neg h]
  rw [e1]
  have hs:s=⟨#[]⟩:=by
   have:s.size=0:=by omega
   exact ByteArray.size_eq_zero_iff.1 this
  subst hs;go_enter Tryz.func179,Tryz.ntmps179;go_wp2_with fail;go_ret2;exact ⟨rfl,Gr.refl _⟩
def mvR (s:ByteArray):Option (Nat × Nat × UInt8) :=
 if s.size=4\/s.size=5 then
  match sqS (s.extract 0 2),sqS (s.extract 2 4) with
  | some f,some t=>if (rdT (s.extract 4 s.size)).2 then some (f,t,(rdT (s.extract 4 s.size)).1) else none
  | _,_=>none
 else none
def mvA (x:Nat × Nat × UInt8):Array Value:=#[.int .i64 (x.1:Int),.int .i64 (x.2.1:Int),.int .u8 (x.2.2.toNat:Int)]
def readV (s:ByteArray):Value:=match mvR s with
 | some x=>.tuple #[.agg (mvA x),.bool true]
 | none=>.tuple #[.agg (mvA (0,0,0)),.bool false]
def sqV (s:ByteArray):Int × Bool:=match sqS s with|some n=>((n:Int),true)|none=>(0,false)
theorem infoMv3:(Tryz.prog.info? 94).map (·.size)=some 3:=by kernel_rfl
theorem square_all (s:ByteArray) (w:World):Calls Tryz.prog 136 #[.string s] w fun e w'=>e=.returned (.tuple #[.int .i64 (sqV s).1,.bool (sqV s).2])/\Gr w w':=by
 unfold sqV;cases h:sqS s with
 | none=>exact (square_no s h w).mono fun e w' q=>⟨q.1,by rw [q.2];exact Gr.refl _⟩
 | some n=>exact qj1 s n h w
theorem mread_any (s:ByteArray) (hs:s.size<4294967281) (w:World):Calls Tryz.prog 108 #[.string s] w fun e w'=>e=.returned (readV s)/\Gr w w':=by
  have hg0:=hide ((Gr.refl w).alloc #[.int .i64 0,.int .i64 0,.int .u8 0] 94)
  have hsq:=hide (fun x W=>square_all x W)
  have hrt:=hide (fun x W=>readTurn_any x W)
  by_cases h45:s.size=4\/s.size=5
  · obtain ⟨V,hV⟩:∃ V,Hid (readV s=V):=⟨_,hide rfl⟩
    rw [qa hV]
    have hl:(4:Int)<=(s.size:Int)/\(s.size:Int)<=5:=by omega
    obtain ⟨l4,l5⟩:=hl
    go_enter Tryz.func108,Tryz.ntmps108
    obtain ⟨A1,hA1⟩:∃ x,Hid (sqV (s.extract 0 2)=x):=⟨_,hide rfl⟩
    obtain ⟨A2,hA2⟩:∃ x,Hid (sqV (s.extract 2 4)=x):=⟨_,hide rfl⟩
    obtain ⟨A3,hA3⟩:∃ x,Hid (rdT (s.extract 4 s.size)=x):=⟨_,hide rfl⟩
    have hV2:Hid (V=if A1.2&&A2.2&&A3.2 then .tuple #[.agg #[.int .i64 A1.1,.int .i64 A2.1,.int .u8 (A3.1.toNat:Int)],.bool true] else .tuple #[.agg #[.int .i64 0,.int .i64 0,.int .u8 0],.bool false]):=hide (by
      rw [<-qa hV,<-qa hA1,<-qa hA2,<-qa hA3]
      unfold readV mvR sqV
      rw [if_pos h45]
      cases sqS (s.extract 0 2) with
      | none=>rfl
      | some f =>
        cases sqS (s.extract 2 4) with
        | none=>rfl
        | some t =>
          simp only
          cases (rdT (s.extract 4 s.size)).2<;>rfl)
    have k1:Hid (∀ W,Calls Tryz.prog 136 #[.string (s.extract 0 2)] W fun e w'=>e=.returned (.tuple #[.int .i64 A1.1,.bool A1.2])/\Gr W w'):=hide (fun W=>by rw [<-qa hA1];exact qa hsq _ W)
    have k2:Hid (∀ W,Calls Tryz.prog 136 #[.string (s.extract 2 4)] W fun e w'=>e=.returned (.tuple #[.int .i64 A2.1,.bool A2.2])/\Gr W w'):=hide (fun W=>by rw [<-qa hA2];exact qa hsq _ W)
    have k3:Hid (∀ W,Calls Tryz.prog 179 #[.string (s.extract 4 s.size)] W fun e w'=>e=.returned (.tuple #[.int .u8 (A3.1.toNat:Int),.bool A3.2])/\Gr W w'):=hide (fun W=>by rw [<-qa hA3];exact qa hrt _ W)
    have hb0:=hide (heap_alloc_new w (.cells #[.int .i64 0,.int .i64 0,.int .u8 0] 94))
    have hbs:Hid (w.heap.size<(w.alloc (.cells #[.int .i64 0,.int .i64 0,.int .u8 0] 94)).heap.size):=hide (by rw [World.size_alloc];omega)
    have h45':=h45
    clear hV hA1 hA2 hA3 hsq hrt h45
    obtain ⟨a1,b1⟩:=A1
    obtain ⟨a2,b2⟩:=A2
    obtain ⟨a3,b3⟩:=A3
    simp only at hV2 k1 k2 k3
    generalize ((a3.toNat:Nat):Int)=u3 at hV2 k3
    go_upto_region 1 with fail
    generalize w.alloc (.cells #[.int .i64 0,.int .i64 0,.int .u8 0] 94)=w0 at hg0 hb0 hbs ⊢
    go_cut [17] from 10 (fun s17 wx=>s17=.bool false/\wx=w0)
    case first =>
      rcases h45' with h|h
      · have n1:((s.size:Int) != 4)=false:=by rw [h];rfl
        go_wp2_with fail
        go_meet
        case rel=>exact ⟨rfl,rfl⟩
      · have n1:((s.size:Int) != 4)=true:=by rw [h];rfl
        have n2:((s.size:Int) != 5)=false:=by rw [h];rfl
        go_wp2_with fail
        go_meet
        case rel=>exact ⟨rfl,rfl⟩
    case rest =>
     obtain ⟨rfl,hww⟩:=hcut
     subst hww
     go_upto_region 3 with fail
     go_upto_region 4 with (go_at_call 136;refine (qa k1 _).mono ?_;rintro e w1 ⟨rfl,hg1⟩)
     go_upto_region 5 with (go_at_call 136;refine (qa k2 _).mono ?_;rintro e w2 ⟨rfl,hg2⟩)
     go_upto_region 6 with (go_at_call 179;refine (qa k3 _).mono ?_;rintro e w3 ⟨rfl,hg3⟩)
     have hg:=Gr.trans hg1 (Gr.trans hg2 hg3)
     have hb:w3.heap[w.heap.size]?=some (.cells #[.int .i64 0,.int .i64 0,.int .u8 0] 94):=(Below.block hg _ (qa hbs)).trans (qa hb0)
     have hgw:=hide (Gr.trans (qa hg0) hg)
     clear hg1 hg2 hg3 hg k1 k2 k3 hb0 hbs hg0
     cases b1
     · clear h45'
       go_wp2_with (refine wpList_store_row rfl 94 _ _ rfl w.heap.size #[.int .i64 0,.int .i64 0,.int .u8 0] rfl rfl 94 #[.int .i64 0,.int .i64 0,.int .u8 0] hb infoMv3 rfl (by simp [Value.oneCell']) ?_)
       exact bodyPost_ret (v:=.tuple #[.agg #[.int .i64 0,.int .i64 0,.int .u8 0],.bool false]) (qe Tryz.results108 _ _ w.heap.size 94 _ (0,0) _ rfl (setRow_heap _ _ _ _ _ _ hb) Tryz.underlying94 rfl infoMv3) rfl ⟨by rw [qa hV2];rfl,(qa hgw).setRow _ (Nat.le_refl _) _⟩
     · cases b2
       · clear h45'
         go_wp2_with (refine wpList_store_row rfl 94 _ _ rfl w.heap.size #[.int .i64 0,.int .i64 0,.int .u8 0] rfl rfl 94 #[.int .i64 0,.int .i64 0,.int .u8 0] hb infoMv3 rfl (by simp [Value.oneCell']) ?_)
         exact bodyPost_ret (v:=.tuple #[.agg #[.int .i64 0,.int .i64 0,.int .u8 0],.bool false]) (qe Tryz.results108 _ _ w.heap.size 94 _ (0,0) _ rfl (setRow_heap _ _ _ _ _ _ hb) Tryz.underlying94 rfl infoMv3) rfl ⟨by rw [qa hV2];rfl,(qa hgw).setRow _ (Nat.le_refl _) _⟩
       · cases b3
         · clear h45'
           go_wp2_with (refine wpList_store_row rfl 94 _ _ rfl w.heap.size #[.int .i64 0,.int .i64 0,.int .u8 0] rfl rfl 94 #[.int .i64 0,.int .i64 0,.int .u8 0] hb infoMv3 rfl (by simp [Value.oneCell']) ?_)
           exact bodyPost_ret (v:=.tuple #[.agg #[.int .i64 0,.int .i64 0,.int .u8 0],.bool false]) (qe Tryz.results108 _ _ w.heap.size 94 _ (0,0) _ rfl (setRow_heap _ _ _ _ _ _ hb) Tryz.underlying94 rfl infoMv3) rfl ⟨by rw [qa hV2];rfl,(qa hgw).setRow _ (Nat.le_refl _) _⟩
         · clear h45'
           go_wp2_with (refine wpList_store_row rfl 94 _ _ rfl w.heap.size #[.int .i64 a1,.int .i64 a2,.int .u8 u3] rfl rfl 94 #[.int .i64 0,.int .i64 0,.int .u8 0] hb infoMv3 rfl (by simp [Value.oneCell']) ?_)
           exact bodyPost_ret (v:=.tuple #[.agg #[.int .i64 a1,.int .i64 a2,.int .u8 u3],.bool true]) (qe Tryz.results108 _ _ w.heap.size 94 _ (0,0) _ rfl (setRow_heap _ _ _ _ _ _ hb) Tryz.underlying94 rfl infoMv3) rfl ⟨by rw [qa hV2];rfl,(qa hgw).setRow _ (Nat.le_refl _) _⟩
  · have hv:readV s=.tuple #[.agg (mvA (0,0,0)),.bool false]:=by unfold readV mvR;rw [if_neg h45]
    rw [hv]
    have n4:((s.size:Int) != 4)=true:=by rw [bne_iff_ne];omega
    have n5:((s.size:Int) != 5)=true:=by rw [bne_iff_ne];omega
    clear h45 hsq hrt
    go_enter Tryz.func108,Tryz.ntmps108
    go_wp2_with fail
    exact bodyPost_ret (v:=.tuple #[.agg #[.int .i64 0,.int .i64 0,.int .u8 0],.bool false]) (qe Tryz.results108 _ _ w.heap.size 94 _ (0,0) _ rfl (heap_alloc_new w _) Tryz.underlying94 rfl infoMv3) rfl ⟨rfl,qa hg0⟩
end Go.Proofs.YtnfakamfmkhlbaaGreatDoor.C
namespace Go.Proofs.YtnfakamfmkhlbaaGreatDoor.C
open Go.ChangeShapes Go.WideShapes Go.ChangeAt Go.RowKit Go.Shelf
open Go.Proofs.YtnfakamfmkhlbaaGreatDoor.P
attribute [local go_sem] qb qd Oper.semAt_some
theorem qv {P:Program} {fn:Func} {p p2 q:Tmp} {ty ty2:TypeId} (h:fn.results=#[.cell p ty,.cell p2 ty2,.tmp q]) (tmps:Array Value) (w:World) (g g2:Nat) (t t2:TypeId) (cs cs2:Array Value) (fr fr2:Nat × Nat) (d d2:TypeDesc)
  (hp:tmps.getD p undef=.pointer (some ⟨g,0,none⟩)) (hg:w.heap[g]?=some (.cells cs t fr)) (hu:P.underlying ty=some d) (hd:(match d with|.struct _|.array _ _=>true|_=>false)=true) (hi:(P.info? ty).map (·.size)=some cs.size)
  (hp2:tmps.getD p2 undef=.pointer (some ⟨g2,0,none⟩)) (hg2:w.heap[g2]?=some (.cells cs2 t2 fr2)) (hu2:P.underlying ty2=some d2) (hd2:(match d2 with|.struct _|.array _ _=>true|_=>false)=true) (hi2:(P.info? ty2).map (·.size)=some cs2.size) :
  (results fn tmps).run P w=.ok (.tuple #[.agg cs,.agg cs2,tmps.getD q undef]) w:=by
 have hp':tmps[p]?.getD undef=.pointer (some ⟨g,0,none⟩):=by simpa using hp
 have hp2':tmps[p2]?.getD undef=.pointer (some ⟨g2,0,none⟩):=by simpa using hp2
 simp [results,h,hp',hp2',asAddr,run_loadVar_row w g t ty cs fr d hg hu hd hi,run_loadVar_row w g2 t2 ty2 cs2 fr2 d2 hg2 hu2 hd2 hi2]
def zMv:Array Value:=#[.int .i64 0,.int .i64 0,.int .u8 0]
def ToEnd (s t:ByteArray) (e:Ending):Prop :=
 (∃ k,BadK s k/\e=.returned (.tuple #[.agg Tryz.zeroCells25,.agg zMv,.int .i64 k])) ∨
 (∃ p,readS s=some p/\posCan p=true/\mvR t=none/\e=.returned (.tuple #[.agg Tryz.zeroCells25,.agg zMv,.int .i64 1])) ∨
 (∃ p x,readS s=some p/\posCan p=true/\mvR t=some x/\x∉movS (posZ p) p.white p.castle p.behind/\e=.returned (.tuple #[.agg Tryz.zeroCells25,.agg zMv,.int .i64 4])) ∨
 (∃ p x,readS s=some p/\posCan p=true/\mvR t=some x/\x∈movS (posZ p) p.white p.castle p.behind/\e=.returned (.tuple #[.agg (posV p),.agg (mvA x),.int .i64 0]))
structure Tm (w W:World):Prop where
 ps:W.heap[w.heap.size]?=some (.cells Tryz.zeroCells25 25)
 mv:W.heap[w.heap.size+1]?=some (.cells zMv 94)
 lt:w.heap.size+1<W.heap.size
 gr:Gr w W
theorem Tm.next {w W W':World} (h:Tm w W) (g:Gr W W'):Tm w W' :=
 ⟨(Below.block g _ (Nat.lt_of_succ_lt h.lt)).trans h.ps,(Below.block g _ h.lt).trans h.mv,Nat.lt_of_lt_of_le h.lt (Below.size g),Gr.trans h.gr g⟩
theorem Tm.start (w:World):Tm w ((w.alloc (.cells Tryz.zeroCells25 25)).alloc (.cells zMv 94)):=by
 obtain ⟨e1,e2⟩:=heapTwo w (.cells Tryz.zeroCells25 25) (.cells zMv 94);exact ⟨e1,e2,by rw [World.size_alloc,World.size_alloc];omega,((Gr.refl w).alloc _ _).alloc _ _⟩
theorem qqj:zMv.all (·.oneCell')=true:=by simp [zMv,Value.oneCell']
theorem Tm.out {w W:World} (h:Tm w W) (A M:Array Value):((W.setRow w.heap.size A).setRow (w.heap.size+1) M).heap[w.heap.size]?=some (.cells A 25)/\((W.setRow w.heap.size A).setRow (w.heap.size+1) M).heap[w.heap.size+1]?=some (.cells M 94)/\Gr w ((W.setRow w.heap.size A).setRow (w.heap.size+1) M) :=
 ⟨by rw [setRow_other _ _ _ _ (by omega)];exact setRow_heap _ _ _ _ _ _ h.ps,setRow_heap _ _ _ _ _ _ (by rw [setRow_other _ _ _ _ (by omega)];exact h.mv),(h.gr.setRow _ (Nat.le_refl _) _).setRow _ (by omega) _⟩
theorem Tm.second {w W:World} (h:Tm w W) (A:Array Value):(W.setRow w.heap.size A).heap[w.heap.size+1]?=some (.cells zMv 94):=by rw [setRow_other _ _ _ _ (by omega)];exact h.mv
theorem rowOf2 {W:World} {b:Nat} {A:Array Value} {ty:TypeId} (h:W.heap[b]?=some (.cells A ty)) (_hl:b<W.heap.size):RowAt b A W:=jx h
structure T2 (w:World) (b1:Nat) (A:Array Value) (b2:Nat) (M:Array Value) (W:World):Prop where
 tm:Tm w W
 p:W.heap[b1]?=some (.cells A 25)
 lp:b1<W.heap.size
 m:W.heap[b2]?=some (.cells M 94)
 lm:b2<W.heap.size
theorem T2.next {w W W':World} {b1 b2:Nat} {A M:Array Value} (h:T2 w b1 A b2 M W) (g:Gr W W'):T2 w b1 A b2 M W' :=
 ⟨h.tm.next g,(Below.block g _ h.lp).trans h.p,Nat.lt_of_lt_of_le h.lp (Below.size g),(Below.block g _ h.lm).trans h.m,Nat.lt_of_lt_of_le h.lm (Below.size g)⟩
structure T3 (w:World) (b1:Nat) (A:Array Value) (b2:Nat) (M:Array Value) (W:World):Prop where
 ps:∃ R,R.size=72/\W.heap[w.heap.size]?=some (.cells R 25)
 mv:∃ R,R.size=3/\W.heap[w.heap.size+1]?=some (.cells R 94)
 gr:Gr w W
 p:W.heap[b1]?=some (.cells A 25)
 lp:b1<W.heap.size
 m:W.heap[b2]?=some (.cells M 94)
 lm:b2<W.heap.size
 h1:w.heap.size+1<b1
 h2:w.heap.size+1<b2
theorem T3.of {w W:World} {b1 b2:Nat} {A M:Array Value} (h:T2 w b1 A b2 M W) (h1:w.heap.size+1<b1) (h2:w.heap.size+1<b2):T3 w b1 A b2 M W :=
 ⟨⟨_,zeroP,h.tm.ps⟩,⟨_,rfl,h.tm.mv⟩,h.tm.gr,h.p,h.lp,h.m,h.lm,h1,h2⟩
theorem T3.putP {w W:World} {b1 b2:Nat} {A M:Array Value} (h:T3 w b1 A b2 M W) (X:Array Value) (hX:X.size=72):T3 w b1 A b2 M (W.setRow w.heap.size X):=by
 obtain ⟨R,r1,r2⟩:=h.ps;obtain ⟨R',r3,r4⟩:=h.mv;have:=h.h1;have:=h.h2;exact ⟨⟨X,hX,setRow_heap _ _ _ _ _ _ r2⟩,⟨R',r3,by rw [setRow_other _ _ _ _ (by omega)];exact r4⟩,h.gr.setRow _ (Nat.le_refl _) _,by rw [setRow_other _ _ _ _ (by omega)];exact h.p,by rw [size_setRow];exact h.lp,by rw [setRow_other _ _ _ _ (by omega)];exact h.m,by rw [size_setRow];exact h.lm,h.h1,h.h2⟩
theorem T3.putM {w W:World} {b1 b2:Nat} {A M:Array Value} (h:T3 w b1 A b2 M W) (X:Array Value) (hX:X.size=3):T3 w b1 A b2 M (W.setRow (w.heap.size+1) X):=by
 obtain ⟨R,r1,r2⟩:=h.ps;obtain ⟨R',r3,r4⟩:=h.mv;have:=h.h1;have:=h.h2;exact ⟨⟨R,r1,by rw [setRow_other _ _ _ _ (by omega)];exact r2⟩,⟨X,hX,setRow_heap _ _ _ _ _ _ r4⟩,h.gr.setRow _ (by omega) _,by rw [setRow_other _ _ _ _ (by omega)];exact h.p,by rw [size_setRow];exact h.lp,by rw [setRow_other _ _ _ _ (by omega)];exact h.m,by rw [size_setRow];exact h.lm,h.h1,h.h2⟩
theorem T3.c0 {w W:World} {b1 b2:Nat} {A:Array Value} {x:Nat × Nat × UInt8} (h:T3 w b1 A b2 (mvA x) W):W.cell? ⟨b2,0,none⟩=some (.int .i64 (x.1:Int)):=by rw [cell_of_row _ _ _ _ _ _ h.m];rfl
theorem T3.c1 {w W:World} {b1 b2:Nat} {A:Array Value} {x:Nat × Nat × UInt8} (h:T3 w b1 A b2 (mvA x) W):W.cell? ⟨b2,1,none⟩=some (.int .i64 (x.2.1:Int)):=by rw [cell_of_row _ _ _ _ _ _ h.m];rfl
theorem T3.c2 {w W:World} {b1 b2:Nat} {A:Array Value} {x:Nat × Nat × UInt8} (h:T3 w b1 A b2 (mvA x) W):W.cell? ⟨b2,2,none⟩=some (.int .u8 (x.2.2.toNat:Int)):=by rw [cell_of_row _ _ _ _ _ _ h.m];rfl
theorem T2.c0 {w W:World} {b1 b2:Nat} {A:Array Value} {x:Nat × Nat × UInt8} (h:T2 w b1 A b2 (mvA x) W):W.cell? ⟨b2,0,none⟩=some (.int .i64 (x.1:Int)):=by rw [cell_of_row _ _ _ _ _ _ h.m];rfl
theorem T2.c1 {w W:World} {b1 b2:Nat} {A:Array Value} {x:Nat × Nat × UInt8} (h:T2 w b1 A b2 (mvA x) W):W.cell? ⟨b2,1,none⟩=some (.int .i64 (x.2.1:Int)):=by rw [cell_of_row _ _ _ _ _ _ h.m];rfl
theorem T2.c2 {w W:World} {b1 b2:Nat} {A:Array Value} {x:Nat × Nat × UInt8} (h:T2 w b1 A b2 (mvA x) W):W.cell? ⟨b2,2,none⟩=some (.int .u8 (x.2.2.toNat:Int)):=by rw [cell_of_row _ _ _ _ _ _ h.m];rfl
theorem toMove_any (s t:ByteArray) (hs:s.size<4294967281) (ht:t.size<4294967281) (m:Int) (w:World) (hc:Ct m w) (htb:Tabs w):Calls Tryz.prog 50 #[.string s,.string t] w fun e w'=>ToEnd s t e/\Gr w w':=by
 have hT0:=Tm.start w;have h1:Hid (∀ W,Gr w W->Calls Tryz.prog 12 #[.string s] W fun e w'=>ParseEnd s e/\Gr W w'):=hide (fun W g=>qjc s hs m W (hc.gr g).mx (hc.gr g).ml (hc.gr g).tab (hc.gr g).homes);have hrd:=hide (fun W=>mread_any t ht W);rcases xo s with ⟨p,hr,hcan,hone⟩|⟨k,hk,hbad,hone⟩
 ·have h2:Hid (∀ W,Gr w W->Calls Tryz.prog 12 #[.string s] W fun e w'=>e=.returned (.tuple #[.agg (posV p),.int .i64 0])/\Gr W w'):=hide (fun W g=>(qa h1 W g).mono fun e w' h=>⟨hone e h.1,h.2⟩);have hrow:=jh hr;have hz:=hrow.size;have ho:=hide (xi hrow);have hb:=qxm hr;have hle:Hid (∀ (y:Mv) W,Gr w W->Calls Tryz.prog 109 #[.agg setA,.agg (posV p),.agg (mvA y)] W fun e w'=>e=.returned (.bool ((movS (posZ p) p.white p.castle p.behind).any fun x=>x==y))/\Gr W w'):=hide (fun y W g=>isLegalQ_any hrow (can_lay hcan) hb.1 hb.2 y W (hc.gr g).tab (htb.gr g).cas);have hend1:Hid (mvR t=none->ToEnd s t (.returned (.tuple #[.agg Tryz.zeroCells25,.agg zMv,.int .i64 1]))):=hide (fun e=>.inr (.inl ⟨p,hr,hcan,e,rfl⟩))
  have hend4:Hid (∀ x,mvR t=some x->((movS (posZ p) p.white p.castle p.behind).any fun y=>y==x)=false->ToEnd s t (.returned (.tuple #[.agg Tryz.zeroCells25,.agg zMv,.int .i64 4]))):=hide (fun x e q=>.inr (.inr (.inl ⟨p,x,hr,hcan,e,fun hx=>by
   rw [List.any_eq_false] at q;exact q x hx (by simp),rfl⟩)))
  have hend0:Hid (∀ x,mvR t=some x->((movS (posZ p) p.white p.castle p.behind).any fun y=>y==x)=true->ToEnd s t (.returned (.tuple #[.agg (posV p),.agg (mvA x),.int .i64 0]))):=hide (fun x e q=>.inr (.inr (.inr ⟨p,x,hr,hcan,e,by
   obtain ⟨y,hy,e⟩:=List.any_eq_true.1 q;have:y=x:=by simpa using e
   rw [<-this];exact hy,rfl⟩)))
  generalize posV p=A at h2 hz ho hle hend0;clear h1 hone hc htb hs ht hrow hb hr hcan;go_enter Tryz.func50,Tryz.ntmps50;go_upto_region 1 with fail;show Code.wp _ _ _ _ ((w.alloc (.cells Tryz.zeroCells25 25)).alloc (.cells zMv 94));generalize ((w.alloc (.cells Tryz.zeroCells25 25)).alloc (.cells zMv 94))=w0 at hT0 ⊢;have hg0:=hT0.gr
  go_upto_region 4 with (first
   | (go_at_call 12;refine (qa h2 _ hg0).mono ?_;rintro e w3 ⟨rfl,hg3⟩)
   | (refine wpList_store_row rfl 25 _ _ rfl w3.heap.size A rfl rfl 25 _ (heap_alloc_new _ _) (by rw [hz];exact infoP) (by rw [hz];exact zeroP.symm) (qa ho) ?_))
  have hg4:Gr w3 ((w3.alloc (.cells Tryz.zeroCells25 25)).setRow w3.heap.size A):=((Gr.refl w3).alloc Tryz.zeroCells25 25).setRow w3.heap.size (Nat.le_refl _) A;have hT4:=hT0.next (Gr.trans hg3 hg4);have hb1:((w3.alloc (.cells Tryz.zeroCells25 25)).setRow w3.heap.size A).heap[w3.heap.size]?=some (.cells A 25):=setRow_heap _ _ _ _ _ _ (heap_alloc_new w3 _);have hlb:w3.heap.size<((w3.alloc (.cells Tryz.zeroCells25 25)).setRow w3.heap.size A).heap.size:=by rw [size_setRow,World.size_alloc];omega
  show Code.wp _ _ _ _ ((w3.alloc (.cells Tryz.zeroCells25 25)).setRow w3.heap.size A);generalize (w3.alloc (.cells Tryz.zeroCells25 25)).setRow w3.heap.size A=w4 at hT4 hb1 hlb ⊢;have hlo1:w.heap.size+1<w3.heap.size:=Nat.lt_of_lt_of_le hT0.lt (Below.size hg3);generalize w3.heap.size=b1 at hb1 hlb hlo1 ⊢;clear hT0 hg0 hg3 hg4 h2;cases hm:mvR t with
  | none =>
   have hv:readV t=.tuple #[.agg zMv,.bool false]:=by unfold readV;rw [hm];rfl
   rw [hv] at hrd;have hend:=hide (qa hend1 hm);clear hend1 hend4 hend0 hle hm hv
   go_upto_region 5 with (first
    | (go_at_call 108;refine (qa hrd _).mono ?_;rintro e w5 ⟨rfl,hg5⟩)
    | (refine wpList_store_row rfl 94 _ _ rfl w5.heap.size zMv rfl rfl 94 zMv (heap_alloc_new _ _) infoMv3 rfl qqj ?_))
   have hT6:=(hT4.next hg5).next (((Gr.refl w5).alloc zMv 94).setRow w5.heap.size (Nat.le_refl _) zMv);show Code.wp _ _ _ _ ((w5.alloc (.cells zMv 94)).setRow w5.heap.size zMv);generalize (w5.alloc (.cells zMv 94)).setRow w5.heap.size zMv=w6 at hT6 ⊢;have hps:=hide hT6.ps;have hmv:=hide (hT6.second Tryz.zeroCells25);have hout:=hide (hT6.out Tryz.zeroCells25 zMv);clear hT4 hT6 hb1 hlb hg5 hrd
   go_wp2_with (first
    | (refine wpList_store_row rfl 25 _ _ rfl w.heap.size Tryz.zeroCells25 rfl rfl 25 Tryz.zeroCells25 (qa hps) (by rw [zeroP];exact infoP) rfl zeroP_ones ?_)
    | (refine wpList_store_row rfl 94 _ _ rfl (w.heap.size+1) zMv rfl rfl 94 zMv (qa hmv) infoMv3 rfl qqj ?_))
   exact bodyPost_ret (v:=.tuple #[.agg Tryz.zeroCells25,.agg zMv,.int .i64 1]) (qv Tryz.results50 _ _ w.heap.size (w.heap.size+1) 25 94 _ _ (0,0) (0,0) _ _ rfl (qa hout).1 Tryz.underlying25 rfl (by rw [zeroP];exact infoP) rfl (qa hout).2.1 Tryz.underlying94 rfl infoMv3) rfl ⟨qa hend,(qa hout).2.2⟩
  | some x =>
   have hv:readV t=.tuple #[.agg (mvA x),.bool true]:=by unfold readV;rw [hm]
   rw [hv] at hrd;have h4:=hide (qa hend4 x hm);have h0:=hide (qa hend0 x hm);have hle':=hide (qa hle x);obtain ⟨LG,hLG⟩:∃ q,Hid (((movS (posZ p) p.white p.castle p.behind).any fun y=>y==x)=q):=⟨_,hide rfl⟩;rw [qa hLG] at h4 h0 hle';clear hend1 hend4 hend0 hle hm hv hLG;have hone:(mvA x).all (·.oneCell')=true:=by simp [mvA,Value.oneCell']
   go_upto_region 5 with (first
    | (go_at_call 108;refine (qa hrd _).mono ?_;rintro e w5 ⟨rfl,hg5⟩)
    | (refine wpList_store_row rfl 94 _ _ rfl w5.heap.size (mvA x) rfl rfl 94 zMv (heap_alloc_new _ _) infoMv3 rfl hone ?_))
   have hg6:Gr w5 ((w5.alloc (.cells zMv 94)).setRow w5.heap.size (mvA x)):=((Gr.refl w5).alloc zMv 94).setRow w5.heap.size (Nat.le_refl _) (mvA x);have hT6:=(hT4.next hg5).next hg6;have hb1':=(Below.block (Gr.trans hg5 hg6) _ hlb).trans hb1;have hb2:((w5.alloc (.cells zMv 94)).setRow w5.heap.size (mvA x)).heap[w5.heap.size]?=some (.cells (mvA x) 94):=setRow_heap _ _ _ _ _ _ (heap_alloc_new w5 _);have hlb2:w5.heap.size<((w5.alloc (.cells zMv 94)).setRow w5.heap.size (mvA x)).heap.size:=by rw [size_setRow,World.size_alloc];omega
   have hlb':=Nat.lt_of_lt_of_le hlb (Below.size (Gr.trans hg5 hg6));show Code.wp _ _ _ _ ((w5.alloc (.cells zMv 94)).setRow w5.heap.size (mvA x));generalize (w5.alloc (.cells zMv 94)).setRow w5.heap.size (mvA x)=w6 at hT6 hb1' hb2 hlb2 hlb' ⊢;have hlo2:w.heap.size+1<w5.heap.size:=Nat.lt_of_lt_of_le hT4.lt (Below.size hg5);generalize w5.heap.size=b2 at hb2 hlb2 hlo2 ⊢;clear hT4 hb1 hlb hg5 hg6 hrd;go_upto_region 7 with fail;have hS:T2 w b1 A b2 (mvA x) w6.drew:=⟨hT6.next (Gr.refl _).drew,hb1',hlb',hb2,hlb2⟩;clear hT6 hb1' hlb' hb2 hlb2;refine wp_region_held_drew (S:=T2 w b1 A b2 (mvA x)) (by kernel_rfl) hS (fun hHeld=>?_);clear hS;refine C.ty 1 (.agg A) rfl (qxu hz (by rfl) _ rfl b1 rfl (fun _ h=>rowOf2 h.p h.lp)) hHeld ?_;refine C.ty 2 (.agg (mvA x)) rfl (Or.inl ⟨by rfl,fun w' hw=>(by have c0:=hw.c0;have c1:=hw.c1;have c2:=hw.c2;go_simp;rfl)⟩) hHeld ?_;refine C.rd 0 fun K hK=>?_
   go_simp;refine (quick_any _).mono ?_;rintro e wa ⟨rfl,hga⟩;refine hK.out _ _ (hHeld.next hga) (fun hHeld=>?_);clear hK K hga
   try simp only [C.py]
   refine C.rd 3 fun K hK=>?_
   go_simp;refine (qa hle' _ hHeld.tm.gr).mono ?_;rintro e wb ⟨rfl,hgb⟩;refine hK.out _ _ (hHeld.next hgb) (fun hHeld=>?_);clear hK K hgb
   try simp only [C.py]
   refine C.tq 4 (.bool (!LG)) hHeld ?_;refine wpAnyH_done (by kernel_rfl) ?_ _;cases LG
   ·have hend:=hide (qa h4 rfl);have hps:=hide hHeld.tm.ps;have hmv:=hide (hHeld.tm.second Tryz.zeroCells25);have hout:=hide (hHeld.tm.out Tryz.zeroCells25 zMv);clear h0 h4 hle' hHeld
    go_wp2_with (first
     | (refine wpList_store_row rfl 25 _ _ rfl w.heap.size Tryz.zeroCells25 rfl rfl 25 Tryz.zeroCells25 (qa hps) (by rw [zeroP];exact infoP) rfl zeroP_ones ?_)
     | (refine wpList_store_row rfl 94 _ _ rfl (w.heap.size+1) zMv rfl rfl 94 zMv (qa hmv) infoMv3 rfl qqj ?_))
    exact bodyPost_ret (v:=.tuple #[.agg Tryz.zeroCells25,.agg zMv,.int .i64 4]) (qv Tryz.results50 _ _ w.heap.size (w.heap.size+1) 25 94 _ _ (0,0) (0,0) _ _ rfl (qa hout).1 Tryz.underlying25 rfl (by rw [zeroP];exact infoP) rfl (qa hout).2.1 Tryz.underlying94 rfl infoMv3) rfl ⟨qa hend,(qa hout).2.2⟩
   ·have hend:=hide (qa h0 rfl);have hAo:=qa ho;clear h0 h4 hle';go_upto_region 9 with fail;have hS:T3 w b1 A b2 (mvA x) wb.drew:=T3.of (hHeld.next (Gr.refl _).drew) hlo1 hlo2;clear hHeld;refine wp_region_held_drew (S:=T3 w b1 A b2 (mvA x)) (by kernel_rfl) hS (fun hHeld=>?_);clear hS;refine C.ty 0 (.agg A) rfl (qxu hz (by rfl) _ rfl b1 rfl (fun _ h=>rowOf2 h.p h.lp)) hHeld ?_;refine C.ty 1 (.agg (mvA x)) rfl (Or.inl ⟨by rfl,fun w' hw=>(by have c0:=hw.c0;have c1:=hw.c1;have c2:=hw.c2;go_simp;rfl)⟩) hHeld ?_;refine C.rd 2 fun K hK=>?_
    rw [if_pos (by rfl)];obtain ⟨R1,r1,r2⟩:=hHeld.ps;refine wp_store_row 25 _ _ rfl w.heap.size A rfl rfl 25 R1 r2 (by rw [hz];exact infoP) (by rw [hz,r1]) hAo ?_;refine hK.out _ _ (hHeld.putP A hz) (fun hHeld=>?_);clear hK K
    try simp only [C.py]
    refine C.rd 3 fun K hK=>?_
    rw [if_pos (by rfl)];obtain ⟨R3,r5,r6⟩:=hHeld.mv;refine wp_store_row 94 _ _ rfl (w.heap.size+1) (mvA x) rfl rfl 94 R3 r6 infoMv3 (by rw [r5];rfl) hone ?_;have hp9:_:=setRow_heap _ _ _ A _ _ r2;refine hK.out _ _ (hHeld.putM (mvA x) rfl) (fun hHeld=>?_);clear hK K
    try simp only [C.py]
    refine C.rd 4 fun K hK=>?_
    go_simp;refine hK.out _ _ hHeld (fun hHeld=>?_);clear hK K
    try simp only [C.py]
    refine wpAnyH_done (by kernel_rfl) ?_ _;have hgf:=hide hHeld.gr;go_wp2_with fail;exact bodyPost_ret (v:=.tuple #[.agg A,.agg (mvA x),.int .i64 0]) (qv Tryz.results50 _ _ w.heap.size (w.heap.size+1) 25 94 _ _ (0,0) (0,0) _ _ rfl (by rw [setRow_other _ _ _ _ (by omega)];exact hp9) Tryz.underlying25 rfl (by rw [hz];exact infoP) rfl (setRow_heap _ _ _ _ _ _ r6) Tryz.underlying94 rfl infoMv3) rfl ⟨qa hend,qa hgf⟩
 ·have h2:Hid (∀ W,Gr w W->Calls Tryz.prog 12 #[.string s] W fun e w'=>e=.returned (.tuple #[.agg Tryz.zeroCells25,.int .i64 k])/\Gr W w'):=hide (fun W g=>(qa h1 W g).mono fun e w' h=>⟨hone e h.1,h.2⟩);have hend:Hid (ToEnd s t (.returned (.tuple #[.agg Tryz.zeroCells25,.agg zMv,.int .i64 k]))):=hide (.inl ⟨k,hbad,rfl⟩);have k2:(k != 0)=true:=by rw [bne_iff_ne];exact hk
  clear h1 hone hbad hc htb hs ht hrd hk;go_enter Tryz.func50,Tryz.ntmps50;go_upto_region 1 with fail;show Code.wp _ _ _ _ ((w.alloc (.cells Tryz.zeroCells25 25)).alloc (.cells zMv 94));generalize ((w.alloc (.cells Tryz.zeroCells25 25)).alloc (.cells zMv 94))=w0 at hT0 ⊢;have hg0:=hT0.gr
  go_upto_region 2 with (first
   | (go_at_call 12;refine (qa h2 _ hg0).mono ?_;rintro e w3 ⟨rfl,hg3⟩)
   | (refine wpList_store_row rfl 25 _ _ rfl w3.heap.size Tryz.zeroCells25 rfl rfl 25 _ (heap_alloc_new _ _) (by rw [zeroP];exact infoP) rfl zeroP_ones ?_))
  have hT4:=hT0.next (Gr.trans hg3 (((Gr.refl w3).alloc Tryz.zeroCells25 25).setRow w3.heap.size (Nat.le_refl _) Tryz.zeroCells25));generalize (w3.alloc (.cells Tryz.zeroCells25 25)).setRow w3.heap.size Tryz.zeroCells25=w4 at hT4 ⊢;have hps:=hide hT4.ps;have hmv:=hide (hT4.second Tryz.zeroCells25);have hout:=hide (hT4.out Tryz.zeroCells25 zMv);clear hT4 hT0 hg0 hg3 h2
  go_wp2_with (first
   | (refine wpList_store_row rfl 25 _ _ rfl w.heap.size Tryz.zeroCells25 rfl rfl 25 Tryz.zeroCells25 (qa hps) (by rw [zeroP];exact infoP) rfl zeroP_ones ?_)
   | (refine wpList_store_row rfl 94 _ _ rfl (w.heap.size+1) zMv rfl rfl 94 zMv (qa hmv) infoMv3 rfl qqj ?_))
  exact bodyPost_ret (v:=.tuple #[.agg Tryz.zeroCells25,.agg zMv,.int .i64 k]) (qv Tryz.results50 _ _ w.heap.size (w.heap.size+1) 25 94 _ _ (0,0) (0,0) _ _ rfl (qa hout).1 Tryz.underlying25 rfl (by rw [zeroP];exact infoP) rfl (qa hout).2.1 Tryz.underlying94 rfl infoMv3) rfl ⟨qa hend,(qa hout).2.2⟩
end Go.Proofs.YtnfakamfmkhlbaaGreatDoor.C
