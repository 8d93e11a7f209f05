import Derived.Test.YtnfakamfmkhlbaaGreatDoorZs34
import Derived.Test.YtnfakamfmkhlbaaGreatDoorZs9
import Derived.Test.YtnfakamfmkhlbaaGreatDoorKz2
set_option maxRecDepth 100000
set_option maxHeartbeats 4000000
set_option linter.unusedSimpArgs false
namespace Go.Proofs.YtnfakamfmkhlbaaGreatDoor.C
open Go.ChangeShapes Go.WideShapes Go.ChangeAt Go.RowKit Go.Shelf
open Go.Proofs.YtnfakamfmkhlbaaGreatDoor.P
attribute [local go_sem] qd qi Oper.semAt_some
def stateA (c:Bool) (n o:Int):Array Value:=#[.bool c,.int .i64 n,.int .i64 o]
theorem infoSt:(Tryz.prog.info? 44).map (·.size)=some 3:=by kernel_rfl
theorem xa (c:Bool) (n o:Int):(stateA c n o).all (·.oneCell')=true:=by simp [stateA,Value.oneCell']
structure Lk (w:World) (PA:Array Value) (W:World):Prop where
 ck:Ck w 104 105 PA W
 st:W.heap[w.heap.size+2]?=some (.cells (stateA false 0 0) 44)
theorem Lk.next {w W W':World} {PA:Array Value} (h:Lk w PA W) (g:Gr W W'):Lk w PA W' :=
 ⟨h.ck.next g,(Below.block g _ (Array.getElem?_eq_some_iff.1 h.st).1).trans h.st⟩
theorem Lk.c0 {w W:World} {PA:Array Value} (h:Lk w PA W):W.cell? ⟨w.heap.size,0,none⟩=some (.func (.func 104) #[] #[]):=by rw [cell_of_row _ _ _ _ _ _ h.ck.q];rfl
theorem Lk.c1 {w W:World} {PA:Array Value} (h:Lk w PA W):W.cell? ⟨w.heap.size,1,none⟩=some (.func (.func 105) #[] #[]):=by rw [cell_of_row _ _ _ _ _ _ h.ck.q];rfl
theorem lk_start (w:World) (PA:Array Value):Lk w PA (((w.alloc (.cells (wayA 104 105) 84)).alloc (.cells PA 25)).alloc (.cells (stateA false 0 0) 44)):=by
 refine ⟨(ck_start w _ _ PA).next ((Gr.refl _).alloc _ _),?_⟩;have:=World.alloc_heap_new ((w.alloc (.cells (wayA 104 105) 84)).alloc (.cells PA 25)) (.cells (stateA false 0 0) 44);rw [World.size_alloc,World.size_alloc] at this;exact this
def lookV (z:Nat->UInt8) (wh:Bool) (fc:Nat->Bool) (b:Int):Array Value:=stateA (chkS z wh) ((movS z wh fc b).length:Int) (overN z (chkS z wh) ((movS z wh fc b).length:Int))
theorem lookQ_any {z:Nat->UInt8} {wh:Bool} {fc:Nat->Bool} {b h g:Int} {PA:Array Value} (r:Row z wh fc b h g PA) (hok:layOk z=true) (hb0:-1<=b) (hb1:b<=63) (h0:0<=kingR z wh) (h1:kingR z wh<=63) (w:World) (hT:TabIn w) (hC:CasTab w) :
  Calls Tryz.prog 46 #[.agg setA,.agg PA] w fun e w'=>e=.returned (.agg (lookV z wh fc b))/\Gr w w':=by
 have hr:=hide r;obtain ⟨b1,b2⟩:=zw r;have hz:=r.size;have hchk:=hide (fun W=>checkQ_any r hok h0 h1 W);have hover:=hide (fun c n W=>over_any z _ b1 b2 c n W);have hlen:=movS_len z wh fc b
 have hcount:Hid (∀ Bp W,Gr w W->W.heap[Bp]?=some (.cells PA 25)->Calls Tryz.prog 102 #[.func (.func 171) #[] #[.pointer (some ⟨Bp,0,none⟩)]] W fun e w'=>e=.returned (.int .i64 ((movS z wh fc b).length:Int))/\Gr W w'):=hide (fun Bp W hg hp =>
  countM_any (qjq (qa hr) hok hb0 hb1 Bp (fun _=>False) (fun _ h=>h.elim) W hp (hT.gr hg) (hC.gr hg)) (enters_of Tryz.func171 (by kernel_rfl) rfl) (by
   rintro k (rfl|rfl|rfl)
   ·exact (Array.getElem?_eq_some_iff.1 hp).1
   ·exact (hT.gr hg).2
   ·exact (hC.gr hg).2) (by omega))
 have hlk:Hid (lookV z wh fc b=stateA (chkS z wh) ((movS z wh fc b).length:Int) (overN z (chkS z wh) ((movS z wh fc b).length:Int))):=hide rfl;generalize hL:((movS z wh fc b).length:Int)=L at hcount hlk;generalize chkS z wh=CQ at hchk hlk;have hi72:(Tryz.prog.info? 25).map (·.size)=some PA.toList.length:=by rw [Array.length_toList,hz];exact infoP72
 have hA0:=lk_start w PA
 have hrow64:Hid (∀ W,Lk w PA W->W.rangeAt (w.heap.size+1) 0 (PA.toList.take 64)):=hide (fun W hW=>by
  intro j v hv;rw [cell_of_row _ _ _ _ _ _ hW.ck.pa,Nat.zero_add,<-Array.getElem?_toList];rw [List.getElem?_take] at hv;split at hv
  ·exact hv
  ·cases hv)
 have hi64:Hid ((Tryz.prog.info? 22).map (·.size)=some (PA.toList.take 64).length):=hide (by rw [info64];simp [hz]);clear r hok b1 b2 h0 h1 hr hL hlen hb0 hb1 hT hC;simp only [setA,wayA];go_enter Tryz.func46,Tryz.ntmps46;go_upto_region 1 with fail;show Code.wp _ _ _ _ (((w.alloc (.cells (wayA 104 105) 84)).alloc (.cells PA 25)).alloc (.cells (stateA false 0 0) 44));generalize (((w.alloc (.cells (wayA 104 105) 84)).alloc (.cells PA 25)).alloc (.cells (stateA false 0 0) 44))=wA at hA0 ⊢;refine wp_region_held_drew (S:=Lk w PA) (by kernel_rfl) (hA0.next (Gr.refl _).drew) (fun hHeld=>?_);refine C.ty 0 (.agg #[.func (.func 104) #[] #[],.func (.func 105) #[] #[]]) rfl (Or.inl ⟨by rfl,fun w' hw=>(by have c0:=hw.c0;have c1:=hw.c1;go_simp)⟩) hHeld ?_;refine C.ty 1 (.agg PA) rfl (y_pos3 hi72 (by rfl) _ rfl (w.heap.size+1) rfl (fun _ h=>h.ck.pa)) hHeld ?_;refine C.tq 3 (.pointer (some ⟨w.heap.size,1,none⟩)) hHeld ?_;refine C.ty 4 (.func (.func 105) #[] #[]) rfl (Or.inl ⟨by rfl,fun w' hw=>(by have c0:=hw.c0;have c1:=hw.c1;go_simp)⟩) hHeld ?_;refine C.ty 5 (.agg PA) rfl (y_pos3 hi72 (by rfl) _ rfl (w.heap.size+1) rfl (fun _ h=>h.ck.pa)) hHeld ?_;refine C.rd 2 fun K hK=>?_
 go_simp;refine (qa hchk _).mono ?_;rintro e wa ⟨rfl,hga⟩;refine hK.out _ _ (hHeld.next hga) (fun hHeld=>?_);clear hK K;refine C.rd 6 fun K hK=>?_
 go_simp;refine (zy PA _).mono ?_;rintro e wb ⟨rfl,hpb,hgb⟩;refine hK.out _ _ (hHeld.next hgb) (fun hHeld=>?_);clear hK K;refine C.rd 7 fun K hK=>?_
 go_simp;refine (qa hcount _ _ hHeld.ck.gr hpb).mono ?_;rintro e wc ⟨rfl,hgc⟩;refine hK.out _ _ (hHeld.next hgc) (fun hHeld=>?_);clear hK K;refine C.rd 8 fun K hK=>?_
 go_simp;refine hK.out _ _ hHeld (fun hHeld=>?_);clear hK K;refine C.rd 9 fun K hK=>?_
 go_simp;refine hK.out _ _ hHeld (fun hHeld=>?_);clear hK K;refine wpAnyH_done (by kernel_rfl) ?_ _;clear hHeld hcount hchk hA0 hga hgb hgc hpb;rename_i hHeld
 go_wp2_with (first
  | (refine wpList_load_mid rfl 22 _ rfl (w.heap.size+1) 0 rfl (PA.toList.take 64) _ (qa hrow64 _ (by assumption)) Tryz.underlying22 rfl (qa hi64) ?_)
  | (go_at_call 103;refine (qa hover CQ L _).mono ?_;rintro e wd ⟨rfl,hgd⟩;have hd:=Lk.next (by assumption) hgd)
  | (refine wpList_store_row rfl 44 _ _ rfl (w.heap.size+2) (stateA CQ L (overN z CQ L)) rfl rfl 44 (stateA false 0 0) hd.st infoSt rfl (xa _ _ _) ?_))
 exact bodyPost_ret (v:=.agg (stateA CQ L (overN z CQ L))) (results_cell_row Tryz.results46 _ _ (w.heap.size+2) 44 _ (0,0) _ rfl (setRow_heap _ _ _ _ _ _ hd.st) Tryz.underlying44 rfl infoSt) rfl ⟨by rw [qa hlk],hd.ck.gr.setRow _ (by omega) _⟩
def LookEnd (s:ByteArray) (e:Ending):Prop :=
 (∃ k,BadK s k/\e=.returned (.tuple #[.agg (stateA false 0 0),.int .i64 k])) ∨
 (∃ p,readS s=some p/\posCan p=true/\e=.returned (.tuple #[.agg (lookV (posZ p) p.white p.castle p.behind),.int .i64 0]))
structure Rl (w:World) (b1:Nat) (PA:Array Value) (W:World):Prop where
 pa:W.heap[b1]?=some (.cells PA 25)
 st:∃ A:Array Value,A.size=3/\W.heap[w.heap.size]?=some (.cells A 44)
 ne:b1≠w.heap.size
 gr:Gr w W
theorem Rl.next {w W W':World} {b1:Nat} {PA:Array Value} (h:Rl w b1 PA W) (g:Gr W W'):Rl w b1 PA W':=by
 obtain ⟨A,a1,a2⟩:=h.st;exact ⟨(Below.block g _ (Array.getElem?_eq_some_iff.1 h.pa).1).trans h.pa,⟨A,a1,(Below.block g _ (Array.getElem?_eq_some_iff.1 a2).1).trans a2⟩,h.ne,Gr.trans h.gr g⟩
theorem Rl.put {w W:World} {b1:Nat} {PA:Array Value} (h:Rl w b1 PA W) (A:Array Value) (ha:A.size=3):Rl w b1 PA (W.setRow w.heap.size A):=by
 obtain ⟨A',a1,a2⟩:=h.st;refine ⟨?_,⟨A,ha,setRow_heap _ _ _ _ _ _ a2⟩,h.ne,h.gr.setRow _ (Nat.le_refl _) _⟩;rw [qxo h.ne];exact h.pa
theorem rookLook_any (s:ByteArray) (hs:s.size<4294967281) (hK:∀ p,readS s=some p->posCan p=true->0<=kingR (posZ p) p.white/\kingR (posZ p) p.white<=63) (m:Int) (w:World) (hc:Ct m w) (ht:Tabs w) :
  Calls Tryz.prog 21 #[.string s] w fun e w'=>LookEnd s e/\Gr w w':=by
 have hg0:Gr w (w.alloc (.cells (stateA false 0 0) 44)):=(Gr.refl w).alloc _ _;have hst0:=World.alloc_heap_new w (.cells (stateA false 0 0) 44);have hc1:=hc.gr hg0;have h1:Hid (Calls Tryz.prog 12 #[.string s] (w.alloc (.cells (stateA false 0 0) 44)) fun e w'=>ParseEnd s e/\Gr (w.alloc (.cells (stateA false 0 0) 44)) w'):=hide (qjm s hs m _ hc1.mx hc1.ml hc1.tab hc1.homes);clear hc1;rcases xu s with ⟨p,hr,hcan,hone⟩|⟨k,hk,hbad,hone⟩
 ·have h2:Hid (Calls Tryz.prog 12 #[.string s] (w.alloc (.cells (stateA false 0 0) 44)) fun e w'=>e=.returned (.tuple #[.agg (posV p),.int .i64 0])/\Gr (w.alloc (.cells (stateA false 0 0) 44)) w'):=hide ((qa h1).mono fun e w' h=>⟨hone e h.1,h.2⟩);have hrow:=jf hr;have hz:=hrow.size;have ho:=hide (qy hrow);have hb:=qx2 hr;obtain ⟨k0,k1⟩:=hK p hr hcan;have hlook:Hid (∀ W:World,Gr w W->Calls Tryz.prog 46 #[.agg setA,.agg (posV p)] W fun e w'=>e=.returned (.agg (lookV (posZ p) p.white p.castle p.behind))/\Gr W w'):=hide (fun W hg=>lookQ_any hrow (can_lay hcan) hb.1 hb.2 k0 k1 W (hc.gr hg).tab (ht.gr hg).cas);have hend:Hid (LookEnd s (.returned (.tuple #[.agg (lookV (posZ p) p.white p.castle p.behind),.int .i64 0]))):=hide (.inr ⟨p,hr,hcan,rfl⟩);obtain ⟨LV,hLV,hLs,hLo⟩:∃ LV,LV=lookV (posZ p) p.white p.castle p.behind/\LV.size=3/\Hid (LV.all (·.oneCell')=true):=⟨_,rfl,rfl,hide (xa _ _ _)⟩;rw [<-hLV] at hlook hend;generalize posV p=A at h2 hz ho hlook;clear h1 hone hrow hr hcan hb hK hc ht hs k0 k1 hLV;have hi72:(Tryz.prog.info? 25).map (·.size)=some A.toList.length:=by rw [Array.length_toList,hz];exact infoP72
  go_enter Tryz.func21,Tryz.ntmps21
  go_upto_region 2 with (first
   | (go_at_call 12;refine (qa h2).mono ?_;rintro e w3 ⟨rfl,hg3⟩)
   | (refine wpList_store_row rfl 25 _ _ rfl w3.heap.size A rfl rfl 25 _ (heap_alloc_new _ _) (by rw [hz];exact infoP) (by rw [hz];exact zeroP.symm) (qa ho) ?_))
  generalize hw4:(w3.alloc (.cells Tryz.zeroCells25 25)).setRow w3.heap.size A=w4
  have hk4:Rl w w3.heap.size A w4:=by
   have hg4:Gr w3 w4:=by rw [<-hw4];exact ((Gr.refl w3).alloc _ _).setRow _ (Nat.le_refl _) _
   have hg04:=Gr.trans hg3 hg4;have hsz:=Below.size hg3;rw [World.size_alloc] at hsz;exact ⟨by rw [<-hw4];exact setRow_heap _ _ _ _ _ _ (heap_alloc_new w3 _),⟨_,rfl,(Below.block hg04 _ (Array.getElem?_eq_some_iff.1 hst0).1).trans hst0⟩,by omega,Gr.trans hg0 hg04⟩
  generalize w3.heap.size=b1 at hk4 ⊢;clear hw4 hg3 h2 hst0 hg0;go_upto_region 4 with fail;refine wp_region_held_drew (S:=Rl w b1 A) (by kernel_rfl) (hk4.next (Gr.refl _).drew) (fun hHeld=>?_);refine C.ty 1 (.agg A) rfl (y_pos3 hi72 (by rfl) _ rfl b1 rfl (fun _ h=>h.pa)) hHeld ?_;refine C.rd 0 fun K hK=>?_
  go_simp;refine (qjj _).mono ?_;rintro e wa ⟨rfl,hga⟩;refine hK.out _ _ (hHeld.next hga) (fun hHeld=>?_);clear hK K;refine C.rd 2 fun K hK=>?_
  go_simp;refine (qa hlook _ hHeld.gr).mono ?_;rintro e wb ⟨rfl,hgb⟩;refine hK.out _ _ (hHeld.next hgb) (fun hHeld=>?_);clear hK K;refine C.rd 3 fun K hK=>?_
  rw [if_pos (by rfl)];obtain ⟨A',a1,a2⟩:=hHeld.st;refine wp_store_row 44 _ _ rfl _ LV rfl rfl 44 A' a2 (by rw [hLs];exact infoSt) (by rw [a1,hLs]) (qa hLo) ?_;refine hK.out _ _ (hHeld.put LV hLs) (fun hHeld=>?_);clear hK K;simp only [C.py];refine C.rd 4 fun K hK=>?_
  go_simp;refine hK.out _ _ hHeld (fun hHeld=>?_);clear hK K;refine wpAnyH_done (by kernel_rfl) ?_ _;go_wp2_with fail;exact bodyPost_ret (v:=.tuple #[.agg LV,.int .i64 0]) (qj Tryz.results21 _ _ w.heap.size 44 _ (0,0) _ rfl (setRow_heap _ _ _ _ _ _ a2) Tryz.underlying44 rfl (by rw [hLs];exact infoSt)) rfl ⟨qa hend,hHeld.gr⟩
 ·have h2:Hid (Calls Tryz.prog 12 #[.string s] (w.alloc (.cells (stateA false 0 0) 44)) fun e w'=>e=.returned (.tuple #[.agg Tryz.zeroCells25,.int .i64 k])/\Gr (w.alloc (.cells (stateA false 0 0) 44)) w'):=hide ((qa h1).mono fun e w' h=>⟨hone e h.1,h.2⟩);have hend:Hid (LookEnd s (.returned (.tuple #[.agg (stateA false 0 0),.int .i64 k]))):=hide (.inl ⟨k,hbad,rfl⟩);clear h1 hone hbad hK hc ht hs;go_enter Tryz.func21,Tryz.ntmps21
  go_upto_region 2 with (first
   | (go_at_call 12;refine (qa h2).mono ?_;rintro e w3 ⟨rfl,hg3⟩)
   | (refine wpList_store_row rfl 25 _ _ rfl w3.heap.size Tryz.zeroCells25 rfl rfl 25 _ (heap_alloc_new _ _) (by rw [zeroP];exact infoP) rfl zeroP_ones ?_))
  have hg4:Gr w3 ((w3.alloc (.cells Tryz.zeroCells25 25)).setRow w3.heap.size Tryz.zeroCells25):=((Gr.refl w3).alloc _ _).setRow _ (Nat.le_refl _) _;have hg04:=Gr.trans hg3 hg4;have hst4:=(Below.block hg04 _ (Array.getElem?_eq_some_iff.1 hst0).1).trans hst0;have hgw:=Gr.trans hg0 hg04;generalize (w3.alloc (.cells Tryz.zeroCells25 25)).setRow w3.heap.size Tryz.zeroCells25=w4 at hg4 hg04 hst4 hgw ⊢;clear hg0 hst0 h2 hg3 hg4 hg04;go_wp2_with (refine wpList_store_row rfl 44 _ _ rfl w.heap.size (stateA false 0 0) rfl rfl 44 (stateA false 0 0) hst4 infoSt rfl (xa _ _ _) ?_);exact bodyPost_ret (v:=.tuple #[.agg (stateA false 0 0),.int .i64 k]) (qj Tryz.results21 _ _ w.heap.size 44 _ (0,0) _ rfl (setRow_heap _ _ _ _ _ _ hst4) Tryz.underlying44 rfl infoSt) rfl ⟨qa hend,hgw.setRow _ (Nat.le_refl _) _⟩
end Go.Proofs.YtnfakamfmkhlbaaGreatDoor.C
namespace Go.Proofs.YtnfakamfmkhlbaaGreatDoor.C
open Go.RowKit
open Go.Proofs.YtnfakamfmkhlbaaGreatDoor.P
def ray (s:Stp):Nat->Nat->List Nat
 | 0,_=>[]
 | n+1,x=>if onB x s then nx x s :: ray s n (nx x s) else []
def upT (z:Nat->UInt8):List Nat->List Nat
 | []=>[]
 | y :: r=>y :: (if z y=46 then upT z r else [])
theorem wk_up (z:Nat->UInt8) (s:Stp):∀ n x,wkN z s n x=upT z (ray s n x)
 | 0,_=>rfl
 | n+1,x=>by
   unfold wkN ray;split
   ·unfold upT;rw [wk_up z s n (nx x s)]
   ·rfl
theorem mem_up (z:Nat->UInt8) (y:Nat):∀ l:List Nat,y∈upT z l↔∃ i:Nat,l[i]?=some y/\∀ j,j<i->∀ v,l[j]?=some v->z v=46
 | []=>by simp [upT]
 | a :: r=>by
   unfold upT;rw [List.mem_cons];constructor
   ·rintro (rfl|h)
    ·exact ⟨0,rfl,fun j hj=>absurd hj (Nat.not_lt_zero j)⟩
    ·split at h
     ·rename_i ha;obtain ⟨i,h1,h2⟩:=(mem_up z y r).1 h;refine ⟨i+1,by simpa using h1,fun j hj v hv=>?_⟩;cases j with
      | zero=>simp at hv;rw [<-hv];exact ha
      | succ j=>exact h2 j (by omega) v (by simpa using hv)
     ·cases h
   ·rintro ⟨i,h1,h2⟩;cases i with
    | zero=>simp at h1;exact .inl h1.symm
    | succ i =>
     right;have ha:z a=46:=h2 0 (by omega) a rfl;rw [if_pos ha];exact (mem_up z y r).2 ⟨i,by simpa using h1,fun j hj v hv=>h2 (j+1) (by omega) v (by simpa using hv)⟩
theorem hit_up (z:Nat->UInt8) (bw:Bool) (s:Stp):∀ (l:List Nat) (far:Bool),hitL z bw s far (upT z l)=true↔∃ (i y:Nat),l[i]?=some y/\(∀ j,j<i->∀ v,l[j]?=some v->z v=46)/\hitB z bw s (far||decide (0<i)) y=true
 | [],far=>by simp [upT,hitL]
 | a :: r,far=>by
   unfold upT hitL;rw [Bool.or_eq_true];constructor
   ·rintro (h|h)
    ·exact ⟨0,a,rfl,fun j hj=>absurd hj (Nat.not_lt_zero j),by simpa using h⟩
    ·split at h
     ·rename_i ha;obtain ⟨i,y,h1,h2,h3⟩:=(hit_up z bw s r true).1 h;refine ⟨i+1,y,by simpa using h1,fun j hj v hv=>?_,by simpa using h3⟩;cases j with
      | zero=>simp at hv;rw [<-hv];exact ha
      | succ j=>exact h2 j (by omega) v (by simpa using hv)
     ·simp [hitL] at h
   ·rintro ⟨i,y,h1,h2,h3⟩;cases i with
    | zero=>simp at h1;subst h1;left;simpa using h3
    | succ i =>
     right;have ha:z a=46:=h2 0 (by omega) a rfl;rw [if_pos ha];exact (hit_up z bw s r true).2 ⟨i,y,by simpa using h1,fun j hj v hv=>h2 (j+1) (by omega) v (by simpa using hv),by simpa using h3⟩
def rr (k x:Nat):List Nat:=ray (stN k) 8 x
def rayOk (k x i:Nat):Bool:=match (rr k x)[i]? with
 | none=>true
 | some y=>decide (y<64)&&decide (LI (x:Int) (y:Int)=i+1)&&(if k%2=0 then stI (x:Int) (y:Int) else slI (x:Int) (y:Int))&&(List.range (i+1)).all fun j=>decide ((rr k x)[j]?=some (pI (x:Int) (y:Int) (j+1)).toNat)
theorem ray_ok:∀ k,k<8->∀ x,x<64->∀ i,i<8->rayOk k x i=true:=by decide +kernel
theorem ray_len (s:Stp):∀ n x,(ray s n x).length<=n
 | 0,_=>Nat.le_refl _
 | n+1,x=>by
   unfold ray;split
   ·rw [List.length_cons];have:=ray_len s n (nx x s);omega
   ·simp
theorem on_st:∀ x,x<64->∀ y,y<64->stI ((x:Nat):Int) ((y:Nat):Int)=true->([0,2,4,6].any fun k=>(rr k x).contains y)=true:=by decide +kernel
theorem on_sl:∀ x,x<64->∀ y,y<64->slI ((x:Nat):Int) ((y:Nat):Int)=true->([1,3,5,7].any fun k=>(rr k x).contains y)=true:=by decide +kernel
def letr (p:Nat):UInt8:=lettersL.getD p 0
theorem letr_all:∀ n:Nat,n<256->∀ p:Nat,p<12->ixc (UInt8.ofNat n)=(p:Int)->UInt8.ofNat n=letr p:=by decide +kernel
theorem qqt {c:UInt8} {p:Nat} (hp:p<12) (h:ixc c=(p:Int)):c=letr p:=by
 have:=letr_all c.toNat c.toNat_lt p hp;rw [UInt8.ofNat_toNat] at this;exact this h
def isFar (i:Nat):Bool:=i==2||i==3||i==4
def neg (s:Stp):Stp:=(-s.1,-s.2)
def par (i k:Nat):Bool:=if k%2=0 then (i==3||i==4) else (i==2||i==4)
theorem far_is:∀ p,p<12->farB (letr p)=isFar (p%6):=by decide +kernel
theorem qx6:∀ p,p<12->isFar (p%6)=true->∀ k,k<16->goesB (letr p) (stN k)=(decide (k<8)&&par (p%6) k)/\goesB (letr p) (neg (stN k))=(decide (k<8)&&par (p%6) k):=by decide +kernel
def nearI (p:Nat) (x y:Int):Bool:=attI (fun _=>46) (p%6) (if p<6 then 1 else -1) x y
theorem near_1:∀ p,p<12->isFar (p%6)=false->∀ k,k<16->∀ x:Nat,x<64->(goesB (letr p) (stN k)&&onB x (stN k))=true->nearI p (x:Int) (nx x (stN k):Nat)=true:=by decide +kernel
theorem near_3:∀ p,p<12->isFar (p%6)=false->∀ k,k<16->∀ x:Nat,x<64->(goesB (letr p) (neg (stN k))&&onB x (stN k))=true->nearI p (nx x (stN k):Nat) (x:Int)=true:=by decide +kernel
theorem near_2:∀ p,p<12->isFar (p%6)=false->∀ x,x<64->∀ y,y<64->nearI p ((x:Nat):Int) ((y:Nat):Int)=true->((List.range 16).any fun k=>goesB (letr p) (stN k)&&onB x (stN k)&&decide (nx x (stN k)=y))=true:=by decide +kernel
theorem near_4:∀ p,p<12->isFar (p%6)=false->∀ x,x<64->∀ y,y<64->nearI p ((y:Nat):Int) ((x:Nat):Int)=true->((List.range 16).any fun k=>goesB (letr p) (neg (stN k))&&onB x (stN k)&&decide (nx x (stN k)=y))=true:=by decide +kernel
theorem man_all:∀ n,n<256->okY (UInt8.ofNat n)=true->∀ b:Bool,manB (UInt8.ofNat n) b=decide (coc (UInt8.ofNat n)=sdb b):=by decide +kernel
theorem qqd {c:UInt8} (h:okY c=true) (b:Bool):manB c b=decide (coc c=sdb b):=by
 have:=man_all c.toNat c.toNat_lt;rw [UInt8.ofNat_toNat] at this;exact this h b
theorem nx_lt {x:Nat} {s:Stp} (h:onB x s=true):nx x s<64:=(nx_is h).2
theorem ray_lt (s:Stp):∀ n x,∀ y∈ray s n x,y<64
 | 0,_,y,h=>by cases h
 | n+1,x,y,h=>by
   unfold ray at h;split at h
   ·rename_i hon;rcases List.mem_cons.1 h with rfl|h
    ·exact nx_lt hon
    ·exact ray_lt s n _ y h
   ·cases h
theorem rr_0 (k x:Nat):(rr k x)[0]?=if onB x (stN k) then some (nx x (stN k)) else none:=by
 unfold rr ray;split<;>rfl
theorem rr_at {k x i y:Nat} (hk:k<8) (hx:x<64) (h:(rr k x)[i]?=some y):y<64/\LI (x:Int) (y:Int)=i+1/\(if k%2=0 then stI (x:Int) (y:Int) else slI (x:Int) (y:Int))=true/\∀ j,j<=i->(rr k x)[j]?=some (pI (x:Int) (y:Int) (j+1)).toNat:=by
 have hi:i<8:=by
  have h1:=(List.getElem?_eq_some_iff.1 h).1;have h2:=ray_len (stN k) 8 x;unfold rr at h1;omega
 have:=ray_ok k hk x hx i hi;unfold rayOk at this;rw [h] at this;simp only [Bool.and_eq_true,decide_eq_true_eq,List.all_eq_true,List.mem_range] at this;exact ⟨this.1.1.1,this.1.1.2,this.1.2,fun j hj=>this.2 j (by omega)⟩
theorem qvo {z:Nat->UInt8} {k x y:Nat} (hk:k<8) (hx:x<64):y∈wkL z (stN k) x↔y∈rr k x/\freeI (zI z) (pI (x:Int) (y:Int)) (LI (x:Int) (y:Int))=true:=by
 have e46:∀ v,z v=46↔zI z v=46:=fun v=>by
  unfold zI;constructor
  ·intro h;rw [h];rfl
  ·intro h;apply UInt8.toNat_inj.1;have:(z v).toNat=46:=by omega
   rw [this];rfl
 unfold wkL;rw [wk_up,mem_up];unfold freeI;rw [decide_eq_true_eq];constructor
 ·rintro ⟨i,h1,h2⟩;obtain ⟨a1,a2,a3,a4⟩:=rr_at hk hx h1;refine ⟨List.mem_iff_getElem?.2 ⟨i,h1⟩,fun t ht t1=>?_⟩;have h3:=a4 (t-1) (by omega);rw [show t-1+1=t from by omega] at h3;exact (e46 _).1 (h2 (t-1) (by omega) _ h3)
 ·rintro ⟨h1,h2⟩;obtain ⟨i,h1⟩:=List.mem_iff_getElem?.1 h1;obtain ⟨a1,a2,a3,a4⟩:=rr_at hk hx h1;refine ⟨i,h1,fun j hj v hv=>?_⟩;have h3:=a4 j (by omega);rw [show ray (stN k) 8 x=rr k x from rfl,h3] at hv;rw [<-Option.some.inj hv];exact (e46 _).2 (h2 (j+1) (by omega) (by omega))
theorem far_mem {z:Nat->UInt8} {i x y:Nat} {s:Int} (hi:isFar i=true) (hx:x<64) (hy:y<64):(∃ k,k<8/\par i k=true/\y∈wkL z (stN k) x)↔attI (zI z) i s (x:Int) (y:Int)=true:=by
 have ha:attI (zI z) i s (x:Int) (y:Int)=(((i==3||i==4)&&stI (x:Int) (y:Int)||(i==2||i==4)&&slI (x:Int) (y:Int))&&freeI (zI z) (pI (x:Int) (y:Int)) (LI (x:Int) (y:Int))):=by
  have:i=2\/i=3\/i=4:=by simp [isFar] at hi;omega
  rcases this with rfl|rfl|rfl<;>simp [attI]
 rw [ha,Bool.and_eq_true,Bool.or_eq_true,Bool.and_eq_true,Bool.and_eq_true];constructor
 ·rintro ⟨k,hk,hp,hm⟩;obtain ⟨m1,m2⟩:=(qvo hk hx).1 hm;obtain ⟨j,hj⟩:=List.mem_iff_getElem?.1 m1;obtain ⟨a1,a2,a3,a4⟩:=rr_at hk hx hj;refine ⟨?_,m2⟩;unfold par at hp;split at hp
  ·rename_i h2;rw [if_pos h2] at a3;exact .inl ⟨hp,a3⟩
  ·rename_i h2;rw [if_neg h2] at a3;exact .inr ⟨hp,a3⟩
 ·rintro ⟨h1,h2⟩;rcases h1 with ⟨p1,p2⟩|⟨p1,p2⟩
  ·obtain ⟨k,hk,hm⟩:=List.any_eq_true.1 (on_st x hx y hy p2);have hk':k<8/\k%2=0:=by simp at hk;omega
   exact ⟨k,hk'.1,by unfold par;rw [if_pos hk'.2];exact p1,(qvo hk'.1 hx).2 ⟨by simpa using hm,h2⟩⟩
  ·obtain ⟨k,hk,hm⟩:=List.any_eq_true.1 (on_sl x hx y hy p2);have hk':k<8/\¬ (k%2=0):=by simp at hk;omega
   exact ⟨k,hk'.1,by unfold par;rw [if_neg hk'.2];exact p1,(qvo hk'.1 hx).2 ⟨by simpa using hm,h2⟩⟩
theorem qvm {z:Nat->UInt8} {p:Nat} (hp:p<12) (h:isFar (p%6)=false) (bw:Bool) (hb:p/6=bg bw/6) (x y:Int):nearI p x y=attI (zI z) (p%6) (sdb bw) x y:=by
 have hs:(if p<6 then (1:Int) else -1)=sdb bw:=by
  cases bw
  ·rw [if_neg (by simp [bg] at hb;omega)];rfl
  ·rw [if_pos (by simp [bg] at hb;omega)];rfl
 unfold nearI;rw [hs];have:p%6=0\/p%6=1\/p%6=5:=by simp [isFar] at h;omega
 rcases this with e|e|e<;>(rw [e];simp [attI])
theorem wk_take (z:Nat->UInt8) (s:Stp) (x:Nat):(wkL z s x).take 1=if onB x s then [nx x s] else []:=by
 unfold wkL wkN;split<;>rfl
theorem qqw {z:Nat->UInt8} {f:Nat} (hf:f<64) {bw:Bool} {i:Nat} (hi:i<6) (hc:ixc (z f)=((bg bw+i:Nat):Int)) {y:Nat} (hy:y<64):y∈attU z f 16↔attI (zI z) i (sdb bw) (f:Int) (y:Int)=true:=by
 have hbg:bg bw=0\/bg bw=6:=by cases bw<;>simp [bg]
 have hp:bg bw+i<12:=by omega
 have hz:=qqt hp hc;have hm:(bg bw+i)%6=i:=by omega
 have hd:(bg bw+i)/6=bg bw/6:=by omega
 unfold attU;rw [List.mem_flatMap];cases hfar:isFar i with
 | true =>
  rw [<-far_mem (s:=sdb bw) hfar hf hy];have hF:=far_is (bg bw+i) hp;have hG:=qx6 (bg bw+i) hp (by rw [hm];exact hfar);rw [hm] at hF hG;constructor
  ·rintro ⟨k,hk,h⟩;have hk:=List.mem_range.1 hk;unfold attS at h;rw [hz,(hG k hk).1,hF,hfar,if_pos rfl] at h;split at h
   ·rename_i hg;rw [Bool.and_eq_true,decide_eq_true_eq] at hg;exact ⟨k,hg.1,hg.2,h⟩
   ·cases h
  ·rintro ⟨k,hk,h1,h2⟩;refine ⟨k,List.mem_range.2 (by omega),?_⟩;unfold attS;rw [hz,(hG k (by omega)).1,hF,hfar,if_pos (by rw [h1];simp [hk]),if_pos rfl];exact h2
 | false =>
  rw [<-hm,<-qvm hp (by rw [hm];exact hfar) bw hd];have hF:=far_is (bg bw+i) hp;rw [hm] at hF;constructor
  ·rintro ⟨k,hk,h⟩;have hk:=List.mem_range.1 hk;unfold attS at h;rw [hz,hF,hfar,wk_take] at h;split at h
   ·rename_i hg;rw [if_neg (by simp)] at h;split at h
    ·rename_i hon;rw [List.mem_singleton.1 h];exact near_1 _ hp (by rw [hm];exact hfar) k hk f hf (by rw [hg,hon];rfl)
    ·cases h
   ·cases h
  ·intro h;obtain ⟨k,hk,h2⟩:=List.any_eq_true.1 (near_2 _ hp (by rw [hm];exact hfar) f hf y hy h);simp only [Bool.and_eq_true,decide_eq_true_eq] at h2;refine ⟨k,hk,?_⟩;unfold attS;rw [hz,hF,hfar,wk_take,if_pos h2.1.1,if_neg (by simp),if_pos h2.1.2,h2.2];exact List.mem_singleton.2 rfl
theorem qv0 {z:Nat->UInt8} (hok:layOk z=true) {i:Nat} (hi:i<6) (h0:i≠0) {s t:Int} {x y:Nat} (hx:x<64) (hy:y<64):attI (zI z) i s (x:Int) (y:Int)=attI (zI z) i t (y:Int) (x:Int):=by
 have e1:=zz hok true i hi y x hy hx;have e2:=zz hok true i hi x y hx hy;have hk:kindN true i=i+2:=by unfold kindN;rw [if_neg h0]
 rw [hk] at e1 e2;rw [zk _ i h0 s (sdb true),zk _ i h0 t (sdb true),<-e1,<-e2];exact reach_sym (i+2) y x (by omega) (by omega) hy hx _
theorem ja {z:Nat->UInt8} (hok:layOk z=true) {n:Nat} (hn:n<64):okY (z n)=true:=by
 unfold layOk at hok;exact List.all_eq_true.1 hok n (List.mem_range.2 hn)
theorem jb {z:Nat->UInt8} (hok:layOk z=true) {x:Nat} (hx:x<64) (bw:Bool):attLB z x bw=attR z (x:Int) bw:=by
 have hbg:bg bw=0\/bg bw=6:=by cases bw<;>simp [bg]
 rw [Bool.eq_iff_iff];unfold attLB attR;rw [List.any_eq_true,List.any_eq_true];constructor
 ·rintro ⟨k,hk,h⟩;have hk:=List.mem_range.1 hk;unfold wkL at h;rw [wk_up] at h;obtain ⟨i,n,h1,h2,h3⟩:=(hit_up z bw (stN k) _ false).1 h;have hn:n<64:=ray_lt (stN k) 8 x n (List.mem_iff_getElem?.2 ⟨i,h1⟩);unfold hitB at h3;rw [Bool.and_eq_true,Bool.and_eq_true,qqd (ja hok hn),decide_eq_true_eq] at h3;obtain ⟨⟨hm,hg⟩,hfr⟩:=h3;refine ⟨n,List.mem_range.2 hn,?_⟩;rw [Bool.and_eq_true,decide_eq_true_eq];refine ⟨hm,?_⟩;obtain ⟨i',hi',e1,e2⟩:=jy hm;rw [e2];have hp:bg bw+i'<12:=by omega
  have hz:=qqt hp e1;have hmd:(bg bw+i')%6=i':=by omega
  have hF:=far_is (bg bw+i') hp;rw [hz,show ((-(stN k).1,-(stN k).2):Stp)=neg (stN k) from rfl] at hg;rw [hz] at hfr;cases hfar:isFar i' with
  | true =>
   have hG:=(qx6 (bg bw+i') hp (by rw [hmd];exact hfar) k hk).2;rw [hG,hmd,Bool.and_eq_true,decide_eq_true_eq] at hg
   have hmem:n∈wkL z (stN k) x:=by
    unfold wkL;rw [wk_up];exact (mem_up z n _).2 ⟨i,h1,h2⟩
   rw [qv0 hok hi' (by simp [isFar] at hfar;omega) (t:=sdb bw) hn hx];exact (far_mem hfar hx hn).1 ⟨k,hg.1,hg.2,hmem⟩
  | false =>
   rw [hF,hmd,hfar] at hfr
   have hi0:i=0:=by
    rcases Nat.eq_zero_or_pos i with e|e
    ·exact e
    ·simp [e] at hfr
   subst hi0;rw [show ray (stN k) 8 x=rr k x from rfl,rr_0] at h1;split at h1
   ·rename_i hon;have hnx:=Option.some.inj h1;have:=near_3 _ hp (by rw [hmd];exact hfar) k hk x hx (by rw [hg,hon];rfl);rw [hnx,qvm (z:=z) hp (by rw [hmd];exact hfar) bw (by omega),hmd] at this;exact this
   ·cases h1
 ·rintro ⟨n,hn,h⟩;have hn:=List.mem_range.1 hn;rw [Bool.and_eq_true,decide_eq_true_eq] at h;obtain ⟨hm,ha⟩:=h;obtain ⟨i',hi',e1,e2⟩:=jy hm;rw [e2] at ha;have hp:bg bw+i'<12:=by omega
  have hz:=qqt hp e1;have hmd:(bg bw+i')%6=i':=by omega
  have hF:=far_is (bg bw+i') hp;rw [hmd] at hF;have hman:manB (z n) bw=true:=by rw [qqd (ja hok hn)];exact decide_eq_true hm
  cases hfar:isFar i' with
  | true =>
   rw [qv0 hok hi' (by simp [isFar] at hfar;omega) (t:=sdb bw) hn hx] at ha;obtain ⟨k,hk,hpr,hmem⟩:=(far_mem hfar hx hn).2 ha;have hG:=(qx6 (bg bw+i') hp (by rw [hmd];exact hfar) k (by omega)).2;refine ⟨k,List.mem_range.2 (by omega),?_⟩;unfold wkL at hmem ⊢;rw [wk_up] at hmem ⊢;obtain ⟨i,h1,h2⟩:=(mem_up z n _).1 hmem;refine (hit_up z bw (stN k) _ false).2 ⟨i,n,h1,h2,?_⟩;unfold hitB;rw [hman,hz,show ((-(stN k).1,-(stN k).2):Stp)=neg (stN k) from rfl,hG,hmd,hpr,hF,hfar];simp [hk]
  | false =>
   rw [<-hmd,<-qvm hp (by rw [hmd];exact hfar) bw (by omega)] at ha;obtain ⟨k,hk,h2⟩:=List.any_eq_true.1 (near_4 _ hp (by rw [hmd];exact hfar) x hx n hn ha);simp only [Bool.and_eq_true,decide_eq_true_eq] at h2;refine ⟨k,hk,?_⟩;unfold wkL;rw [wk_up];refine (hit_up z bw (stN k) _ false).2 ⟨0,n,?_,fun j hj=>absurd hj (Nat.not_lt_zero j),?_⟩
   ·rw [show ray (stN k) 8 x=rr k x from rfl,rr_0,if_pos h2.1.2,h2.2]
   ·unfold hitB;rw [hman,hz,show ((-(stN k).1,-(stN k).2):Stp)=neg (stN k) from rfl,h2.1.1];simp
structure Can (z:Nat->UInt8) (wh:Bool) (fc:Nat->Bool) (b:Int):Prop where
 ok:layOk z=true
 k1:∀ bb,kinR z bb 64=1
 pw:∀ bb:Bool,∀ n,n<64->ixc (z n)=((bg bb:Nat):Int)->¬ (n/8=0\/n/8=7)
 c0:fc 0=true->z 4=75/\z 7=82
 c1:fc 1=true->z 4=75/\z 0=82
 c2:fc 2=true->z 60=107/\z 63=114
 c3:fc 3=true->z 60=107/\z 56=114
 beh:behOk z wh b=true
theorem u8_of {c:UInt8} {n:Int} {d:UInt8} (h:(c.toNat:Int)=n) (hd:(d.toNat:Int)=n):c=d:=UInt8.toNat_inj.1 (by omega)
theorem can_good {z:Nat->UInt8} {wh:Bool} {fc:Nat->Bool} {b h g:Int} (hc:canS z wh fc b h g=true):Can z wh fc b:=by
 unfold canS canM at hc;simp only [Bool.and_eq_true] at hc;obtain ⟨hok,⟨⟨⟨⟨h1,h2⟩,h3⟩,h4⟩,_⟩,_⟩:=hc;have hs:∀ bb,sideOk (layS z 64) bb=true:=fun bb=>by cases bb<;>assumption
 have hca:∀ i,i<4->castN z fc i=true:=fun i hi=>List.all_eq_true.1 h3 i (List.mem_range.2 hi)
 have cc:∀ ks kl rs rl k (a d:UInt8),(a.toNat:Int)=kl->(d.toNat:Int)=rl->castAt z fc ks kl rs rl k=true->fc k=true->z ks=a/\z rs=d:=by
  intro ks kl rs rl k a d ha hd h hf;unfold castAt at h;rw [hf] at h;simp only [Bool.not_true,Bool.false_or,Bool.and_eq_true,decide_eq_true_eq] at h;exact ⟨u8_of h.1 ha,u8_of h.2 hd⟩
 refine ⟨hok,fun bb=>?_,fun bb=>?_,cc _ _ _ _ _ _ _ rfl rfl (hca 0 (by omega)),cc _ _ _ _ _ _ _ rfl rfl (hca 1 (by omega)),cc _ _ _ _ _ _ _ rfl rfl (hca 2 (by omega)),cc _ _ _ _ _ _ _ rfl rfl (hca 3 (by omega)),h4⟩
 ·have:=hs bb;unfold sideOk at this;simp only [Bool.and_eq_true,decide_eq_true_eq] at this;have h:=this.1.1;rw [kings_len] at h;omega
 ·have:=hs bb;unfold sideOk at this;simp only [Bool.and_eq_true,decide_eq_true_eq] at this;exact (qq1 z bb).1 this.2
theorem dot_bit {z:Nat->UInt8} (hok:layOk z=true) {n:Nat} (hn:n<64):(takenB (layS z 64)).getLsbD n=!(z n==46):=by
 rw [taken_bit z n hn];have h:=ja hok hn;rw [ok_ix] at h;cases hz:(z n==46) with
 | true =>
  have:z n=46:=by simpa using hz
  rw [this];decide +kernel
 | false=>rw [hz,Bool.false_or] at h;simpa using h
theorem own_oth (m:Nat->BitVec 64) (wh:Bool):sideB m wh ||| sideB m (!wh)=takenB m:=by
 cases wh
 ·exact BitVec.or_comm _ _
 ·rfl
theorem qji {z:Nat->UInt8} (hok:layOk z=true) {wh:Bool} {i:Nat} (hi:i<6) {f t:Nat} (hf:f<64) (ht:t<64):(reachB (kndN wh i) f (takenB (layS z 64))).getLsbD t=attI (zI z) i (sdb wh) (f:Int) (t:Int):=by
 by_cases h:i=0
 ·subst h;cases wh
  ·show (reachB 2 f _).getLsbD t=_;have e1:reachB 2 f (takenB (layS z 64))=bpB f:=rfl;rw [e1,bp_is f hf t ht];rfl
  ·show (reachB 1 f _).getLsbD t=_;have e1:reachB 1 f (takenB (layS z 64))=wpB f:=rfl;rw [e1,wp_is f hf t ht];rfl
 ·have hk:kndN wh i=i+2:=by unfold kndN;rw [if_neg h]
  have e2:=zz hok true i hi f t hf ht;have hk2:kindN true i=i+2:=by unfold kindN;rw [if_neg h]
  rw [hk,<-hk2,e2];exact qv0 hok hi h ht hf
theorem qvl (s:BitVec 64) {n:Nat} (hn:n<64):(~~~s).getLsbD n=!(s.getLsbD n):=by
 rw [BitVec.getLsbD_not];simp [hn]
theorem man_bit {z:Nat->UInt8} (hok:layOk z=true) (wh:Bool) {n:Nat} (hn:n<64):(sideB (layS z 64) wh).getLsbD n=manB (z n) wh:=by
 rw [qx0 z wh n hn,qqd (ja hok hn)]
theorem pk_all:∀ p,p<12->pawnB (letr p)=decide (p%6=0)/\kingB (letr p)=decide (p%6=5):=by decide +kernel
theorem qqq {z:Nat->UInt8} {wh:Bool} {i f:Nat} (hi:i<6) (hc:ixc (z f)=((bg wh+i:Nat):Int)):pawnB (z f)=decide (i=0)/\kingB (z f)=decide (i=5):=by
 have hbg:bg wh=0\/bg wh=6:=by cases wh<;>simp [bg]
 rw [qqt (by omega) hc];have:=pk_all (bg wh+i) (by omega)
 rwa [show (bg wh+i)%6=i from by omega] at this
theorem targ_mid {z:Nat->UInt8} {wh:Bool} {fc:Nat->Bool} {b:Int} (hok:layOk z=true) {i f t:Nat} (h0:i≠0) (h5:i≠5) (hi:i<6) (hf:f<64) (ht:t<64) (hc:ixc (z f)=((bg wh+i:Nat):Int)) :
  t∈tgL z wh fc b f↔(targB (layS z 64) wh (sideB (layS z 64) wh) (sideB (layS z 64) (!wh)) (behB b) fc i (kndN wh i) f).getLsbD t=true:=by
 obtain ⟨hp,hk⟩:=qqq hi hc;rw [decide_eq_false h0] at hp;rw [decide_eq_false h5] at hk;unfold tgL targB;rw [hp,hk,if_neg h0,if_neg h5,own_oth,BitVec.getLsbD_and,qji hok hi hf ht,qvl _ ht,man_bit hok wh ht,Bool.and_eq_true,<-qqw hf hi hc ht];simp only [Bool.false_eq_true,if_false,List.append_nil,List.mem_filter];unfold mayB;rw [hp,if_neg (by simp)]
end Go.Proofs.YtnfakamfmkhlbaaGreatDoor.C
