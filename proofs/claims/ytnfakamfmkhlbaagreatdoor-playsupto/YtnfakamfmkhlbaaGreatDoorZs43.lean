import Derived.Test.YtnfakamfmkhlbaaGreatDoorZs42
import Derived.Test.YtnfakamfmkhlbaaGreatDoorZs16
import Derived.Test.YtnfakamfmkhlbaaGreatDoorZs21
import Derived.Test.YtnfakamfmkhlbaaGreatDoorZs3
import Derived.Test.YtnfakamfmkhlbaaGreatDoorZs6
import Derived.Test.YtnfakamfmkhlbaaGreatDoorKz2
set_option maxRecDepth 100000
set_option maxHeartbeats 4000000
set_option linter.unusedSimpArgs false
namespace Go.Proofs.YtnfakamfmkhlbaaGreatDoor.C
open Go.ChangeShapes Go.WideShapes Go.ChangeAt Go.RowKit
open Go.Proofs.YtnfakamfmkhlbaaGreatDoor.P
attribute [local go_sem] qd qi
def hoA (k:Nat):Array Value:=#[.int .i64 (homeK k),.int .u8 (if k<2 then 75 else 107),.int .i64 (homeR k),.int .u8 (if k<2 then 82 else 114)]
theorem ixh_k (k:Nat) (hk:k<4) (w:World):(Instr.index 222 (.agg homesL.toArray) (.int .i64 (k:Int))).run Tryz.prog w=.ok (.agg (hoA k)) w:=by
 have:k=0\/k=1\/k=2\/k=3:=by omega
 rcases this with rfl|rfl|rfl|rfl
 ·exact ixh0 w
 ·exact ixh1 w
 ·exact ixh2 w
 ·exact ixh3 w
def toA (f t k:Nat):Bool:=tchB f t (homeK k)||tchB f t (homeR k)
def cfA (fc:Nat->Bool) (f t n k:Nat):Bool:=fc k&&!(decide (k<n)&&toA f t k)
def cfV (F:Nat->Bool):Array Value:=#[.bool (F 0),.bool (F 1),.bool (F 2),.bool (F 3)]
theorem cfV_at (F:Nat->Bool) (k:Nat) (hk:k<4):(cfV F)[k]?=some (.bool (F k)):=by
 have:k=0\/k=1\/k=2\/k=3:=by omega
 rcases this with rfl|rfl|rfl|rfl<;>rfl
theorem cfV_set (F:Nat->Bool) (k:Nat) (hk:k<4) (c:Bool):(cfV F).setIfInBounds k (.bool c)=cfV (fun j=>if j=k then c else F j):=by
 have:k=0\/k=1\/k=2\/k=3:=by omega
 rcases this with rfl|rfl|rfl|rfl<;>rfl
theorem cfV_congr {F G:Nat->Bool} (h:∀ k,k<4->F k=G k):cfV F=cfV G:=by
 unfold cfV;rw [h 0 (by omega),h 1 (by omega),h 2 (by omega),h 3 (by omega)]
theorem infoC4:(Tryz.prog.info? 23).map (·.size)=some 4:=by kernel_rfl
theorem cfV_ones (F:Nat->Bool):(cfV F).all (·.oneCell')=true:=by simp [cfV,Value.oneCell']
structure Ca (w:World) (F:Nat->Bool) (f t:Nat) (u:UInt8) (W:World):Prop where
 ca:W.heap[w.heap.size]?=some (.cells (cfV F) 23)
 mv:W.heap[w.heap.size+1]?=some (.cells #[.int .i64 (f:Int),.int .i64 (t:Int),.int .u8 (u.toNat:Int)] 94)
 rs:W.heap[w.heap.size+2]?=some (.cells (cfV fun _=>false) 23)
 lt:w.heap.size+2<W.heap.size
 gr:Gr w W
theorem Ca.next {w W W':World} {F:Nat->Bool} {f t:Nat} {u:UInt8} (h:Ca w F f t u W) (g:Gr W W'):Ca w F f t u W':=by
 have:=h.lt;exact ⟨(Below.block g _ (by omega)).trans h.ca,(Below.block g _ (by omega)).trans h.mv,(Below.block g _ h.lt).trans h.rs,Nat.lt_of_lt_of_le h.lt (Below.size g),Gr.trans h.gr g⟩
theorem Ca.set {w W:World} {F:Nat->Bool} {f t:Nat} {u:UInt8} (h:Ca w F f t u W) (k:Nat) (hk:k<4) (c:Bool):Ca w (fun j=>if j=k then c else F j) f t u (W.setCell ⟨w.heap.size,k,none⟩ (.bool c)):=by
 have fs:Fr (fun j _=>j≠w.heap.size) W (W.setCell ⟨w.heap.size,k,none⟩ (.bool c)):=(Fr.refl _ _).setCell _ (fun o _ q=>q rfl);have hs:(W.setCell ⟨w.heap.size,k,none⟩ (.bool c)).heap.size=W.heap.size:=World.size_setCell ..;exact ⟨by rw [<-cfV_set F k hk c];exact qx h.ca,fs.same _ _ h.mv (by omega),fs.same _ _ h.rs (by omega),by rw [hs];exact h.lt,Below.setCell h.gr (Nat.le_refl _) _⟩
theorem qxf (fc:Nat->Bool) (f t:Nat) (u:UInt8) (w:World) (hH:Homes w):Calls Tryz.prog 111 #[.agg (cfV fc),.agg #[.int .i64 (f:Int),.int .i64 (t:Int),.int .u8 (u.toNat:Int)]] w fun e w'=>e=.returned (.agg (cfV (cfA fc f t 4)))/\Gr w w':=by
 obtain ⟨x1,x2,x3,x4⟩:=heapThree w (.cells (cfV fc) 23) (.cells #[.int .i64 (f:Int),.int .i64 (t:Int),.int .u8 (u.toNat:Int)] 94) (.cells (cfV fun _=>false) 23);have hg3:Gr w (((w.alloc (.cells (cfV fc) 23)).alloc (.cells #[.int .i64 (f:Int),.int .i64 (t:Int),.int .u8 (u.toNat:Int)] 94)).alloc (.cells (cfV fun _=>false) 23)):=(((Gr.refl w).alloc _ _).alloc _ _).alloc _ _;have hC0:Ca w fc f t u (((w.alloc (.cells (cfV fc) 23)).alloc (.cells #[.int .i64 (f:Int),.int .i64 (t:Int),.int .u8 (u.toNat:Int)] 94)).alloc (.cells (cfV fun _=>false) 23)):=⟨x1,x2,x3,by rw [x4];omega,hg3⟩;have hC0':=hide hC0;have hH':=hide (hH.gr hg3);have hto:=hide (fun (s:Int) W=>touches_any f t u s W);clear x1 x2 x3 x4 hg3 hC0 hH;generalize hL:homesL.toArray=HL;obtain ⟨RV,hRV⟩:∃ F,Hid (cfA fc f t 4=F):=⟨_,hide rfl⟩;rw [qa hRV];show Calls Tryz.prog 111 #[.agg #[.bool (fc 0),.bool (fc 1),.bool (fc 2),.bool (fc 3)],.agg #[.int .i64 (f:Int),.int .i64 (t:Int),.int .u8 (u.toNat:Int)]] w fun e w'=>e=.returned (.agg (cfV RV))/\Gr w w'
 go_enter Tryz.func111,Tryz.ntmps111;go_upto_region 1 with fail;show Code.wp _ _ _ _ (((w.alloc (.cells (cfV fc) 23)).alloc (.cells #[.int .i64 (f:Int),.int .i64 (t:Int),.int .u8 (u.toNat:Int)] 94)).alloc (.cells (cfV fun _=>false) 23));generalize (((w.alloc (.cells (cfV fc) 23)).alloc (.cells #[.int .i64 (f:Int),.int .i64 (t:Int),.int .u8 (u.toNat:Int)] 94)).alloc (.cells (cfV fun _=>false) 23))=w0 at hC0' hH' ⊢;go_wp2_with (refine wpList_load_mid rfl 222 _ rfl 0 0 rfl homesL _ (qa hH').1 Tryz.underlying222 rfl info16 ?_);go_loopg [8] 4 (fun gm n wr=>∃ k:Nat,k+gm=4/\n=.int .i64 (k:Int)/\Ca w (cfA fc f t k) f t u wr)
 case atStart=>exact ⟨0,by omega,rfl,by
  have:cfA fc f t 0=fc:=by funext j;unfold cfA;simp
  rw [this];exact qa hC0'⟩
 case round =>
  clear hC0' hH';obtain ⟨k,k1,rfl,hC⟩:=hrel;by_cases hk:k<4
  ·obtain ⟨KL,hKL⟩:∃ x:Int,Hid ((if k<2 then (75:Int) else 107)=x):=⟨_,hide rfl⟩;obtain ⟨RL,hRL⟩:∃ x:Int,Hid ((if k<2 then (82:Int) else 114)=x):=⟨_,hide rfl⟩
   have hix:∀ W:World,(Instr.index 222 (.agg HL) (.int .i64 (k:Int))).run Tryz.prog W=.ok (.agg #[.int .i64 (homeK k),.int .u8 KL,.int .i64 (homeR k),.int .u8 RL]) W:=fun W=>by
    rw [<-qa hKL,<-qa hRL,<-hL];exact ixh_k k hk W
   clear hKL hRL
   have hcf:Hid (∀ j,j<4->cfA fc f t (k+1) j=if j=k then fc k&&!(toA f t k) else cfA fc f t k j):=hide (fun j _=>by
    unfold cfA;by_cases e:j=k
    ·subst e;rw [if_pos rfl,decide_eq_true (by omega)];rfl
    ·rw [if_neg e]
     have:decide (j<k+1)=decide (j<k):=by
      by_cases q:j<k
      ·rw [decide_eq_true q,decide_eq_true (by omega)]
      ·rw [decide_eq_false q,decide_eq_false (by omega)]
     rw [this])
   have hself:Hid (cfA fc f t k k=fc k):=hide (by unfold cfA;simp);have hta:Hid (toA f t k=(tchB f t (homeK k)||tchB f t (homeR k))):=hide rfl;obtain ⟨TA,hTA⟩:∃ x,Hid (toA f t k=x):=⟨_,hide rfl⟩;rw [qa hTA] at hta hcf;obtain ⟨HK,hHK⟩:∃ x,Hid (homeK k=x):=⟨_,hide rfl⟩;obtain ⟨HR,hHR⟩:∃ x,Hid (homeR k=x):=⟨_,hide rfl⟩;rw [qa hHK,qa hHR] at hta
   have hix2:∀ W:World,(Instr.index 222 (.agg HL) (.int .i64 (k:Int))).run Tryz.prog W=.ok (.agg #[.int .i64 HK,.int .u8 KL,.int .i64 HR,.int .u8 RL]) W:=fun W=>by
    rw [<-qa hHK,<-qa hHR];exact hix W
   clear hix hHK hHR hTA;go_upto_region 4 with fail;have hx:=World.alloc_heap_new wr (.cells #[.int .i64 HK,.int .u8 KL,.int .i64 HR,.int .u8 RL] 221);have hCa:=hC.next ((Gr.refl wr).alloc #[.int .i64 HK,.int .u8 KL,.int .i64 HR,.int .u8 RL] 221);show Code.wp _ _ _ _ (wr.alloc (.cells #[.int .i64 HK,.int .u8 KL,.int .i64 HR,.int .u8 RL] 221));generalize (wr.alloc (.cells #[.int .i64 HK,.int .u8 KL,.int .i64 HR,.int .u8 RL] 221))=w4 at hx hCa ⊢;generalize wr.heap.size=Bh4 at hx ⊢;have c0:w4.cell? ⟨Bh4,0,none⟩=some (.int .i64 HK):=by rw [qm hx];rfl
   have c2:w4.cell? ⟨Bh4,2,none⟩=some (.int .i64 HR):=by rw [qm hx];rfl
   have hbl:Bh4<w4.heap.size:=World.block_lt_of_cell? _ _ c0;have m0:w4.cell? ⟨w.heap.size+1,0,none⟩=some (.int .i64 (f:Int)):=by rw [qm hCa.mv];rfl
   have m1:w4.cell? ⟨w.heap.size+1,1,none⟩=some (.int .i64 (t:Int)):=by rw [qm hCa.mv];rfl
   have m2:w4.cell? ⟨w.heap.size+1,2,none⟩=some (.int .u8 (u.toNat:Int)):=by rw [qm hCa.mv];rfl
   clear hx hC hix2;go_cut [21] from 9 to 24 (fun s21 wx=>s21=.bool TA/\Ca w (cfA fc f t k) f t u wx)
   case first =>
    obtain ⟨y1,q1⟩:∃ x,tchB f t HK=x:=⟨_,rfl⟩;obtain ⟨y2,q2⟩:∃ x,tchB f t HR=x:=⟨_,rfl⟩;rw [q1,q2] at hta;have hml:w.heap.size+1<w4.heap.size:=World.block_lt_of_cell? _ _ m0;clear hcf hself;cases y1
    ·go_wp2_with (go_at_call 184;refine (qa hto _ _).mono ?_;rintro e w5 ⟨rfl,hg5⟩;have c2:=(Below.cell hg5 (p:=⟨Bh4,2,none⟩) hbl).trans c2;have m0:=(Below.cell hg5 (p:=⟨w.heap.size+1,0,none⟩) hml).trans m0;have m1:=(Below.cell hg5 (p:=⟨w.heap.size+1,1,none⟩) hml).trans m1;have m2:=(Below.cell hg5 (p:=⟨w.heap.size+1,2,none⟩) hml).trans m2;have hCa:=hCa.next hg5;have hbl:=Nat.lt_of_lt_of_le hbl (Below.size hg5);have hml:=Nat.lt_of_lt_of_le hml (Below.size hg5));go_meet
     case rel=>exact ⟨by rw [qa hta];rfl,hCa⟩
    ·go_wp2_with (go_at_call 184;refine (qa hto _ _).mono ?_;rintro e w5 ⟨rfl,hg5⟩;have c2:=(Below.cell hg5 (p:=⟨Bh4,2,none⟩) hbl).trans c2;have m0:=(Below.cell hg5 (p:=⟨w.heap.size+1,0,none⟩) hml).trans m0;have m1:=(Below.cell hg5 (p:=⟨w.heap.size+1,1,none⟩) hml).trans m1;have m2:=(Below.cell hg5 (p:=⟨w.heap.size+1,2,none⟩) hml).trans m2;have hCa:=hCa.next hg5;have hbl:=Nat.lt_of_lt_of_le hbl (Below.size hg5);have hml:=Nat.lt_of_lt_of_le hml (Below.size hg5));go_meet
     case rel=>exact ⟨by rw [qa hta];rfl,hCa⟩
   case rest =>
    obtain ⟨rfl,hCc⟩:=hcut;clear hCa c0 c2 m0 m1 m2 hbl hta;go_upto_if 21 with fail;cases TA
    ·have hcc:Hid (cfV (cfA fc f t (k+1))=cfV (cfA fc f t k)):=hide (cfV_congr fun j hj=>by
      rw [qa hcf j hj];by_cases e:j=k
      ·subst e;rw [if_pos rfl,qa hself];simp
      ·rw [if_neg e])
     have hCd:Hid (Ca w (cfA fc f t (k+1)) f t u wc):=hide ⟨by rw [qa hcc];exact hCc.ca,hCc.mv,hCc.rs,hCc.lt,hCc.gr⟩;clear hCc hcf hself;go_wp2_with fail;go_roundg (gk-1)
     case measure=>omega
     case rel=>exact ⟨k+1,by omega,by go_num,qa hCd⟩
    ·have hcc:Hid (cfV (cfA fc f t (k+1))=cfV (fun j=>if j=k then false else cfA fc f t k j)):=hide (cfV_congr fun j hj=>by
      rw [qa hcf j hj];by_cases e:j=k
      ·rw [if_pos e,if_pos e];simp
      ·rw [if_neg e,if_neg e])
     have hCs:=hCc.set k hk false;have hCd:Hid (Ca w (cfA fc f t (k+1)) f t u (wc.setCell ⟨w.heap.size,k,none⟩ (.bool false))):=hide ⟨by rw [qa hcc];exact hCs.ca,hCs.mv,hCs.rs,hCs.lt,hCs.gr⟩;have qk:wc.cell? ⟨w.heap.size,k,none⟩=some (.bool (cfA fc f t k k)):=by rw [qm hCc.ca];exact cfV_at _ k hk
     have ok:wc.frozen? ⟨w.heap.size,k,none⟩=false:=xp hCc.ca;have dd0:(0:Int)<=(k:Int):=by omega
     have dd1:(k:Int)<4:=by omega
     clear hCc hcf hself hCs hcc;go_wp2_with fail;go_roundg (gk-1)
     case measure=>omega
     case rel=>exact ⟨k+1,by omega,by go_num,qa hCd⟩
  ·have ek:k=4:=by omega
   subst ek;have hca:=hide hC.ca;have hrs:Hid (wr.heap[w.heap.size+1+1]?=some (.cells (cfV fun _=>false) 23)):=hide hC.rs;have hgr:=hide hC.gr;clear hC;rw [qa hRV] at hca
   go_wp2_with (first
    | (refine wpList_load_row rfl 23 _ rfl w.heap.size rfl 23 (cfV RV) (0,0) _ (qa hca) Tryz.underlying23 rfl infoC4 ?_)
    | (refine wpList_store_row rfl 23 _ _ rfl (w.heap.size+1+1) (cfV RV) rfl rfl 23 (cfV fun _=>false) (qa hrs) infoC4 rfl (cfV_ones RV) ?_))
   exact bodyPost_ret (v:=.agg (cfV RV)) (results_cell_row Tryz.results111 _ _ (w.heap.size+1+1) 23 _ (0,0) _ rfl (setRow_heap _ _ _ _ _ _ (qa hrs)) Tryz.underlying23 rfl infoC4) rfl ⟨rfl,(qa hgr).setRow _ (by omega) _⟩
structure Af3 (w:World) (PA:Array Value) (f t:Nat) (u:UInt8) (W:World):Prop where
 pm:Pmm w PA f t u W
 rs:∃ R,R.size=72/\W.heap[w.heap.size+1+1]?=some (.cells R 25)
 lt:w.heap.size+1+1<W.heap.size
theorem Af3.next {w W W':World} {PA:Array Value} {f t:Nat} {u:UInt8} (h:Af3 w PA f t u W) (g:Gr W W'):Af3 w PA f t u W':=by
 obtain ⟨R,r1,r2⟩:=h.rs;exact ⟨h.pm.next g,⟨R,r1,(Below.block g _ h.lt).trans r2⟩,Nat.lt_of_lt_of_le h.lt (Below.size g)⟩
theorem Af3.put {w W:World} {PA:Array Value} {f t:Nat} {u:UInt8} (h:Af3 w PA f t u W) (X:Array Value) (hX:X.size=72):Af3 w PA f t u (W.setRow (w.heap.size+1+1) X):=by
 obtain ⟨R,r1,r2⟩:=h.rs;exact ⟨⟨by rw [setRow_other _ _ _ _ (by omega)];exact h.pm.pa,by rw [setRow_other _ _ _ _ (by omega)];exact h.pm.mv,by rw [size_setRow];exact h.pm.lt,h.pm.gr.setRow _ (by omega) _⟩,⟨X,hX,setRow_heap _ _ _ _ _ _ r2⟩,by rw [size_setRow];exact h.lt⟩
theorem afterP_any {z:Nat->UInt8} {wh:Bool} {fc:Nat->Bool} {b h g:Int} {PA:Array Value} (r:Row z wh fc b h g PA) (f t:Nat) (u:UInt8) (hf:f<64) (ht:t<64) (hk1:kingB (z f)=true->t=f+2->f+3<64) (hk2:kingB (z f)=true->t+2=f->4<=f) (h0:0<=h) (h1:h<=65535) (g0:0<=g) (g1:g<=65535) (w:World) (hH:Homes w) :
  Calls Tryz.prog 51 #[.agg PA,.agg #[.int .i64 (f:Int),.int .i64 (t:Int),.int .u8 (u.toNat:Int)]] w fun e w'=>∃ Q,e=.returned (.agg Q)/\Row (plZ z b (f,t,u)) (!wh) (cfA fc f t 4) (behA z f t) (halA z f t h) (fulA wh g) Q/\Gr w w':=by
 have hz:=r.size;have hr:=hide r;have hpl:=hide (fun W=>qzr r f t u hf ht hk1 hk2 W);have hca:Hid (∀ W,Homes W->Calls Tryz.prog 111 #[.agg #[.bool (fc 0),.bool (fc 1),.bool (fc 2),.bool (fc 3)],.agg #[.int .i64 (f:Int),.int .i64 (t:Int),.int .u8 (u.toNat:Int)]] W fun e w'=>e=.returned (.agg (cfV (cfA fc f t 4)))/\Gr W w'):=hide (fun W hh=>qxf fc f t u W hh);have hbh:=hide (fun W=>qj5 r f t hf ht u W);have hha:=hide (fun W=>qvs r f t hf ht u h0 h1 W);have hfu:=hide (fun W=>qvv r g0 g1 W);obtain ⟨x1,x2,x3,x4⟩:=heapThree w (.cells PA 25) (.cells #[.int .i64 (f:Int),.int .i64 (t:Int),.int .u8 (u.toNat:Int)] 94) (.cells Tryz.zeroCells25 25);have hP0:=(Pmm.start w PA f t u).next ((Gr.refl _).alloc Tryz.zeroCells25 25);have hA0:Af3 w PA f t u (((w.alloc (.cells PA 25)).alloc (.cells #[.int .i64 (f:Int),.int .i64 (t:Int),.int .u8 (u.toNat:Int)] 94)).alloc (.cells Tryz.zeroCells25 25)):=⟨hP0,⟨_,zeroP,x3⟩,by rw [x4];omega⟩;have hH':=hide hH;clear x1 x2 x3 x4 hP0 r hH;obtain ⟨CQ,hC⟩:∃ x,Hid (cfA fc f t 4=x):=⟨_,hide rfl⟩;obtain ⟨bb,hbb⟩:∃ x,Hid (behA z f t=x):=⟨_,hide rfl⟩;obtain ⟨hh,hhh⟩:∃ x,Hid (halA z f t h=x):=⟨_,hide rfl⟩;obtain ⟨gg,hgg⟩:∃ x,Hid (fulA wh g=x):=⟨_,hide rfl⟩;rw [qa hC] at hca ⊢;rw [qa hbb] at hbh ⊢;rw [qa hhh] at hha ⊢;rw [qa hgg] at hfu ⊢;clear hC hbb hhh hgg;go_enter Tryz.func51,Tryz.ntmps51;go_upto_region 1 with fail;show Code.wp _ _ _ _ (((w.alloc (.cells PA 25)).alloc (.cells #[.int .i64 (f:Int),.int .i64 (t:Int),.int .u8 (u.toNat:Int)] 94)).alloc (.cells Tryz.zeroCells25 25));generalize (((w.alloc (.cells PA 25)).alloc (.cells #[.int .i64 (f:Int),.int .i64 (t:Int),.int .u8 (u.toNat:Int)] 94)).alloc (.cells Tryz.zeroCells25 25))=w0 at hA0 ⊢;have hA1:=hA0.next (Gr.refl _).drew;clear hA0;refine wp_region_held_drew (S:=Af3 w PA f t u) (by kernel_rfl) hA1 (fun hHeld=>?_);clear hA1;refine C.ty 0 (.agg PA) rfl (zd hz (by rfl) _ rfl w.heap.size rfl (fun _ h=>rowOf h.pm.pa)) hHeld ?_;refine C.ty 1 (.agg #[.int .i64 (f:Int),.int .i64 (t:Int),.int .u8 (u.toNat:Int)]) rfl (Or.inl ⟨by rfl,fun w' hw=>(by obtain ⟨m0,m1,m2⟩:=hw.pm.cells;have c64:=hw.pm.at (qa hr).wh;have c65:=hw.pm.at ((qa hr).c 0 (by decide));have c66:=hw.pm.at ((qa hr).c 1 (by decide));have c67:=hw.pm.at ((qa hr).c 2 (by decide));have c68:=hw.pm.at ((qa hr).c 3 (by decide));go_simp)⟩) hHeld ?_;refine C.ty 3 (.pointer (some ⟨w.heap.size,64,none⟩)) rfl (Or.inl ⟨by rfl,fun w' hw=>(by obtain ⟨m0,m1,m2⟩:=hw.pm.cells;have c64:=hw.pm.at (qa hr).wh;have c65:=hw.pm.at ((qa hr).c 0 (by decide));have c66:=hw.pm.at ((qa hr).c 1 (by decide));have c67:=hw.pm.at ((qa hr).c 2 (by decide));have c68:=hw.pm.at ((qa hr).c 3 (by decide));go_simp)⟩) hHeld ?_;refine C.ty 4 (.bool wh) rfl (Or.inl ⟨by rfl,fun w' hw=>(by obtain ⟨m0,m1,m2⟩:=hw.pm.cells;have c64:=hw.pm.at (qa hr).wh;have c65:=hw.pm.at ((qa hr).c 0 (by decide));have c66:=hw.pm.at ((qa hr).c 1 (by decide));have c67:=hw.pm.at ((qa hr).c 2 (by decide));have c68:=hw.pm.at ((qa hr).c 3 (by decide));go_simp)⟩) hHeld ?_;refine C.ty 5 (.bool (!wh)) rfl (Or.inl ⟨by rfl,fun w' hw=>(by obtain ⟨m0,m1,m2⟩:=hw.pm.cells;have c64:=hw.pm.at (qa hr).wh;have c65:=hw.pm.at ((qa hr).c 0 (by decide));have c66:=hw.pm.at ((qa hr).c 1 (by decide));have c67:=hw.pm.at ((qa hr).c 2 (by decide));have c68:=hw.pm.at ((qa hr).c 3 (by decide));go_simp)⟩) hHeld ?_;refine C.ty 6 (.pointer (some ⟨w.heap.size,65,none⟩)) rfl (Or.inl ⟨by rfl,fun w' hw=>(by obtain ⟨m0,m1,m2⟩:=hw.pm.cells;have c64:=hw.pm.at (qa hr).wh;have c65:=hw.pm.at ((qa hr).c 0 (by decide));have c66:=hw.pm.at ((qa hr).c 1 (by decide));have c67:=hw.pm.at ((qa hr).c 2 (by decide));have c68:=hw.pm.at ((qa hr).c 3 (by decide));go_simp)⟩) hHeld ?_;refine C.ty 7 (.agg #[.bool (fc 0),.bool (fc 1),.bool (fc 2),.bool (fc 3)]) rfl (Or.inl ⟨by rfl,fun w' hw=>(by obtain ⟨m0,m1,m2⟩:=hw.pm.cells;have c64:=hw.pm.at (qa hr).wh;have c65:=hw.pm.at ((qa hr).c 0 (by decide));have c66:=hw.pm.at ((qa hr).c 1 (by decide));have c67:=hw.pm.at ((qa hr).c 2 (by decide));have c68:=hw.pm.at ((qa hr).c 3 (by decide));go_simp)⟩) hHeld ?_;refine C.ty 8 (.agg #[.int .i64 (f:Int),.int .i64 (t:Int),.int .u8 (u.toNat:Int)]) rfl (Or.inl ⟨by rfl,fun w' hw=>(by obtain ⟨m0,m1,m2⟩:=hw.pm.cells;have c64:=hw.pm.at (qa hr).wh;have c65:=hw.pm.at ((qa hr).c 0 (by decide));have c66:=hw.pm.at ((qa hr).c 1 (by decide));have c67:=hw.pm.at ((qa hr).c 2 (by decide));have c68:=hw.pm.at ((qa hr).c 3 (by decide));go_simp)⟩) hHeld ?_;refine C.ty 10 (.agg PA) rfl (zd hz (by rfl) _ rfl w.heap.size rfl (fun _ h=>rowOf h.pm.pa)) hHeld ?_;refine C.ty 11 (.agg #[.int .i64 (f:Int),.int .i64 (t:Int),.int .u8 (u.toNat:Int)]) rfl (Or.inl ⟨by rfl,fun w' hw=>(by obtain ⟨m0,m1,m2⟩:=hw.pm.cells;have c64:=hw.pm.at (qa hr).wh;have c65:=hw.pm.at ((qa hr).c 0 (by decide));have c66:=hw.pm.at ((qa hr).c 1 (by decide));have c67:=hw.pm.at ((qa hr).c 2 (by decide));have c68:=hw.pm.at ((qa hr).c 3 (by decide));go_simp)⟩) hHeld ?_;refine C.ty 13 (.agg PA) rfl (zd hz (by rfl) _ rfl w.heap.size rfl (fun _ h=>rowOf h.pm.pa)) hHeld ?_
 refine C.ty 14 (.agg #[.int .i64 (f:Int),.int .i64 (t:Int),.int .u8 (u.toNat:Int)]) rfl (Or.inl ⟨by rfl,fun w' hw=>(by obtain ⟨m0,m1,m2⟩:=hw.pm.cells;have c64:=hw.pm.at (qa hr).wh;have c65:=hw.pm.at ((qa hr).c 0 (by decide));have c66:=hw.pm.at ((qa hr).c 1 (by decide));have c67:=hw.pm.at ((qa hr).c 2 (by decide));have c68:=hw.pm.at ((qa hr).c 3 (by decide));go_simp)⟩) hHeld ?_;refine C.ty 16 (.agg PA) rfl (zd hz (by rfl) _ rfl w.heap.size rfl (fun _ h=>rowOf h.pm.pa)) hHeld ?_;refine C.rd 2 fun K hK=>?_
 go_simp;refine (qa hpl _).mono ?_;rintro e wa2 ⟨BA,rfl,hBA,hga2⟩;refine hK.out _ _ (hHeld.next hga2) (fun hHeld=>?_);clear hK K hga2
 try simp only [C.py]
 refine C.rd 9 fun K hK=>?_
 go_simp;refine (qa hca _ ((qa hH').gr hHeld.pm.gr)).mono ?_;rintro e wa9 ⟨rfl,hga9⟩;refine hK.out _ _ (hHeld.next hga9) (fun hHeld=>?_);clear hK K hga9
 try simp only [C.py]
 refine C.rd 12 fun K hK=>?_
 go_simp;refine (qa hbh _).mono ?_;rintro e wa12 ⟨rfl,hga12⟩;refine hK.out _ _ (hHeld.next hga12) (fun hHeld=>?_);clear hK K hga12
 try simp only [C.py]
 refine C.rd 15 fun K hK=>?_
 go_simp;refine (qa hha _).mono ?_;rintro e wa15 ⟨rfl,hga15⟩;refine hK.out _ _ (hHeld.next hga15) (fun hHeld=>?_);clear hK K hga15
 try simp only [C.py]
 refine C.rd 17 fun K hK=>?_
 go_simp;refine (qa hfu _).mono ?_;rintro e wa17 ⟨rfl,hga17⟩;refine hK.out _ _ (hHeld.next hga17) (fun hHeld=>?_);clear hK K hga17
 try simp only [C.py]
 refine C.ty 18 (.agg (posA BA (!wh) (CQ 0) (CQ 1) (CQ 2) (CQ 3) bb hh gg)) rfl (zm (by rfl) 25 #[(0,.tmp 7),(1,.tmp 10),(2,.tmp 14),(3,.tmp 17),(4,.tmp 20),(5,.tmp 22)] rfl _ (by simp only [List.map_toArray,List.map_cons,List.map_nil];exact built_pos BA hBA.1 (!wh) (CQ 0) (CQ 1) (CQ 2) (CQ 3) bb hh gg)) hHeld ?_;have hpz:(posA BA (!wh) (CQ 0) (CQ 1) (CQ 2) (CQ 3) bb hh gg).size=72:=by unfold posA;simp [hBA.1]
 have hrw:=qvi _ BA hBA.1 hBA.2 (!wh) CQ bb hh gg;have hon:=qy hrw;refine C.rd 19 fun K hK=>?_
 rw [if_pos (by rfl)];obtain ⟨R,r1,hrs⟩:=hHeld.rs;refine wp_store_row 25 _ _ rfl (w.heap.size+1+1) (posA BA (!wh) (CQ 0) (CQ 1) (CQ 2) (CQ 3) bb hh gg) rfl rfl 25 R hrs (by rw [hpz];exact infoP) (by rw [hpz,r1]) hon ?_;have hgf:=hide (hHeld.pm.gr.setRow (w.heap.size+1+1) (by omega) (posA BA (!wh) (CQ 0) (CQ 1) (CQ 2) (CQ 3) bb hh gg));refine hK.out _ _ (hHeld.put _ hpz) (fun hHeld=>?_);clear hK K
 try simp only [C.py]
 refine wpAnyH_done (by kernel_rfl) ?_ _;go_wp2_with fail;exact bodyPost_ret (v:=.agg (posA BA (!wh) (CQ 0) (CQ 1) (CQ 2) (CQ 3) bb hh gg)) (results_cell_row Tryz.results51 _ _ (w.heap.size+1+1) 25 _ (0,0) _ rfl (setRow_heap _ _ _ _ _ _ hrs) Tryz.underlying25 rfl (by rw [hpz];exact infoP)) rfl ⟨_,rfl,hrw,qa hgf⟩
end Go.Proofs.YtnfakamfmkhlbaaGreatDoor.C
namespace Go.Proofs.YtnfakamfmkhlbaaGreatDoor.C
open Go.ChangeShapes Go.WideShapes Go.ChangeAt Go.RowKit
attribute [local go_sem] qd qi
def turnsL:List UInt8:=[113,114,98,110]
def rdT (s:ByteArray):UInt8 × Bool:=if h:0<s.size then (s[0],decide (0<=Lib.indexByte turnsL s[0])) else (0,true)
theorem readTurn_any (s:ByteArray) (w:World):Calls Tryz.prog 179 #[.string s] w fun e w'=>e=.returned (.tuple #[.int .u8 ((rdT s).1.toNat:Int),.bool (rdT s).2])/\Gr w w':=by
 by_cases h:0<s.size
 ·have e1:(rdT s)=(s[0],decide (0<=Lib.indexByte turnsL s[0])):=by unfold rdT;rw [dif_pos h]
  have hne:(s.toList==[])=false:=by
   rw [beq_eq_false_iff_ne];intro e;have:s.toList.length=0:=by rw [e];rfl
   have h2:s.toList.length=s.size:=by rw [Lib.toList_data];exact Array.length_toList
   omega
  rw [e1];have hib:=hide (fun W=>Tryz.strings_IndexByte ⟨#[113,114,98,110]⟩ (s[0].toNat:Int) W);have h0:(0:Int)<(s.size:Int):=by omega
  go_enter Tryz.func179,Tryz.ntmps179;go_upto_region 3 with fail;go_quiet ((go_at_call 138;exact Calls.quiet_of_same (qa hib _)))
  all_goals
   go_wp2;go_ret2;exact ⟨rfl,Gr.drewN (Gr.refl w) _⟩
 ·have e1:(rdT s)=(0,true):=by unfold rdT;rw [dif_neg h]
  rw [e1]
  have hs:s=⟨#[]⟩:=by
   have:s.size=0:=by omega
   exact ByteArray.size_eq_zero_iff.1 this
  subst hs;go_enter Tryz.func179,Tryz.ntmps179;go_wp2_with fail;go_ret2;exact ⟨rfl,Gr.refl _⟩
def mvR (s:ByteArray):Option (Nat × Nat × UInt8) :=
 if s.size=4\/s.size=5 then
  match sqS (s.extract 0 2),sqS (s.extract 2 4) with
  | some f,some t=>if (rdT (s.extract 4 s.size)).2 then some (f,t,(rdT (s.extract 4 s.size)).1) else none
  | _,_=>none
 else none
def mvA (x:Nat × Nat × UInt8):Array Value:=#[.int .i64 (x.1:Int),.int .i64 (x.2.1:Int),.int .u8 (x.2.2.toNat:Int)]
def readV (s:ByteArray):Value:=match mvR s with
 | some x=>.tuple #[.agg (mvA x),.bool true]
 | none=>.tuple #[.agg (mvA (0,0,0)),.bool false]
def sqV (s:ByteArray):Int × Bool:=match sqS s with|some n=>((n:Int),true)|none=>(0,false)
theorem infoMv3:(Tryz.prog.info? 94).map (·.size)=some 3:=by kernel_rfl
theorem square_all (s:ByteArray) (w:World):Calls Tryz.prog 136 #[.string s] w fun e w'=>e=.returned (.tuple #[.int .i64 (sqV s).1,.bool (sqV s).2])/\Gr w w':=by
 unfold sqV;cases h:sqS s with
 | none=>exact (square_no s h w).mono fun e w' q=>⟨q.1,by rw [q.2];exact Gr.refl _⟩
 | some n=>exact qzi s n h w
theorem mread_any (s:ByteArray) (hs:s.size<4294967281) (w:World):Calls Tryz.prog 108 #[.string s] w fun e w'=>e=.returned (readV s)/\Gr w w':=by
  have hg0:=hide ((Gr.refl w).alloc #[.int .i64 0,.int .i64 0,.int .u8 0] 94)
  have hsq:=hide (fun x W=>square_all x W)
  have hrt:=hide (fun x W=>readTurn_any x W)
  by_cases h45:s.size=4\/s.size=5
  · obtain ⟨V,hV⟩:∃ V,Hid (readV s=V):=⟨_,hide rfl⟩
    rw [qa hV]
    have hl:(4:Int)<=(s.size:Int)/\(s.size:Int)<=5:=by omega
    obtain ⟨l4,l5⟩:=hl
    go_enter Tryz.func108,Tryz.ntmps108
    obtain ⟨A1,hA1⟩:∃ x,Hid (sqV (s.extract 0 2)=x):=⟨_,hide rfl⟩
    obtain ⟨A2,hA2⟩:∃ x,Hid (sqV (s.extract 2 4)=x):=⟨_,hide rfl⟩
    obtain ⟨A3,hA3⟩:∃ x,Hid (rdT (s.extract 4 s.size)=x):=⟨_,hide rfl⟩
    have hV2:Hid (V=if A1.2&&A2.2&&A3.2 then .tuple #[.agg #[.int .i64 A1.1,.int .i64 A2.1,.int .u8 (A3.1.toNat:Int)],.bool true] else .tuple #[.agg #[.int .i64 0,.int .i64 0,.int .u8 0],.bool false]):=hide (by
      rw [<-qa hV,<-qa hA1,<-qa hA2,<-qa hA3]
      unfold readV mvR sqV
      rw [if_pos h45]
      cases sqS (s.extract 0 2) with
      | none=>rfl
      | some f =>
        cases sqS (s.extract 2 4) with
        | none=>rfl
        | some t =>
          simp only
          cases (rdT (s.extract 4 s.size)).2<;>rfl)
    have k1:Hid (∀ W,Calls Tryz.prog 136 #[.string (s.extract 0 2)] W fun e w'=>e=.returned (.tuple #[.int .i64 A1.1,.bool A1.2])/\Gr W w'):=hide (fun W=>by rw [<-qa hA1];exact qa hsq _ W)
    have k2:Hid (∀ W,Calls Tryz.prog 136 #[.string (s.extract 2 4)] W fun e w'=>e=.returned (.tuple #[.int .i64 A2.1,.bool A2.2])/\Gr W w'):=hide (fun W=>by rw [<-qa hA2];exact qa hsq _ W)
    have k3:Hid (∀ W,Calls Tryz.prog 179 #[.string (s.extract 4 s.size)] W fun e w'=>e=.returned (.tuple #[.int .u8 (A3.1.toNat:Int),.bool A3.2])/\Gr W w'):=hide (fun W=>by rw [<-qa hA3];exact qa hrt _ W)
    have hb0:=hide (heap_alloc_new w (.cells #[.int .i64 0,.int .i64 0,.int .u8 0] 94))
    have hbs:Hid (w.heap.size<(w.alloc (.cells #[.int .i64 0,.int .i64 0,.int .u8 0] 94)).heap.size):=hide (by rw [World.size_alloc];omega)
    have h45':=h45
    clear hV hA1 hA2 hA3 hsq hrt h45
    obtain ⟨a1,b1⟩:=A1
    obtain ⟨a2,b2⟩:=A2
    obtain ⟨a3,b3⟩:=A3
    simp only at hV2 k1 k2 k3
    generalize ((a3.toNat:Nat):Int)=u3 at hV2 k3
    go_upto_region 1 with fail
    generalize w.alloc (.cells #[.int .i64 0,.int .i64 0,.int .u8 0] 94)=w0 at hg0 hb0 hbs ⊢
    go_cut [17] from 10 (fun s17 wx=>s17=.bool false/\wx=w0)
    case first =>
      rcases h45' with h|h
      · have n1:((s.size:Int) != 4)=false:=by rw [h];rfl
        go_wp2_with fail
        go_meet
        case rel=>exact ⟨rfl,rfl⟩
      · have n1:((s.size:Int) != 4)=true:=by rw [h];rfl
        have n2:((s.size:Int) != 5)=false:=by rw [h];rfl
        go_wp2_with fail
        go_meet
        case rel=>exact ⟨rfl,rfl⟩
    case rest =>
     obtain ⟨rfl,hww⟩:=hcut
     subst hww
     go_upto_region 3 with fail
     go_upto_region 4 with (go_at_call 136;refine (qa k1 _).mono ?_;rintro e w1 ⟨rfl,hg1⟩)
     go_upto_region 5 with (go_at_call 136;refine (qa k2 _).mono ?_;rintro e w2 ⟨rfl,hg2⟩)
     go_upto_region 6 with (go_at_call 179;refine (qa k3 _).mono ?_;rintro e w3 ⟨rfl,hg3⟩)
     have hg:=Gr.trans hg1 (Gr.trans hg2 hg3)
     have hb:w3.heap[w.heap.size]?=some (.cells #[.int .i64 0,.int .i64 0,.int .u8 0] 94):=(Below.block hg _ (qa hbs)).trans (qa hb0)
     have hgw:=hide (Gr.trans (qa hg0) hg)
     clear hg1 hg2 hg3 hg k1 k2 k3 hb0 hbs hg0
     cases b1
     · clear h45'
       go_wp2_with (refine wpList_store_row rfl 94 _ _ rfl w.heap.size #[.int .i64 0,.int .i64 0,.int .u8 0] rfl rfl 94 #[.int .i64 0,.int .i64 0,.int .u8 0] hb infoMv3 rfl (by simp [Value.oneCell']) ?_)
       exact bodyPost_ret (v:=.tuple #[.agg #[.int .i64 0,.int .i64 0,.int .u8 0],.bool false]) (qj Tryz.results108 _ _ w.heap.size 94 _ (0,0) _ rfl (setRow_heap _ _ _ _ _ _ hb) Tryz.underlying94 rfl infoMv3) rfl ⟨by rw [qa hV2];rfl,(qa hgw).setRow _ (Nat.le_refl _) _⟩
     · cases b2
       · clear h45'
         go_wp2_with (refine wpList_store_row rfl 94 _ _ rfl w.heap.size #[.int .i64 0,.int .i64 0,.int .u8 0] rfl rfl 94 #[.int .i64 0,.int .i64 0,.int .u8 0] hb infoMv3 rfl (by simp [Value.oneCell']) ?_)
         exact bodyPost_ret (v:=.tuple #[.agg #[.int .i64 0,.int .i64 0,.int .u8 0],.bool false]) (qj Tryz.results108 _ _ w.heap.size 94 _ (0,0) _ rfl (setRow_heap _ _ _ _ _ _ hb) Tryz.underlying94 rfl infoMv3) rfl ⟨by rw [qa hV2];rfl,(qa hgw).setRow _ (Nat.le_refl _) _⟩
       · cases b3
         · clear h45'
           go_wp2_with (refine wpList_store_row rfl 94 _ _ rfl w.heap.size #[.int .i64 0,.int .i64 0,.int .u8 0] rfl rfl 94 #[.int .i64 0,.int .i64 0,.int .u8 0] hb infoMv3 rfl (by simp [Value.oneCell']) ?_)
           exact bodyPost_ret (v:=.tuple #[.agg #[.int .i64 0,.int .i64 0,.int .u8 0],.bool false]) (qj Tryz.results108 _ _ w.heap.size 94 _ (0,0) _ rfl (setRow_heap _ _ _ _ _ _ hb) Tryz.underlying94 rfl infoMv3) rfl ⟨by rw [qa hV2];rfl,(qa hgw).setRow _ (Nat.le_refl _) _⟩
         · clear h45'
           go_wp2_with (refine wpList_store_row rfl 94 _ _ rfl w.heap.size #[.int .i64 a1,.int .i64 a2,.int .u8 u3] rfl rfl 94 #[.int .i64 0,.int .i64 0,.int .u8 0] hb infoMv3 rfl (by simp [Value.oneCell']) ?_)
           exact bodyPost_ret (v:=.tuple #[.agg #[.int .i64 a1,.int .i64 a2,.int .u8 u3],.bool true]) (qj Tryz.results108 _ _ w.heap.size 94 _ (0,0) _ rfl (setRow_heap _ _ _ _ _ _ hb) Tryz.underlying94 rfl infoMv3) rfl ⟨by rw [qa hV2];rfl,(qa hgw).setRow _ (Nat.le_refl _) _⟩
  · have hv:readV s=.tuple #[.agg (mvA (0,0,0)),.bool false]:=by unfold readV mvR;rw [if_neg h45]
    rw [hv]
    have n4:((s.size:Int) != 4)=true:=by rw [bne_iff_ne];omega
    have n5:((s.size:Int) != 5)=true:=by rw [bne_iff_ne];omega
    clear h45 hsq hrt
    go_enter Tryz.func108,Tryz.ntmps108
    go_wp2_with fail
    exact bodyPost_ret (v:=.tuple #[.agg #[.int .i64 0,.int .i64 0,.int .u8 0],.bool false]) (qj Tryz.results108 _ _ w.heap.size 94 _ (0,0) _ rfl (heap_alloc_new w _) Tryz.underlying94 rfl infoMv3) rfl ⟨rfl,qa hg0⟩
end Go.Proofs.YtnfakamfmkhlbaaGreatDoor.C
