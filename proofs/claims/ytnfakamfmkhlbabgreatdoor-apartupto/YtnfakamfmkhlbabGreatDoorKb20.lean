import Derived.Test.YtnfakamfmkhlbabGreatDoorKb19
import Derived.Test.YtnfakamfmkhlbabGreatDoorKb13
import Derived.Test.YtnfakamfmkhlbabGreatDoorKz2
set_option maxRecDepth 100000
set_option maxHeartbeats 4000000
set_option linter.unusedSimpArgs false
namespace Go.Proofs.YtnfakamfmkhlbabGreatDoor.C
open Go.ChangeShapes Go.WideShapes Go.ChangeAt Go.RowKit Go.Shelf
open Go.Proofs.YtnfakamfmkhlbabGreatDoor.P
attribute [local go_sem] setCell_drewN alloc_drewN
theorem pawn_king (c:UInt8):pawnB c=true->kingB c=false:=by
 unfold pawnB kingB;simp only [Bool.or_eq_true,beq_iff_eq,Bool.or_eq_false_iff,beq_eq_false_iff_ne];omega
structure Pl (w:World) (PA:Array Value) (f t:Nat) (u:UInt8) (W:World):Prop where
 pa:W.heap[w.heap.size]?=some (.cells PA 70)
 mv:W.heap[w.heap.size+1]?=some (.cells #[.int .i64 (f:Int),.int .i64 (t:Int),.int .u8 (u.toNat:Int)] 87)
 rs:W.heap[w.heap.size+2]?=some (.cells Z64 67)
 gr:Gr w W
theorem Pl.set {w:World} {PA:Array Value} {f t:Nat} {u:UInt8} {W:World} (h:Pl w PA f t u W) (i:Nat) (v:Value):Pl w PA f t u (W.setCell ⟨w.heap.size+3,i,none⟩ v):=by
 have fs:Fr (fun k _=>k≠w.heap.size+3) W (W.setCell ⟨w.heap.size+3,i,none⟩ v):=(Fr.refl _ _).setCell _ (fun o _ q=>q rfl);exact ⟨fs.same _ _ h.pa (by omega),fs.same _ _ h.mv (by omega),fs.same _ _ h.rs (by omega),Below.setCell h.gr (show w.heap.size<=w.heap.size+3 by omega) _⟩
theorem Pl.drew {w:World} {PA:Array Value} {f t:Nat} {u:UInt8} {W:World} (h:Pl w PA f t u W):Pl w PA f t u W.drew:=⟨h.pa,h.mv,h.rs,h.gr.drew⟩
theorem placeL_any {z:Nat->UInt8} {wh:Bool} {fc:Nat->Bool} {b h g:Int} {PA:Array Value} (r:Row z wh fc b h g PA) (f t:Nat) (u:UInt8) (hf:f<64) (ht:t<64) (hk1:kingB (z f)=true->t=f+2->f+3<64) (hk2:kingB (z f)=true->t+2=f->4<=f) (w:World) :
  Calls Tryz.prog 98 #[.agg PA,.agg #[.int .i64 (f:Int),.int .i64 (t:Int),.int .u8 (u.toNat:Int)]] w fun e w'=>∃ A,e=.returned (.agg A)/\Arr (plZ z b (f,t,u)) A/\Gr w w':=by
 have hr:=hide r;obtain ⟨x1,x2,x3,x4⟩:=heapThree w (.cells PA 70) (.cells #[.int .i64 (f:Int),.int .i64 (t:Int),.int .u8 (u.toNat:Int)] 87) (.cells Z64 67);have hg3:Gr w (((w.alloc (.cells PA 70)).alloc (.cells #[.int .i64 (f:Int),.int .i64 (t:Int),.int .u8 (u.toNat:Int)] 87)).alloc (.cells Z64 67)):=(((Gr.refl w).alloc _ _).alloc _ _).alloc _ _;have hps:=Ps.of r x1;have crg:=hps.bd.range;clear r;obtain ⟨L,hL⟩:∃ L,Hid (L=zL z):=⟨_,hide rfl⟩;rw [<-unhide hL] at crg;have hl:L.length=64:=by rw [unhide hL];exact zL_len z
 have hi64:(Tryz.prog.info? 67).map (·.size)=some L.length:=by rw [hl];exact info64
 have hone:L.toArray.all (·.oneCell')=true:=by rw [unhide hL];exact (arr_zL z).ones
 have hs64:L.toArray.size=64:=by simpa using hl
 go_enter Tryz.func98,Tryz.ntmps98
 go_upto_region 2 with (first
  | (refine wpList_load_mid rfl 67 _ rfl w.heap.size 0 rfl L _ crg Tryz.underlying67 rfl hi64 ?_)
  | (refine wpList_store_row rfl 67 _ _ rfl (w.heap.size+3) L.toArray rfl rfl 67 Z64 (by rw [<-x4];exact World.alloc_heap_new _ _) (by rw [hs64];exact info64) (by rw [hs64];rfl) hone ?_))
 have hx4:((((w.alloc (.cells PA 70)).alloc (.cells #[.int .i64 (f:Int),.int .i64 (t:Int),.int .u8 (u.toNat:Int)] 87)).alloc (.cells Z64 67)).alloc (.cells Z64 67)).heap[w.heap.size+3]?=some (.cells Z64 67):=by rw [<-x4];exact World.alloc_heap_new _ _
 show Code.wp _ _ _ _ (((((w.alloc (.cells PA 70)).alloc (.cells #[.int .i64 (f:Int),.int .i64 (t:Int),.int .u8 (u.toNat:Int)] 87)).alloc (.cells Z64 67)).alloc (.cells Z64 67)).setRow (w.heap.size+3) L.toArray);have hsq:=setRow_heap _ _ _ L.toArray _ _ hx4;have hg4:Gr w (((((w.alloc (.cells PA 70)).alloc (.cells #[.int .i64 (f:Int),.int .i64 (t:Int),.int .u8 (u.toNat:Int)] 87)).alloc (.cells Z64 67)).alloc (.cells Z64 67)).setRow (w.heap.size+3) L.toArray):=(hg3.alloc _ _).setRow _ (by omega) _
 have hpl:Pl w PA f t u (((((w.alloc (.cells PA 70)).alloc (.cells #[.int .i64 (f:Int),.int .i64 (t:Int),.int .u8 (u.toNat:Int)] 87)).alloc (.cells Z64 67)).alloc (.cells Z64 67)).setRow (w.heap.size+3) L.toArray):=by
  have hgg:Below (w.heap.size+3) (((w.alloc (.cells PA 70)).alloc (.cells #[.int .i64 (f:Int),.int .i64 (t:Int),.int .u8 (u.toNat:Int)] 87)).alloc (.cells Z64 67)) (((((w.alloc (.cells PA 70)).alloc (.cells #[.int .i64 (f:Int),.int .i64 (t:Int),.int .u8 (u.toNat:Int)] 87)).alloc (.cells Z64 67)).alloc (.cells Z64 67)).setRow (w.heap.size+3) L.toArray):=by
   have:=((Gr.refl (((w.alloc (.cells PA 70)).alloc (.cells #[.int .i64 (f:Int),.int .i64 (t:Int),.int .u8 (u.toNat:Int)] 87)).alloc (.cells Z64 67))).alloc Z64 67).setRow (w.heap.size+3) (by omega) L.toArray;unfold Gr at this
   rwa [x4] at this
  exact ⟨(Below.block hgg _ (by omega)).trans x1,(Below.block hgg _ (by omega)).trans x2,(Below.block hgg _ (by omega)).trans x3,hg4⟩
 generalize (((((w.alloc (.cells PA 70)).alloc (.cells #[.int .i64 (f:Int),.int .i64 (t:Int),.int .u8 (u.toNat:Int)] 87)).alloc (.cells Z64 67)).alloc (.cells Z64 67)).setRow (w.heap.size+3) L.toArray)=w4 at hsq hpl ⊢;have ha4:Hid (Arr z L.toArray):=hide (by rw [unhide hL];exact arr_zL z);clear x1 x2 x3 x4 hg3 hg4 hps crg hl hi64 hone hs64 hx4;generalize L.toArray=A4 at hsq ha4;have hf0:(0:Int)<=(f:Int):=by omega
 have hf1:(f:Int)<64:=by omega
 have ht0:(0:Int)<=(t:Int):=by omega
 have ht1:(t:Int)<64:=by omega
 obtain ⟨c1,c2,c3⟩:=mv_cells hpl.mv;have c4:=bd_of (unhide ha4).2 hsq f hf;have o4:=row_open (i:=f) hsq;go_upto_region 4 with fail;have hpl5:=hpl.set f (.int .u8 46);have hsq5:=set_row3 (i:=f) (v:=.int .u8 46) hsq;have ha5:Hid (Arr (upd z f 46) (A4.setIfInBounds f (.int .u8 46))):=hide ((unhide ha4).set f 46);show Code.wp _ _ _ _ (w4.setCell ⟨w.heap.size+3,f,none⟩ (.int .u8 46));generalize w4.setCell ⟨w.heap.size+3,f,none⟩ (.int .u8 46)=w5 at hpl5 hsq5 ⊢;generalize A4.setIfInBounds f (.int .u8 46)=A5 at hsq5 ha5;clear hpl hsq c1 c2 c3 c4 o4;have htu:=hide (fun W=>turnL_any (z f) u W);obtain ⟨c1,c2,c3⟩:=mv_cells hpl5.mv;have o5:w5.drew.frozen? ⟨w.heap.size+3,t,none⟩=false:=row_open (V:=w5.drew) (i:=t) hsq5;have c5:w5.drew.cell? ⟨w.heap.size+3,t,none⟩=some (.int .u8 ((upd z f 46 t).toNat:Int)):=bd_of (W:=w5.drew) (unhide ha5).2 hsq5 t ht;have hin:Hid (∀ w',Pl w PA f t u w'->Pl w PA f t u w'/\w'.cell? ⟨w.heap.size+1,1,none⟩=some (.int .i64 (t:Int))/\w'.cell? ⟨w.heap.size+1,2,none⟩=some (.int .u8 (u.toNat:Int))):=hide (fun w' h=>⟨h,(mv_cells h.mv).2.1,(mv_cells h.mv).2.2⟩);go_region_held3 (fun w'=>Pl w PA f t u w'/\w'.cell? ⟨w.heap.size+1,1,none⟩=some (.int .i64 (t:Int))/\w'.cell? ⟨w.heap.size+1,2,none⟩=some (.int .u8 (u.toNat:Int))) (first|exact unhide hin _ hpl5.drew|exact unhide hin _ (Pl.set hpl5.drew _ _)|exact unhide hin _ (And.left (by assumption))) (first|(go_at_call 189;refine (unhide htu _).mono ?_;rintro e w6 ⟨rfl,rfl⟩));show Exit.then _ _ _ _ (w5.setCell ⟨w.heap.size+3,t,none⟩ (.int .u8 ((trn (z f) u).toNat:Int))).drew;have hpl6:=(hpl5.set t (.int .u8 ((trn (z f) u).toNat:Int))).drew;have hsq6:(w5.setCell ⟨w.heap.size+3,t,none⟩ (.int .u8 ((trn (z f) u).toNat:Int))).drew.heap[w.heap.size+3]?=_:=set_row3 (i:=t) (v:=.int .u8 ((trn (z f) u).toNat:Int)) hsq5;have ha6:Hid (Arr (upd (upd z f 46) t (trn (z f) u)) (A5.setIfInBounds t (.int .u8 ((trn (z f) u).toNat:Int)))):=hide ((unhide ha5).set t (trn (z f) u));generalize (w5.setCell ⟨w.heap.size+3,t,none⟩ (.int .u8 ((trn (z f) u).toNat:Int))).drew=w6 at hpl6 hsq6 ⊢;generalize A5.setIfInBounds t (.int .u8 ((trn (z f) u).toNat:Int))=A6 at hsq6 ha6
 have hplz:Hid (plZ z b (f,t,u)=if pawnB (z f)&&((t:Int)==b) then upd (upd (upd z f 46) t (trn (z f) u)) (f/8*8+t%8) 46
  else if kingB (z f)&&(t==f+2) then upd (upd (upd (upd z f 46) t (trn (z f) u)) (f+1) (upd (upd z f 46) t (trn (z f) u) (f+3))) (f+3) 46
  else if kingB (z f)&&(t+2==f) then upd (upd (upd (upd z f 46) t (trn (z f) u)) (f-1) (upd (upd z f 46) t (trn (z f) u) (f-4))) (f-4) 46
  else upd (upd z f 46) t (trn (z f) u)):=hide rfl
 generalize upd (upd z f 46) t (trn (z f) u)=z1 at ha6 hplz;have hpw:=hide (fun W=>isPawn_any (z f) W);have hkg:=hide (fun W=>isKing_any (z f) W);have hpk:Hid (pawnB (z f)=true->kingB (z f)=false):=hide (pawn_king (z f));obtain ⟨c1',c2',c3'⟩:=mv_cells hpl6.mv;have c69:w6.cell? ⟨w.heap.size,69,none⟩=some (.int .i64 b):=by rw [cell_of_row _ _ _ _ _ _ hpl6.pa];exact (unhide hr).b
 clear hpl5 hsq5 ha5 c1 c2 c3 o5 c5 hin htu ha4 hL;obtain ⟨pw,hpw0⟩:∃ x,pawnB (z f)=x:=⟨_,rfl⟩;obtain ⟨kb,hkb0⟩:∃ x,kingB (z f)=x:=⟨_,rfl⟩;rw [hpw0] at hpw hplz hpk;rw [hkb0] at hkg hplz hk1 hk2 hpk;have fin:Hid (∀ (A:Array Value) (W:World),Arr (plZ z b (f,t,u)) A->Pl w PA f t u W->W.heap[w.heap.size+3]?=some (.cells A 67)->(Tryz.prog.info? 67).map (·.size)=some A.size/\A.size=Z64.size/\A.all (·.oneCell')=true/\(W.setRow (w.heap.size+2) A).heap[w.heap.size+2]?=some (.cells A 67)/\Gr w (W.setRow (w.heap.size+2) A)):=hide (fun A W ha hp hs=>⟨by rw [ha.1];exact info64,by rw [ha.1];rfl,ha.ones,setRow_heap _ _ _ A _ _ hp.rs,hp.gr.setRow _ (by omega) _⟩);by_cases hpe:(pw&&((t:Int)==b))=true
 ·obtain ⟨rfl,htb⟩:pw=true/\((t:Int)==b)=true:=by simpa using hpe
  have hz2:Hid (plZ z b (f,t,u)=upd z1 (f/8*8+t%8) 46):=hide (by rw [unhide hplz,htb];rfl);have l1:(f/8*8+t%8)<64:=by omega
  have o6:=row_open (i:=(f/8*8+t%8)) hsq6;have c6:=bd_of (unhide ha6).2 hsq6 (f/8*8+t%8) l1;have hsq7:=set_row3 (i:=(f/8*8+t%8)) (v:=.int .u8 46) hsq6;have ha7:Hid (Arr (plZ z b (f,t,u)) (A6.setIfInBounds (f/8*8+t%8) (.int .u8 46))):=hide (by rw [unhide hz2];exact (unhide ha6).set (f/8*8+t%8) 46);obtain ⟨r1,r2,r3,r4,r5⟩:=unhide fin _ _ (unhide ha7) (hpl6.set (f/8*8+t%8) _) hsq7;have hrs:=(hpl6.set (f/8*8+t%8) (.int .u8 46)).rs;clear hplz hk1 hk2 hpk;go_upto_region 11 with (go_at_call 121;refine (unhide hpw _).mono ?_;rintro e w' ⟨rfl,rfl⟩);show Code.wp _ _ _ _ (w'.setCell ⟨w.heap.size+3,(f/8*8+t%8),none⟩ (.int .u8 46));generalize w'.setCell ⟨w.heap.size+3,(f/8*8+t%8),none⟩ (.int .u8 46)=w7 at hsq7 r4 r5 hrs ⊢;generalize A6.setIfInBounds (f/8*8+t%8) (.int .u8 46)=A7 at hsq7 ha7 r1 r2 r3 r4 r5;clear o6 c6 hpl6 hsq6 ha6 c1' c2' c3' c69
  go_wp2_with (first
   | (refine wpList_load_row rfl 67 _ rfl (w.heap.size+3) rfl 67 A7 (0,0) _ hsq7 Tryz.underlying67 rfl r1 ?_)
   | (refine wpList_store_row rfl 67 _ _ rfl (w.heap.size+2) A7 rfl rfl 67 Z64 hrs r1 r2.symm r3 ?_))
  exact bodyPost_ret (v:=.agg A7) (results_cell_row Tryz.results98 _ _ (w.heap.size+2) 67 A7 (0,0) _ rfl r4 Tryz.underlying67 rfl r1) rfl ⟨_,rfl,unhide ha7,r5⟩
 ·cases pw
  ·cases kb
   ·have ha7:Hid (Arr (plZ z b (f,t,u)) A6):=hide (by rw [show plZ z b (f,t,u)=z1 from by rw [unhide hplz];simp];exact unhide ha6);obtain ⟨r1,r2,r3,r4,r5⟩:=unhide fin _ _ (unhide ha7) hpl6 hsq6;have hrs:=(hpl6).rs;clear hplz hk1 hk2 hpk ha6;go_upto_region 11 with (first|(go_at_call 121;refine (unhide hpw _).mono ?_;rintro e w' ⟨rfl,rfl⟩)|(go_at_call 120;refine (unhide hkg _).mono ?_;rintro e w'' ⟨rfl,rfl⟩))
    go_wp2_with (first
     | (refine wpList_load_row rfl 67 _ rfl (w.heap.size+3) rfl 67 A6 (0,0) _ hsq6 Tryz.underlying67 rfl r1 ?_)
     | (refine wpList_store_row rfl 67 _ _ rfl (w.heap.size+2) A6 rfl rfl 67 Z64 hrs r1 r2.symm r3 ?_))
    exact bodyPost_ret (v:=.agg A6) (results_cell_row Tryz.results98 _ _ (w.heap.size+2) 67 A6 (0,0) _ rfl r4 Tryz.underlying67 rfl r1) rfl ⟨_,rfl,unhide ha7,r5⟩
   ·by_cases htf:t=f+2
    ·have hb:=hk1 rfl htf;have hz2:Hid (plZ z b (f,t,u)=upd (upd z1 (f+1) (z1 (f+3))) (f+3) 46):=hide (by rw [unhide hplz];simp [htf]);obtain ⟨pp1,hp1⟩:∃ p,Hid (p=f+1):=⟨_,hide rfl⟩;obtain ⟨pp3,hp3⟩:∃ p,Hid (p=f+3):=⟨_,hide rfl⟩;rw [<-unhide hp1,<-unhide hp3] at hz2;have e1:IntKind.i64.wrap ((f:Int)+1)=(pp1:Int):=by rw [IntKind.wrap_i64];have:=unhide hp1;omega
     have e3:IntKind.i64.wrap ((f:Int)+3)=(pp3:Int):=by rw [IntKind.wrap_i64];have:=unhide hp3;omega
     have l1:pp1<64:=by have:=unhide hp1;omega
     have l3:pp3<64:=by have:=unhide hp3;omega
     have l13:pp3≠pp1:=by have:=unhide hp1;have:=unhide hp3;omega
     have i1:(0:Int)<=(pp1:Int):=by omega
     have i2:(pp1:Int)<64:=by omega
     have i3:(0:Int)<=(pp3:Int):=by omega
     have i4:(pp3:Int)<64:=by omega
     have hE:((t:Int)==(f:Int)+2)=true:=by simp;omega
     clear hplz hk1 hk2 hpk;go_upto_region 8 with (first|(go_at_call 121;refine (unhide hpw _).mono ?_;rintro e w' ⟨rfl,rfl⟩)|(go_at_call 120;refine (unhide hkg _).mono ?_;rintro e w'' ⟨rfl,rfl⟩));refine wp_region_held_drew (S:=Pl w PA f t u) (by kernel_rfl) hpl6.drew (fun hS=>?_)
     skip
     refine C.tq 0 (.pointer (some ⟨w.heap.size+1,0,none⟩)) hS ?_;refine C.ty 1 (.int .i64 (f:Int)) rfl (.inl ⟨by rfl,fun w hw=>(by have c1:=(mv_cells hw.mv).1;go_simp)⟩) hS ?_;refine C.tq 2 (.int .i64 (pp1:Int)) hS ?_;refine C.tq 3 (.pointer (some ⟨w.heap.size+1,0,none⟩)) hS ?_;refine C.ty 4 (.int .i64 (f:Int)) rfl (.inl ⟨by rfl,fun w hw=>(by have c1:=(mv_cells hw.mv).1;go_simp)⟩) hS ?_;refine C.tq 5 (.int .i64 (pp3:Int)) hS ?_;refine C.tq 6 (.pointer (some ⟨w.heap.size+1,0,none⟩)) hS ?_;refine C.ty 7 (.int .i64 (f:Int)) rfl (.inl ⟨by rfl,fun w hw=>(by have c1:=(mv_cells hw.mv).1;go_simp)⟩) hS ?_;refine C.tq 8 (.int .i64 (pp3:Int)) hS ?_;refine C.tq 9 (.pointer (some ⟨w.heap.size+3,pp3,none⟩)) hS ?_;have hsd:w''.drew.heap[w.heap.size+3]?=some (.cells A6 67):=hsq6;have g1:=bd_of (unhide ha6).2 hsd pp3 l3;have g2:=bd_of (unhide ha6).2 hsd pp1 l1;have g3:=row_open (i:=pp1) hsd;refine C.rd 10 fun K hK=>?_
     go_simp;refine hK.out _ _ hS (fun hS=>?_);clear hK K;refine C.tq 11 (.pointer (some ⟨w.heap.size+3,pp1,none⟩)) hS ?_;refine C.rd 12 fun K hK=>?_
     go_simp;refine hK.out _ _ (hS.set pp1 _) (fun hS=>?_);clear hK K;have hse:=set_row3 (i:=pp1) (v:=.int .u8 ((z1 pp3).toNat:Int)) hsd;have hae:Hid (Arr (upd z1 pp1 (z1 pp3)) (A6.setIfInBounds pp1 (.int .u8 ((z1 pp3).toNat:Int)))):=hide ((unhide ha6).set pp1 (z1 pp3));change Pl w PA f t u (w''.drew.setCell ⟨w.heap.size+3,pp1,none⟩ (.int .u8 ((z1 pp3).toNat:Int))) at hS;change wpAnyH _ _ _ _ _ _ _ _ (w''.drew.setCell ⟨w.heap.size+3,pp1,none⟩ (.int .u8 ((z1 pp3).toNat:Int)));generalize w''.drew.setCell ⟨w.heap.size+3,pp1,none⟩ (.int .u8 ((z1 pp3).toNat:Int))=wa at hS hse ⊢;generalize A6.setIfInBounds pp1 (.int .u8 ((z1 pp3).toNat:Int))=A7 at hse hae;have g4:=bd_of (unhide hae).2 hse pp3 l3;have g5:=row_open (i:=pp3) hse;refine C.tq 13 (.pointer (some ⟨w.heap.size+3,pp3,none⟩)) hS ?_;refine C.rd 14 fun K hK=>?_
     go_simp;refine hK.out _ _ (hS.set pp3 _) (fun hS=>?_);clear hK K;have hsf:=set_row3 (i:=pp3) (v:=.int .u8 46) hse;have haf:Hid (Arr (plZ z b (f,t,u)) (A7.setIfInBounds pp3 (.int .u8 46))):=hide (by rw [unhide hz2];exact (unhide hae).set pp3 46);change Pl w PA f t u (wa.setCell ⟨w.heap.size+3,pp3,none⟩ (.int .u8 46)) at hS;change wpAnyH _ _ _ _ _ _ _ _ (wa.setCell ⟨w.heap.size+3,pp3,none⟩ (.int .u8 46));generalize wa.setCell ⟨w.heap.size+3,pp3,none⟩ (.int .u8 46)=wb at hS hsf ⊢;generalize A7.setIfInBounds pp3 (.int .u8 46)=A8 at hsf haf;refine wpAnyH_done (by kernel_rfl) ?_ _;obtain ⟨r1,r2,r3,r4,r5⟩:=unhide fin _ _ (unhide haf) hS hsf;have hrs:=hS.rs;clear hpl6 hsq6 hsd hse g1 g2 g3 g4 g5 c1' c2' c3' c69 hS hae ha6
     go_wp2_with (first
      | (refine wpList_load_row rfl 67 _ rfl (w.heap.size+3) rfl 67 A8 (0,0) _ hsf Tryz.underlying67 rfl r1 ?_)
      | (refine wpList_store_row rfl 67 _ _ rfl (w.heap.size+2) A8 rfl rfl 67 Z64 hrs r1 r2.symm r3 ?_))
     exact bodyPost_ret (v:=.agg A8) (results_cell_row Tryz.results98 _ _ (w.heap.size+2) 67 A8 (0,0) _ rfl r4 Tryz.underlying67 rfl r1) rfl ⟨_,rfl,unhide haf,r5⟩
    ·have hnr:(t==f+2)=false:=by simpa using htf
     by_cases htg:t+2=f
     ·have htf:=htg;have hb:=hk2 rfl htf;have hz2:Hid (plZ z b (f,t,u)=upd (upd z1 (f-1) (z1 (f-4))) (f-4) 46):=hide (by rw [unhide hplz];simp [htf,hnr]);obtain ⟨pp1,hp1⟩:∃ p,Hid (p=f-1):=⟨_,hide rfl⟩;obtain ⟨pp3,hp3⟩:∃ p,Hid (p=f-4):=⟨_,hide rfl⟩;rw [<-unhide hp1,<-unhide hp3] at hz2;have e1:IntKind.i64.wrap ((f:Int)-1)=(pp1:Int):=by rw [IntKind.wrap_i64];have:=unhide hp1;omega
      have e3:IntKind.i64.wrap ((f:Int)-4)=(pp3:Int):=by rw [IntKind.wrap_i64];have:=unhide hp3;omega
      have l1:pp1<64:=by have:=unhide hp1;omega
      have l3:pp3<64:=by have:=unhide hp3;omega
      have l13:pp3≠pp1:=by have:=unhide hp1;have:=unhide hp3;omega
      have i1:(0:Int)<=(pp1:Int):=by omega
      have i2:(pp1:Int)<64:=by omega
      have i3:(0:Int)<=(pp3:Int):=by omega
      have i4:(pp3:Int)<64:=by omega
      have hE0:((t:Int)==(f:Int)+2)=false:=by simp;omega
      have hE:((t:Int)==(f:Int)-2)=true:=by simp;omega
      clear hplz hk1 hk2 hpk;go_upto_region 10 with (first|(go_at_call 121;refine (unhide hpw _).mono ?_;rintro e w' ⟨rfl,rfl⟩)|(go_at_call 120;refine (unhide hkg _).mono ?_;rintro e w'' ⟨rfl,rfl⟩));refine wp_region_held_drew (S:=Pl w PA f t u) (by kernel_rfl) hpl6.drew (fun hS=>?_)
      skip
      refine C.tq 0 (.pointer (some ⟨w.heap.size+1,0,none⟩)) hS ?_;refine C.ty 1 (.int .i64 (f:Int)) rfl (.inl ⟨by rfl,fun w hw=>(by have c1:=(mv_cells hw.mv).1;go_simp)⟩) hS ?_;refine C.tq 2 (.int .i64 (pp1:Int)) hS ?_;refine C.tq 3 (.pointer (some ⟨w.heap.size+1,0,none⟩)) hS ?_;refine C.ty 4 (.int .i64 (f:Int)) rfl (.inl ⟨by rfl,fun w hw=>(by have c1:=(mv_cells hw.mv).1;go_simp)⟩) hS ?_;refine C.tq 5 (.int .i64 (pp3:Int)) hS ?_;refine C.tq 6 (.pointer (some ⟨w.heap.size+1,0,none⟩)) hS ?_;refine C.ty 7 (.int .i64 (f:Int)) rfl (.inl ⟨by rfl,fun w hw=>(by have c1:=(mv_cells hw.mv).1;go_simp)⟩) hS ?_;refine C.tq 8 (.int .i64 (pp3:Int)) hS ?_;refine C.tq 9 (.pointer (some ⟨w.heap.size+3,pp3,none⟩)) hS ?_;have hsd:w''.drew.heap[w.heap.size+3]?=some (.cells A6 67):=hsq6;have g1:=bd_of (unhide ha6).2 hsd pp3 l3;have g2:=bd_of (unhide ha6).2 hsd pp1 l1;have g3:=row_open (i:=pp1) hsd;refine C.rd 10 fun K hK=>?_
      go_simp;refine hK.out _ _ hS (fun hS=>?_);clear hK K;refine C.tq 11 (.pointer (some ⟨w.heap.size+3,pp1,none⟩)) hS ?_;refine C.rd 12 fun K hK=>?_
      go_simp;refine hK.out _ _ (hS.set pp1 _) (fun hS=>?_);clear hK K;have hse:=set_row3 (i:=pp1) (v:=.int .u8 ((z1 pp3).toNat:Int)) hsd;have hae:Hid (Arr (upd z1 pp1 (z1 pp3)) (A6.setIfInBounds pp1 (.int .u8 ((z1 pp3).toNat:Int)))):=hide ((unhide ha6).set pp1 (z1 pp3));change Pl w PA f t u (w''.drew.setCell ⟨w.heap.size+3,pp1,none⟩ (.int .u8 ((z1 pp3).toNat:Int))) at hS;change wpAnyH _ _ _ _ _ _ _ _ (w''.drew.setCell ⟨w.heap.size+3,pp1,none⟩ (.int .u8 ((z1 pp3).toNat:Int)));generalize w''.drew.setCell ⟨w.heap.size+3,pp1,none⟩ (.int .u8 ((z1 pp3).toNat:Int))=wa at hS hse ⊢;generalize A6.setIfInBounds pp1 (.int .u8 ((z1 pp3).toNat:Int))=A7 at hse hae;have g4:=bd_of (unhide hae).2 hse pp3 l3;have g5:=row_open (i:=pp3) hse;refine C.tq 13 (.pointer (some ⟨w.heap.size+3,pp3,none⟩)) hS ?_;refine C.rd 14 fun K hK=>?_
      go_simp;refine hK.out _ _ (hS.set pp3 _) (fun hS=>?_);clear hK K;have hsf:=set_row3 (i:=pp3) (v:=.int .u8 46) hse;have haf:Hid (Arr (plZ z b (f,t,u)) (A7.setIfInBounds pp3 (.int .u8 46))):=hide (by rw [unhide hz2];exact (unhide hae).set pp3 46);change Pl w PA f t u (wa.setCell ⟨w.heap.size+3,pp3,none⟩ (.int .u8 46)) at hS;change wpAnyH _ _ _ _ _ _ _ _ (wa.setCell ⟨w.heap.size+3,pp3,none⟩ (.int .u8 46));generalize wa.setCell ⟨w.heap.size+3,pp3,none⟩ (.int .u8 46)=wb at hS hsf ⊢;generalize A7.setIfInBounds pp3 (.int .u8 46)=A8 at hsf haf;refine wpAnyH_done (by kernel_rfl) ?_ _;obtain ⟨r1,r2,r3,r4,r5⟩:=unhide fin _ _ (unhide haf) hS hsf;have hrs:=hS.rs;clear hpl6 hsq6 hsd hse g1 g2 g3 g4 g5 c1' c2' c3' c69 hS hae ha6
      go_wp2_with (first
       | (refine wpList_load_row rfl 67 _ rfl (w.heap.size+3) rfl 67 A8 (0,0) _ hsf Tryz.underlying67 rfl r1 ?_)
       | (refine wpList_store_row rfl 67 _ _ rfl (w.heap.size+2) A8 rfl rfl 67 Z64 hrs r1 r2.symm r3 ?_))
      exact bodyPost_ret (v:=.agg A8) (results_cell_row Tryz.results98 _ _ (w.heap.size+2) 67 A8 (0,0) _ rfl r4 Tryz.underlying67 rfl r1) rfl ⟨_,rfl,unhide haf,r5⟩
     ·have hE0:((t:Int)==(f:Int)+2)=false:=by simp;omega
      have hE1:((t:Int)==(f:Int)-2)=false:=by simp;omega
      have ha7:Hid (Arr (plZ z b (f,t,u)) A6):=hide (by rw [show plZ z b (f,t,u)=z1 from by rw [unhide hplz];simp [htf,htg]];exact unhide ha6);obtain ⟨r1,r2,r3,r4,r5⟩:=unhide fin _ _ (unhide ha7) hpl6 hsq6;have hrs:=(hpl6).rs;clear hplz hk1 hk2 hpk ha6;go_upto_region 11 with (first|(go_at_call 121;refine (unhide hpw _).mono ?_;rintro e w' ⟨rfl,rfl⟩)|(go_at_call 120;refine (unhide hkg _).mono ?_;rintro e w'' ⟨rfl,rfl⟩))
      go_wp2_with (first
       | (refine wpList_load_row rfl 67 _ rfl (w.heap.size+3) rfl 67 A6 (0,0) _ hsq6 Tryz.underlying67 rfl r1 ?_)
       | (refine wpList_store_row rfl 67 _ _ rfl (w.heap.size+2) A6 rfl rfl 67 Z64 hrs r1 r2.symm r3 ?_))
      exact bodyPost_ret (v:=.agg A6) (results_cell_row Tryz.results98 _ _ (w.heap.size+2) 67 A6 (0,0) _ rfl r4 Tryz.underlying67 rfl r1) rfl ⟨_,rfl,unhide ha7,r5⟩
  ·have htb:((t:Int)==b)=false:=by simpa using hpe
   obtain rfl:kb=false:=unhide hpk rfl;have ha7:Hid (Arr (plZ z b (f,t,u)) A6):=hide (by rw [show plZ z b (f,t,u)=z1 from by rw [unhide hplz];simp [htb]];exact unhide ha6);obtain ⟨r1,r2,r3,r4,r5⟩:=unhide fin _ _ (unhide ha7) hpl6 hsq6;have hrs:=(hpl6).rs;clear hplz hk1 hk2 hpk ha6;go_upto_region 11 with (first|(go_at_call 121;refine (unhide hpw _).mono ?_;rintro e w' ⟨rfl,rfl⟩)|(go_at_call 120;refine (unhide hkg _).mono ?_;rintro e w'' ⟨rfl,rfl⟩))
   go_wp2_with (first
    | (refine wpList_load_row rfl 67 _ rfl (w.heap.size+3) rfl 67 A6 (0,0) _ hsq6 Tryz.underlying67 rfl r1 ?_)
    | (refine wpList_store_row rfl 67 _ _ rfl (w.heap.size+2) A6 rfl rfl 67 Z64 hrs r1 r2.symm r3 ?_))
   exact bodyPost_ret (v:=.agg A6) (results_cell_row Tryz.results98 _ _ (w.heap.size+2) 67 A6 (0,0) _ rfl r4 Tryz.underlying67 rfl r1) rfl ⟨_,rfl,unhide ha7,r5⟩
end Go.Proofs.YtnfakamfmkhlbabGreatDoor.C
namespace Go.Proofs.YtnfakamfmkhlbabGreatDoor.C
open Go.ChangeShapes Go.WideShapes Go.ChangeAt Go.RowKit Go.Shelf
open Go.Proofs.YtnfakamfmkhlbabGreatDoor.P
attribute [local go_sem] setCell_drewN alloc_drewN Oper.semAt_some
structure Jd (w:World) (PA A:Array Value) (Bp Bs:Nat) (W:World):Prop where
 pa:W.heap[Bp]?=some (.cells PA 70)
 sq:W.heap[Bs]?=some (.cells A 67)
 gr:Gr w W
theorem Jd.next {w:World} {PA A:Array Value} {Bp Bs:Nat} {W W':World} (h:Jd w PA A Bp Bs W) (g:Gr W W'):Jd w PA A Bp Bs W' :=
 ⟨(Below.block g _ (Array.getElem?_eq_some_iff.1 h.pa).1).trans h.pa,(Below.block g _ (Array.getElem?_eq_some_iff.1 h.sq).1).trans h.sq,Gr.trans h.gr g⟩
theorem y_arr {ops:Array Oper} {op:Oper} {a:Act} {A:Array Value} {S:World->Prop} (hz:A.size=64) (hw:Region.wanted op (yielded ops a.tmps)=true) (x:Operand) (ho:op.op=.load 67 x) (b:Nat) (hx:a.eval x=.pointer (some ⟨b,0,none⟩)) (hS:∀ w,S w->w.heap[b]?=some (.cells A 67)):YieldsIf Tryz.prog ops S op (.agg A) a:=by
 have:=yieldsIf_load_mid (P:=Tryz.prog) hw 67 x ho b 0 hx A.toList _ (fun w h j v hv=>by rw [cell_of_row _ _ _ _ _ _ (hS w h),Nat.zero_add,<-Array.getElem?_toList];exact hv) Tryz.underlying67 rfl (by rw [info64];simp [hz])
 rwa [Array.toArray_toList] at this
theorem judge_any {z:Nat->UInt8} {wh:Bool} {fc:Nat->Bool} {b h g:Int} {PA:Array Value} (r:Row z wh fc b h g PA) (f t:Nat) (u:UInt8) (hf:f<64) (ht:t<64) (hk1:kingB (z f)=true->t=f+2->f+3<64) (hk2:kingB (z f)=true->t+2=f->4<=f) (y:Nat) (hy:y<64) (hky:kingR (plZ z b (f,t,u)) wh=(y:Int))
  (Bp:Nat) (w:World) (hp:w.heap[Bp]?=some (.cells PA 70)) (hS:StTab w) :
  Calls Tryz.prog 153 #[mvV (f,t,u),.pointer (some ⟨Bp,0,none⟩)] w fun e w'=>e=.returned (.bool (!(attLB (plZ z b (f,t,u)) y (!wh))))/\Gr w w':=by
 simp only [mvV];have hpl:=hide (fun W=>placeL_any r f t u hf ht hk1 hk2 W);have hi72:(Tryz.prog.info? 70).map (·.size)=some PA.size:=by rw [r.size];exact infoP72
 have hwh:=r.wh;clear r hk1 hk2;have hp1:(w.alloc (.cells #[.int .i64 (f:Int),.int .i64 (t:Int),.int .u8 (u.toNat:Int)] 87)).heap[Bp]?=some (.cells PA 70):=(Below.heap_alloc _ _ _ (Array.getElem?_eq_some_iff.1 hp).1).trans hp;have hg1:Gr w (w.alloc (.cells #[.int .i64 (f:Int),.int .i64 (t:Int),.int .u8 (u.toNat:Int)] 87)):=(Gr.refl w).alloc _ _;obtain ⟨c1,c2,c3⟩:=mv_cells (World.alloc_heap_new w (.cells #[.int .i64 (f:Int),.int .i64 (t:Int),.int .u8 (u.toNat:Int)] 87));go_enter Tryz.func153,Tryz.ntmps153;generalize hZ:plZ z b (f,t,u)=Z at hpl hky
 go_upto_region 2 with (first
  | (refine wpList_load_row rfl 70 _ rfl Bp rfl 70 PA (0,0) _ hp1 Tryz.underlying70 rfl hi72 ?_)
  | (go_at_call 98;refine (unhide hpl _).mono ?_;rintro e w2 ⟨A,rfl,hA,hg2⟩)
  | (refine wpList_store_row rfl 67 _ _ rfl w2.heap.size A rfl rfl 67 Z64 (World.alloc_heap_new _ _) (by rw [hA.1];exact info64) (by rw [hA.1];rfl) hA.ones ?_))
 show Code.wp _ _ _ _ ((w2.alloc (.cells Z64 67)).setRow w2.heap.size A);have hgw2:=Gr.trans hg1 hg2
 have hJ:Jd w PA A Bp w2.heap.size ((w2.alloc (.cells Z64 67)).setRow w2.heap.size A):=by
  have hg3:Gr w2 ((w2.alloc (.cells Z64 67)).setRow w2.heap.size A):=((Gr.refl w2).alloc _ _).setRow _ (Nat.le_refl _) _;exact ⟨(Below.block (Gr.trans hgw2 hg3) _ (Array.getElem?_eq_some_iff.1 hp).1).trans hp,setRow_heap _ _ _ A _ _ (World.alloc_heap_new _ _),Gr.trans hgw2 hg3⟩
 generalize (w2.alloc (.cells Z64 67)).setRow w2.heap.size A=w3 at hJ ⊢;generalize w2.heap.size=Bs at hJ ⊢;have hking:=hide (fun W=>kingP_any Z A hA.2 wh W);rw [hky] at hking;have hatt:=hide (fun W hS=>attL_any Z A hA.1 hA.2 y hy (!wh) W hS);obtain ⟨v,hv⟩:∃ v,Hid (v=attLB Z y (!wh)):=⟨_,hide rfl⟩;rw [<-unhide hv] at hatt;have hzA:=hA.1;have hZ':=hide hZ;clear hp1 hg1 c1 c2 c3 hpl hg2 hgw2 hA hky hZ;refine wp_region_held_drew (S:=Jd w PA A Bp Bs) (by kernel_rfl) (hJ.next (Gr.refl _).drew) (fun hHeld=>?_);refine C.ty 0 (.agg A) rfl (y_arr hzA (by rfl) _ rfl Bs rfl (fun _ h=>h.sq)) hHeld ?_;refine C.ty 1 (.agg A) rfl (y_arr hzA (by rfl) _ rfl Bs rfl (fun _ h=>h.sq)) hHeld ?_;refine C.tq 2 (.pointer (some ⟨Bp,64,none⟩)) hHeld ?_;refine C.ty 3 (.bool wh) rfl (Or.inl ⟨by rfl,fun w hw=>(by have cw:w.cell? ⟨Bp,64,none⟩=some (.bool wh):=(by rw [cell_of_row _ _ _ _ _ _ hw.pa];exact hwh);go_simp)⟩) hHeld ?_;refine C.tq 5 (.pointer (some ⟨Bp,64,none⟩)) hHeld ?_;refine C.ty 6 (.bool wh) rfl (Or.inl ⟨by rfl,fun w hw=>(by have cw:w.cell? ⟨Bp,64,none⟩=some (.bool wh):=(by rw [cell_of_row _ _ _ _ _ _ hw.pa];exact hwh);go_simp)⟩) hHeld ?_;refine C.tq 7 (.bool (!wh)) hHeld ?_;refine C.rd 4 fun K hK=>?_
 go_simp;refine (unhide hking _).mono ?_;rintro e wa ⟨rfl,hga⟩;refine hK.out _ _ (hHeld.next hga) (fun hHeld=>?_);clear hK K hga;refine C.rd 8 fun K hK=>?_
 go_simp;refine (unhide hatt _ (hS.gr hHeld.gr)).mono ?_;rintro e wb ⟨rfl,hgb⟩;refine hK.out _ _ (hHeld.next hgb) (fun hHeld=>?_);clear hK K hgb;refine C.tq 9 (.bool (!v)) hHeld ?_;refine C.rd 10 fun K hK=>?_
 go_simp;refine hK.out _ _ hHeld (fun hHeld=>?_);clear hK K;refine wpAnyH_done (by kernel_rfl) ?_ _;go_wp2_with fail;go_ret;exact ⟨by rw [unhide hv,<-unhide hZ'];rfl,hHeld.gr⟩
theorem allMoves_mk (Bp:Nat) (w:World):Calls Tryz.prog 152 #[.pointer (some ⟨Bp,0,none⟩)] w fun e w'=>e=.returned (.func (.func 223) #[] #[.pointer (some ⟨w.heap.size,0,none⟩)])/\w'.heap[w.heap.size]?=some (.cells #[.pointer (some ⟨Bp,0,none⟩)] 229)/\Gr w w':=by
 have hmf:∀ (fn:Fn) (first cap:Array Value) (w:World),(Instr.makeFunc fn first cap).run Tryz.prog w=.ok (.func fn first cap) w:=fun _ _ _ _=>rfl
 go_enter Tryz.func152,Tryz.ntmps152;go_wp2;go_ret;exact ⟨rfl,World.alloc_heap_new w _,(Gr.refl w).alloc _ _⟩
def letP (z:Nat->UInt8) (wh:Bool) (b:Int) (x:Mv):Bool:=!(attLB (plZ z b x) (kingR (plZ z b x) wh).toNat (!wh))
def letL (z:Nat->UInt8) (wh:Bool) (fc:Nat->Bool) (b:Int):List Mv:=(alU z wh fc b 64).filter (letP z wh b)
structure LetOk (z:Nat->UInt8) (wh:Bool) (fc:Nat->Bool) (b:Int):Prop where
 home:KgHome z wh fc
 k1:∀ f t u,(f,t,u)∈alU z wh fc b 64->kingB (z f)=true->t=f+2->f+3<64
 k2:∀ f t u,(f,t,u)∈alU z wh fc b 64->kingB (z f)=true->t+2=f->4<=f
 kg:∀ x,x∈alU z wh fc b 64->∃ y:Nat,y<64/\kingR (plZ z b x) wh=(y:Int)
theorem alU_ok {z:Nat->UInt8} {wh:Bool} {fc:Nat->Bool} {b:Int} (hh:KgHome z wh fc) {x:Mv} (h:x∈alU z wh fc b 64):okM x:=by
 unfold alU alS at h;obtain ⟨f,hf,h⟩:=List.mem_flatMap.1 h;have hf':=List.mem_range.1 hf;split at h
 ·rename_i hm;obtain ⟨t,ht,h⟩:=List.mem_flatMap.1 h;exact turns_ok hf' (tg_lt hf' (hh f hf' hm) ht) h
 ·cases h
theorem attS_len (z:Nat->UInt8) (f k:Nat):(attS z f k).length<=8:=by
 have hw:∀ n x,(wkN z (stN k) n x).length<=n:=by
  intro n;induction n with
  | zero=>intro x;simp [wkN]
  | succ n ih =>
   intro x;unfold wkN;split
   ·have:=ih (nx x (stN k));split
    ·simp;omega
    ·simp
   ·simp
 unfold attS;split
 ·split
  ·exact hw 8 f
  ·have:=hw 8 f;simp only [List.length_take];unfold wkL;omega
 ·simp
theorem tg_len (z:Nat->UInt8) (wh:Bool) (fc:Nat->Bool) (b:Int) (f:Nat):(tgL z wh fc b f).length<=130:=by
 unfold tgL;rw [List.length_append];have h1:((attU z f 16).filter (mayB z wh b f)).length<=16*8:=Nat.le_trans (List.length_filter_le _ _) (flat_bound (by simp) fun k _=>attS_len z f k)
 have h2:(if pawnB (z f) then ahT z (ahM wh f) (wkL z (0,ahS wh) f) else if kingB (z f) then cgR z wh fc f++cgM z wh fc f else []).length<=2:=by
  split
  ·unfold ahT;have e1:=(List.takeWhile_prefix (fun v=>z v==46) (l:=(wkL z (0,ahS wh) f).take (ahM wh f))).length_le;have e2:=List.length_take_le (ahM wh f) (wkL z (0,ahS wh) f);have e3:=ahM_le wh f;omega
  ·split
   ·rw [List.length_append];have e1:(cgR z wh fc f).length<=1:=by unfold cgR;split<;>simp
    have e2:(cgM z wh fc f).length<=1:=by unfold cgM;split<;>simp
    omega
   ·simp
 omega
theorem letL_len (z:Nat->UInt8) (wh:Bool) (fc:Nat->Bool) (b:Int):(letL z wh fc b).length<=1000000:=by
 have h:(alU z wh fc b 64).length<=64*(130*4):=by
  unfold alU;refine flat_bound (by simp) fun f _=>?_
  unfold alS;split
  ·exact flat_bound (tg_len z wh fc b f) fun t _=>turns_len _ _ _
  ·simp
 have:=List.length_filter_le (letP z wh b) (alU z wh fc b 64);unfold letL;omega
theorem lettersMoves_mk (PA:Array Value) (w:World):Calls Tryz.prog 65 #[.agg PA] w fun e w'=>∃ B1 Bt Bf,e=.returned (.func (.func 155) #[] #[.pointer (some ⟨Bt,0,none⟩),.pointer (some ⟨Bf,0,none⟩)])/\w'.heap[w.heap.size]?=some (.cells PA 70)/\w'.heap[B1]?=some (.cells #[.pointer (some ⟨w.heap.size,0,none⟩)] 229)/\w'.heap[Bt]?=some (.cells #[.func (.func 223) #[] #[.pointer (some ⟨B1,0,none⟩)]] 141)/\w'.heap[Bf]?=some (.cells #[.func (.func 153) #[] #[.pointer (some ⟨w.heap.size,0,none⟩)]] 143)/\Gr w w':=by
 have hmf:∀ (fn:Fn) (first cap:Array Value) (w:World),(Instr.makeFunc fn first cap).run Tryz.prog w=.ok (.func fn first cap) w:=fun _ _ _ _=>rfl
 have x1:=World.alloc_heap_new w (.cells PA 70);have hg1:Gr w (w.alloc (.cells PA 70)):=(Gr.refl w).alloc _ _;go_enter Tryz.func65,Tryz.ntmps65
 go_wp2_with (first
  | (go_at_call 152;refine (allMoves_mk _ _).mono ?_;rintro e w2 ⟨rfl,x2,hg2⟩)
  | (go_at_call 67;refine (only_mk _ _ _ _ _).mono ?_;rintro e w3 ⟨rfl,x3,x4,hg3⟩))
 go_ret;have hg23:=Gr.trans hg2 hg3;rw [World.size_alloc] at x2;exact ⟨w.heap.size+1,_,_,rfl,(Below.block hg23 _ (Array.getElem?_eq_some_iff.1 x1).1).trans x1,(Below.block hg3 _ (Array.getElem?_eq_some_iff.1 x2).1).trans x2,x3,x4,Gr.trans hg1 hg23⟩
theorem mkL {z:Nat->UInt8} {wh:Bool} {fc:Nat->Bool} {b h g:Int} {PA:Array Value} (r:Row z wh fc b h g PA) (hok:LetOk z wh fc b) (w:World) (hS:StTab w) :
  MkIt 65 155 PA (letL z wh fc b) w where
 em:=enters_of Tryz.func65 (by kernel_rfl) rfl
 ei:=enters_of Tryz.func155 (by kernel_rfl) rfl
 ok:=fun x hx=>alU_ok hok.home (List.mem_filter.1 hx).1
 len:=letL_len z wh fc b
 go:=by
  intro T hTm W hg;refine (lettersMoves_mk PA W).mono ?_;rintro e w' ⟨B1,Bt,Bf,rfl,hp,h1,ht,hf,hg2⟩;have hgw:=Gr.trans hg hg2;have hS':=hS.gr hgw;have hps:=Ps.of r hp;have hit:=allMoves_it hok.home B1 W.heap.size T hTm w' (cell_of_box_l h1).1 hps hS';refine ⟨_,_,rfl,hg2,?_,onlyM_it hit (enters_of Tryz.func223 (by kernel_rfl) rfl) (enters_of Tryz.func153 (by kernel_rfl) rfl) (OnlyMv.cells hTm) (fun c fr=>OnlyMv.no hTm (by decide)) ?_ Bt Bf (letP z wh b) ht hf ?_⟩
  ·rintro k ((rfl|rfl|rfl)|rfl|rfl)
   ·exact (Array.getElem?_eq_some_iff.1 h1).1
   ·exact (Array.getElem?_eq_some_iff.1 hp).1
   ·exact hS'.2
   ·exact (Array.getElem?_eq_some_iff.1 ht).1
   ·exact (Array.getElem?_eq_some_iff.1 hf).1
  ·rintro k (rfl|rfl|rfl)
   ·exact (Array.getElem?_eq_some_iff.1 h1).1
   ·exact (Array.getElem?_eq_some_iff.1 hp).1
   ·exact hS'.2
  ·rintro ⟨f,t,u⟩ hx V fV;obtain ⟨y,hy,hky⟩:=hok.kg _ hx;have hm:=alU_ok hok.home hx;have:=judge_any r f t u hm.1 hm.2 (hok.k1 f t u hx) (hok.k2 f t u hx) y hy hky W.heap.size V (fV.same _ _ hp (.inr (.inl rfl))) (hS'.fr fV (fun _=>.inr (.inr rfl)));have e:letP z wh b (f,t,u)=!(attLB (plZ z b (f,t,u)) y (!wh)):=by unfold letP;rw [hky];rfl
   rw [e];exact this
end Go.Proofs.YtnfakamfmkhlbabGreatDoor.C
