import Derived.Test.YtnfakamfmkhlbabGreatDoorUm17
import Derived.Test.YtnfakamfmkhlbabGreatDoorUm12
import Derived.Test.YtnfakamfmkhlbabGreatDoorKz2
set_option maxRecDepth 100000
set_option maxHeartbeats 4000000
set_option linter.unusedSimpArgs false
namespace Go.Proofs.YtnfakamfmkhlbabGreatDoor.C
open Go.ChangeShapes Go.WideShapes Go.ChangeAt Go.RowKit Go.Shelf Go.Proofs.YtnfakamfmkhlbabGreatDoor.P
section
attribute [local go_sem] qd qe
theorem mP(c:UInt8):jD c=true->jA c=false:=by
 unfold jD jA;simp only[Bool.or_eq_true,beq_iff_eq,Bool.or_eq_false_iff,qM];omega
structure Pl(w:World)(PA:Array Value)(f t:Nat)(u:UInt8)(W:World):Prop where
 pa:W.heap[w.heap.size]?=some (.cells PA 70)
 mv:W.heap[w.heap.size+1]?=some (.cells #[.int .i64 (f:Int),.int .i64 (t:Int),.int .u8 (u.toNat:Int)] 87)
 rs:W.heap[w.heap.size+2]?=some (.cells kQ 67)
 gr:Gr w W
theorem Pl.set{w:World}{PA:Array Value}{f t:Nat}{u:UInt8}{W:World}(h:Pl w PA f t u W)(i:Nat)(v:Value):Pl w PA f t u (W.setCell ⟨w.heap.size+3,i,none⟩ v):=by
 have fs:Fr (fun k _=>k≠w.heap.size+3) W (W.setCell ⟨w.heap.size+3,i,none⟩ v):=(Fr.refl _ _).setCell _ (fun o _ q=>q rfl);exact⟨fs.same _ _ h.pa (by omega),fs.same _ _ h.mv (by omega),fs.same _ _ h.rs (by omega),Below.setCell h.gr (show w.heap.size<=w.heap.size+3 by omega) _⟩
theorem Pl.drew{w:World}{PA:Array Value}{f t:Nat}{u:UInt8}{W:World}(h:Pl w PA f t u W):Pl w PA f t u W.drew:=⟨h.pa,h.mv,h.rs,h.gr.drew⟩
theorem qvj{z:Nat->UInt8}{wh:Bool}{fc:Nat->Bool}{b h g:Int}{PA:Array Value}(r:jE z wh fc b h g PA)(f t:Nat)(u:UInt8)(hf:f<64)(ht:t<64)(hk1:jA (z f)=true->t=f+2->f+3<64)(hk2:jA (z f)=true->t+2=f->4<=f)(w:World) :
  Calls Tryz.prog 98 #[.agg PA,.agg #[.int .i64 (f:Int),.int .i64 (t:Int),.int .u8 (u.toNat:Int)]] w fun e w'=>∃A,e=.returned (.agg A)/\cT (zE z b (f,t,u)) A/\Gr w w':=by
 have hr:=qC r;obtain⟨x1,x2,x3,x4⟩:=jG w (.cells PA 70) (.cells #[.int .i64 (f:Int),.int .i64 (t:Int),.int .u8 (u.toNat:Int)] 87) (.cells kQ 67);have hg3:Gr w (((w.alloc (.cells PA 70)).alloc (.cells #[.int .i64 (f:Int),.int .i64 (t:Int),.int .u8 (u.toNat:Int)] 87)).alloc (.cells kQ 67)):=(((Gr.refl w).alloc _ _).alloc _ _).alloc _ _;have hps:=Ps.of r x1;have crg:=hps.bd.range;clear r;obtain⟨L,hL⟩:∃L,Hid (L=zL z):=⟨_,qC rfl⟩;rw[<-qa hL]at crg;have hl:L.length=64:=by rw[qa hL];exact ub z
 have hi64:(Tryz.prog.info? 67).map (·.size)=some L.length:=by rw[hl];exact x7
 have hone:L.toArray.all (·.oneCell')=true:=by rw[qa hL];exact(wL z).ones
 have hs64:L.toArray.size=64:=by simpa using hl
 go_enter Tryz.func98,Tryz.ntmps98
 go_upto_region 2 with(first
  | (refine wpList_load_mid rfl 67 _ rfl w.heap.size 0 rfl L _ crg Tryz.underlying67 rfl hi64 ?_)
  | (refine wpList_store_row rfl 67 _ _ rfl (w.heap.size+3) L.toArray rfl rfl 67 kQ (by rw[<-x4];exact World.alloc_heap_new _ _) (by rw[hs64];exact x7) (by rw[hs64];rfl) hone ?_))
 have hx4:((((w.alloc (.cells PA 70)).alloc (.cells #[.int .i64 (f:Int),.int .i64 (t:Int),.int .u8 (u.toNat:Int)] 87)).alloc (.cells kQ 67)).alloc (.cells kQ 67)).heap[w.heap.size+3]?=some (.cells kQ 67):=by rw[<-x4];exact World.alloc_heap_new _ _
 show Code.wp _ _ _ _ (((((w.alloc (.cells PA 70)).alloc (.cells #[.int .i64 (f:Int),.int .i64 (t:Int),.int .u8 (u.toNat:Int)] 87)).alloc (.cells kQ 67)).alloc (.cells kQ 67)).setRow (w.heap.size+3) L.toArray);have hsq:=setRow_heap _ _ _ L.toArray _ _ hx4;have hg4:Gr w (((((w.alloc (.cells PA 70)).alloc (.cells #[.int .i64 (f:Int),.int .i64 (t:Int),.int .u8 (u.toNat:Int)] 87)).alloc (.cells kQ 67)).alloc (.cells kQ 67)).setRow (w.heap.size+3) L.toArray):=(hg3.alloc _ _).setRow _ (by omega) _
 have hpl:Pl w PA f t u (((((w.alloc (.cells PA 70)).alloc (.cells #[.int .i64 (f:Int),.int .i64 (t:Int),.int .u8 (u.toNat:Int)] 87)).alloc (.cells kQ 67)).alloc (.cells kQ 67)).setRow (w.heap.size+3) L.toArray):=by
  have hgg:Below (w.heap.size+3) (((w.alloc (.cells PA 70)).alloc (.cells #[.int .i64 (f:Int),.int .i64 (t:Int),.int .u8 (u.toNat:Int)] 87)).alloc (.cells kQ 67)) (((((w.alloc (.cells PA 70)).alloc (.cells #[.int .i64 (f:Int),.int .i64 (t:Int),.int .u8 (u.toNat:Int)] 87)).alloc (.cells kQ 67)).alloc (.cells kQ 67)).setRow (w.heap.size+3) L.toArray):=by
   have:=((Gr.refl (((w.alloc (.cells PA 70)).alloc (.cells #[.int .i64 (f:Int),.int .i64 (t:Int),.int .u8 (u.toNat:Int)] 87)).alloc (.cells kQ 67))).alloc kQ 67).setRow (w.heap.size+3) (by omega) L.toArray;unfold Gr at this
   rwa[x4]at this
  exact⟨(Below.block hgg _ (by omega)).trans x1,(Below.block hgg _ (by omega)).trans x2,(Below.block hgg _ (by omega)).trans x3,hg4⟩
 generalize (((((w.alloc (.cells PA 70)).alloc (.cells #[.int .i64 (f:Int),.int .i64 (t:Int),.int .u8 (u.toNat:Int)] 87)).alloc (.cells kQ 67)).alloc (.cells kQ 67)).setRow (w.heap.size+3) L.toArray)=w4 at hsq hpl ⊢;have ha4:Hid (cT z L.toArray):=qC (by rw[qa hL];exact wL z);clear x1 x2 x3 x4 hg3 hg4 hps crg hl hi64 hone hs64 hx4;generalize L.toArray=A4 at hsq ha4;have hf0:(0:Int)<=(f:Int):=by omega
 have hf1:(f:Int)<64:=by omega
 have ht0:(0:Int)<=(t:Int):=by omega
 have ht1:(t:Int)<64:=by omega
 obtain⟨c1,c2,c3⟩:=qm hpl.mv;have c4:=n6 (qa ha4).2 hsq f hf;have o4:=xr (i:=f) hsq;go_upto_region 4 with fail;have hpl5:=hpl.set f (.int .u8 46);have hsq5:=qv (i:=f) (v:=.int .u8 46) hsq;have ha5:Hid (cT (vW z f 46) (A4.setIfInBounds f (.int .u8 46))):=qC ((qa ha4).set f 46);show Code.wp _ _ _ _ (w4.setCell ⟨w.heap.size+3,f,none⟩ (.int .u8 46));generalize w4.setCell ⟨w.heap.size+3,f,none⟩ (.int .u8 46)=w5 at hpl5 hsq5 ⊢;generalize A4.setIfInBounds f (.int .u8 46)=A5 at hsq5 ha5;clear hpl hsq c1 c2 c3 c4 o4;have htu:=qC (fun W=>lq (z f) u W);obtain⟨c1,c2,c3⟩:=qm hpl5.mv;have o5:w5.drew.frozen? ⟨w.heap.size+3,t,none⟩=false:=xr (V:=w5.drew) (i:=t) hsq5;have c5:w5.drew.cell? ⟨w.heap.size+3,t,none⟩=some (.int .u8 ((vW z f 46 t).toNat:Int)):=n6 (W:=w5.drew) (qa ha5).2 hsq5 t ht;have hin:Hid (∀w',Pl w PA f t u w'->Pl w PA f t u w'/\w'.cell? ⟨w.heap.size+1,1,none⟩=some (.int .i64 (t:Int))/\w'.cell? ⟨w.heap.size+1,2,none⟩=some (.int .u8 (u.toNat:Int))):=qC (fun w' h=>⟨h,(qm h.mv).2.1,(qm h.mv).2.2⟩);go_region_held3 (fun w'=>Pl w PA f t u w'/\w'.cell? ⟨w.heap.size+1,1,none⟩=some (.int .i64 (t:Int))/\w'.cell? ⟨w.heap.size+1,2,none⟩=some (.int .u8 (u.toNat:Int))) (first|exact qa hin _ hpl5.drew|exact qa hin _ (Pl.set hpl5.drew _ _)|exact qa hin _ (And.left (by assumption))) (first|(go_at_call 189;refine(qa htu _).mono ?_;rintro e w6 ⟨rfl,rfl⟩));show Exit.then _ _ _ _ (w5.setCell ⟨w.heap.size+3,t,none⟩ (.int .u8 ((yH (z f) u).toNat:Int))).drew;have hpl6:=(hpl5.set t (.int .u8 ((yH (z f) u).toNat:Int))).drew;have hsq6:(w5.setCell ⟨w.heap.size+3,t,none⟩ (.int .u8 ((yH (z f) u).toNat:Int))).drew.heap[w.heap.size+3]?=_:=qv (i:=t) (v:=.int .u8 ((yH (z f) u).toNat:Int)) hsq5;have ha6:Hid (cT (vW (vW z f 46) t (yH (z f) u)) (A5.setIfInBounds t (.int .u8 ((yH (z f) u).toNat:Int)))):=qC ((qa ha5).set t (yH (z f) u));generalize (w5.setCell ⟨w.heap.size+3,t,none⟩ (.int .u8 ((yH (z f) u).toNat:Int))).drew=w6 at hpl6 hsq6 ⊢;generalize A5.setIfInBounds t (.int .u8 ((yH (z f) u).toNat:Int))=A6 at hsq6 ha6
 have hplz:Hid (zE z b (f,t,u)=if jD (z f)&&((t:Int)==b)then vW (vW (vW z f 46) t (yH (z f) u)) (f/8*8+t%8) 46
  else if jA (z f)&&(t==f+2)then vW (vW (vW (vW z f 46) t (yH (z f) u)) (f+1) (vW (vW z f 46) t (yH (z f) u) (f+3))) (f+3) 46
  else if jA (z f)&&(t+2==f)then vW (vW (vW (vW z f 46) t (yH (z f) u)) (f-1) (vW (vW z f 46) t (yH (z f) u) (f-4))) (f-4) 46
  else vW (vW z f 46) t (yH (z f) u)):=qC rfl
 generalize vW (vW z f 46) t (yH (z f) u)=z1 at ha6 hplz;have hpw:=qC (fun W=>xz (z f) W);have hkg:=qC (fun W=>qjk (z f) W);have hpk:Hid (jD (z f)=true->jA (z f)=false):=qC (mP (z f));obtain⟨c1',c2',c3'⟩:=qm hpl6.mv;have c69:w6.cell? ⟨w.heap.size,69,none⟩=some (.int .i64 b):=by rw[cell_of_row _ _ _ _ _ _ hpl6.pa];exact(qa hr).b
 clear hpl5 hsq5 ha5 c1 c2 c3 o5 c5 hin htu ha4 hL;obtain⟨pw,hpw0⟩:∃x,jD (z f)=x:=⟨_,rfl⟩;obtain⟨kb,hkb0⟩:∃x,jA (z f)=x:=⟨_,rfl⟩;rw[hpw0]at hpw hplz hpk;rw[hkb0]at hkg hplz hk1 hk2 hpk;have fin:Hid (∀(A:Array Value)(W:World),cT (zE z b (f,t,u)) A->Pl w PA f t u W->W.heap[w.heap.size+3]?=some (.cells A 67)->(Tryz.prog.info? 67).map (·.size)=some A.size/\A.size=kQ.size/\A.all (·.oneCell')=true/\(W.setRow (w.heap.size+2) A).heap[w.heap.size+2]?=some (.cells A 67)/\Gr w (W.setRow (w.heap.size+2) A)):=qC (fun A W ha hp hs=>⟨by rw[ha.1];exact x7,by rw[ha.1];rfl,ha.ones,setRow_heap _ _ _ A _ _ hp.rs,hp.gr.setRow _ (by omega) _⟩);by_cases hpe:(pw&&((t:Int)==b))=true
 ·obtain⟨rfl,htb⟩:pw=true/\((t:Int)==b)=true:=by simpa using hpe
  have hz2:Hid (zE z b (f,t,u)=vW z1 (f/8*8+t%8) 46):=qC (by rw[qa hplz,htb];rfl);have l1:(f/8*8+t%8)<64:=by omega
  have o6:=xr (i:=(f/8*8+t%8)) hsq6;have c6:=n6 (qa ha6).2 hsq6 (f/8*8+t%8) l1;have hsq7:=qv (i:=(f/8*8+t%8)) (v:=.int .u8 46) hsq6;have ha7:Hid (cT (zE z b (f,t,u)) (A6.setIfInBounds (f/8*8+t%8) (.int .u8 46))):=qC (by rw[qa hz2];exact(qa ha6).set (f/8*8+t%8) 46);obtain⟨r1,r2,r3,r4,r5⟩:=qa fin _ _ (qa ha7) (hpl6.set (f/8*8+t%8) _) hsq7;have hrs:=(hpl6.set (f/8*8+t%8) (.int .u8 46)).rs;clear hplz hk1 hk2 hpk;go_upto_region 11 with(go_at_call 121;refine(qa hpw _).mono ?_;rintro e w' ⟨rfl,rfl⟩);show Code.wp _ _ _ _ (w'.setCell ⟨w.heap.size+3,(f/8*8+t%8),none⟩ (.int .u8 46));generalize w'.setCell ⟨w.heap.size+3,(f/8*8+t%8),none⟩ (.int .u8 46)=w7 at hsq7 r4 r5 hrs ⊢;generalize A6.setIfInBounds (f/8*8+t%8) (.int .u8 46)=A7 at hsq7 ha7 r1 r2 r3 r4 r5;clear o6 c6 hpl6 hsq6 ha6 c1' c2' c3' c69
  go_wp2_with(first
   | (refine wpList_load_row rfl 67 _ rfl (w.heap.size+3) rfl 67 A7 (0,0) _ hsq7 Tryz.underlying67 rfl r1 ?_)
   | (refine wpList_store_row rfl 67 _ _ rfl (w.heap.size+2) A7 rfl rfl 67 kQ hrs r1 r2.symm r3 ?_))
  exact bodyPost_ret (v:=.agg A7) (results_cell_row Tryz.results98 _ _ (w.heap.size+2) 67 A7 (0,0) _ rfl r4 Tryz.underlying67 rfl r1) rfl ⟨_,rfl,qa ha7,r5⟩
 ·cases pw
  ·cases kb
   ·have ha7:Hid (cT (zE z b (f,t,u)) A6):=qC (by rw[show zE z b (f,t,u)=z1 from by rw[qa hplz];simp];exact qa ha6);obtain⟨r1,r2,r3,r4,r5⟩:=qa fin _ _ (qa ha7) hpl6 hsq6;have hrs:=(hpl6).rs;clear hplz hk1 hk2 hpk ha6;go_upto_region 11 with(first|(go_at_call 121;refine(qa hpw _).mono ?_;rintro e w' ⟨rfl,rfl⟩)|(go_at_call 120;refine(qa hkg _).mono ?_;rintro e w'' ⟨rfl,rfl⟩))
    go_wp2_with(first
     | (refine wpList_load_row rfl 67 _ rfl (w.heap.size+3) rfl 67 A6 (0,0) _ hsq6 Tryz.underlying67 rfl r1 ?_)
     | (refine wpList_store_row rfl 67 _ _ rfl (w.heap.size+2) A6 rfl rfl 67 kQ hrs r1 r2.symm r3 ?_))
    exact bodyPost_ret (v:=.agg A6) (results_cell_row Tryz.results98 _ _ (w.heap.size+2) 67 A6 (0,0) _ rfl r4 Tryz.underlying67 rfl r1) rfl ⟨_,rfl,qa ha7,r5⟩
   ·by_cases htf:t=f+2
    ·have hb:=hk1 rfl htf;have hz2:Hid (zE z b (f,t,u)=vW (vW z1 (f+1) (z1 (f+3))) (f+3) 46):=qC (by rw[qa hplz];simp[htf]);obtain⟨pp1,hp1⟩:∃p,Hid (p=f+1):=⟨_,qC rfl⟩;obtain⟨pp3,hp3⟩:∃p,Hid (p=f+3):=⟨_,qC rfl⟩;rw[<-qa hp1,<-qa hp3]at hz2;have e1:IntKind.i64.wrap ((f:Int)+1)=(pp1:Int):=by rw[IntKind.wrap_i64];have:=qa hp1;omega
     have e3:IntKind.i64.wrap ((f:Int)+3)=(pp3:Int):=by rw[IntKind.wrap_i64];have:=qa hp3;omega
     have l1:pp1<64:=by have:=qa hp1;omega
     have l3:pp3<64:=by have:=qa hp3;omega
     have l13:pp3≠pp1:=by have:=qa hp1;have:=qa hp3;omega
     have i1:(0:Int)<=(pp1:Int):=by omega
     have i2:(pp1:Int)<64:=by omega
     have i3:(0:Int)<=(pp3:Int):=by omega
     have i4:(pp3:Int)<64:=by omega
     have hE:((t:Int)==(f:Int)+2)=true:=by simp;omega
     clear hplz hk1 hk2 hpk;go_upto_region 8 with(first|(go_at_call 121;refine(qa hpw _).mono ?_;rintro e w' ⟨rfl,rfl⟩)|(go_at_call 120;refine(qa hkg _).mono ?_;rintro e w'' ⟨rfl,rfl⟩));refine wp_region_held_drew (S:=Pl w PA f t u) (by kernel_rfl) hpl6.drew (fun hS=>?_)
     skip
     refine C.tq 0 (.pointer (some ⟨w.heap.size+1,0,none⟩)) hS ?_;refine C.ty 1 (.int .i64 (f:Int)) rfl (.inl ⟨by rfl,fun w hw=>(by have c1:=(qm hw.mv).1;go_simp)⟩) hS ?_;refine C.tq 2 (.int .i64 (pp1:Int)) hS ?_;refine C.tq 3 (.pointer (some ⟨w.heap.size+1,0,none⟩)) hS ?_;refine C.ty 4 (.int .i64 (f:Int)) rfl (.inl ⟨by rfl,fun w hw=>(by have c1:=(qm hw.mv).1;go_simp)⟩) hS ?_;refine C.tq 5 (.int .i64 (pp3:Int)) hS ?_;refine C.tq 6 (.pointer (some ⟨w.heap.size+1,0,none⟩)) hS ?_;refine C.ty 7 (.int .i64 (f:Int)) rfl (.inl ⟨by rfl,fun w hw=>(by have c1:=(qm hw.mv).1;go_simp)⟩) hS ?_;refine C.tq 8 (.int .i64 (pp3:Int)) hS ?_;refine C.tq 9 (.pointer (some ⟨w.heap.size+3,pp3,none⟩)) hS ?_;have hsd:w''.drew.heap[w.heap.size+3]?=some (.cells A6 67):=hsq6;have g1:=n6 (qa ha6).2 hsd pp3 l3;have g2:=n6 (qa ha6).2 hsd pp1 l1;have g3:=xr (i:=pp1) hsd;refine C.rd 10 fun K hK=>?_
     go_simp;refine hK.out _ _ hS (fun hS=>?_);clear hK K;refine C.tq 11 (.pointer (some ⟨w.heap.size+3,pp1,none⟩)) hS ?_;refine C.rd 12 fun K hK=>?_
     go_simp;refine hK.out _ _ (hS.set pp1 _) (fun hS=>?_);clear hK K;have hse:=qv (i:=pp1) (v:=.int .u8 ((z1 pp3).toNat:Int)) hsd;have hae:Hid (cT (vW z1 pp1 (z1 pp3)) (A6.setIfInBounds pp1 (.int .u8 ((z1 pp3).toNat:Int)))):=qC ((qa ha6).set pp1 (z1 pp3));change Pl w PA f t u (w''.drew.setCell ⟨w.heap.size+3,pp1,none⟩ (.int .u8 ((z1 pp3).toNat:Int)))at hS;change wpAnyH _ _ _ _ _ _ _ _ (w''.drew.setCell ⟨w.heap.size+3,pp1,none⟩ (.int .u8 ((z1 pp3).toNat:Int)));generalize w''.drew.setCell ⟨w.heap.size+3,pp1,none⟩ (.int .u8 ((z1 pp3).toNat:Int))=wa at hS hse ⊢;generalize A6.setIfInBounds pp1 (.int .u8 ((z1 pp3).toNat:Int))=A7 at hse hae;have g4:=n6 (qa hae).2 hse pp3 l3;have g5:=xr (i:=pp3) hse;refine C.tq 13 (.pointer (some ⟨w.heap.size+3,pp3,none⟩)) hS ?_;refine C.rd 14 fun K hK=>?_
     go_simp;refine hK.out _ _ (hS.set pp3 _) (fun hS=>?_);clear hK K;have hsf:=qv (i:=pp3) (v:=.int .u8 46) hse;have haf:Hid (cT (zE z b (f,t,u)) (A7.setIfInBounds pp3 (.int .u8 46))):=qC (by rw[qa hz2];exact(qa hae).set pp3 46);change Pl w PA f t u (wa.setCell ⟨w.heap.size+3,pp3,none⟩ (.int .u8 46))at hS;change wpAnyH _ _ _ _ _ _ _ _ (wa.setCell ⟨w.heap.size+3,pp3,none⟩ (.int .u8 46));generalize wa.setCell ⟨w.heap.size+3,pp3,none⟩ (.int .u8 46)=wb at hS hsf ⊢;generalize A7.setIfInBounds pp3 (.int .u8 46)=A8 at hsf haf;refine wpAnyH_done (by kernel_rfl) ?_ _;obtain⟨r1,r2,r3,r4,r5⟩:=qa fin _ _ (qa haf) hS hsf;have hrs:=hS.rs;clear hpl6 hsq6 hsd hse g1 g2 g3 g4 g5 c1' c2' c3' c69 hS hae ha6
     go_wp2_with(first
      | (refine wpList_load_row rfl 67 _ rfl (w.heap.size+3) rfl 67 A8 (0,0) _ hsf Tryz.underlying67 rfl r1 ?_)
      | (refine wpList_store_row rfl 67 _ _ rfl (w.heap.size+2) A8 rfl rfl 67 kQ hrs r1 r2.symm r3 ?_))
     exact bodyPost_ret (v:=.agg A8) (results_cell_row Tryz.results98 _ _ (w.heap.size+2) 67 A8 (0,0) _ rfl r4 Tryz.underlying67 rfl r1) rfl ⟨_,rfl,qa haf,r5⟩
    ·have hnr:(t==f+2)=false:=by simpa using htf
     by_cases htg:t+2=f
     ·have htf:=htg;have hb:=hk2 rfl htf;have hz2:Hid (zE z b (f,t,u)=vW (vW z1 (f-1) (z1 (f-4))) (f-4) 46):=qC (by rw[qa hplz];simp[htf,hnr]);obtain⟨pp1,hp1⟩:∃p,Hid (p=f-1):=⟨_,qC rfl⟩;obtain⟨pp3,hp3⟩:∃p,Hid (p=f-4):=⟨_,qC rfl⟩;rw[<-qa hp1,<-qa hp3]at hz2;have e1:IntKind.i64.wrap ((f:Int)-1)=(pp1:Int):=by rw[IntKind.wrap_i64];have:=qa hp1;omega
      have e3:IntKind.i64.wrap ((f:Int)-4)=(pp3:Int):=by rw[IntKind.wrap_i64];have:=qa hp3;omega
      have l1:pp1<64:=by have:=qa hp1;omega
      have l3:pp3<64:=by have:=qa hp3;omega
      have l13:pp3≠pp1:=by have:=qa hp1;have:=qa hp3;omega
      have i1:(0:Int)<=(pp1:Int):=by omega
      have i2:(pp1:Int)<64:=by omega
      have i3:(0:Int)<=(pp3:Int):=by omega
      have i4:(pp3:Int)<64:=by omega
      have hE0:((t:Int)==(f:Int)+2)=false:=by simp;omega
      have hE:((t:Int)==(f:Int)-2)=true:=by simp;omega
      clear hplz hk1 hk2 hpk;go_upto_region 10 with(first|(go_at_call 121;refine(qa hpw _).mono ?_;rintro e w' ⟨rfl,rfl⟩)|(go_at_call 120;refine(qa hkg _).mono ?_;rintro e w'' ⟨rfl,rfl⟩));refine wp_region_held_drew (S:=Pl w PA f t u) (by kernel_rfl) hpl6.drew (fun hS=>?_)
      skip
      refine C.tq 0 (.pointer (some ⟨w.heap.size+1,0,none⟩)) hS ?_;refine C.ty 1 (.int .i64 (f:Int)) rfl (.inl ⟨by rfl,fun w hw=>(by have c1:=(qm hw.mv).1;go_simp)⟩) hS ?_;refine C.tq 2 (.int .i64 (pp1:Int)) hS ?_;refine C.tq 3 (.pointer (some ⟨w.heap.size+1,0,none⟩)) hS ?_;refine C.ty 4 (.int .i64 (f:Int)) rfl (.inl ⟨by rfl,fun w hw=>(by have c1:=(qm hw.mv).1;go_simp)⟩) hS ?_;refine C.tq 5 (.int .i64 (pp3:Int)) hS ?_;refine C.tq 6 (.pointer (some ⟨w.heap.size+1,0,none⟩)) hS ?_;refine C.ty 7 (.int .i64 (f:Int)) rfl (.inl ⟨by rfl,fun w hw=>(by have c1:=(qm hw.mv).1;go_simp)⟩) hS ?_;refine C.tq 8 (.int .i64 (pp3:Int)) hS ?_;refine C.tq 9 (.pointer (some ⟨w.heap.size+3,pp3,none⟩)) hS ?_;have hsd:w''.drew.heap[w.heap.size+3]?=some (.cells A6 67):=hsq6;have g1:=n6 (qa ha6).2 hsd pp3 l3;have g2:=n6 (qa ha6).2 hsd pp1 l1;have g3:=xr (i:=pp1) hsd;refine C.rd 10 fun K hK=>?_
      go_simp;refine hK.out _ _ hS (fun hS=>?_);clear hK K;refine C.tq 11 (.pointer (some ⟨w.heap.size+3,pp1,none⟩)) hS ?_;refine C.rd 12 fun K hK=>?_
      go_simp;refine hK.out _ _ (hS.set pp1 _) (fun hS=>?_);clear hK K;have hse:=qv (i:=pp1) (v:=.int .u8 ((z1 pp3).toNat:Int)) hsd;have hae:Hid (cT (vW z1 pp1 (z1 pp3)) (A6.setIfInBounds pp1 (.int .u8 ((z1 pp3).toNat:Int)))):=qC ((qa ha6).set pp1 (z1 pp3));change Pl w PA f t u (w''.drew.setCell ⟨w.heap.size+3,pp1,none⟩ (.int .u8 ((z1 pp3).toNat:Int)))at hS;change wpAnyH _ _ _ _ _ _ _ _ (w''.drew.setCell ⟨w.heap.size+3,pp1,none⟩ (.int .u8 ((z1 pp3).toNat:Int)));generalize w''.drew.setCell ⟨w.heap.size+3,pp1,none⟩ (.int .u8 ((z1 pp3).toNat:Int))=wa at hS hse ⊢;generalize A6.setIfInBounds pp1 (.int .u8 ((z1 pp3).toNat:Int))=A7 at hse hae;have g4:=n6 (qa hae).2 hse pp3 l3;have g5:=xr (i:=pp3) hse;refine C.tq 13 (.pointer (some ⟨w.heap.size+3,pp3,none⟩)) hS ?_;refine C.rd 14 fun K hK=>?_
      go_simp;refine hK.out _ _ (hS.set pp3 _) (fun hS=>?_);clear hK K;have hsf:=qv (i:=pp3) (v:=.int .u8 46) hse;have haf:Hid (cT (zE z b (f,t,u)) (A7.setIfInBounds pp3 (.int .u8 46))):=qC (by rw[qa hz2];exact(qa hae).set pp3 46);change Pl w PA f t u (wa.setCell ⟨w.heap.size+3,pp3,none⟩ (.int .u8 46))at hS;change wpAnyH _ _ _ _ _ _ _ _ (wa.setCell ⟨w.heap.size+3,pp3,none⟩ (.int .u8 46));generalize wa.setCell ⟨w.heap.size+3,pp3,none⟩ (.int .u8 46)=wb at hS hsf ⊢;generalize A7.setIfInBounds pp3 (.int .u8 46)=A8 at hsf haf;refine wpAnyH_done (by kernel_rfl) ?_ _;obtain⟨r1,r2,r3,r4,r5⟩:=qa fin _ _ (qa haf) hS hsf;have hrs:=hS.rs;clear hpl6 hsq6 hsd hse g1 g2 g3 g4 g5 c1' c2' c3' c69 hS hae ha6
      go_wp2_with(first
       | (refine wpList_load_row rfl 67 _ rfl (w.heap.size+3) rfl 67 A8 (0,0) _ hsf Tryz.underlying67 rfl r1 ?_)
       | (refine wpList_store_row rfl 67 _ _ rfl (w.heap.size+2) A8 rfl rfl 67 kQ hrs r1 r2.symm r3 ?_))
      exact bodyPost_ret (v:=.agg A8) (results_cell_row Tryz.results98 _ _ (w.heap.size+2) 67 A8 (0,0) _ rfl r4 Tryz.underlying67 rfl r1) rfl ⟨_,rfl,qa haf,r5⟩
     ·have hE0:((t:Int)==(f:Int)+2)=false:=by simp;omega
      have hE1:((t:Int)==(f:Int)-2)=false:=by simp;omega
      have ha7:Hid (cT (zE z b (f,t,u)) A6):=qC (by rw[show zE z b (f,t,u)=z1 from by rw[qa hplz];simp[htf,htg]];exact qa ha6);obtain⟨r1,r2,r3,r4,r5⟩:=qa fin _ _ (qa ha7) hpl6 hsq6;have hrs:=(hpl6).rs;clear hplz hk1 hk2 hpk ha6;go_upto_region 11 with(first|(go_at_call 121;refine(qa hpw _).mono ?_;rintro e w' ⟨rfl,rfl⟩)|(go_at_call 120;refine(qa hkg _).mono ?_;rintro e w'' ⟨rfl,rfl⟩))
      go_wp2_with(first
       | (refine wpList_load_row rfl 67 _ rfl (w.heap.size+3) rfl 67 A6 (0,0) _ hsq6 Tryz.underlying67 rfl r1 ?_)
       | (refine wpList_store_row rfl 67 _ _ rfl (w.heap.size+2) A6 rfl rfl 67 kQ hrs r1 r2.symm r3 ?_))
      exact bodyPost_ret (v:=.agg A6) (results_cell_row Tryz.results98 _ _ (w.heap.size+2) 67 A6 (0,0) _ rfl r4 Tryz.underlying67 rfl r1) rfl ⟨_,rfl,qa ha7,r5⟩
  ·have htb:((t:Int)==b)=false:=by simpa using hpe
   obtain rfl:kb=false:=qa hpk rfl;have ha7:Hid (cT (zE z b (f,t,u)) A6):=qC (by rw[show zE z b (f,t,u)=z1 from by rw[qa hplz];simp[htb]];exact qa ha6);obtain⟨r1,r2,r3,r4,r5⟩:=qa fin _ _ (qa ha7) hpl6 hsq6;have hrs:=(hpl6).rs;clear hplz hk1 hk2 hpk ha6;go_upto_region 11 with(first|(go_at_call 121;refine(qa hpw _).mono ?_;rintro e w' ⟨rfl,rfl⟩)|(go_at_call 120;refine(qa hkg _).mono ?_;rintro e w'' ⟨rfl,rfl⟩))
   go_wp2_with(first
    | (refine wpList_load_row rfl 67 _ rfl (w.heap.size+3) rfl 67 A6 (0,0) _ hsq6 Tryz.underlying67 rfl r1 ?_)
    | (refine wpList_store_row rfl 67 _ _ rfl (w.heap.size+2) A6 rfl rfl 67 kQ hrs r1 r2.symm r3 ?_))
   exact bodyPost_ret (v:=.agg A6) (results_cell_row Tryz.results98 _ _ (w.heap.size+2) 67 A6 (0,0) _ rfl r4 Tryz.underlying67 rfl r1) rfl ⟨_,rfl,qa ha7,r5⟩
end
section
attribute [local go_sem] qd qe Oper.semAt_some
structure Jd(w:World)(PA A:Array Value)(Bp Bs:Nat)(W:World):Prop where
 pa:W.heap[Bp]?=some (.cells PA 70)
 sq:W.heap[Bs]?=some (.cells A 67)
 gr:Gr w W
theorem Jd.next{w:World}{PA A:Array Value}{Bp Bs:Nat}{W W':World}(h:Jd w PA A Bp Bs W)(g:Gr W W'):Jd w PA A Bp Bs W' :=
 ⟨(Below.block g _ (qB.1 h.pa).1).trans h.pa,(Below.block g _ (qB.1 h.sq).1).trans h.sq,Gr.trans h.gr g⟩
theorem Cy{ops:Array Oper}{op:Oper}{a:Act}{A:Array Value}{S:World->Prop}(hz:A.size=64)(hw:Region.wanted op (yielded ops a.tmps)=true)(x:Operand)(ho:op.op=.load 67 x)(b:Nat)(hx:a.eval x=.pointer (some ⟨b,0,none⟩))(hS:∀w,S w->w.heap[b]?=some (.cells A 67)):YieldsIf Tryz.prog ops S op (.agg A) a:=by
 have:=yieldsIf_load_mid (P:=Tryz.prog) hw 67 x ho b 0 hx A.toList _ (fun w h j v hv=>by rw[cell_of_row _ _ _ _ _ _ (hS w h),Nat.zero_add,<-qO];exact hv) Tryz.underlying67 rfl (by rw[x7];simp[hz])
 rwa[Array.toArray_toList]at this
theorem mt{z:Nat->UInt8}{wh:Bool}{fc:Nat->Bool}{b h g:Int}{PA:Array Value}(r:jE z wh fc b h g PA)(f t:Nat)(u:UInt8)(hf:f<64)(ht:t<64)(hk1:jA (z f)=true->t=f+2->f+3<64)(hk2:jA (z f)=true->t+2=f->4<=f)(y:Nat)(hy:y<64)(hky:xR (zE z b (f,t,u)) wh=(y:Int))
  (Bp:Nat) (w:World) (hp:w.heap[Bp]?=some (.cells PA 70)) (hS:vT w) :
  Calls Tryz.prog 153 #[gJ (f,t,u),.pointer (some ⟨Bp,0,none⟩)] w fun e w'=>e=.returned (.bool (!(vL (zE z b (f,t,u)) y (!wh))))/\Gr w w':=by
 simp only[gJ];have hpl:=qC (fun W=>qvj r f t u hf ht hk1 hk2 W);have hi72:(Tryz.prog.info? 70).map (·.size)=some PA.size:=by rw[r.size];exact jJ
 have hwh:=r.wh;clear r hk1 hk2;have hp1:(w.alloc (.cells #[.int .i64 (f:Int),.int .i64 (t:Int),.int .u8 (u.toNat:Int)] 87)).heap[Bp]?=some (.cells PA 70):=(Below.heap_alloc _ _ _ (qB.1 hp).1).trans hp;have hg1:Gr w (w.alloc (.cells #[.int .i64 (f:Int),.int .i64 (t:Int),.int .u8 (u.toNat:Int)] 87)):=(Gr.refl w).alloc _ _;obtain⟨c1,c2,c3⟩:=qm (World.alloc_heap_new w (.cells #[.int .i64 (f:Int),.int .i64 (t:Int),.int .u8 (u.toNat:Int)] 87));go_enter Tryz.func153,Tryz.ntmps153;generalize hZ:zE z b (f,t,u)=Z at hpl hky
 go_upto_region 2 with(first
  | (refine wpList_load_row rfl 70 _ rfl Bp rfl 70 PA (0,0) _ hp1 Tryz.underlying70 rfl hi72 ?_)
  | (go_at_call 98;refine(qa hpl _).mono ?_;rintro e w2 ⟨A,rfl,hA,hg2⟩)
  | (refine wpList_store_row rfl 67 _ _ rfl w2.heap.size A rfl rfl 67 kQ (World.alloc_heap_new _ _) (by rw[hA.1];exact x7) (by rw[hA.1];rfl) hA.ones ?_))
 show Code.wp _ _ _ _ ((w2.alloc (.cells kQ 67)).setRow w2.heap.size A);have hgw2:=Gr.trans hg1 hg2
 have hJ:Jd w PA A Bp w2.heap.size ((w2.alloc (.cells kQ 67)).setRow w2.heap.size A):=by
  have hg3:Gr w2 ((w2.alloc (.cells kQ 67)).setRow w2.heap.size A):=((Gr.refl w2).alloc _ _).setRow _ (qL _) _;exact⟨(Below.block (Gr.trans hgw2 hg3) _ (qB.1 hp).1).trans hp,setRow_heap _ _ _ A _ _ (World.alloc_heap_new _ _),Gr.trans hgw2 hg3⟩
 generalize (w2.alloc (.cells kQ 67)).setRow w2.heap.size A=w3 at hJ ⊢;generalize w2.heap.size=Bs at hJ ⊢;have hking:=qC (fun W=>gP Z A hA.2 wh W);rw[hky]at hking;have hatt:=qC (fun W hS=>ah Z A hA.1 hA.2 y hy (!wh) W hS);obtain⟨v,hv⟩:∃v,Hid (v=vL Z y (!wh)):=⟨_,qC rfl⟩;rw[<-qa hv]at hatt;have hzA:=hA.1;have hZ':=qC hZ;clear hp1 hg1 c1 c2 c3 hpl hg2 hgw2 hA hky hZ;refine wp_region_held_drew (S:=Jd w PA A Bp Bs) (by kernel_rfl) (hJ.next (Gr.refl _).drew) (fun qD=>?_);refine C.ty 0 (.agg A) rfl (Cy hzA (by rfl) _ rfl Bs rfl (fun _ h=>h.sq)) qD ?_;refine C.ty 1 (.agg A) rfl (Cy hzA (by rfl) _ rfl Bs rfl (fun _ h=>h.sq)) qD ?_;refine C.tq 2 (.pointer (some ⟨Bp,64,none⟩)) qD ?_;refine C.ty 3 (.bool wh) rfl (Or.inl ⟨by rfl,fun w hw=>(by have cw:w.cell? ⟨Bp,64,none⟩=some (.bool wh):=(by rw[cell_of_row _ _ _ _ _ _ hw.pa];exact hwh);go_simp)⟩) qD ?_;refine C.tq 5 (.pointer (some ⟨Bp,64,none⟩)) qD ?_;refine C.ty 6 (.bool wh) rfl (Or.inl ⟨by rfl,fun w hw=>(by have cw:w.cell? ⟨Bp,64,none⟩=some (.bool wh):=(by rw[cell_of_row _ _ _ _ _ _ hw.pa];exact hwh);go_simp)⟩) qD ?_;refine C.tq 7 (.bool (!wh)) qD ?_;refine C.rd 4 fun K hK=>?_
 go_simp;refine(qa hking _).mono ?_;rintro e wa ⟨rfl,hga⟩;refine hK.out _ _ (qD.next hga) (fun qD=>?_);clear hK K hga;refine C.rd 8 fun K hK=>?_
 go_simp;refine(qa hatt _ (hS.gr qD.gr)).mono ?_;rintro e wb ⟨rfl,hgb⟩;refine hK.out _ _ (qD.next hgb) (fun qD=>?_);clear hK K hgb;refine C.tq 9 (.bool (!v)) qD ?_;refine C.rd 10 fun K hK=>?_
 go_simp;refine hK.out _ _ qD (fun qD=>?_);clear hK K;refine wpAnyH_done (by kernel_rfl) ?_ _;go_wp2_with fail;go_ret;exact⟨by rw[qa hv,<-qa hZ'];rfl,qD.gr⟩
theorem aj(Bp:Nat)(w:World):Calls Tryz.prog 152 #[.pointer (some ⟨Bp,0,none⟩)] w fun e w'=>e=.returned (.func (.func 223) #[] #[.pointer (some ⟨w.heap.size,0,none⟩)])/\w'.heap[w.heap.size]?=some (.cells #[.pointer (some ⟨Bp,0,none⟩)] 229)/\Gr w w':=by
 have hmf:∀(fn:Fn)(first cap:Array Value)(w:World),(Instr.makeFunc fn first cap).run Tryz.prog w=.ok (.func fn first cap) w:=fun _ _ _ _=>rfl
 go_enter Tryz.func152,Tryz.ntmps152;go_wp2;go_ret;exact⟨rfl,World.alloc_heap_new w _,(Gr.refl w).alloc _ _⟩
def uS(z:Nat->UInt8)(wh:Bool)(b:Int)(x:Mv):Bool:=!(vL (zE z b x) (xR (zE z b x) wh).toNat (!wh))
def yo(z:Nat->UInt8)(wh:Bool)(fc:Nat->Bool)(b:Int):List Mv:=(ye z wh fc b 64).filter (uS z wh b)
structure lg(z:Nat->UInt8)(wh:Bool)(fc:Nat->Bool)(b:Int):Prop where
 home:iN z wh fc
 k1:∀f t u,(f,t,u)∈ye z wh fc b 64->jA (z f)=true->t=f+2->f+3<64
 k2:∀f t u,(f,t,u)∈ye z wh fc b 64->jA (z f)=true->t+2=f->4<=f
 kg:∀x,x∈ye z wh fc b 64->∃y:Nat,y<64/\xR (zE z b x) wh=(y:Int)
theorem iI{z:Nat->UInt8}{wh:Bool}{fc:Nat->Bool}{b:Int}(hh:iN z wh fc){x:Mv}(h:x∈ye z wh fc b 64):bi x:=by
 unfold ye nh at h;obtain⟨f,hf,h⟩:=List.mem_flatMap.1 h;have hf':=qK.1 hf;split at h
 ·rename_i hm;obtain⟨t,ht,h⟩:=List.mem_flatMap.1 h;exact bB hf' (C3 hf' (hh f hf' hm) ht) h
 ·cases h
theorem wJ(z:Nat->UInt8)(f k:Nat):(yj z f k).length<=8:=by
 have hw:∀n x,(uW z (jU k) n x).length<=n:=by
  intro n;induction n with
  | zero=>intro x;simp[uW]
  | succ n ih =>
   intro x;unfold uW;split
   ·have:=ih (nx x (jU k));split
    ·simp;omega
    ·simp
   ·simp
 unfold yj;split
 ·split
  ·exact hw 8 f
  ·have:=hw 8 f;simp only[List.length_take];unfold kq;omega
 ·simp
theorem DY(z:Nat->UInt8)(wh:Bool)(fc:Nat->Bool)(b:Int)(f:Nat):(yF z wh fc b f).length<=130:=by
 unfold yF;rw[qZ];have h1:((zU z f 16).filter (yG z wh b f)).length<=16*8:=q7 (List.length_filter_le _ _) (jz (by simp) fun k _=>wJ z f k)
 have h2:(if jD (z f)then cW z (yx wh f) (kq z (0,uM wh) f)else if jA (z f)then uz z wh fc f++pA z wh fc f else[]).length<=2:=by
  split
  ·unfold cW;have e1:=(List.takeWhile_prefix (fun v=>z v==46) (l:=(kq z (0,uM wh) f).take (yx wh f))).length_le;have e2:=List.length_take_le (yx wh f) (kq z (0,uM wh) f);have e3:=wT wh f;omega
  ·split
   ·rw[qZ];have e1:(uz z wh fc f).length<=1:=by unfold uz;split<;>simp
    have e2:(pA z wh fc f).length<=1:=by unfold pA;split<;>simp
    omega
   ·simp
 omega
theorem sY(z:Nat->UInt8)(wh:Bool)(fc:Nat->Bool)(b:Int):(yo z wh fc b).length<=1000000:=by
 have h:(ye z wh fc b 64).length<=64*(130*4):=by
  unfold ye;refine jz (by simp) fun f _=>?_
  unfold nh;split
  ·exact jz (DY z wh fc b f) fun t _=>pf _ _ _
  ·simp
 have:=List.length_filter_le (uS z wh b) (ye z wh fc b 64);unfold yo;omega
theorem qzm(PA:Array Value)(w:World):Calls Tryz.prog 65 #[.agg PA] w fun e w'=>∃B1 Bt Bf,e=.returned (.func (.func 155) #[] #[.pointer (some ⟨Bt,0,none⟩),.pointer (some ⟨Bf,0,none⟩)])/\w'.heap[w.heap.size]?=some (.cells PA 70)/\w'.heap[B1]?=some (.cells #[.pointer (some ⟨w.heap.size,0,none⟩)] 229)/\w'.heap[Bt]?=some (.cells #[.func (.func 223) #[] #[.pointer (some ⟨B1,0,none⟩)]] 141)/\w'.heap[Bf]?=some (.cells #[.func (.func 153) #[] #[.pointer (some ⟨w.heap.size,0,none⟩)]] 143)/\Gr w w':=by
 have hmf:∀(fn:Fn)(first cap:Array Value)(w:World),(Instr.makeFunc fn first cap).run Tryz.prog w=.ok (.func fn first cap) w:=fun _ _ _ _=>rfl
 have x1:=World.alloc_heap_new w (.cells PA 70);have hg1:Gr w (w.alloc (.cells PA 70)):=(Gr.refl w).alloc _ _;go_enter Tryz.func65,Tryz.ntmps65
 go_wp2_with(first
  | (go_at_call 152;refine(aj _ _).mono ?_;rintro e w2 ⟨rfl,x2,hg2⟩)
  | (go_at_call 67;refine(dV _ _ _ _ _).mono ?_;rintro e w3 ⟨rfl,x3,x4,hg3⟩))
 go_ret;have hg23:=Gr.trans hg2 hg3;rw[World.size_alloc]at x2;exact⟨w.heap.size+1,_,_,rfl,(Below.block hg23 _ (qB.1 x1).1).trans x1,(Below.block hg3 _ (qB.1 x2).1).trans x2,x3,x4,Gr.trans hg1 hg23⟩
theorem mkL{z:Nat->UInt8}{wh:Bool}{fc:Nat->Bool}{b h g:Int}{PA:Array Value}(r:jE z wh fc b h g PA)(hok:lg z wh fc b)(w:World)(hS:vT w) :
  iM 65 155 PA (yo z wh fc b) w where
 em:=enters_of Tryz.func65 (by kernel_rfl) rfl
 ei:=enters_of Tryz.func155 (by kernel_rfl) rfl
 ok:=fun x hx=>iI hok.home (qV.1 hx).1
 len:=sY z wh fc b
 go:=by
  intro T hTm W hg;refine(qzm PA W).mono ?_;rintro e w' ⟨B1,Bt,Bf,rfl,hp,h1,ht,hf,hg2⟩;have hgw:=Gr.trans hg hg2;have hS':=hS.gr hgw;have hps:=Ps.of r hp;have hit:=ak hok.home B1 W.heap.size T hTm w' (qi h1).1 hps hS';refine⟨_,_,rfl,hg2,?_,qkg hit (enters_of Tryz.func223 (by kernel_rfl) rfl) (enters_of Tryz.func153 (by kernel_rfl) rfl) (z6.cells hTm) (fun c fr=>z6.no hTm (by decide)) ?_ Bt Bf (uS z wh b) ht hf ?_⟩
  ·rintro k ((rfl|rfl|rfl)|rfl|rfl)
   ·exact(qB.1 h1).1
   ·exact(qB.1 hp).1
   ·exact hS'.2
   ·exact(qB.1 ht).1
   ·exact(qB.1 hf).1
  ·rintro k (rfl|rfl|rfl)
   ·exact(qB.1 h1).1
   ·exact(qB.1 hp).1
   ·exact hS'.2
  ·rintro⟨f,t,u⟩ hx V fV;obtain⟨y,hy,hky⟩:=hok.kg _ hx;have hm:=iI hok.home hx;have:=mt r f t u hm.1 hm.2 (hok.k1 f t u hx) (hok.k2 f t u hx) y hy hky W.heap.size V (fV.same _ _ hp (.inr (.inl rfl))) (hS'.fr fV (fun _=>.inr (.inr rfl)));have e:uS z wh b (f,t,u)=!(vL (zE z b (f,t,u)) y (!wh)):=by unfold uS;rw[hky];rfl
   rw[e];exact this
end
end Go.Proofs.YtnfakamfmkhlbabGreatDoor.C
