import Derived.Test.YtnfakamfmkhlbaaGreatDoorZs47
set_option maxRecDepth 100000
set_option maxHeartbeats 4000000
set_option linter.unusedSimpArgs false
namespace Go.Proofs.YtnfakamfmkhlbaaGreatDoor.C
open Go.ChangeShapes Go.WideShapes Go.ChangeAt Go.RowKit Go.Shelf
open Go.Proofs.YtnfakamfmkhlbaaGreatDoor.P
attribute [local go_sem] qd qi Oper.semAt_some
theorem lookR_any (s:ByteArray) (hs:s.size<4294967281) (w:World):Calls Tryz.prog 49 #[.string s] w fun e w'=>LookEnd s e/\Gr w w':=by
 have hg0:Gr w (w.alloc (.cells #[.bool false,.int .i64 0,.int .i64 0] 44)):=(Gr.refl w).alloc _ _;have hst0:=heap_alloc_new w (.cells #[.bool false,.int .i64 0,.int .i64 0] 44);have h1:Hid (∀ W,Calls Tryz.prog 38 #[.string s] W fun e w'=>ParseEnd s e/\Gr W w'):=hide (fun W=>qzy s hs W);rcases xu s with ⟨p,hr,hcan,hone⟩|⟨k,hk,hbad,hone⟩
 ·have h2:Hid (∀ W,Calls Tryz.prog 38 #[.string s] W fun e w'=>e=.returned (.tuple #[.agg (posV p),.int .i64 0])/\Gr W w'):=hide (fun W=>(qa h1 W).mono fun e w' h=>⟨hone e h.1,h.2⟩);have hrow:=jf hr;have hz:=hrow.size;have ho:=hide (qy hrow);obtain ⟨hC,hb0,hb1⟩:=qqs hr hcan;obtain ⟨c0,c1,c2,c3⟩:=qx9 hcan;obtain ⟨k0,k1⟩:=pos_king hr hcan;have hsta:Hid (∀ W:World,Calls Tryz.prog 107 #[.agg (posV p)] W fun e w'=>e=.returned (.agg (lookV (posZ p) p.white p.castle p.behind))/\Gr W w'):=hide (fun W=>stateR_any hrow hC hb0 hb1 c0 c1 c2 c3 k0 k1 W);have hend:Hid (LookEnd s (.returned (.tuple #[.agg (lookV (posZ p) p.white p.castle p.behind),.int .i64 0]))):=hide (.inr ⟨p,hr,hcan,rfl⟩);obtain ⟨LV,hLV,hLs,hLo⟩:∃ LV,LV=lookV (posZ p) p.white p.castle p.behind/\LV.size=3/\Hid (LV.all (·.oneCell')=true):=⟨_,rfl,rfl,hide (xa _ _ _)⟩;rw [<-hLV] at hsta hend;generalize posV p=A at h2 hz ho hsta;clear h1 hone hrow hr hcan hC hb0 hb1 c0 c1 c2 c3 k0 k1 hs hLV;go_enter Tryz.func49,Tryz.ntmps49;go_upto_region 1 with fail;generalize w.alloc (.cells #[.bool false,.int .i64 0,.int .i64 0] 44)=w0 at hg0 hst0 ⊢
  go_upto_region 4 with (first
   | (go_at_call 38;refine (qa h2 _).mono ?_;rintro e w3 ⟨rfl,hg3⟩;have y1:=heap_alloc_new w3 (.cells Tryz.zeroCells25 25))
   | (refine wpList_store_row rfl 25 _ _ rfl w3.heap.size A rfl rfl 25 Tryz.zeroCells25 (by with_reducible exact y1) (by rw [hz];exact infoP) (by rw [hz];exact zeroP.symm) (qa ho) ?_))
  have hg4:Gr w3 ((w3.alloc (.cells Tryz.zeroCells25 25)).setRow w3.heap.size A):=((Gr.refl w3).alloc _ _).setRow _ (Nat.le_refl _) _;have hb4:((w3.alloc (.cells Tryz.zeroCells25 25)).setRow w3.heap.size A).heap[w3.heap.size]?=some (.cells A 25):=setRow_heap _ _ _ _ _ _ y1;generalize (w3.alloc (.cells Tryz.zeroCells25 25)).setRow w3.heap.size A=w4 at hg4 hb4 ⊢;generalize w3.heap.size=b1 at hb4 ⊢;have hg04:=Gr.trans hg3 hg4;have hrs4:=(Below.block hg04 _ (xc hst0)).trans hst0;have hgw:=Gr.trans hg0 hg04;have hrw:=hide (qv hb4);clear hg3 hg4 hg04 hg0 hst0 hb4 y1 h2
  go_upto_region 5 with (first
   | (go_at_call 107;refine (qa hsta _).mono ?_;rintro e w5 ⟨rfl,hg5⟩;have y2:=heap_alloc_new w5 (.cells #[.bool false,.int .i64 0,.int .i64 0] 44))
   | (refine wpList_store_row rfl 44 _ _ rfl w5.heap.size LV rfl rfl 44 #[.bool false,.int .i64 0,.int .i64 0] (by with_reducible exact y2) (by rw [hLs];exact infoSt) (by rw [hLs];rfl) (qa hLo) ?_)
   | (refine ql (by rfl) _ rfl b1 rfl hz (qa hrw) ?_))
  have hg6:Gr w5 ((w5.alloc (.cells #[.bool false,.int .i64 0,.int .i64 0] 44)).setRow w5.heap.size LV):=((Gr.refl w5).alloc _ _).setRow _ (Nat.le_refl _) _;have hb6:((w5.alloc (.cells #[.bool false,.int .i64 0,.int .i64 0] 44)).setRow w5.heap.size LV).heap[w5.heap.size]?=some (.cells LV 44):=setRow_heap _ _ _ _ _ _ y2;generalize (w5.alloc (.cells #[.bool false,.int .i64 0,.int .i64 0] 44)).setRow w5.heap.size LV=w6 at hg6 hb6 ⊢;generalize w5.heap.size=b2 at hb6 ⊢;have hg46:=Gr.trans hg5 hg6;have hrs6:=(Below.block hg46 _ (xc hrs4)).trans hrs4;have hgf:=hide (Gr.trans hgw hg46);clear hg5 hg6 hg46 hrs4 hgw hrw y2 hsta
  go_wp2_with (first
   | (refine wpList_load_row rfl 44 _ rfl b2 rfl 44 LV (0,0) _ (by with_reducible exact hb6) Tryz.underlying44 rfl (by rw [hLs];exact infoSt) ?_)
   | (refine wpList_store_row rfl 44 _ _ rfl w.heap.size LV rfl rfl 44 #[.bool false,.int .i64 0,.int .i64 0] (by with_reducible exact hrs6) (by rw [hLs];exact infoSt) (by rw [hLs];rfl) (qa hLo) ?_))
  exact bodyPost_ret (v:=.tuple #[.agg LV,.int .i64 0]) (qj Tryz.results49 _ _ w.heap.size 44 _ (0,0) _ rfl (setRow_heap _ _ _ _ _ _ hrs6) Tryz.underlying44 rfl (by rw [hLs];exact infoSt)) rfl ⟨qa hend,(qa hgf).setRow _ (Nat.le_refl _) _⟩
 ·have h2:Hid (∀ W,Calls Tryz.prog 38 #[.string s] W fun e w'=>e=.returned (.tuple #[.agg Tryz.zeroCells25,.int .i64 k])/\Gr W w'):=hide (fun W=>(qa h1 W).mono fun e w' h=>⟨hone e h.1,h.2⟩);have hend:Hid (LookEnd s (.returned (.tuple #[.agg (stateA false 0 0),.int .i64 k]))):=hide (.inl ⟨k,hbad,rfl⟩);have k2:(k != 0)=true:=by rw [bne_iff_ne];exact hk
  clear h1 hone hbad hk hs;go_enter Tryz.func49,Tryz.ntmps49;go_upto_region 1 with fail;generalize w.alloc (.cells #[.bool false,.int .i64 0,.int .i64 0] 44)=w0 at hg0 hst0 ⊢
  go_upto_region 2 with (first
   | (go_at_call 38;refine (qa h2 _).mono ?_;rintro e w3 ⟨rfl,hg3⟩;have y1:=heap_alloc_new w3 (.cells Tryz.zeroCells25 25))
   | (refine wpList_store_row rfl 25 _ _ rfl w3.heap.size Tryz.zeroCells25 rfl rfl 25 Tryz.zeroCells25 (by with_reducible exact y1) (by rw [zeroP];exact infoP) rfl zeroP_ones ?_))
  have hg4:Gr w3 ((w3.alloc (.cells Tryz.zeroCells25 25)).setRow w3.heap.size Tryz.zeroCells25):=((Gr.refl w3).alloc _ _).setRow _ (Nat.le_refl _) _;generalize (w3.alloc (.cells Tryz.zeroCells25 25)).setRow w3.heap.size Tryz.zeroCells25=w4 at hg4 ⊢;have hg04:=Gr.trans hg3 hg4;have hrs6:=(Below.block hg04 _ (xc hst0)).trans hst0;have hgf:=hide (Gr.trans hg0 hg04);clear hg3 hg4 hg04 hg0 hst0 y1 h2;go_wp2_with (refine wpList_store_row rfl 44 _ _ rfl w.heap.size #[.bool false,.int .i64 0,.int .i64 0] rfl rfl 44 #[.bool false,.int .i64 0,.int .i64 0] (by with_reducible exact hrs6) infoSt rfl (xa false 0 0) ?_);exact bodyPost_ret (v:=.tuple #[.agg (stateA false 0 0),.int .i64 k]) (qj Tryz.results49 _ _ w.heap.size 44 _ (0,0) _ rfl (setRow_heap _ _ _ _ _ _ hrs6) Tryz.underlying44 rfl infoSt) rfl ⟨qa hend,(qa hgf).setRow _ (Nat.le_refl _) _⟩
theorem look_one (s:ByteArray):∃ (c:Bool) (n o k:Int),∀ e,LookEnd s e->e=.returned (.tuple #[.agg #[.bool c,.int .i64 n,.int .i64 o],.int .i64 k]):=by
 rcases xu s with ⟨p,hr,hcan,_⟩|⟨k,hk,hbad,_⟩
 ·refine ⟨chkS (posZ p) p.white,((movS (posZ p) p.white p.castle p.behind).length:Int),overN (posZ p) (chkS (posZ p) p.white) ((movS (posZ p) p.white p.castle p.behind).length:Int),0,fun e h=>?_⟩;rcases h with ⟨k,a,_⟩|⟨q,a,b,rfl⟩
  ·exfalso
   rcases a with ⟨_,a⟩|⟨_,q,a,b⟩
   ·rw [hr] at a;cases a
   ·rw [hr] at a;rw [<-Option.some.inj a,hcan] at b;cases b
  ·rw [hr] at a;rw [<-Option.some.inj a];rfl
 ·refine ⟨false,0,0,k,fun e h=>?_⟩;rcases h with ⟨k',a,rfl⟩|⟨q,a,b,rfl⟩
  ·rw [err_one (t:=⟨#[]⟩) (.inl hbad) (.inl a)];rfl
  ·exfalso
   rcases hbad with ⟨_,c⟩|⟨_,r,c,d⟩
   ·rw [c] at a;cases a
   ·rw [c] at a;rw [<-Option.some.inj a,d] at b;cases b
theorem looksL_any (s:ByteArray) (hs:s.size<4294967281) (m:Int) (w:World) (hc:Ct m w) (htb:Tabs w):Calls Tryz.prog 23 #[.string s] w fun e w'=>e=.returned (.bool true)/\Gr w w':=by
 obtain ⟨c,n,o,k,hone⟩:=look_one s;have h1:Hid (Calls Tryz.prog 21 #[.string s] w fun e w'=>e=.returned (.tuple #[.agg #[.bool c,.int .i64 n,.int .i64 o],.int .i64 k])/\Gr w w'):=hide ((rookLook_any s hs (fun p a b=>pos_king a b) m w hc htb).mono fun e w' h=>⟨hone e h.1,h.2⟩);have h2:Hid (∀ W,Calls Tryz.prog 49 #[.string s] W fun e w'=>e=.returned (.tuple #[.agg #[.bool c,.int .i64 n,.int .i64 o],.int .i64 k])/\Gr W w'):=hide (fun W=>(lookR_any s hs W).mono fun e w' h=>⟨hone e h.1,h.2⟩);clear hc htb hone hs;go_enter Tryz.func23,Tryz.ntmps23;go_upto_region 2 with (go_at_call 21;refine (qa h1).mono ?_;rintro e w1 ⟨rfl,hg1⟩);have hg2:Gr w1 (w1.alloc (.cells #[.bool c,.int .i64 n,.int .i64 o] 44)):=(Gr.refl w1).alloc _ _;have hb2:=heap_alloc_new w1 (.cells #[.bool c,.int .i64 n,.int .i64 o] 44);show Code.wp _ _ _ _ (w1.alloc (.cells #[.bool c,.int .i64 n,.int .i64 o] 44));generalize w1.alloc (.cells #[.bool c,.int .i64 n,.int .i64 o] 44)=w2 at hg2 hb2 ⊢;generalize w1.heap.size=b1 at hb2 ⊢;go_upto_region 3 with (go_at_call 49;refine (qa h2 _).mono ?_;rintro e w3 ⟨rfl,hg3⟩);have hg4:Gr w3 (w3.alloc (.cells #[.bool c,.int .i64 n,.int .i64 o] 44)):=(Gr.refl w3).alloc _ _;have hb4:=heap_alloc_new w3 (.cells #[.bool c,.int .i64 n,.int .i64 o] 44);show Code.wp _ _ _ _ (w3.alloc (.cells #[.bool c,.int .i64 n,.int .i64 o] 44));generalize w3.alloc (.cells #[.bool c,.int .i64 n,.int .i64 o] 44)=w4 at hg4 hb4 ⊢;generalize w3.heap.size=b3 at hb4 ⊢;have hg24:=Gr.trans hg3 hg4;have hb2':=(Below.block hg24 _ (xc hb2)).trans hb2;have a0:w4.cell? ⟨b1,0,none⟩=some (.bool c):=by rw [qm hb2'];rfl
 have a1:w4.cell? ⟨b1,1,none⟩=some (.int .i64 n):=by rw [qm hb2'];rfl
 have a2:w4.cell? ⟨b1,2,none⟩=some (.int .i64 o):=by rw [qm hb2'];rfl
 have d0:w4.cell? ⟨b3,0,none⟩=some (.bool c):=by rw [qm hb4];rfl
 have d1:w4.cell? ⟨b3,1,none⟩=some (.int .i64 n):=by rw [qm hb4];rfl
 have d2:w4.cell? ⟨b3,2,none⟩=some (.int .i64 o):=by rw [qm hb4];rfl
 have hg:=hide (Gr.trans (Gr.trans hg1 hg2) hg24);clear h1 h2 hg1 hg2 hg3 hg4 hg24 hb2 hb2' hb4;go_wp2_with (go_at_call 16;refine (num_any _ _).mono ?_;rintro e w' ⟨rfl,hww⟩;have hww':=hww.symm;subst hww';clear hww);go_ret;exact ⟨rfl,qa hg⟩
theorem plays_any (s t:ByteArray) (hs:s.size<4294967281) (ht:t.size<4294967281) (m:Int) (w:World) (hc:Ct m w) (htb:Tabs w) (hpw:Tab w):Calls Tryz.prog 6 #[.string s,.string t] w fun e w'=>e=.returned (.bool true)/\Gr w w':=by
 have h0:=hide (sure_any m w hc htb);have h1:Hid (∀ W,Gr w W->Calls Tryz.prog 22 #[.string s,.string t] W fun e w'=>e=.returned (.bool true)/\Gr W w'):=hide fun W hg=>playsL_any s t hs ht m W (hc.gr hg) (htb.gr hg) (hpw.gr hg)
 have h2:Hid (∀ W,Gr w W->Calls Tryz.prog 23 #[.string s] W fun e w'=>e=.returned (.bool true)/\Gr W w'):=hide fun W hg=>looksL_any s hs m W (hc.gr hg) (htb.gr hg)
 clear hc htb hpw hs ht;go_enter Tryz.func6,Tryz.ntmps6;go_upto_region 2 with (go_at_call 17;refine (qa h0).mono ?_;rintro e w1 ⟨rfl,hg1⟩);go_upto_region 3 with (go_at_call 22;refine (qa h1 _ hg1).mono ?_;rintro e w2 ⟨rfl,hg2⟩);have hg12:=Gr.trans hg1 hg2;clear hg1 hg2 h0 h1;go_upto_region 4 with (go_at_call 23;refine (qa h2 _ hg12).mono ?_;rintro e w3 ⟨rfl,hg3⟩);have hg:=hide (Gr.trans hg12 hg3);clear hg12 hg3 h2;go_wp2_with fail;go_ret;exact ⟨rfl,qa hg⟩
end Go.Proofs.YtnfakamfmkhlbaaGreatDoor.C
