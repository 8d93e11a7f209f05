import Derived.Test.YtnfakamfmkhlbabGreatDoorUm6
import Derived.Test.YtnfakamfmkhlbabGreatDoorUm3
import Derived.Test.YtnfakamfmkhlbabGreatDoorUm1
import Derived.Test.YtnfakamfmkhlbabGreatDoorUm2
import Derived.Test.YtnfakamfmkhlbabGreatDoorUm4
set_option maxRecDepth 100000
set_option maxHeartbeats 4000000
set_option linter.unusedSimpArgs false
namespace Go.Proofs.YtnfakamfmkhlbabGreatDoor.C
open Go.ChangeShapes Go.WideShapes Go.ChangeAt Go.RowKit Go.Proofs.YtnfakamfmkhlbabGreatDoor.P Go.Shelf
section
attribute [local go_sem] qd qe
def zJ(b:Nat)(A:Array Value)(w:World):Prop:=b<w.heap.size/\w.rangeAt b 0 A.toList
theorem zJ.gr{b:Nat}{A:Array Value}{w w':World}(h:zJ b A w)(g:Gr w w'):zJ b A w' :=
 ⟨qN h.1 (Below.size g),fun j v hv=>(Below.cell g (p:=⟨b,0+j,none⟩) h.1).trans (h.2 j v hv)⟩
theorem jJ:(Tryz.prog.info? 70).map (·.size)=some 72:=by kernel_rfl
theorem ql{ops:Array Oper}{rest:List Oper}{o:Oper}{a:Act}{w:World}{A:Array Value}{Q:Exit->Act->World->Prop}(hw:Region.wanted o (yielded ops a.tmps)=true)(x:Operand)(ho:o.op=.load 70 x)(b:Nat)(hx:a.eval x=.pointer (some ⟨b,0,none⟩))(hz:A.size=72)(hh:zJ b A w)
  (h:wpList Tryz.prog ops Q rest (a.put o.dst (.agg A)) w):wpList Tryz.prog ops Q (o :: rest) a w :=
 wpList_step fun K hK=>by
  rw[qI hw];refine wp_load_mid (P:=Tryz.prog) 70 x ho b 0 hx A.toList _ hh.2 Tryz.underlying70 rfl (by rw[jJ];simp[hz]) ?_;rw[Array.toArray_toList];exact hK _ _ h
structure Sp(w:World)(PA:Array Value)(bM:Nat)(M:Array Value)(wh:Bool)(cur:World):Prop where
 row:zJ w.heap.size PA cur
 wh:cur.cell? ⟨w.heap.size,64,none⟩=some (.bool wh)
 men:vh bM M cur
 tab:jF cur
 homes:vJ cur
 gr:Gr w cur
theorem Sp.next{w cur cur':World}{PA M:Array Value}{bM:Nat}{wh:Bool}(h:Sp w PA bM M wh cur)(g:Gr cur cur'):Sp w PA bM M wh cur' :=
 ⟨h.row.gr g,(Below.cell g (p:=⟨w.heap.size,64,none⟩) h.row.1).trans h.wh,h.men.gr g,h.tab.gr g,h.homes.gr g,Gr.trans h.gr g⟩
def cK(z:Nat->UInt8)(wh:Bool)(f:Nat->Bool)(b h g:Int)(m:Nat->BitVec 64):Bool:=vM m true&&vM m false&&jH z f&&xX z wh b&&zP h g&&!(kD m wh)
def k6(z:Nat->UInt8)(wh:Bool)(f:Nat->Bool)(b h g:Int):Bool:=xO z&&cK z wh f b h g (xD z 64)
theorem db{z:Nat->UInt8}{B:Array Value}(hok:xO z=true)(hs:B.size=64)(hB:∀i,i<64->B[i]?=some (.int .u8 ((z i).toNat:Int)))(w:World):Calls Tryz.prog 126 #[.agg B] w fun e w'=>∃M,e=.returned (.tuple #[.agg M,.bool true])/\jS (xD z 64) M/\Gr w w' :=
 (lE z B hs hB w).mono fun e w' h=>by
  obtain⟨⟨M,h1,_,h3⟩,hg⟩:=h;rw[hok]at h1;exact⟨M,h1,h3 hok,hg⟩
theorem EJ{z:Nat->UInt8}{B:Array Value}(hok:xO z=false)(hs:B.size=64)(hB:∀i,i<64->B[i]?=some (.int .u8 ((z i).toNat:Int)))(w:World):Calls Tryz.prog 126 #[.agg B] w fun e w'=>∃M m,e=.returned (.tuple #[.agg M,.bool false])/\jS m M/\Gr w w' :=
 (lE z B hs hB w).mono fun e w' h=>by
  obtain⟨⟨M,h1,⟨m,hm⟩,_⟩,hg⟩:=h;rw[hok]at h1;exact⟨M,m,h1,hm,hg⟩
theorem t6{z:Nat->UInt8}{wh:Bool}{f:Nat->Bool}{b h g:Int}{PA:Array Value}(r:jE z wh f b h g PA)(w:World)(hT:jF w)(hH:vJ w)(hok:xO z=true):Calls Tryz.prog 63 #[.agg PA] w fun e w'=>e=.returned (.bool (cK z wh f b h g (xD z 64)))/\Gr w w':=by
 have hg1:Gr w (w.alloc (.cells PA 70)):=(Gr.refl w).alloc _ _;have hc:∀o,(w.alloc (.cells PA 70)).cell? ⟨w.heap.size,o,none⟩=PA[o]?:=fun o=>World.cell?_alloc_at _ _ _ _ rfl
 have hrow:zJ w.heap.size PA (w.alloc (.cells PA 70)):=⟨by rw[World.size_alloc];omega,fun j v hv=>by rw[hc,Nat.zero_add,<-qO];exact hv⟩
 have h64:(w.alloc (.cells PA 70)).rangeAt w.heap.size 0 (PA.toList.take 64):=fun j v hv=>by
  rw[hc,Nat.zero_add,<-qO];rw[List.getElem?_take]at hv;split at hv
  ·exact hv
  ·cases hv
 have hz64:(PA.toList.take 64).length=64:=by simp[r.size]
 have hB:∀i,i<64->(PA.toList.take 64).toArray[i]?=some (.int .u8 ((z i).toNat:Int)):=fun i hi=>by
  rw[List.getElem?_toArray,List.getElem?_take,qI hi,qO];exact r.sq i hi
 have hlay:=qC (db hok (by simpa using hz64) hB);have hwh0:(w.alloc (.cells PA 70)).cell? ⟨w.heap.size,64,none⟩=some (.bool wh):=by rw[hc];exact r.wh
 have hz:=r.size;have r':=qC r;have hT':=qC (hT.gr hg1);have hH':=qC (hH.gr hg1);have hg1':=qC hg1;have h64':=qC h64;have hi64:Hid ((Tryz.prog.info? 67).map (·.size)=some (PA.toList.take 64).length):=qC (by rw[hz64];exact x7);have hrow':=qC hrow;have hwh':=qC hwh0;clear r hT hH hg1 h64 hrow hB hc hwh0 hz64 hok;generalize PA.toList.take 64=L at hlay h64' hi64;generalize xD z 64=m at hlay ⊢;have k0:Hid (∀(bb:Bool)(M:Array Value)(W:World),jS m M->jF W->Calls Tryz.prog 142 #[.agg M,.bool bb] W fun e w'=>e=.returned (.bool (vM m bb))/\Gr W w'):=qC fun bb M W h t=>bO m M h bb W t
 have k2:Hid (∀W:World,vJ W->Calls Tryz.prog 143 #[.agg PA] W fun e w'=>e=.returned (.bool (jH z f))/\Gr W w'):=qC fun W t=>tj (qa r') W t
 have k3:Hid (∀W:World,Calls Tryz.prog 144 #[.agg PA] W fun e w'=>e=.returned (.bool (xX z wh b))/\Gr W w'):=qC fun W=>nS (qa r') W
 have k4:Hid (∀W:World,Calls Tryz.prog 145 #[.agg PA] W fun e w'=>e=.returned (.bool (zP h g))/\Gr W w'):=qC fun W=>fh (qa r') W
 have k5:Hid (∀(M:Array Value)(W:World),jS m M->jF W->Calls Tryz.prog 146 #[.agg M,.bool wh] W fun e w'=>e=.returned (.bool (kD m wh))/\Gr W w'):=qC fun M W h t=>mS m M h wh W t
 have hcan:Hid (cK z wh f b h g m=(vM m true&&vM m false&&jH z f&&xX z wh b&&zP h g&&!(kD m wh))):=qC rfl;generalize vM m=qs at k0 hcan;generalize jH z f=q2 at k2 hcan;generalize xX z wh b=q3 at k3 hcan;generalize zP h g=q4 at k4 hcan;generalize kD m wh=q5 at k5 hcan;obtain⟨q0,hq0⟩:∃q,Hid (qs true=q):=⟨_,qC rfl⟩;obtain⟨q1,hq1⟩:∃q,Hid (qs false=q):=⟨_,qC rfl⟩;have hcan2:Hid (cK z wh f b h g m=(q0&&q1&&q2&&q3&&q4&&!q5)):=qC (by rw[qa hcan,qa hq0,qa hq1]);clear hcan;go_enter Tryz.func63,Tryz.ntmps63
 go_upto_region 2 with(first
  | (refine wpList_load_mid rfl 67 _ rfl w.heap.size 0 rfl L _ (qa h64') Tryz.underlying67 rfl (qa hi64) ?_)
  | (go_at_call 126;refine(qa hlay _).mono ?_;rintro e w2 ⟨M,rfl,hM,hg2⟩)
  | (refine wpList_store_row rfl 197 _ _ rfl w2.heap.size M rfl rfl 197 _ (heap_alloc_new _ _) hM.info hM.1.symm hM.ones ?_))
 generalize hw3:(w2.alloc (.cells #[.int .u64 0,.int .u64 0,.int .u64 0,.int .u64 0,.int .u64 0,.int .u64 0,.int .u64 0,.int .u64 0,.int .u64 0,.int .u64 0,.int .u64 0,.int .u64 0] 197)).setRow w2.heap.size M=w3;have hb3:w3.heap[w2.heap.size]?=some (.cells M 197):=by rw[<-hw3];exact setRow_heap _ _ _ _ _ _ (heap_alloc_new w2 _)
 have hg3:Gr w2 w3:=by rw[<-hw3];exact((Gr.refl w2).alloc _ _).setRow _ (qL _) _
 have hg13:Gr (w.alloc (.cells PA 70)) w3:=Gr.trans hg2 hg3;have hsp:Sp w PA w2.heap.size M wh w3:=⟨(qa hrow').gr hg13,(Below.cell hg13 (p:=⟨w.heap.size,64,none⟩) (qa hrow').1).trans (qa hwh'),jt hb3 hM.1,(qa hT').gr hg13,(qa hH').gr hg13,Gr.trans (qa hg1') hg13⟩;have hwc:=hsp.wh;clear hw3 hb3 hg3 hg13 hg2 hlay h64' hi64 hrow' hwh' hT' hH' hg1' r';cases q0
 ·go_wp2_with(first
   | (refine qp (by rfl) _ rfl w2.heap.size rfl (Sp.men (w:=w) (PA:=PA) (wh:=wh) (by assumption)) ?_)
   | (refine ql (by rfl) _ rfl w.heap.size rfl hz (Sp.row (bM:=w2.heap.size) (M:=M) (wh:=wh) (by assumption)) ?_)
   | (go_at_call 142;refine(qa k0 _ M _ hM (Sp.tab (w:=w) (PA:=PA) (bM:=w2.heap.size) (M:=M) (wh:=wh) (by assumption))).mono ?_;rintro e w' ⟨rfl,hg⟩;(first|rw[qa hq0]|rw[qa hq1]);have hsp:=Sp.next (by assumption) hg;have hwc:=hsp.wh)
   | (go_at_call 143;refine(qa k2 _ (Sp.homes (w:=w) (PA:=PA) (bM:=w2.heap.size) (M:=M) (wh:=wh) (by assumption))).mono ?_;rintro e w' ⟨rfl,hg⟩;have hsp:=Sp.next (by assumption) hg;have hwc:=hsp.wh)
   | (go_at_call 144;refine(qa k3 _).mono ?_;rintro e w' ⟨rfl,hg⟩;have hsp:=Sp.next (by assumption) hg;have hwc:=hsp.wh)
   | (go_at_call 145;refine(qa k4 _).mono ?_;rintro e w' ⟨rfl,hg⟩;have hsp:=Sp.next (by assumption) hg;have hwc:=hsp.wh)
   | (go_at_call 146;refine(qa k5 M _ hM (Sp.tab (w:=w) (PA:=PA) (bM:=w2.heap.size) (M:=M) (wh:=wh) (by assumption))).mono ?_;rintro e w' ⟨rfl,hg⟩;have hsp:=Sp.next (by assumption) hg;have hwc:=hsp.wh))
  go_ret;exact⟨by rw[qa hcan2];rfl,hsp.gr⟩
 ·cases q1
  ·go_wp2_with(first
    | (refine qp (by rfl) _ rfl w2.heap.size rfl (Sp.men (w:=w) (PA:=PA) (wh:=wh) (by assumption)) ?_)
    | (refine ql (by rfl) _ rfl w.heap.size rfl hz (Sp.row (bM:=w2.heap.size) (M:=M) (wh:=wh) (by assumption)) ?_)
    | (go_at_call 142;refine(qa k0 _ M _ hM (Sp.tab (w:=w) (PA:=PA) (bM:=w2.heap.size) (M:=M) (wh:=wh) (by assumption))).mono ?_;rintro e w' ⟨rfl,hg⟩;(first|rw[qa hq0]|rw[qa hq1]);have hsp:=Sp.next (by assumption) hg;have hwc:=hsp.wh)
    | (go_at_call 143;refine(qa k2 _ (Sp.homes (w:=w) (PA:=PA) (bM:=w2.heap.size) (M:=M) (wh:=wh) (by assumption))).mono ?_;rintro e w' ⟨rfl,hg⟩;have hsp:=Sp.next (by assumption) hg;have hwc:=hsp.wh)
    | (go_at_call 144;refine(qa k3 _).mono ?_;rintro e w' ⟨rfl,hg⟩;have hsp:=Sp.next (by assumption) hg;have hwc:=hsp.wh)
    | (go_at_call 145;refine(qa k4 _).mono ?_;rintro e w' ⟨rfl,hg⟩;have hsp:=Sp.next (by assumption) hg;have hwc:=hsp.wh)
    | (go_at_call 146;refine(qa k5 M _ hM (Sp.tab (w:=w) (PA:=PA) (bM:=w2.heap.size) (M:=M) (wh:=wh) (by assumption))).mono ?_;rintro e w' ⟨rfl,hg⟩;have hsp:=Sp.next (by assumption) hg;have hwc:=hsp.wh))
   go_ret;exact⟨by rw[qa hcan2];rfl,hsp.gr⟩
  ·cases q2
   ·go_wp2_with(first
     | (refine qp (by rfl) _ rfl w2.heap.size rfl (Sp.men (w:=w) (PA:=PA) (wh:=wh) (by assumption)) ?_)
     | (refine ql (by rfl) _ rfl w.heap.size rfl hz (Sp.row (bM:=w2.heap.size) (M:=M) (wh:=wh) (by assumption)) ?_)
     | (go_at_call 142;refine(qa k0 _ M _ hM (Sp.tab (w:=w) (PA:=PA) (bM:=w2.heap.size) (M:=M) (wh:=wh) (by assumption))).mono ?_;rintro e w' ⟨rfl,hg⟩;(first|rw[qa hq0]|rw[qa hq1]);have hsp:=Sp.next (by assumption) hg;have hwc:=hsp.wh)
     | (go_at_call 143;refine(qa k2 _ (Sp.homes (w:=w) (PA:=PA) (bM:=w2.heap.size) (M:=M) (wh:=wh) (by assumption))).mono ?_;rintro e w' ⟨rfl,hg⟩;have hsp:=Sp.next (by assumption) hg;have hwc:=hsp.wh)
     | (go_at_call 144;refine(qa k3 _).mono ?_;rintro e w' ⟨rfl,hg⟩;have hsp:=Sp.next (by assumption) hg;have hwc:=hsp.wh)
     | (go_at_call 145;refine(qa k4 _).mono ?_;rintro e w' ⟨rfl,hg⟩;have hsp:=Sp.next (by assumption) hg;have hwc:=hsp.wh)
     | (go_at_call 146;refine(qa k5 M _ hM (Sp.tab (w:=w) (PA:=PA) (bM:=w2.heap.size) (M:=M) (wh:=wh) (by assumption))).mono ?_;rintro e w' ⟨rfl,hg⟩;have hsp:=Sp.next (by assumption) hg;have hwc:=hsp.wh))
    go_ret;exact⟨by rw[qa hcan2];rfl,hsp.gr⟩
   ·cases q3
    ·go_wp2_with(first
      | (refine qp (by rfl) _ rfl w2.heap.size rfl (Sp.men (w:=w) (PA:=PA) (wh:=wh) (by assumption)) ?_)
      | (refine ql (by rfl) _ rfl w.heap.size rfl hz (Sp.row (bM:=w2.heap.size) (M:=M) (wh:=wh) (by assumption)) ?_)
      | (go_at_call 142;refine(qa k0 _ M _ hM (Sp.tab (w:=w) (PA:=PA) (bM:=w2.heap.size) (M:=M) (wh:=wh) (by assumption))).mono ?_;rintro e w' ⟨rfl,hg⟩;(first|rw[qa hq0]|rw[qa hq1]);have hsp:=Sp.next (by assumption) hg;have hwc:=hsp.wh)
      | (go_at_call 143;refine(qa k2 _ (Sp.homes (w:=w) (PA:=PA) (bM:=w2.heap.size) (M:=M) (wh:=wh) (by assumption))).mono ?_;rintro e w' ⟨rfl,hg⟩;have hsp:=Sp.next (by assumption) hg;have hwc:=hsp.wh)
      | (go_at_call 144;refine(qa k3 _).mono ?_;rintro e w' ⟨rfl,hg⟩;have hsp:=Sp.next (by assumption) hg;have hwc:=hsp.wh)
      | (go_at_call 145;refine(qa k4 _).mono ?_;rintro e w' ⟨rfl,hg⟩;have hsp:=Sp.next (by assumption) hg;have hwc:=hsp.wh)
      | (go_at_call 146;refine(qa k5 M _ hM (Sp.tab (w:=w) (PA:=PA) (bM:=w2.heap.size) (M:=M) (wh:=wh) (by assumption))).mono ?_;rintro e w' ⟨rfl,hg⟩;have hsp:=Sp.next (by assumption) hg;have hwc:=hsp.wh))
     go_ret;exact⟨by rw[qa hcan2];rfl,hsp.gr⟩
    ·cases q4
     ·go_wp2_with(first
       | (refine qp (by rfl) _ rfl w2.heap.size rfl (Sp.men (w:=w) (PA:=PA) (wh:=wh) (by assumption)) ?_)
       | (refine ql (by rfl) _ rfl w.heap.size rfl hz (Sp.row (bM:=w2.heap.size) (M:=M) (wh:=wh) (by assumption)) ?_)
       | (go_at_call 142;refine(qa k0 _ M _ hM (Sp.tab (w:=w) (PA:=PA) (bM:=w2.heap.size) (M:=M) (wh:=wh) (by assumption))).mono ?_;rintro e w' ⟨rfl,hg⟩;(first|rw[qa hq0]|rw[qa hq1]);have hsp:=Sp.next (by assumption) hg;have hwc:=hsp.wh)
       | (go_at_call 143;refine(qa k2 _ (Sp.homes (w:=w) (PA:=PA) (bM:=w2.heap.size) (M:=M) (wh:=wh) (by assumption))).mono ?_;rintro e w' ⟨rfl,hg⟩;have hsp:=Sp.next (by assumption) hg;have hwc:=hsp.wh)
       | (go_at_call 144;refine(qa k3 _).mono ?_;rintro e w' ⟨rfl,hg⟩;have hsp:=Sp.next (by assumption) hg;have hwc:=hsp.wh)
       | (go_at_call 145;refine(qa k4 _).mono ?_;rintro e w' ⟨rfl,hg⟩;have hsp:=Sp.next (by assumption) hg;have hwc:=hsp.wh)
       | (go_at_call 146;refine(qa k5 M _ hM (Sp.tab (w:=w) (PA:=PA) (bM:=w2.heap.size) (M:=M) (wh:=wh) (by assumption))).mono ?_;rintro e w' ⟨rfl,hg⟩;have hsp:=Sp.next (by assumption) hg;have hwc:=hsp.wh))
      go_ret;exact⟨by rw[qa hcan2];rfl,hsp.gr⟩
     ·cases q5
      ·go_wp2_with(first
        | (refine qp (by rfl) _ rfl w2.heap.size rfl (Sp.men (w:=w) (PA:=PA) (wh:=wh) (by assumption)) ?_)
        | (refine ql (by rfl) _ rfl w.heap.size rfl hz (Sp.row (bM:=w2.heap.size) (M:=M) (wh:=wh) (by assumption)) ?_)
        | (go_at_call 142;refine(qa k0 _ M _ hM (Sp.tab (w:=w) (PA:=PA) (bM:=w2.heap.size) (M:=M) (wh:=wh) (by assumption))).mono ?_;rintro e w' ⟨rfl,hg⟩;(first|rw[qa hq0]|rw[qa hq1]);have hsp:=Sp.next (by assumption) hg;have hwc:=hsp.wh)
        | (go_at_call 143;refine(qa k2 _ (Sp.homes (w:=w) (PA:=PA) (bM:=w2.heap.size) (M:=M) (wh:=wh) (by assumption))).mono ?_;rintro e w' ⟨rfl,hg⟩;have hsp:=Sp.next (by assumption) hg;have hwc:=hsp.wh)
        | (go_at_call 144;refine(qa k3 _).mono ?_;rintro e w' ⟨rfl,hg⟩;have hsp:=Sp.next (by assumption) hg;have hwc:=hsp.wh)
        | (go_at_call 145;refine(qa k4 _).mono ?_;rintro e w' ⟨rfl,hg⟩;have hsp:=Sp.next (by assumption) hg;have hwc:=hsp.wh)
        | (go_at_call 146;refine(qa k5 M _ hM (Sp.tab (w:=w) (PA:=PA) (bM:=w2.heap.size) (M:=M) (wh:=wh) (by assumption))).mono ?_;rintro e w' ⟨rfl,hg⟩;have hsp:=Sp.next (by assumption) hg;have hwc:=hsp.wh))
       go_ret;exact⟨by rw[qa hcan2];rfl,hsp.gr⟩
      ·go_wp2_with(first
        | (refine qp (by rfl) _ rfl w2.heap.size rfl (Sp.men (w:=w) (PA:=PA) (wh:=wh) (by assumption)) ?_)
        | (refine ql (by rfl) _ rfl w.heap.size rfl hz (Sp.row (bM:=w2.heap.size) (M:=M) (wh:=wh) (by assumption)) ?_)
        | (go_at_call 142;refine(qa k0 _ M _ hM (Sp.tab (w:=w) (PA:=PA) (bM:=w2.heap.size) (M:=M) (wh:=wh) (by assumption))).mono ?_;rintro e w' ⟨rfl,hg⟩;(first|rw[qa hq0]|rw[qa hq1]);have hsp:=Sp.next (by assumption) hg;have hwc:=hsp.wh)
        | (go_at_call 143;refine(qa k2 _ (Sp.homes (w:=w) (PA:=PA) (bM:=w2.heap.size) (M:=M) (wh:=wh) (by assumption))).mono ?_;rintro e w' ⟨rfl,hg⟩;have hsp:=Sp.next (by assumption) hg;have hwc:=hsp.wh)
        | (go_at_call 144;refine(qa k3 _).mono ?_;rintro e w' ⟨rfl,hg⟩;have hsp:=Sp.next (by assumption) hg;have hwc:=hsp.wh)
        | (go_at_call 145;refine(qa k4 _).mono ?_;rintro e w' ⟨rfl,hg⟩;have hsp:=Sp.next (by assumption) hg;have hwc:=hsp.wh)
        | (go_at_call 146;refine(qa k5 M _ hM (Sp.tab (w:=w) (PA:=PA) (bM:=w2.heap.size) (M:=M) (wh:=wh) (by assumption))).mono ?_;rintro e w' ⟨rfl,hg⟩;have hsp:=Sp.next (by assumption) hg;have hwc:=hsp.wh))
       go_ret;exact⟨by rw[qa hcan2];rfl,hsp.gr⟩
theorem Eo{z:Nat->UInt8}{wh:Bool}{f:Nat->Bool}{b h g:Int}{PA:Array Value}(r:jE z wh f b h g PA)(w:World)(hok:xO z=false):Calls Tryz.prog 63 #[.agg PA] w fun e w'=>e=.returned (.bool false)/\Gr w w':=by
 have hg1:Gr w (w.alloc (.cells PA 70)):=(Gr.refl w).alloc _ _;have hc:∀o,(w.alloc (.cells PA 70)).cell? ⟨w.heap.size,o,none⟩=PA[o]?:=fun o=>World.cell?_alloc_at _ _ _ _ rfl
 have h64:(w.alloc (.cells PA 70)).rangeAt w.heap.size 0 (PA.toList.take 64):=fun j v hv=>by
  rw[hc,Nat.zero_add,<-qO];rw[List.getElem?_take]at hv;split at hv
  ·exact hv
  ·cases hv
 have hz64:(PA.toList.take 64).length=64:=by simp[r.size]
 have hB:∀i,i<64->(PA.toList.take 64).toArray[i]?=some (.int .u8 ((z i).toNat:Int)):=fun i hi=>by
  rw[List.getElem?_toArray,List.getElem?_take,qI hi,qO];exact r.sq i hi
 have hlay:=qC (EJ hok (by simpa using hz64) hB);have hg1':=qC hg1;have h64':=qC h64;have hi64:Hid ((Tryz.prog.info? 67).map (·.size)=some (PA.toList.take 64).length):=qC (by rw[hz64];exact x7);have hz:=r.size;clear r hg1 h64 hB hc hz64 hok;generalize PA.toList.take 64=L at hlay h64' hi64;go_enter Tryz.func63,Tryz.ntmps63
 go_upto_region 2 with(first
  | (refine wpList_load_mid rfl 67 _ rfl w.heap.size 0 rfl L _ (qa h64') Tryz.underlying67 rfl (qa hi64) ?_)
  | (go_at_call 126;refine(qa hlay _).mono ?_;rintro e w2 ⟨M,m,rfl,hM,hg2⟩)
  | (refine wpList_store_row rfl 197 _ _ rfl w2.heap.size M rfl rfl 197 _ (heap_alloc_new _ _) hM.info hM.1.symm hM.ones ?_))
 generalize hw3:(w2.alloc (.cells #[.int .u64 0,.int .u64 0,.int .u64 0,.int .u64 0,.int .u64 0,.int .u64 0,.int .u64 0,.int .u64 0,.int .u64 0,.int .u64 0,.int .u64 0,.int .u64 0] 197)).setRow w2.heap.size M=w3;have hg3:Gr w2 w3:=by rw[<-hw3];exact((Gr.refl w2).alloc _ _).setRow _ (qL _) _
 have hg13:Gr w w3:=Gr.trans (qa hg1') (Gr.trans hg2 hg3);clear hw3 hg3 hg2 hlay h64' hi64 hg1';go_wp2_with(fail);go_ret;exact⟨rfl,hg13⟩
theorem CX{z:Nat->UInt8}{wh:Bool}{f:Nat->Bool}{b h g:Int}{PA:Array Value}(r:jE z wh f b h g PA)(w:World)(hT:jF w)(hH:vJ w):Calls Tryz.prog 63 #[.agg PA] w fun e w'=>e=.returned (.bool (k6 z wh f b h g))/\Gr w w':=by
 cases hok:xO z
 ·refine(Eo r w hok).mono fun e w' k=>⟨k.1.trans ?_,k.2⟩
  rw[k6,hok];rfl
 ·refine(t6 r w hT hH hok).mono fun e w' k=>⟨k.1.trans ?_,k.2⟩
  rw[k6,hok];rfl
end
def jB(c:UInt8):Int:=Lib.indexByte xU c
def vE(c:UInt8):Int:=if 6<=jB c then jB c-6 else jB c
def vB(c:UInt8):Int:=if jB c<0 then 0 else if jB c<6 then 1 else -1
def xK(b:Bool):Int:=if b then 1 else -1
def zI(z:Nat->UInt8)(i:Nat):Int:=((z i).toNat:Int)
def zM(z:Nat->UInt8)(y:Int)(b:Bool):Bool:=(List.range 64).any fun n=>decide (vB (z n)=xK b)&&xS (zI z) (vE (z n)).toNat (xK b) (n:Int) y
def vk(b:Bool):UInt8:=if b then 75 else 107
def xR(z:Nat->UInt8)(b:Bool):Int:=match (List.range 64).find? (fun n=>z n==vk b)with|some n=>(n:Int)|none=>-1
theorem rn(c:UInt8):-1<=jB c/\jB c<12:=by
 have:∀n:Fin 256,-1<=jB (UInt8.ofNat n.val)/\jB (UInt8.ofNat n.val)<12:=by decide +kernel
 have:=this ⟨c.toNat,c.toNat_lt⟩;simpa using this
def vf(z:Nat->UInt8)(n:Nat):Bool:=!(z n==46)&&(decide (vE (z n)<0)||(decide (vE (z n)=0)&&(decide (n/8=0)||decide (n/8=7))))
def ka(z:Nat->UInt8)(b:Bool)(k:Nat):Nat:=((List.range k).filter fun n=>decide (vB (z n)=xK b)).length
def vZ(z:Nat->UInt8)(b:Bool)(k:Nat):Nat:=((List.range k).filter fun n=>decide (jB (z n)=(bg b+5:Nat))).length
theorem dc(z:Nat->UInt8)(p:Nat):∀k,k<=64->∀n,n<64->(xD z k p).getLsbD n=decide (n<k/\jB (z n)=(p:Int))
 | 0,_,n,_=>by
   show(0#64).getLsbD n=_;rw[BitVec.getLsbD_zero];simp
 | k+1,hk,n,hn=>by
   have ih:=dc z p k (by omega) n hn;show(xD z k p ||| (if Lib.indexByte xU (z k)=(p:Int)then 1#64 <<< k else 0#64)).getLsbD n=_;rw[BitVec.getLsbD_or,ih];by_cases e:Lib.indexByte xU (z k)=(p:Int)
   ·rw[qI e,ze k (by omega) n hn];by_cases h1:n=k
    ·subst h1;have e':jB (z n)=(p:Int):=e;simp[e']
    ·have:(n<k+1/\jB (z n)=(p:Int))↔(n<k/\jB (z n)=(p:Int)):=by constructor<;>rintro⟨a,b⟩<;>exact⟨by omega,b⟩
     simp[h1,this]
   ·rw[qF e,BitVec.getLsbD_zero,Bool.or_false]
    have:(n<k+1/\jB (z n)=(p:Int))↔(n<k/\jB (z n)=(p:Int)):=by
     constructor
     ·rintro⟨a,b⟩;refine⟨?_,b⟩;by_cases h1:n=k
      ·subst h1;exact absurd b e
      ·omega
     ·rintro⟨a,b⟩;exact⟨by omega,b⟩
    simp[this]
theorem vH(z:Nat->UInt8)(p n:Nat)(hn:n<64):(xD z 64 p).getLsbD n=decide (jB (z n)=(p:Int)):=by
 rw[dc z p 64 (qL _) n hn];simp[hn]
theorem qxd{f g:Nat->Bool}(l:List Nat)(h:∀n∈l,f n=g n):l.filter f=l.filter g:=List.filter_congr h
theorem qxu(z:Nat->UInt8)(b:Bool):(vD (xD z 64 (bg b+5))).length=vZ z b 64:=by
 unfold vD vZ;rw[qxd _ (fun n hn=>vH z (bg b+5) n (qK.1 hn))]
theorem iu(z:Nat->UInt8)(b n:Nat)(hn:n<64):∀k,(wZ (xD z 64) b k).getLsbD n=decide ((b:Int)<=jB (z n)/\jB (z n)<(b:Int)+(k:Int))
 | 0=>by
   show(0#64).getLsbD n=_;rw[BitVec.getLsbD_zero];symm;rw[qX];omega
 | k+1=>by
   have ih:=iu z b n hn k;show(wZ (xD z 64) b k ||| xD z 64 (b+k)).getLsbD n=_;rw[BitVec.getLsbD_or,ih,vH z (b+k) n hn,<-Bool.decide_or];apply decide_eq_decide.2;omega
theorem qjt(z:Nat->UInt8)(b:Bool)(n:Nat)(hn:n<64):(xZ (xD z 64) b).getLsbD n=decide (vB (z n)=xK b):=by
 unfold xZ;rw[iu z (bg b) n hn 6];apply decide_eq_decide.2;have:=rn (z n);unfold vB xK bg;cases b
 ·simp only[qR,if_false];split
  ·omega
  ·split<;>omega
 ·simp only[if_true];split
  ·omega
  ·split<;>omega
theorem rC(z:Nat->UInt8)(b:Bool):(vD (xZ (xD z 64) b)).length=ka z b 64:=by
 unfold vD ka;rw[qxd _ (fun n hn=>qjt z b n (qK.1 hn))]
theorem pi(z:Nat->UInt8)(n:Nat)(hn:n<64):(j0 (xD z 64)).getLsbD n=decide (0<=jB (z n)):=by
 unfold j0;rw[BitVec.getLsbD_or,qjt z true n hn,qjt z false n hn,<-Bool.decide_or];apply decide_eq_decide.2;have:=rn (z n);unfold vB xK;simp only[qR,if_false,if_true];split
 ·omega
 ·split<;>omega
theorem aA:∀n,n<64->(18374686479671623935#64).getLsbD n=(decide (n/8=0)||decide (n/8=7)):=by decide +kernel
theorem qkw(s:BitVec 64):s=0#64↔∀n,n<64->s.getLsbD n=false:=by
 constructor
 ·rintro rfl n _;exact BitVec.getLsbD_zero
 ·intro h;apply BitVec.eq_of_getLsbD_eq;intro i hi;rw[h i hi,BitVec.getLsbD_zero]
theorem EK:(18374686479671623935:Int)=U 18374686479671623935#64:=by decide +kernel
theorem qv2(s:BitVec 64):U s=0↔s=0#64:=by
 constructor
 ·intro h;exact pE (h.trans (by decide +kernel))
 ·rintro rfl;decide +kernel
theorem Ft(z:Nat->UInt8)(b:Bool):bits .and .u64 (U (xD z 64 (bg b))) 18374686479671623935=0↔∀n,n<64->jB (z n)=(bg b:Nat)->¬ (n/8=0\/n/8=7):=by
 rw[EK,im,qv2,qkw];constructor
 ·intro h n hn e;have:=h n hn;rw[BitVec.getLsbD_and,vH z (bg b) n hn,aA n hn]at this;simp[e]at this;omega
 ·intro h n hn;rw[BitVec.getLsbD_and,vH z (bg b) n hn,aA n hn];by_cases e:jB (z n)=(bg b:Nat)
  ·have:=h n hn e;simp at this;simp[this]
  ·simp[e]
theorem bf(c:UInt8):ew c=(c==46||decide (0<=jB c)):=rfl
theorem lV(z:Nat->UInt8):((List.range 64).all fun n=>!(vf z n))=true↔xO z=true/\∀b:Bool,∀n,n<64->jB (z n)=(bg b:Nat)->¬ (n/8=0\/n/8=7):=by
 rw[qW];constructor
 ·intro h;constructor
  ·refine Fy fun j hj=>?_
   have h1:=h j (qK.2 hj);rw[bf];have:=rn (z j);unfold vf vE at h1;by_cases hd:(z j==46)=true
   ·simp[hd]
   ·simp only[Bool.not_eq_true]at hd;rw[hd]at h1 ⊢;simp only[Bool.not_false,Bool.true_and,Bool.not_eq_true',Bool.or_eq_false_iff,qX]at h1;have h2:=h1.1;simp only[Bool.false_or,qG];split at h2<;>omega
  ·intro b n hn e hr;have h1:=h n (qK.2 hn);have hb:bg b=0\/bg b=6:=by cases b<;>simp[bg]
   have hd:(z n==46)=false:=by
    cases hz:(z n==46)with
    | false=>rfl
    | true =>
     have:z n=46:=by simpa using hz
     rw[this]at e;have e2:jB 46=-1:=uo;omega
   unfold vf vE at h1;rw[hd]at h1;have hk:(if 6<=jB (z n)then jB (z n)-6 else jB (z n))=0:=by split<;>omega
   rw[hk]at h1;simp at h1;omega
 ·rintro⟨h1,h2⟩ n hn;have hn':=qK.1 hn;have h3:ew (z n)=true:=qW.1 h1 n hn;rw[bf]at h3;have:=rn (z n);unfold vf vE;by_cases hd:(z n==46)=true
  ·simp[hd]
  ·simp only[Bool.not_eq_true]at hd;rw[hd]at h3 ⊢;simp only[Bool.false_or,qG]at h3;have ha:=h2 true n hn';have hb:=h2 false n hn';simp only[bg,if_true,qR,if_false]at ha hb;simp only[Bool.not_false,Bool.true_and,Bool.not_eq_true',Bool.or_eq_false_iff,qX,Bool.and_eq_false_iff];refine⟨by split<;>omega,?_⟩
   by_cases hk:(if 6<=jB (z n)then jB (z n)-6 else jB (z n))=0
   ·right;split at hk
    ·have:=hb (by omega);omega
    ·have:=ha (by omega);omega
   ·left;exact hk
theorem fR{f g:Nat->Int}(h:∀n,n<64->(f n=46↔g n=46))(p:Nat->Int)(L:Nat)(hp:∀i,i<=L->0<=p i/\p i<=63):freeI f p L=freeI g p L:=by
 unfold freeI;apply decide_eq_decide.2;constructor
 ·intro k i h1 h2;have:=hp i (by omega);exact(h _ (by omega)).1 (k i h1 h2)
 ·intro k i h1 h2;have:=hp i (by omega);exact(h _ (by omega)).2 (k i h1 h2)
theorem iE{f g:Nat->Int}(h:∀n,n<64->(f n=46↔g n=46))(k:Nat)(s x y:Int)(h0:0<=x)(h1:x<=63)(h2:0<=y)(h3:y<=63):xS f k s x y=xS g k s x y:=by
 unfold xS
 have e:∀b:Bool,(b=true->yd x y=true\/yg x y=true)->(b&&freeI f (pI x y) (LI x y))=(b&&freeI g (pI x y) (LI x y)):=fun b hb=>by
  cases b
  ·rfl
  ·rw[fR h _ _ (Dp x y h0 h1 h2 h3 (hb rfl))]
 rw[e (yg x y) (fun h=>.inr h),e (yd x y) (fun h=>.inl h),e (yd x y||yg x y) (fun h=>by simpa using h)]
theorem FI(f:Nat->Int)(k:Nat)(hk:k≠0)(s t x y:Int):xS f k s x y=xS f k t x y:=by
 unfold xS;rw[qF hk,qF hk]
def kh(bw:Bool)(i:Nat):Nat:=if i=0 then(if bw then 2 else 1)else i+2
theorem BY(bw:Bool)(i:Nat):vA bw i=((kh bw i:Nat):Int):=by
 unfold vA kh;by_cases h:i=0
 ·rw[qI h,qI h];cases bw<;>rfl
 ·rw[qF h,qF h];omega
theorem fT_z{z:Nat->UInt8}(hok:xO z=true)(n:Nat)(hn:n<64):fT (j0 (xD z 64)) n=46↔zI z n=46:=by
 rw[tO,pi z n hn,qX];have h:=qW.1 hok n (qK.2 hn);rw[bf]at h;unfold zI;constructor
 ·intro hx;have:z n=46:=by simpa[hx]using h
  rw[this];rfl
 ·intro hx
  have:z n=46:=by
   apply q6.1;have:(z n).toNat=46:=by omega
   rw[this];rfl
  rw[this];have e2:jB 46=-1:=uo;omega
theorem F3{z:Nat->UInt8}(hok:xO z=true)(bw:Bool)(i:Nat)(hi:i<6)(y n:Nat)(hy:y<64)(hn:n<64):(jW (kh bw i) y (j0 (xD z 64))).getLsbD n=xS (zI z) i (xK bw) (n:Int) (y:Int):=by
 by_cases h:i=0
 ·subst h;cases bw
  ·show(jW 1 y _).getLsbD n=_;have e1:jW 1 y (j0 (xD z 64))=E4 y:=rfl;rw[e1,bY y hy n hn,wE n hn y hy];rfl
  ·show(jW 2 y _).getLsbD n=_;have e1:jW 2 y (j0 (xD z 64))=FX y:=rfl;rw[e1,<-bY n hn y hy,oL n hn y hy];rfl
 ·have hk:kh bw i=i+2:=by unfold kh;rw[qF h]
  rw[hk,px (i+2) y n (by omega) (by omega) hy hn,mI (i+2) n (by omega) (by omega) hn,bW (i+2) (n:Int) _ y hy];unfold eV;have e1:kR (i+2)=i:=by unfold kR;rw[qF (by omega)];omega
  rw[e1,FI _ i h _ (xK bw)];exact iE (fun n hn=>fT_z hok n hn) i _ _ _ (by omega) (by omega) (by omega) (by omega)
theorem bQ{z:Nat->UInt8}(hok:xO z=true)(bw:Bool)(i:Nat)(hi:i<6)(y:Nat)(hy:y<64):uk (xD z 64) (y:Int) bw i=true↔∃n,n<64/\jB (z n)=((bg bw+i:Nat):Int)/\xS (zI z) i (xK bw) (n:Int) (y:Int)=true:=by
 unfold uk;rw[BY,ik (kh bw i) y (by unfold kh;split<;>(try split)<;>omega) (by unfold kh;split<;>(try split)<;>omega) hy,im,qU]
 constructor
 ·intro h;have h1:jW (kh bw i) y (j0 (xD z 64)) &&& xD z 64 (bg bw+i)≠0#64:=fun e=>h (by rw[e];decide +kernel)
  refine Classical.byContradiction fun hn=>h1 ((qkw _).2 fun n hlt=>?_)
  rw[BitVec.getLsbD_and,vH z _ n hlt,F3 hok bw i hi y n hy hlt];by_cases e:jB (z n)=((bg bw+i:Nat):Int)
  ·cases ha:xS (zI z) i (xK bw) (n:Int) (y:Int)with
   | false=>rfl
   | true=>exact absurd ⟨n,hlt,e,ha⟩ hn
  ·simp only[e,decide_false,Bool.and_false]
 ·rintro⟨n,hlt,e,ha⟩ h;have h1:=(qkw _).1 ((qv2 _).1 h) n hlt;rw[BitVec.getLsbD_and,vH z _ n hlt,F3 hok bw i hi y n hy hlt,ha]at h1;simp[e]at h1
theorem zq{c:UInt8}{bw:Bool}(h:vB c=xK bw):∃i,i<6/\jB c=((bg bw+i:Nat):Int)/\(vE c).toNat=i:=by
 have:=rn c;unfold vB xK at h;unfold vE;cases bw
 ·simp only[qR,if_false]at h;refine⟨(jB c-6).toNat,?_,?_,?_⟩
  ·split at h<;>(try split at h)<;>omega
  ·show _=((6+(jB c-6).toNat:Nat):Int);split at h<;>(try split at h)<;>omega
  ·rw[qI (by split at h<;>(try split at h)<;>omega)]
 ·simp only[if_true]at h;refine⟨(jB c).toNat,?_,?_,?_⟩
  ·split at h<;>(try split at h)<;>omega
  ·show _=((0+(jB c).toNat:Nat):Int);split at h<;>(try split at h)<;>omega
  ·rw[qF (by split at h<;>(try split at h)<;>omega)]
theorem qkr{c:UInt8}{bw:Bool}{i:Nat}(hi:i<6)(h:jB c=((bg bw+i:Nat):Int)):vB c=xK bw/\(vE c).toNat=i:=by
 unfold vB vE xK;rw[h];cases bw
 ·simp only[bg,qR,if_false];refine⟨by rw[qF (by omega),qF (by omega)],by rw[qI (by omega)];omega⟩
 ·simp only[bg,if_true];refine⟨by rw[qF (by omega),qI (by omega)],by rw[qF (by omega)];omega⟩
theorem xu{z:Nat->UInt8}(hok:xO z=true)(bw:Bool)(y:Nat)(hy:y<64):xV (xD z 64) (y:Int) bw=zM z (y:Int) bw:=by
 rw[Bool.eq_iff_iff];unfold xV zM;rw[qY,qY];constructor
 ·rintro⟨i,hi,h⟩;have hi':=qK.1 hi;obtain⟨n,hn,e,ha⟩:=(bQ hok bw i hi' y hy).1 h;obtain⟨c1,c2⟩:=qkr hi' e;exact⟨n,qK.2 hn,by rw[c2,ha];simp[c1]⟩
 ·rintro⟨n,hn,h⟩;have hn':=qK.1 hn;simp only[qH,qG]at h;obtain⟨i,hi,e,c2⟩:=zq h.1;refine⟨i,qK.2 hi,(bQ hok bw i hi y hy).2 ⟨n,hn',e,?_⟩⟩;rw[<-c2];exact h.2
theorem di(b:Bool):∀c:UInt8,(c==vk b)=decide (jB c=((bg b+5:Nat):Int)):=by
 have:∀b:Bool,∀n:Fin 256,(UInt8.ofNat n.val==vk b)=decide (jB (UInt8.ofNat n.val)=((bg b+5:Nat):Int)):=by decide +kernel
 intro c;have:=this b ⟨c.toNat,c.toNat_lt⟩;simpa using this
def zT(z:Nat->UInt8)(wh:Bool)(f:Nat->Bool)(b h g:Int):Bool :=
 ((List.range 64).all fun n=>!(vf z n))&&(decide (vZ z true 64=1)&&decide (vZ z false 64=1)&&decide (ka z true 64<=16)&&decide (ka z false 64<=16))&&jH z f&&xX z wh b&&!(zM z (xR z (!wh)) wh)&&zP h g
theorem js{z:Nat->UInt8}{b:Bool}(h:vZ z b 64=1):∃y,y<64/\vD (xD z 64 (bg b+5))=[y]/\xR z b=(y:Int):=by
 have h1:(vD (xD z 64 (bg b+5))).length=1:=(qxu z b).trans h;obtain⟨y,hy⟩:=List.length_eq_one_iff.1 h1;have hm:y∈vD (xD z 64 (bg b+5)):=by rw[hy];simp
 have hy64:=((Dt _ _).1 hm).1;have hbit:∀n,n<64->(z n==vk b)=(xD z 64 (bg b+5)).getLsbD n:=fun n hn=>by rw[di,vH z _ n hn]
 refine⟨y,hy64,hy,?_⟩;unfold xR
 have:(List.range 64).find? (fun n=>z n==vk b)=some y:=by
  cases hf:(List.range 64).find? (fun n=>z n==vk b)with
  | none =>
   have:=List.find?_eq_none.1 hf y (qK.2 hy64);rw[hbit y hy64,((Dt _ _).1 hm).2]at this;exact absurd rfl this
  | some n =>
   have hp:=List.find?_some hf;have hn:=qK.1 (List.mem_of_find?_eq_some hf);rw[hbit n hn]at hp;have:n∈vD (xD z 64 (bg b+5)):=(Dt _ _).2 ⟨hn,hp⟩;rw[hy]at this;rw[qT.1 this]
 rw[this]
theorem aY(z:Nat->UInt8)(wh:Bool)(f:Nat->Bool)(b h g:Int):zT z wh f b h g=k6 z wh f b h g:=by
 rw[Bool.eq_iff_iff];unfold zT k6 cK vM;simp only[qH,qG,qxu,rC];constructor
 ·rintro⟨⟨⟨⟨⟨h1,⟨⟨h2,h3⟩,h4⟩,h5⟩,h6⟩,h7⟩,h8⟩,h9⟩;obtain⟨k1,k2⟩:=(lV z).1 h1;obtain⟨y,y1,y2,y3⟩:=js (z:=z) (b:=!wh) (by cases wh<;>assumption)
  refine⟨k1,⟨⟨⟨⟨⟨⟨⟨by omega,by omega⟩,(Ft z true).2 (k2 true)⟩,⟨⟨by omega,by omega⟩,(Ft z false).2 (k2 false)⟩⟩,h6⟩,h7⟩,h9⟩,?_⟩⟩;unfold kD;rw[y2];simp only[List.any_cons,List.any_nil,Bool.or_false];rw[xu k1 wh y y1,<-y3];exact h8
 ·rintro⟨k1,⟨⟨⟨⟨⟨⟨⟨h2,h4⟩,p1⟩,⟨⟨h3,h5⟩,p2⟩⟩,h6⟩,h7⟩,h9⟩,h8⟩⟩;have e2:vZ z true 64=1:=by omega
  have e3:vZ z false 64=1:=by omega
  obtain⟨y,y1,y2,y3⟩:=js (z:=z) (b:=!wh) (by cases wh<;>assumption)
  refine⟨⟨⟨⟨⟨(lV z).2 ⟨k1,fun b=>?_⟩,⟨⟨e2,e3⟩,by omega⟩,by omega⟩,h6⟩,h7⟩,?_⟩,h9⟩
  ·cases b
   ·exact(Ft z false).1 p2
   ·exact(Ft z true).1 p1
  ·unfold kD at h8;rw[y2]at h8;simp only[List.any_cons,List.any_nil,Bool.or_false]at h8
   rwa[xu k1 wh y y1,<-y3]at h8
section
attribute [local go_sem] Oper.semAt_some
theorem kL.fr{Q:Nat->Obj->Prop}{w w':World}(h:kL w)(f:Fr Q w w')(hq:∀o,Q 2 o):kL w':=fun j hj=>f.cell (h j hj) (fun o _=>hq o)
theorem o0(s:BitVec 64)(Bn:Nat)(T:Obj->Prop)(w:World)(hc:w.cell? ⟨Bn,0,none⟩=some (.int .u64 (U s)))(hT:kL w) :
  It Tryz.prog 207 #[.pointer (some ⟨Bn,0,none⟩)] (fun x:Nat=>#[Value.int .i64 (x:Int)]) T (fun k=>k=Bn\/k=2) (vD s) w:=by
 intro l B J Jx W f0 hB hJ hJx hY h0;have hBn:=f0.cell hc (fun _ _=>.inl rfl);have hTW:=hT.fr f0 (fun _=>.inr rfl);clear f0 hc hT;refine(callsIn_wide (n:=1)).1 ?_;refine callsIn_of_wp Tryz.func207 rfl trivial ?_ rfl;simp only[Tryz.ntmps207,List.size_toArray,List.length_cons,List.length_nil,Nat.reduceAdd,Nat.reduceSub,Array.replicate_succ,Array.replicate_zero,List.push_toArray,List.append_toArray,List.nil_append,List.cons_append];gi_wp2;gi_loopw [3] (fun p wr=>∃(pre:List Nat)(r:BitVec 64),p=.int .u64 (U r)/\vD s=pre++vD r/\kL wr/\J pre wr) (fun p _=>(vD (BitVec.ofInt 64 (intOf p))).length)
 case atStart=>exact⟨[],s,rfl,rfl,hTW,h0⟩
 case round =>
  obtain⟨pre,r,rfl,hx,htb,hJs⟩:=hrel;by_cases hr:r=0#64
  ·subst hr;have hz:(U 0#64 != 0)=false:=by decide +kernel
   rw[qv8,List.append_nil]at hx;have hx':=qC hx;clear hx;gi_wp2;go_end0;exact⟨⟨_,rfl⟩,.inl (by rw[qa hx'];exact hJs)⟩
  ·obtain⟨t,t1,t2,t3⟩:=qji r hr;have hst:=qv9 r t t1 t2 t3
   have hnz:(U r != 0)=true:=by
    simp only[qU];intro e;exact hr (pE (e.trans (by decide +kernel)))
   have htz:=qC (eI r t t2 t3);obtain⟨fn,tmps,assign,body,hy,hR⟩:=hY pre t wr ⟨vD (r &&& (r-1#64)),by rw[hx,hst];simp⟩ hJs;have hx':=qC hx;have hst':=qC hst;have htb':=qC htb;clear hx hst htb hr t2 t3;gi_wp2_with (refine⟨trivial,?_⟩;gi_at_call 208;refine(callsIn_wide.2 (qa htz _ (qa htb'))).mono ?_;rintro e w' ⟨rfl,rfl⟩);refine hR.mono ?_;rintro e W3 ⟨f3,⟨rfl,hJ3⟩|⟨rfl,hJx3⟩⟩
   ·have e1:IntKind.u64.wrap (U r-1)=U (r-1#64):=by
     rw[show(1:Int)=U 1#64 from by decide +kernel];exact bJ r 1#64
    have e2:bits .and .u64 (U r) (U (r-1#64))=U (r &&& (r-1#64)):=im _ _;gi_wp2;go_roundw
    case rel=>exact⟨pre++[t],r &&& (r-1#64),rfl,by rw[qa hx',qa hst'];simp,(qa htb').fr f3 (fun _=>.inl (.inr rfl)),hJ3⟩
    case measure=>simp only[intOf];rw[jh,jh,qa hst'];simp
   ·gi_wp2;refine bodyPost_ret (results_none rfl _ _ _) rfl ?_;exact⟨⟨_,rfl⟩,.inr ⟨pre++[t],⟨vD (r &&& (r-1#64)),by rw[qa hx',qa hst'];simp⟩,hJx3⟩⟩
end
end Go.Proofs.YtnfakamfmkhlbabGreatDoor.C
