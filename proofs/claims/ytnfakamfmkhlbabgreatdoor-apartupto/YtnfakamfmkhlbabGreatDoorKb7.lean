import Derived.Test.YtnfakamfmkhlbabGreatDoorKb6
import Derived.Test.YtnfakamfmkhlbabGreatDoorKb3
import Derived.Test.YtnfakamfmkhlbabGreatDoorKb1
import Derived.Test.YtnfakamfmkhlbabGreatDoorKb2
import Derived.Test.YtnfakamfmkhlbabGreatDoorKb4
set_option maxRecDepth 100000
set_option maxHeartbeats 4000000
set_option linter.unusedSimpArgs false
namespace Go.Proofs.YtnfakamfmkhlbabGreatDoor.C
open Go.ChangeShapes Go.WideShapes Go.ChangeAt Go.RowKit
open Go.Proofs.YtnfakamfmkhlbabGreatDoor.P
attribute [local go_sem] setCell_drewN alloc_drewN
def RowAt (b:Nat) (A:Array Value) (w:World):Prop:=b<w.heap.size/\w.rangeAt b 0 A.toList
theorem RowAt.gr {b:Nat} {A:Array Value} {w w':World} (h:RowAt b A w) (g:Gr w w'):RowAt b A w' :=
 ⟨Nat.lt_of_lt_of_le h.1 (Below.size g),fun j v hv=>(Below.cell g (p:=⟨b,0+j,none⟩) h.1).trans (h.2 j v hv)⟩
theorem infoP72:(Tryz.prog.info? 70).map (·.size)=some 72:=by kernel_rfl
theorem wpList_load_pos {ops:Array Oper} {rest:List Oper} {o:Oper} {a:Act} {w:World} {A:Array Value} {Q:Exit->Act->World->Prop} (hw:Region.wanted o (yielded ops a.tmps)=true) (x:Operand) (ho:o.op=.load 70 x) (b:Nat) (hx:a.eval x=.pointer (some ⟨b,0,none⟩)) (hz:A.size=72) (hh:RowAt b A w)
  (h:wpList Tryz.prog ops Q rest (a.put o.dst (.agg A)) w):wpList Tryz.prog ops Q (o :: rest) a w :=
 wpList_step fun K hK=>by
  rw [if_pos hw];refine wp_load_mid (P:=Tryz.prog) 70 x ho b 0 hx A.toList _ hh.2 Tryz.underlying70 rfl (by rw [infoP72];simp [hz]) ?_;rw [Array.toArray_toList];exact hK _ _ h
structure Sp (w:World) (PA:Array Value) (bM:Nat) (M:Array Value) (wh:Bool) (cur:World):Prop where
 row:RowAt w.heap.size PA cur
 wh:cur.cell? ⟨w.heap.size,64,none⟩=some (.bool wh)
 men:HeldAt bM M cur
 tab:TabIn cur
 homes:Homes cur
 gr:Gr w cur
theorem Sp.next {w cur cur':World} {PA M:Array Value} {bM:Nat} {wh:Bool} (h:Sp w PA bM M wh cur) (g:Gr cur cur'):Sp w PA bM M wh cur' :=
 ⟨h.row.gr g,(Below.cell g (p:=⟨w.heap.size,64,none⟩) h.row.1).trans h.wh,h.men.gr g,h.tab.gr g,h.homes.gr g,Gr.trans h.gr g⟩
def canM (z:Nat->UInt8) (wh:Bool) (f:Nat->Bool) (b h g:Int) (m:Nat->BitVec 64):Bool:=sideOk m true&&sideOk m false&&castOk z f&&behOk z wh b&&clkOk h g&&!(otherS m wh)
def canS (z:Nat->UInt8) (wh:Bool) (f:Nat->Bool) (b h g:Int):Bool:=layOk z&&canM z wh f b h g (layS z 64)
theorem lay_yes {z:Nat->UInt8} {B:Array Value} (hok:layOk z=true) (hs:B.size=64) (hB:∀ i,i<64->B[i]?=some (.int .u8 ((z i).toNat:Int))) (w:World):Calls Tryz.prog 126 #[.agg B] w fun e w'=>∃ M,e=.returned (.tuple #[.agg M,.bool true])/\IsMen (layS z 64) M/\Gr w w' :=
 (lay_any z B hs hB w).mono fun e w' h=>by
  obtain ⟨⟨M,h1,_,h3⟩,hg⟩:=h;rw [hok] at h1;exact ⟨M,h1,h3 hok,hg⟩
theorem lay_no {z:Nat->UInt8} {B:Array Value} (hok:layOk z=false) (hs:B.size=64) (hB:∀ i,i<64->B[i]?=some (.int .u8 ((z i).toNat:Int))) (w:World):Calls Tryz.prog 126 #[.agg B] w fun e w'=>∃ M m,e=.returned (.tuple #[.agg M,.bool false])/\IsMen m M/\Gr w w' :=
 (lay_any z B hs hB w).mono fun e w' h=>by
  obtain ⟨⟨M,h1,⟨m,hm⟩,_⟩,hg⟩:=h;rw [hok] at h1;exact ⟨M,m,h1,hm,hg⟩
theorem can_walk {z:Nat->UInt8} {wh:Bool} {f:Nat->Bool} {b h g:Int} {PA:Array Value} (r:Row z wh f b h g PA) (w:World) (hT:TabIn w) (hH:Homes w) (hok:layOk z=true):Calls Tryz.prog 63 #[.agg PA] w fun e w'=>e=.returned (.bool (canM z wh f b h g (layS z 64)))/\Gr w w':=by
 have hg1:Gr w (w.alloc (.cells PA 70)):=(Gr.refl w).alloc _ _;have hc:∀ o,(w.alloc (.cells PA 70)).cell? ⟨w.heap.size,o,none⟩=PA[o]?:=fun o=>World.cell?_alloc_at _ _ _ _ rfl
 have hrow:RowAt w.heap.size PA (w.alloc (.cells PA 70)):=⟨by rw [World.size_alloc];omega,fun j v hv=>by rw [hc,Nat.zero_add,<-Array.getElem?_toList];exact hv⟩
 have h64:(w.alloc (.cells PA 70)).rangeAt w.heap.size 0 (PA.toList.take 64):=fun j v hv=>by
  rw [hc,Nat.zero_add,<-Array.getElem?_toList];rw [List.getElem?_take] at hv;split at hv
  ·exact hv
  ·cases hv
 have hz64:(PA.toList.take 64).length=64:=by simp [r.size]
 have hB:∀ i,i<64->(PA.toList.take 64).toArray[i]?=some (.int .u8 ((z i).toNat:Int)):=fun i hi=>by
  rw [List.getElem?_toArray,List.getElem?_take,if_pos hi,Array.getElem?_toList];exact r.sq i hi
 have hlay:=hide (lay_yes hok (by simpa using hz64) hB);have hwh0:(w.alloc (.cells PA 70)).cell? ⟨w.heap.size,64,none⟩=some (.bool wh):=by rw [hc];exact r.wh
 have hz:=r.size;have r':=hide r;have hT':=hide (hT.gr hg1);have hH':=hide (hH.gr hg1);have hg1':=hide hg1;have h64':=hide h64;have hi64:Hid ((Tryz.prog.info? 67).map (·.size)=some (PA.toList.take 64).length):=hide (by rw [hz64];exact info64);have hrow':=hide hrow;have hwh':=hide hwh0;clear r hT hH hg1 h64 hrow hB hc hwh0 hz64 hok;generalize PA.toList.take 64=L at hlay h64' hi64;generalize layS z 64=m at hlay ⊢;have k0:Hid (∀ (bb:Bool) (M:Array Value) (W:World),IsMen m M->TabIn W->Calls Tryz.prog 142 #[.agg M,.bool bb] W fun e w'=>e=.returned (.bool (sideOk m bb))/\Gr W w'):=hide fun bb M W h t=>sidecan_any m M h bb W t
 have k2:Hid (∀ W:World,Homes W->Calls Tryz.prog 143 #[.agg PA] W fun e w'=>e=.returned (.bool (castOk z f))/\Gr W w'):=hide fun W t=>cast_any (unhide r') W t
 have k3:Hid (∀ W:World,Calls Tryz.prog 144 #[.agg PA] W fun e w'=>e=.returned (.bool (behOk z wh b))/\Gr W w'):=hide fun W=>behok_any (unhide r') W
 have k4:Hid (∀ W:World,Calls Tryz.prog 145 #[.agg PA] W fun e w'=>e=.returned (.bool (clkOk h g))/\Gr W w'):=hide fun W=>clocks_any (unhide r') W
 have k5:Hid (∀ (M:Array Value) (W:World),IsMen m M->TabIn W->Calls Tryz.prog 146 #[.agg M,.bool wh] W fun e w'=>e=.returned (.bool (otherS m wh))/\Gr W w'):=hide fun M W h t=>other_any m M h wh W t
 have hcan:Hid (canM z wh f b h g m=(sideOk m true&&sideOk m false&&castOk z f&&behOk z wh b&&clkOk h g&&!(otherS m wh))):=hide rfl;generalize sideOk m=qs at k0 hcan;generalize castOk z f=q2 at k2 hcan;generalize behOk z wh b=q3 at k3 hcan;generalize clkOk h g=q4 at k4 hcan;generalize otherS m wh=q5 at k5 hcan;obtain ⟨q0,hq0⟩:∃ q,Hid (qs true=q):=⟨_,hide rfl⟩;obtain ⟨q1,hq1⟩:∃ q,Hid (qs false=q):=⟨_,hide rfl⟩;have hcan2:Hid (canM z wh f b h g m=(q0&&q1&&q2&&q3&&q4&&!q5)):=hide (by rw [unhide hcan,unhide hq0,unhide hq1]);clear hcan;go_enter Tryz.func63,Tryz.ntmps63
 go_upto_region 2 with (first
  | (refine wpList_load_mid rfl 67 _ rfl w.heap.size 0 rfl L _ (unhide h64') Tryz.underlying67 rfl (unhide hi64) ?_)
  | (go_at_call 126;refine (unhide hlay _).mono ?_;rintro e w2 ⟨M,rfl,hM,hg2⟩)
  | (refine wpList_store_row rfl 197 _ _ rfl w2.heap.size M rfl rfl 197 _ (heap_alloc_new _ _) hM.info hM.1.symm hM.ones ?_))
 generalize hw3:(w2.alloc (.cells #[.int .u64 0,.int .u64 0,.int .u64 0,.int .u64 0,.int .u64 0,.int .u64 0,.int .u64 0,.int .u64 0,.int .u64 0,.int .u64 0,.int .u64 0,.int .u64 0] 197)).setRow w2.heap.size M=w3;have hb3:w3.heap[w2.heap.size]?=some (.cells M 197):=by rw [<-hw3];exact setRow_heap _ _ _ _ _ _ (heap_alloc_new w2 _)
 have hg3:Gr w2 w3:=by rw [<-hw3];exact ((Gr.refl w2).alloc _ _).setRow _ (Nat.le_refl _) _
 have hg13:Gr (w.alloc (.cells PA 70)) w3:=Gr.trans hg2 hg3;have hsp:Sp w PA w2.heap.size M wh w3:=⟨(unhide hrow').gr hg13,(Below.cell hg13 (p:=⟨w.heap.size,64,none⟩) (unhide hrow').1).trans (unhide hwh'),held_of_block hb3 hM.1,(unhide hT').gr hg13,(unhide hH').gr hg13,Gr.trans (unhide hg1') hg13⟩;have hwc:=hsp.wh;clear hw3 hb3 hg3 hg13 hg2 hlay h64' hi64 hrow' hwh' hT' hH' hg1' r';cases q0
 ·go_wp2_with (first
   | (refine wpList_load_men (by rfl) _ rfl w2.heap.size rfl (Sp.men (w:=w) (PA:=PA) (wh:=wh) (by assumption)) ?_)
   | (refine wpList_load_pos (by rfl) _ rfl w.heap.size rfl hz (Sp.row (bM:=w2.heap.size) (M:=M) (wh:=wh) (by assumption)) ?_)
   | (go_at_call 142;refine (unhide k0 _ M _ hM (Sp.tab (w:=w) (PA:=PA) (bM:=w2.heap.size) (M:=M) (wh:=wh) (by assumption))).mono ?_;rintro e w' ⟨rfl,hg⟩;(first|rw [unhide hq0]|rw [unhide hq1]);have hsp:=Sp.next (by assumption) hg;have hwc:=hsp.wh)
   | (go_at_call 143;refine (unhide k2 _ (Sp.homes (w:=w) (PA:=PA) (bM:=w2.heap.size) (M:=M) (wh:=wh) (by assumption))).mono ?_;rintro e w' ⟨rfl,hg⟩;have hsp:=Sp.next (by assumption) hg;have hwc:=hsp.wh)
   | (go_at_call 144;refine (unhide k3 _).mono ?_;rintro e w' ⟨rfl,hg⟩;have hsp:=Sp.next (by assumption) hg;have hwc:=hsp.wh)
   | (go_at_call 145;refine (unhide k4 _).mono ?_;rintro e w' ⟨rfl,hg⟩;have hsp:=Sp.next (by assumption) hg;have hwc:=hsp.wh)
   | (go_at_call 146;refine (unhide k5 M _ hM (Sp.tab (w:=w) (PA:=PA) (bM:=w2.heap.size) (M:=M) (wh:=wh) (by assumption))).mono ?_;rintro e w' ⟨rfl,hg⟩;have hsp:=Sp.next (by assumption) hg;have hwc:=hsp.wh))
  go_ret;exact ⟨by rw [unhide hcan2];rfl,hsp.gr⟩
 ·cases q1
  ·go_wp2_with (first
    | (refine wpList_load_men (by rfl) _ rfl w2.heap.size rfl (Sp.men (w:=w) (PA:=PA) (wh:=wh) (by assumption)) ?_)
    | (refine wpList_load_pos (by rfl) _ rfl w.heap.size rfl hz (Sp.row (bM:=w2.heap.size) (M:=M) (wh:=wh) (by assumption)) ?_)
    | (go_at_call 142;refine (unhide k0 _ M _ hM (Sp.tab (w:=w) (PA:=PA) (bM:=w2.heap.size) (M:=M) (wh:=wh) (by assumption))).mono ?_;rintro e w' ⟨rfl,hg⟩;(first|rw [unhide hq0]|rw [unhide hq1]);have hsp:=Sp.next (by assumption) hg;have hwc:=hsp.wh)
    | (go_at_call 143;refine (unhide k2 _ (Sp.homes (w:=w) (PA:=PA) (bM:=w2.heap.size) (M:=M) (wh:=wh) (by assumption))).mono ?_;rintro e w' ⟨rfl,hg⟩;have hsp:=Sp.next (by assumption) hg;have hwc:=hsp.wh)
    | (go_at_call 144;refine (unhide k3 _).mono ?_;rintro e w' ⟨rfl,hg⟩;have hsp:=Sp.next (by assumption) hg;have hwc:=hsp.wh)
    | (go_at_call 145;refine (unhide k4 _).mono ?_;rintro e w' ⟨rfl,hg⟩;have hsp:=Sp.next (by assumption) hg;have hwc:=hsp.wh)
    | (go_at_call 146;refine (unhide k5 M _ hM (Sp.tab (w:=w) (PA:=PA) (bM:=w2.heap.size) (M:=M) (wh:=wh) (by assumption))).mono ?_;rintro e w' ⟨rfl,hg⟩;have hsp:=Sp.next (by assumption) hg;have hwc:=hsp.wh))
   go_ret;exact ⟨by rw [unhide hcan2];rfl,hsp.gr⟩
  ·cases q2
   ·go_wp2_with (first
     | (refine wpList_load_men (by rfl) _ rfl w2.heap.size rfl (Sp.men (w:=w) (PA:=PA) (wh:=wh) (by assumption)) ?_)
     | (refine wpList_load_pos (by rfl) _ rfl w.heap.size rfl hz (Sp.row (bM:=w2.heap.size) (M:=M) (wh:=wh) (by assumption)) ?_)
     | (go_at_call 142;refine (unhide k0 _ M _ hM (Sp.tab (w:=w) (PA:=PA) (bM:=w2.heap.size) (M:=M) (wh:=wh) (by assumption))).mono ?_;rintro e w' ⟨rfl,hg⟩;(first|rw [unhide hq0]|rw [unhide hq1]);have hsp:=Sp.next (by assumption) hg;have hwc:=hsp.wh)
     | (go_at_call 143;refine (unhide k2 _ (Sp.homes (w:=w) (PA:=PA) (bM:=w2.heap.size) (M:=M) (wh:=wh) (by assumption))).mono ?_;rintro e w' ⟨rfl,hg⟩;have hsp:=Sp.next (by assumption) hg;have hwc:=hsp.wh)
     | (go_at_call 144;refine (unhide k3 _).mono ?_;rintro e w' ⟨rfl,hg⟩;have hsp:=Sp.next (by assumption) hg;have hwc:=hsp.wh)
     | (go_at_call 145;refine (unhide k4 _).mono ?_;rintro e w' ⟨rfl,hg⟩;have hsp:=Sp.next (by assumption) hg;have hwc:=hsp.wh)
     | (go_at_call 146;refine (unhide k5 M _ hM (Sp.tab (w:=w) (PA:=PA) (bM:=w2.heap.size) (M:=M) (wh:=wh) (by assumption))).mono ?_;rintro e w' ⟨rfl,hg⟩;have hsp:=Sp.next (by assumption) hg;have hwc:=hsp.wh))
    go_ret;exact ⟨by rw [unhide hcan2];rfl,hsp.gr⟩
   ·cases q3
    ·go_wp2_with (first
      | (refine wpList_load_men (by rfl) _ rfl w2.heap.size rfl (Sp.men (w:=w) (PA:=PA) (wh:=wh) (by assumption)) ?_)
      | (refine wpList_load_pos (by rfl) _ rfl w.heap.size rfl hz (Sp.row (bM:=w2.heap.size) (M:=M) (wh:=wh) (by assumption)) ?_)
      | (go_at_call 142;refine (unhide k0 _ M _ hM (Sp.tab (w:=w) (PA:=PA) (bM:=w2.heap.size) (M:=M) (wh:=wh) (by assumption))).mono ?_;rintro e w' ⟨rfl,hg⟩;(first|rw [unhide hq0]|rw [unhide hq1]);have hsp:=Sp.next (by assumption) hg;have hwc:=hsp.wh)
      | (go_at_call 143;refine (unhide k2 _ (Sp.homes (w:=w) (PA:=PA) (bM:=w2.heap.size) (M:=M) (wh:=wh) (by assumption))).mono ?_;rintro e w' ⟨rfl,hg⟩;have hsp:=Sp.next (by assumption) hg;have hwc:=hsp.wh)
      | (go_at_call 144;refine (unhide k3 _).mono ?_;rintro e w' ⟨rfl,hg⟩;have hsp:=Sp.next (by assumption) hg;have hwc:=hsp.wh)
      | (go_at_call 145;refine (unhide k4 _).mono ?_;rintro e w' ⟨rfl,hg⟩;have hsp:=Sp.next (by assumption) hg;have hwc:=hsp.wh)
      | (go_at_call 146;refine (unhide k5 M _ hM (Sp.tab (w:=w) (PA:=PA) (bM:=w2.heap.size) (M:=M) (wh:=wh) (by assumption))).mono ?_;rintro e w' ⟨rfl,hg⟩;have hsp:=Sp.next (by assumption) hg;have hwc:=hsp.wh))
     go_ret;exact ⟨by rw [unhide hcan2];rfl,hsp.gr⟩
    ·cases q4
     ·go_wp2_with (first
       | (refine wpList_load_men (by rfl) _ rfl w2.heap.size rfl (Sp.men (w:=w) (PA:=PA) (wh:=wh) (by assumption)) ?_)
       | (refine wpList_load_pos (by rfl) _ rfl w.heap.size rfl hz (Sp.row (bM:=w2.heap.size) (M:=M) (wh:=wh) (by assumption)) ?_)
       | (go_at_call 142;refine (unhide k0 _ M _ hM (Sp.tab (w:=w) (PA:=PA) (bM:=w2.heap.size) (M:=M) (wh:=wh) (by assumption))).mono ?_;rintro e w' ⟨rfl,hg⟩;(first|rw [unhide hq0]|rw [unhide hq1]);have hsp:=Sp.next (by assumption) hg;have hwc:=hsp.wh)
       | (go_at_call 143;refine (unhide k2 _ (Sp.homes (w:=w) (PA:=PA) (bM:=w2.heap.size) (M:=M) (wh:=wh) (by assumption))).mono ?_;rintro e w' ⟨rfl,hg⟩;have hsp:=Sp.next (by assumption) hg;have hwc:=hsp.wh)
       | (go_at_call 144;refine (unhide k3 _).mono ?_;rintro e w' ⟨rfl,hg⟩;have hsp:=Sp.next (by assumption) hg;have hwc:=hsp.wh)
       | (go_at_call 145;refine (unhide k4 _).mono ?_;rintro e w' ⟨rfl,hg⟩;have hsp:=Sp.next (by assumption) hg;have hwc:=hsp.wh)
       | (go_at_call 146;refine (unhide k5 M _ hM (Sp.tab (w:=w) (PA:=PA) (bM:=w2.heap.size) (M:=M) (wh:=wh) (by assumption))).mono ?_;rintro e w' ⟨rfl,hg⟩;have hsp:=Sp.next (by assumption) hg;have hwc:=hsp.wh))
      go_ret;exact ⟨by rw [unhide hcan2];rfl,hsp.gr⟩
     ·cases q5
      ·go_wp2_with (first
        | (refine wpList_load_men (by rfl) _ rfl w2.heap.size rfl (Sp.men (w:=w) (PA:=PA) (wh:=wh) (by assumption)) ?_)
        | (refine wpList_load_pos (by rfl) _ rfl w.heap.size rfl hz (Sp.row (bM:=w2.heap.size) (M:=M) (wh:=wh) (by assumption)) ?_)
        | (go_at_call 142;refine (unhide k0 _ M _ hM (Sp.tab (w:=w) (PA:=PA) (bM:=w2.heap.size) (M:=M) (wh:=wh) (by assumption))).mono ?_;rintro e w' ⟨rfl,hg⟩;(first|rw [unhide hq0]|rw [unhide hq1]);have hsp:=Sp.next (by assumption) hg;have hwc:=hsp.wh)
        | (go_at_call 143;refine (unhide k2 _ (Sp.homes (w:=w) (PA:=PA) (bM:=w2.heap.size) (M:=M) (wh:=wh) (by assumption))).mono ?_;rintro e w' ⟨rfl,hg⟩;have hsp:=Sp.next (by assumption) hg;have hwc:=hsp.wh)
        | (go_at_call 144;refine (unhide k3 _).mono ?_;rintro e w' ⟨rfl,hg⟩;have hsp:=Sp.next (by assumption) hg;have hwc:=hsp.wh)
        | (go_at_call 145;refine (unhide k4 _).mono ?_;rintro e w' ⟨rfl,hg⟩;have hsp:=Sp.next (by assumption) hg;have hwc:=hsp.wh)
        | (go_at_call 146;refine (unhide k5 M _ hM (Sp.tab (w:=w) (PA:=PA) (bM:=w2.heap.size) (M:=M) (wh:=wh) (by assumption))).mono ?_;rintro e w' ⟨rfl,hg⟩;have hsp:=Sp.next (by assumption) hg;have hwc:=hsp.wh))
       go_ret;exact ⟨by rw [unhide hcan2];rfl,hsp.gr⟩
      ·go_wp2_with (first
        | (refine wpList_load_men (by rfl) _ rfl w2.heap.size rfl (Sp.men (w:=w) (PA:=PA) (wh:=wh) (by assumption)) ?_)
        | (refine wpList_load_pos (by rfl) _ rfl w.heap.size rfl hz (Sp.row (bM:=w2.heap.size) (M:=M) (wh:=wh) (by assumption)) ?_)
        | (go_at_call 142;refine (unhide k0 _ M _ hM (Sp.tab (w:=w) (PA:=PA) (bM:=w2.heap.size) (M:=M) (wh:=wh) (by assumption))).mono ?_;rintro e w' ⟨rfl,hg⟩;(first|rw [unhide hq0]|rw [unhide hq1]);have hsp:=Sp.next (by assumption) hg;have hwc:=hsp.wh)
        | (go_at_call 143;refine (unhide k2 _ (Sp.homes (w:=w) (PA:=PA) (bM:=w2.heap.size) (M:=M) (wh:=wh) (by assumption))).mono ?_;rintro e w' ⟨rfl,hg⟩;have hsp:=Sp.next (by assumption) hg;have hwc:=hsp.wh)
        | (go_at_call 144;refine (unhide k3 _).mono ?_;rintro e w' ⟨rfl,hg⟩;have hsp:=Sp.next (by assumption) hg;have hwc:=hsp.wh)
        | (go_at_call 145;refine (unhide k4 _).mono ?_;rintro e w' ⟨rfl,hg⟩;have hsp:=Sp.next (by assumption) hg;have hwc:=hsp.wh)
        | (go_at_call 146;refine (unhide k5 M _ hM (Sp.tab (w:=w) (PA:=PA) (bM:=w2.heap.size) (M:=M) (wh:=wh) (by assumption))).mono ?_;rintro e w' ⟨rfl,hg⟩;have hsp:=Sp.next (by assumption) hg;have hwc:=hsp.wh))
       go_ret;exact ⟨by rw [unhide hcan2];rfl,hsp.gr⟩
theorem can_no {z:Nat->UInt8} {wh:Bool} {f:Nat->Bool} {b h g:Int} {PA:Array Value} (r:Row z wh f b h g PA) (w:World) (hok:layOk z=false):Calls Tryz.prog 63 #[.agg PA] w fun e w'=>e=.returned (.bool false)/\Gr w w':=by
 have hg1:Gr w (w.alloc (.cells PA 70)):=(Gr.refl w).alloc _ _;have hc:∀ o,(w.alloc (.cells PA 70)).cell? ⟨w.heap.size,o,none⟩=PA[o]?:=fun o=>World.cell?_alloc_at _ _ _ _ rfl
 have h64:(w.alloc (.cells PA 70)).rangeAt w.heap.size 0 (PA.toList.take 64):=fun j v hv=>by
  rw [hc,Nat.zero_add,<-Array.getElem?_toList];rw [List.getElem?_take] at hv;split at hv
  ·exact hv
  ·cases hv
 have hz64:(PA.toList.take 64).length=64:=by simp [r.size]
 have hB:∀ i,i<64->(PA.toList.take 64).toArray[i]?=some (.int .u8 ((z i).toNat:Int)):=fun i hi=>by
  rw [List.getElem?_toArray,List.getElem?_take,if_pos hi,Array.getElem?_toList];exact r.sq i hi
 have hlay:=hide (lay_no hok (by simpa using hz64) hB);have hg1':=hide hg1;have h64':=hide h64;have hi64:Hid ((Tryz.prog.info? 67).map (·.size)=some (PA.toList.take 64).length):=hide (by rw [hz64];exact info64);have hz:=r.size;clear r hg1 h64 hB hc hz64 hok;generalize PA.toList.take 64=L at hlay h64' hi64;go_enter Tryz.func63,Tryz.ntmps63
 go_upto_region 2 with (first
  | (refine wpList_load_mid rfl 67 _ rfl w.heap.size 0 rfl L _ (unhide h64') Tryz.underlying67 rfl (unhide hi64) ?_)
  | (go_at_call 126;refine (unhide hlay _).mono ?_;rintro e w2 ⟨M,m,rfl,hM,hg2⟩)
  | (refine wpList_store_row rfl 197 _ _ rfl w2.heap.size M rfl rfl 197 _ (heap_alloc_new _ _) hM.info hM.1.symm hM.ones ?_))
 generalize hw3:(w2.alloc (.cells #[.int .u64 0,.int .u64 0,.int .u64 0,.int .u64 0,.int .u64 0,.int .u64 0,.int .u64 0,.int .u64 0,.int .u64 0,.int .u64 0,.int .u64 0,.int .u64 0] 197)).setRow w2.heap.size M=w3;have hg3:Gr w2 w3:=by rw [<-hw3];exact ((Gr.refl w2).alloc _ _).setRow _ (Nat.le_refl _) _
 have hg13:Gr w w3:=Gr.trans (unhide hg1') (Gr.trans hg2 hg3);clear hw3 hg3 hg2 hlay h64' hi64 hg1';go_wp2_with (fail);go_ret;exact ⟨rfl,hg13⟩
theorem can_any {z:Nat->UInt8} {wh:Bool} {f:Nat->Bool} {b h g:Int} {PA:Array Value} (r:Row z wh f b h g PA) (w:World) (hT:TabIn w) (hH:Homes w):Calls Tryz.prog 63 #[.agg PA] w fun e w'=>e=.returned (.bool (canS z wh f b h g))/\Gr w w':=by
 cases hok:layOk z
 ·refine (can_no r w hok).mono fun e w' k=>⟨k.1.trans ?_,k.2⟩
  rw [canS,hok];rfl
 ·refine (can_walk r w hT hH hok).mono fun e w' k=>⟨k.1.trans ?_,k.2⟩
  rw [canS,hok];rfl
end Go.Proofs.YtnfakamfmkhlbabGreatDoor.C
namespace Go.Proofs.YtnfakamfmkhlbabGreatDoor.C
open Go.RowKit
open Go.Proofs.YtnfakamfmkhlbabGreatDoor.P
def ixc (c:UInt8):Int:=Lib.indexByte lettersL c
def kdc (c:UInt8):Int:=if 6<=ixc c then ixc c-6 else ixc c
def coc (c:UInt8):Int:=if ixc c<0 then 0 else if ixc c<6 then 1 else -1
def sdb (b:Bool):Int:=if b then 1 else -1
def zI (z:Nat->UInt8) (i:Nat):Int:=((z i).toNat:Int)
def attR (z:Nat->UInt8) (y:Int) (b:Bool):Bool:=(List.range 64).any fun n=>decide (coc (z n)=sdb b)&&attI (zI z) (kdc (z n)).toNat (sdb b) (n:Int) y
def kingL (b:Bool):UInt8:=if b then 75 else 107
def kingR (z:Nat->UInt8) (b:Bool):Int:=match (List.range 64).find? (fun n=>z n==kingL b) with|some n=>(n:Int)|none=>-1
theorem ix_bd (c:UInt8):-1<=ixc c/\ixc c<12:=by
 have:∀ n:Fin 256,-1<=ixc (UInt8.ofNat n.val)/\ixc (UInt8.ofNat n.val)<12:=by decide +kernel
 have:=this ⟨c.toNat,c.toNat_lt⟩;simpa using this
def badR (z:Nat->UInt8) (n:Nat):Bool:=!(z n==46)&&(decide (kdc (z n)<0)||(decide (kdc (z n)=0)&&(decide (n/8=0)||decide (n/8=7))))
def menR (z:Nat->UInt8) (b:Bool) (k:Nat):Nat:=((List.range k).filter fun n=>decide (coc (z n)=sdb b)).length
def kinR (z:Nat->UInt8) (b:Bool) (k:Nat):Nat:=((List.range k).filter fun n=>decide (ixc (z n)=(bg b+5:Nat))).length
theorem lay_bit (z:Nat->UInt8) (p:Nat):∀ k,k<=64->∀ n,n<64->(layS z k p).getLsbD n=decide (n<k/\ixc (z n)=(p:Int))
 | 0,_,n,_=>by
   show (0#64).getLsbD n=_;rw [BitVec.getLsbD_zero];simp
 | k+1,hk,n,hn=>by
   have ih:=lay_bit z p k (by omega) n hn;show (layS z k p ||| (if Lib.indexByte lettersL (z k)=(p:Int) then 1#64 <<< k else 0#64)).getLsbD n=_;rw [BitVec.getLsbD_or,ih];by_cases e:Lib.indexByte lettersL (z k)=(p:Int)
   ·rw [if_pos e,one_bit k (by omega) n hn];by_cases h1:n=k
    ·subst h1;have e':ixc (z n)=(p:Int):=e;simp [e']
    ·have:(n<k+1/\ixc (z n)=(p:Int))↔(n<k/\ixc (z n)=(p:Int)):=by constructor<;>rintro ⟨a,b⟩<;>exact ⟨by omega,b⟩
     simp [h1,this]
   ·rw [if_neg e,BitVec.getLsbD_zero,Bool.or_false]
    have:(n<k+1/\ixc (z n)=(p:Int))↔(n<k/\ixc (z n)=(p:Int)):=by
     constructor
     ·rintro ⟨a,b⟩;refine ⟨?_,b⟩;by_cases h1:n=k
      ·subst h1;exact absurd b e
      ·omega
     ·rintro ⟨a,b⟩;exact ⟨by omega,b⟩
    simp [this]
theorem lay64 (z:Nat->UInt8) (p n:Nat) (hn:n<64):(layS z 64 p).getLsbD n=decide (ixc (z n)=(p:Int)):=by
 rw [lay_bit z p 64 (Nat.le_refl _) n hn];simp [hn]
theorem filter_same {f g:Nat->Bool} (l:List Nat) (h:∀ n∈l,f n=g n):l.filter f=l.filter g:=List.filter_congr h
theorem kings_len (z:Nat->UInt8) (b:Bool):(sqs (layS z 64 (bg b+5))).length=kinR z b 64:=by
 unfold sqs kinR;rw [filter_same _ (fun n hn=>lay64 z (bg b+5) n (List.mem_range.1 hn))]
theorem orB_bit (z:Nat->UInt8) (b n:Nat) (hn:n<64):∀ k,(orB (layS z 64) b k).getLsbD n=decide ((b:Int)<=ixc (z n)/\ixc (z n)<(b:Int)+(k:Int))
 | 0=>by
   show (0#64).getLsbD n=_;rw [BitVec.getLsbD_zero];symm;rw [decide_eq_false_iff_not];omega
 | k+1=>by
   have ih:=orB_bit z b n hn k;show (orB (layS z 64) b k ||| layS z 64 (b+k)).getLsbD n=_;rw [BitVec.getLsbD_or,ih,lay64 z (b+k) n hn,<-Bool.decide_or];apply decide_eq_decide.2;omega
theorem side_bit (z:Nat->UInt8) (b:Bool) (n:Nat) (hn:n<64):(sideB (layS z 64) b).getLsbD n=decide (coc (z n)=sdb b):=by
 unfold sideB;rw [orB_bit z (bg b) n hn 6];apply decide_eq_decide.2;have:=ix_bd (z n);unfold coc sdb bg;cases b
 ·simp only [Bool.false_eq_true,if_false];split
  ·omega
  ·split<;>omega
 ·simp only [if_true];split
  ·omega
  ·split<;>omega
theorem side_len (z:Nat->UInt8) (b:Bool):(sqs (sideB (layS z 64) b)).length=menR z b 64:=by
 unfold sqs menR;rw [filter_same _ (fun n hn=>side_bit z b n (List.mem_range.1 hn))]
theorem taken_bit (z:Nat->UInt8) (n:Nat) (hn:n<64):(takenB (layS z 64)).getLsbD n=decide (0<=ixc (z n)):=by
 unfold takenB;rw [BitVec.getLsbD_or,side_bit z true n hn,side_bit z false n hn,<-Bool.decide_or];apply decide_eq_decide.2;have:=ix_bd (z n);unfold coc sdb;simp only [Bool.false_eq_true,if_false,if_true];split
 ·omega
 ·split<;>omega
theorem last_bit:∀ n,n<64->(18374686479671623935#64).getLsbD n=(decide (n/8=0)||decide (n/8=7)):=by decide +kernel
theorem bv_zero (s:BitVec 64):s=0#64↔∀ n,n<64->s.getLsbD n=false:=by
 constructor
 ·rintro rfl n _;exact BitVec.getLsbD_zero
 ·intro h;apply BitVec.eq_of_getLsbD_eq;intro i hi;rw [h i hi,BitVec.getLsbD_zero]
theorem last_U:(18374686479671623935:Int)=U 18374686479671623935#64:=by decide +kernel
theorem U_zero_iff (s:BitVec 64):U s=0↔s=0#64:=by
 constructor
 ·intro h;exact U_inj (h.trans (by decide +kernel))
 ·rintro rfl;decide +kernel
theorem pawns_ok (z:Nat->UInt8) (b:Bool):bits .and .u64 (U (layS z 64 (bg b))) 18374686479671623935=0↔∀ n,n<64->ixc (z n)=(bg b:Nat)->¬ (n/8=0\/n/8=7):=by
 rw [last_U,and_U,U_zero_iff,bv_zero];constructor
 ·intro h n hn e;have:=h n hn;rw [BitVec.getLsbD_and,lay64 z (bg b) n hn,last_bit n hn] at this;simp [e] at this;omega
 ·intro h n hn;rw [BitVec.getLsbD_and,lay64 z (bg b) n hn,last_bit n hn];by_cases e:ixc (z n)=(bg b:Nat)
  ·have:=h n hn e;simp at this;simp [this]
  ·simp [e]
theorem ok_ix (c:UInt8):okY c=(c==46||decide (0<=ixc c)):=rfl
theorem bad_iff (z:Nat->UInt8):((List.range 64).all fun n=>!(badR z n))=true↔layOk z=true/\∀ b:Bool,∀ n,n<64->ixc (z n)=(bg b:Nat)->¬ (n/8=0\/n/8=7):=by
 rw [List.all_eq_true];constructor
 ·intro h;constructor
  ·refine layOk_all fun j hj=>?_
   have h1:=h j (List.mem_range.2 hj);rw [ok_ix];have:=ix_bd (z j);unfold badR kdc at h1;by_cases hd:(z j==46)=true
   ·simp [hd]
   ·simp only [Bool.not_eq_true] at hd;rw [hd] at h1 ⊢;simp only [Bool.not_false,Bool.true_and,Bool.not_eq_true',Bool.or_eq_false_iff,decide_eq_false_iff_not] at h1;have h2:=h1.1;simp only [Bool.false_or,decide_eq_true_eq];split at h2<;>omega
  ·intro b n hn e hr;have h1:=h n (List.mem_range.2 hn);have hb:bg b=0\/bg b=6:=by cases b<;>simp [bg]
   have hd:(z n==46)=false:=by
    cases hz:(z n==46) with
    | false=>rfl
    | true =>
     have:z n=46:=by simpa using hz
     rw [this] at e;have e2:ixc 46=-1:=ib_dot;omega
   unfold badR kdc at h1;rw [hd] at h1;have hk:(if 6<=ixc (z n) then ixc (z n)-6 else ixc (z n))=0:=by split<;>omega
   rw [hk] at h1;simp at h1;omega
 ·rintro ⟨h1,h2⟩ n hn;have hn':=List.mem_range.1 hn;have h3:okY (z n)=true:=List.all_eq_true.1 h1 n hn;rw [ok_ix] at h3;have:=ix_bd (z n);unfold badR kdc;by_cases hd:(z n==46)=true
  ·simp [hd]
  ·simp only [Bool.not_eq_true] at hd;rw [hd] at h3 ⊢;simp only [Bool.false_or,decide_eq_true_eq] at h3;have ha:=h2 true n hn';have hb:=h2 false n hn';simp only [bg,if_true,Bool.false_eq_true,if_false] at ha hb;simp only [Bool.not_false,Bool.true_and,Bool.not_eq_true',Bool.or_eq_false_iff,decide_eq_false_iff_not,Bool.and_eq_false_iff];refine ⟨by split<;>omega,?_⟩
   by_cases hk:(if 6<=ixc (z n) then ixc (z n)-6 else ixc (z n))=0
   ·right;split at hk
    ·have:=hb (by omega);omega
    ·have:=ha (by omega);omega
   ·left;exact hk
theorem free_congr {f g:Nat->Int} (h:∀ n,n<64->(f n=46↔g n=46)) (p:Nat->Int) (L:Nat) (hp:∀ i,i<=L->0<=p i/\p i<=63):freeI f p L=freeI g p L:=by
 unfold freeI;apply decide_eq_decide.2;constructor
 ·intro k i h1 h2;have:=hp i (by omega);exact (h _ (by omega)).1 (k i h1 h2)
 ·intro k i h1 h2;have:=hp i (by omega);exact (h _ (by omega)).2 (k i h1 h2)
theorem attI_congr {f g:Nat->Int} (h:∀ n,n<64->(f n=46↔g n=46)) (k:Nat) (s x y:Int) (h0:0<=x) (h1:x<=63) (h2:0<=y) (h3:y<=63):attI f k s x y=attI g k s x y:=by
 unfold attI
 have e:∀ b:Bool,(b=true->stI x y=true\/slI x y=true)->(b&&freeI f (pI x y) (LI x y))=(b&&freeI g (pI x y) (LI x y)):=fun b hb=>by
  cases b
  ·rfl
  ·rw [free_congr h _ _ (path_b x y h0 h1 h2 h3 (hb rfl))]
 rw [e (slI x y) (fun h=>.inr h),e (stI x y) (fun h=>.inl h),e (stI x y||slI x y) (fun h=>by simpa using h)]
theorem attI_side (f:Nat->Int) (k:Nat) (hk:k≠0) (s t x y:Int):attI f k s x y=attI f k t x y:=by
 unfold attI;rw [if_neg hk,if_neg hk]
def kindN (bw:Bool) (i:Nat):Nat:=if i=0 then (if bw then 2 else 1) else i+2
theorem kindN_I (bw:Bool) (i:Nat):kindI bw i=((kindN bw i:Nat):Int):=by
 unfold kindI kindN;by_cases h:i=0
 ·rw [if_pos h,if_pos h];cases bw<;>rfl
 ·rw [if_neg h,if_neg h];omega
theorem fT_z {z:Nat->UInt8} (hok:layOk z=true) (n:Nat) (hn:n<64):fT (takenB (layS z 64)) n=46↔zI z n=46:=by
 rw [fT_46,taken_bit z n hn,decide_eq_false_iff_not];have h:=List.all_eq_true.1 hok n (List.mem_range.2 hn);rw [ok_ix] at h;unfold zI;constructor
 ·intro hx;have:z n=46:=by simpa [hx] using h
  rw [this];rfl
 ·intro hx
  have:z n=46:=by
   apply UInt8.toNat_inj.1;have:(z n).toNat=46:=by omega
   rw [this];rfl
  rw [this];have e2:ixc 46=-1:=ib_dot;omega
theorem sees_back {z:Nat->UInt8} (hok:layOk z=true) (bw:Bool) (i:Nat) (hi:i<6) (y n:Nat) (hy:y<64) (hn:n<64):(reachB (kindN bw i) y (takenB (layS z 64))).getLsbD n=attI (zI z) i (sdb bw) (n:Int) (y:Int):=by
 by_cases h:i=0
 ·subst h;cases bw
  ·show (reachB 1 y _).getLsbD n=_;have e1:reachB 1 y (takenB (layS z 64))=wpB y:=rfl;rw [e1,pawn_sym y hy n hn,bp_is n hn y hy];rfl
  ·show (reachB 2 y _).getLsbD n=_;have e1:reachB 2 y (takenB (layS z 64))=bpB y:=rfl;rw [e1,<-pawn_sym n hn y hy,wp_is n hn y hy];rfl
 ·have hk:kindN bw i=i+2:=by unfold kindN;rw [if_neg h]
  rw [hk,reach_sym (i+2) y n (by omega) (by omega) hy hn,reach_ref (i+2) n (by omega) (by omega) hn,refB_bit (i+2) (n:Int) _ y hy];unfold refAtt;have e1:kR (i+2)=i:=by unfold kR;rw [if_neg (by omega)];omega
  rw [e1,attI_side _ i h _ (sdb bw)];exact attI_congr (fun n hn=>fT_z hok n hn) i _ _ _ (by omega) (by omega) (by omega) (by omega)
theorem sees_iff {z:Nat->UInt8} (hok:layOk z=true) (bw:Bool) (i:Nat) (hi:i<6) (y:Nat) (hy:y<64):seesI (layS z 64) (y:Int) bw i=true↔∃ n,n<64/\ixc (z n)=((bg bw+i:Nat):Int)/\attI (zI z) i (sdb bw) (n:Int) (y:Int)=true:=by
 unfold seesI;rw [kindN_I,reach_U (kindN bw i) y (by unfold kindN;split<;>(try split)<;>omega) (by unfold kindN;split<;>(try split)<;>omega) hy,and_U,bne_iff_ne]
 constructor
 ·intro h;have h1:reachB (kindN bw i) y (takenB (layS z 64)) &&& layS z 64 (bg bw+i)≠0#64:=fun e=>h (by rw [e];decide +kernel)
  refine Classical.byContradiction fun hn=>h1 ((bv_zero _).2 fun n hlt=>?_)
  rw [BitVec.getLsbD_and,lay64 z _ n hlt,sees_back hok bw i hi y n hy hlt];by_cases e:ixc (z n)=((bg bw+i:Nat):Int)
  ·cases ha:attI (zI z) i (sdb bw) (n:Int) (y:Int) with
   | false=>rfl
   | true=>exact absurd ⟨n,hlt,e,ha⟩ hn
  ·simp only [e,decide_false,Bool.and_false]
 ·rintro ⟨n,hlt,e,ha⟩ h;have h1:=(bv_zero _).1 ((U_zero_iff _).1 h) n hlt;rw [BitVec.getLsbD_and,lay64 z _ n hlt,sees_back hok bw i hi y n hy hlt,ha] at h1;simp [e] at h1
theorem ix_of_co {c:UInt8} {bw:Bool} (h:coc c=sdb bw):∃ i,i<6/\ixc c=((bg bw+i:Nat):Int)/\(kdc c).toNat=i:=by
 have:=ix_bd c;unfold coc sdb at h;unfold kdc;cases bw
 ·simp only [Bool.false_eq_true,if_false] at h;refine ⟨(ixc c-6).toNat,?_,?_,?_⟩
  ·split at h<;>(try split at h)<;>omega
  ·show _=((6+(ixc c-6).toNat:Nat):Int);split at h<;>(try split at h)<;>omega
  ·rw [if_pos (by split at h<;>(try split at h)<;>omega)]
 ·simp only [if_true] at h;refine ⟨(ixc c).toNat,?_,?_,?_⟩
  ·split at h<;>(try split at h)<;>omega
  ·show _=((0+(ixc c).toNat:Nat):Int);split at h<;>(try split at h)<;>omega
  ·rw [if_neg (by split at h<;>(try split at h)<;>omega)]
theorem co_of_ix {c:UInt8} {bw:Bool} {i:Nat} (hi:i<6) (h:ixc c=((bg bw+i:Nat):Int)):coc c=sdb bw/\(kdc c).toNat=i:=by
 unfold coc kdc sdb;rw [h];cases bw
 ·simp only [bg,Bool.false_eq_true,if_false];refine ⟨by rw [if_neg (by omega),if_neg (by omega)],by rw [if_pos (by omega)];omega⟩
 ·simp only [bg,if_true];refine ⟨by rw [if_neg (by omega),if_pos (by omega)],by rw [if_neg (by omega)];omega⟩
theorem attacked_same {z:Nat->UInt8} (hok:layOk z=true) (bw:Bool) (y:Nat) (hy:y<64):attackedS (layS z 64) (y:Int) bw=attR z (y:Int) bw:=by
 rw [Bool.eq_iff_iff];unfold attackedS attR;rw [List.any_eq_true,List.any_eq_true];constructor
 ·rintro ⟨i,hi,h⟩;have hi':=List.mem_range.1 hi;obtain ⟨n,hn,e,ha⟩:=(sees_iff hok bw i hi' y hy).1 h;obtain ⟨c1,c2⟩:=co_of_ix hi' e;exact ⟨n,List.mem_range.2 hn,by rw [c2,ha];simp [c1]⟩
 ·rintro ⟨n,hn,h⟩;have hn':=List.mem_range.1 hn;simp only [Bool.and_eq_true,decide_eq_true_eq] at h;obtain ⟨i,hi,e,c2⟩:=ix_of_co h.1;refine ⟨i,List.mem_range.2 hi,(sees_iff hok bw i hi y hy).2 ⟨n,hn',e,?_⟩⟩;rw [<-c2];exact h.2
theorem king_ix (b:Bool):∀ c:UInt8,(c==kingL b)=decide (ixc c=((bg b+5:Nat):Int)):=by
 have:∀ b:Bool,∀ n:Fin 256,(UInt8.ofNat n.val==kingL b)=decide (ixc (UInt8.ofNat n.val)=((bg b+5:Nat):Int)):=by decide +kernel
 intro c;have:=this b ⟨c.toNat,c.toNat_lt⟩;simpa using this
def canR (z:Nat->UInt8) (wh:Bool) (f:Nat->Bool) (b h g:Int):Bool :=
 ((List.range 64).all fun n=>!(badR z n))&&(decide (kinR z true 64=1)&&decide (kinR z false 64=1)&&decide (menR z true 64<=16)&&decide (menR z false 64<=16))&&castOk z f&&behOk z wh b&&!(attR z (kingR z (!wh)) wh)&&clkOk h g
theorem one_king {z:Nat->UInt8} {b:Bool} (h:kinR z b 64=1):∃ y,y<64/\sqs (layS z 64 (bg b+5))=[y]/\kingR z b=(y:Int):=by
 have h1:(sqs (layS z 64 (bg b+5))).length=1:=(kings_len z b).trans h;obtain ⟨y,hy⟩:=List.length_eq_one_iff.1 h1;have hm:y∈sqs (layS z 64 (bg b+5)):=by rw [hy];simp
 have hy64:=((sqs_mem _ _).1 hm).1;have hbit:∀ n,n<64->(z n==kingL b)=(layS z 64 (bg b+5)).getLsbD n:=fun n hn=>by rw [king_ix,lay64 z _ n hn]
 refine ⟨y,hy64,hy,?_⟩;unfold kingR
 have:(List.range 64).find? (fun n=>z n==kingL b)=some y:=by
  cases hf:(List.range 64).find? (fun n=>z n==kingL b) with
  | none =>
   have:=List.find?_eq_none.1 hf y (List.mem_range.2 hy64);rw [hbit y hy64,((sqs_mem _ _).1 hm).2] at this;exact absurd rfl this
  | some n =>
   have hp:=List.find?_some hf;have hn:=List.mem_range.1 (List.mem_of_find?_eq_some hf);rw [hbit n hn] at hp;have:n∈sqs (layS z 64 (bg b+5)):=(sqs_mem _ _).2 ⟨hn,hp⟩;rw [hy] at this;rw [List.mem_singleton.1 this]
 rw [this]
theorem can_same (z:Nat->UInt8) (wh:Bool) (f:Nat->Bool) (b h g:Int):canR z wh f b h g=canS z wh f b h g:=by
 rw [Bool.eq_iff_iff];unfold canR canS canM sideOk;simp only [Bool.and_eq_true,decide_eq_true_eq,kings_len,side_len];constructor
 ·rintro ⟨⟨⟨⟨⟨h1,⟨⟨h2,h3⟩,h4⟩,h5⟩,h6⟩,h7⟩,h8⟩,h9⟩;obtain ⟨k1,k2⟩:=(bad_iff z).1 h1;obtain ⟨y,y1,y2,y3⟩:=one_king (z:=z) (b:=!wh) (by cases wh<;>assumption)
  refine ⟨k1,⟨⟨⟨⟨⟨⟨⟨by omega,by omega⟩,(pawns_ok z true).2 (k2 true)⟩,⟨⟨by omega,by omega⟩,(pawns_ok z false).2 (k2 false)⟩⟩,h6⟩,h7⟩,h9⟩,?_⟩⟩;unfold otherS;rw [y2];simp only [List.any_cons,List.any_nil,Bool.or_false];rw [attacked_same k1 wh y y1,<-y3];exact h8
 ·rintro ⟨k1,⟨⟨⟨⟨⟨⟨⟨h2,h4⟩,p1⟩,⟨⟨h3,h5⟩,p2⟩⟩,h6⟩,h7⟩,h9⟩,h8⟩⟩;have e2:kinR z true 64=1:=by omega
  have e3:kinR z false 64=1:=by omega
  obtain ⟨y,y1,y2,y3⟩:=one_king (z:=z) (b:=!wh) (by cases wh<;>assumption)
  refine ⟨⟨⟨⟨⟨(bad_iff z).2 ⟨k1,fun b=>?_⟩,⟨⟨e2,e3⟩,by omega⟩,by omega⟩,h6⟩,h7⟩,?_⟩,h9⟩
  ·cases b
   ·exact (pawns_ok z false).1 p2
   ·exact (pawns_ok z true).1 p1
  ·unfold otherS at h8;rw [y2] at h8;simp only [List.any_cons,List.any_nil,Bool.or_false] at h8
   rwa [attacked_same k1 wh y y1,<-y3] at h8
end Go.Proofs.YtnfakamfmkhlbabGreatDoor.C
namespace Go.Proofs.YtnfakamfmkhlbabGreatDoor.C
open Go.ChangeShapes Go.WideShapes Go.ChangeAt Go.RowKit Go.Shelf
open Go.Proofs.YtnfakamfmkhlbabGreatDoor.P
attribute [local go_sem] Oper.semAt_some
theorem BTab.fr {Q:Nat->Obj->Prop} {w w':World} (h:BTab w) (f:Fr Q w w') (hq:∀ o,Q 2 o):BTab w':=fun j hj=>f.cell (h j hj) (fun o _=>hq o)
theorem sq_it (s:BitVec 64) (Bn:Nat) (T:Obj->Prop) (w:World) (hc:w.cell? ⟨Bn,0,none⟩=some (.int .u64 (U s))) (hT:BTab w) :
  It Tryz.prog 207 #[.pointer (some ⟨Bn,0,none⟩)] (fun x:Nat=>#[Value.int .i64 (x:Int)]) T (fun k=>k=Bn\/k=2) (sqs s) w:=by
 intro l B J Jx W f0 hB hJ hJx hY h0;have hBn:=f0.cell hc (fun _ _=>.inl rfl);have hTW:=hT.fr f0 (fun _=>.inr rfl);clear f0 hc hT;refine (callsIn_wide (n:=1)).1 ?_;refine callsIn_of_wp Tryz.func207 rfl trivial ?_ rfl;simp only [Tryz.ntmps207,List.size_toArray,List.length_cons,List.length_nil,Nat.reduceAdd,Nat.reduceSub,Array.replicate_succ,Array.replicate_zero,List.push_toArray,List.append_toArray,List.nil_append,List.cons_append];gi_wp2;gi_loopw [3] (fun p wr=>∃ (pre:List Nat) (r:BitVec 64),p=.int .u64 (U r)/\sqs s=pre++sqs r/\BTab wr/\J pre wr) (fun p _=>(sqs (BitVec.ofInt 64 (intOf p))).length)
 case atStart=>exact ⟨[],s,rfl,rfl,hTW,h0⟩
 case round =>
  obtain ⟨pre,r,rfl,hx,htb,hJs⟩:=hrel;by_cases hr:r=0#64
  ·subst hr;have hz:(U 0#64 != 0)=false:=by decide +kernel
   rw [sqs_zero,List.append_nil] at hx;have hx':=hide hx;clear hx;gi_wp2;go_end0;exact ⟨⟨_,rfl⟩,.inl (by rw [unhide hx'];exact hJs)⟩
  ·obtain ⟨t,t1,t2,t3⟩:=low_exists r hr;have hst:=sqs_step r t t1 t2 t3
   have hnz:(U r != 0)=true:=by
    simp only [bne_iff_ne];intro e;exact hr (U_inj (e.trans (by decide +kernel)))
   have htz:=hide (tz_any r t t2 t3);obtain ⟨fn,tmps,assign,body,hy,hR⟩:=hY pre t wr ⟨sqs (r &&& (r-1#64)),by rw [hx,hst];simp⟩ hJs;have hx':=hide hx;have hst':=hide hst;have htb':=hide htb;clear hx hst htb hr t2 t3;gi_wp2_with (refine ⟨trivial,?_⟩;gi_at_call 208;refine (callsIn_wide.2 (unhide htz _ (unhide htb'))).mono ?_;rintro e w' ⟨rfl,rfl⟩);refine hR.mono ?_;rintro e W3 ⟨f3,⟨rfl,hJ3⟩|⟨rfl,hJx3⟩⟩
   ·have e1:IntKind.u64.wrap (U r-1)=U (r-1#64):=by
     rw [show (1:Int)=U 1#64 from by decide +kernel];exact sub_U r 1#64
    have e2:bits .and .u64 (U r) (U (r-1#64))=U (r &&& (r-1#64)):=and_U _ _;gi_wp2;go_roundw
    case rel=>exact ⟨pre++[t],r &&& (r-1#64),rfl,by rw [unhide hx',unhide hst'];simp,(unhide htb').fr f3 (fun _=>.inl (.inr rfl)),hJ3⟩
    case measure=>simp only [intOf];rw [ofInt_U,ofInt_U,unhide hst'];simp
   ·gi_wp2;refine bodyPost_ret (results_none rfl _ _ _) rfl ?_;exact ⟨⟨_,rfl⟩,.inr ⟨pre++[t],⟨sqs (r &&& (r-1#64)),by rw [unhide hx',unhide hst'];simp⟩,hJx3⟩⟩
end Go.Proofs.YtnfakamfmkhlbabGreatDoor.C
