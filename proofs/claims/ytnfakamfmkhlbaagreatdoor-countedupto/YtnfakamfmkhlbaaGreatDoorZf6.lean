import Derived.Test.YtnfakamfmkhlbaaGreatDoorZf5
import Derived.Maps.AppendAt
import Derived.Deep.RegionHeld3
import Derived.Deep.MidRow
import Derived.Test.YtnfakamfmkhlbaaGreatDoorZf1
import Derived.Test.YtnfakamfmkhlbaaGreatDoorTz
import Derived.RangeFuncNested
import Derived.RangeFuncBound
import Derived.RangeFuncCalls
import Derived.RangeFuncLeaves
import Derived.Shelf.Abstract
import Derived.Shelf.RegionOpen
import Derived.OwnWalkIn
import Derived.TacticsInMore
import Derived.LoopNIn
import Derived.LoopIn
import Derived.Stop.RegionWithIn
set_option maxRecDepth 100000
set_option maxHeartbeats 4000000
set_option linter.unusedSimpArgs false
namespace Go.Proofs.YtnfakamfmkhlbaaGreatDoor.C
open Go.ChangeShapes Go.WideShapes Go.ChangeAt Go.RowKit
attribute [local go_sem] qb qd
theorem infoB:(Tryz.prog.info? 5).map (fun i=>(i.zero,i.size,i.bytes))=some (some (.int .u8 0),1,1):=by kernel_rfl
def bcells (l:List UInt8):List Value:=l.map (fun c=>Value.int .u8 (c.toNat:Int))
def Txt (base:Nat) (v:Value) (l:List UInt8) (w:World):Prop:=w.ownsRow base 5 1 v l.length (bcells l)
theorem txt_block {base:Nat} {v:Value} {l:List UInt8} {w:World} (h:Txt base v l w):∀ k,v.ownBlock=some k->base<=k:=by
 intro k hk;rcases h.2 with ⟨rfl,_⟩|⟨g,cap,cur,rfl,hg,_⟩
 ·simp [Value.ownBlock] at hk
 ·simp [Value.ownBlock] at hk;omega
theorem gap_zero (v:Value) (w:World):Calls Tryz.prog 226 #[v,.int .i64 0] w fun e w'=>e=.returned v/\w'=w:=by
 go_enter Tryz.func226,Tryz.ntmps226;go_wp2;go_ret;exact ⟨rfl,rfl⟩
def gapS (g:Nat):List UInt8:=if g=0 then [] else [UInt8.ofNat (48+g)]
theorem gap_some (base:Nat) (v:Value) (l:List UInt8) (hl:l.length<=64) (g:Nat) (h1:1<=g) (h9:g<=9) (w:World) (hb:base<=w.heap.size) (ht:Txt base v l w) :
  Calls Tryz.prog 226 #[v,.int .i64 g] w fun e w'=>∃ v',e=.returned v'/\Txt base v' (l++[UInt8.ofNat (48+g)]) w'/\Below base w w':=by
 have ht':=hide ht;clear ht;obtain ⟨i0,hi,hz0,hz1,hz2⟩:=info_parts infoB;have hne:((g:Int)==0)=false:=by simp;omega
 have hu:Hid (((UInt8.ofNat (48+g)).toNat:Int)=48+(g:Int)):=hide (by simp;omega);go_enter Tryz.func226,Tryz.ntmps226;go_wp2_with (at_builtin;refine wpList_append_own _ rfl (.tmp 8) (.tmp 12) 101 rfl base 5 i0 (.int .u8 0) 1 1 Tryz.underlying101 hi hz0 hz1 hz2 rfl (by decide) v l.length (bcells l) rfl ((qa ht').alloc _) ⟨w.heap.size,0,none⟩ 1 1 [.int .u8 (48+(g:Int))] rfl rfl (cell_one_new _ _ _) (by simp [Value.oneCell']) (by unfold maxLen;omega) (by omega) (by simp;omega) ?_;intro v' w1 hown' hgrow hnil);go_ret;refine ⟨v',rfl,?_,?_⟩
 ·unfold Txt bcells;rw [List.map_append,List.length_append];show World.ownsRow _ _ _ _ _ _ (_++[Value.int .u8 _]);rw [qa hu];exact hown'
 ·exact ((Below.refl base w).alloc hb _).grown hgrow (by simp;omega) (txt_block (qa ht'))
theorem gap_any (base:Nat) (v:Value) (l:List UInt8) (hl:l.length<=64) (g:Nat) (h9:g<=9) (w:World) (hb:base<=w.heap.size) (ht:Txt base v l w) :
  Calls Tryz.prog 226 #[v,.int .i64 g] w fun e w'=>∃ v',e=.returned v'/\Txt base v' (l++gapS g) w'/\Below base w w':=by
 by_cases h0:g=0
 ·subst h0;refine (gap_zero v w).mono ?_;rintro e w' ⟨rfl,rfl⟩;exact ⟨v,rfl,by simpa [gapS] using ht,Below.refl _ _⟩
 ·have e:gapS g=[UInt8.ofNat (48+g)]:=by unfold gapS;rw [if_neg h0]
  rw [e];exact gap_some base v l hl g (by omega) h9 w hb ht
def wrK (z:Nat->UInt8):Nat->List UInt8 × Nat
 | 0=>([],0)
 | k+1=>if z k=46 then ((wrK z k).1,(wrK z k).2+1) else ((wrK z k).1++gapS (wrK z k).2++[z k],0)
theorem wrK_bd (z:Nat->UInt8):∀ k,(wrK z k).1.length<=2*k/\(wrK z k).2<=k
 | 0=>⟨Nat.le_refl _,Nat.le_refl _⟩
 | k+1=>by
   have h:=wrK_bd z k;unfold wrK;have hg:(gapS (wrK z k).2).length<=1:=by unfold gapS;split<;>simp
   split
   ·exact ⟨by simp;omega,by simp;omega⟩
   ·exact ⟨by simp;omega,by simp⟩
def wrankS (z:Nat->UInt8):List UInt8:=(wrK z 8).1++gapS (wrK z 8).2
theorem conv_nil (w:World):(convert 101 9 (.slice none 0 0)).run Tryz.prog w=.ok (.string ⟨#[]⟩) w:=by kernel_rfl
theorem txt_conv {base:Nat} {v:Value} {l:List UInt8} {w:World} (h:Txt base v l w):(convert 101 9 v).run Tryz.prog w=.ok (.string ⟨l.toArray⟩) w:=by
 rcases h.2 with ⟨rfl,hn⟩|⟨g,cap,cur,rfl,hg,hh,hn,hc,hs,ht⟩
 ·have:l=[]:=List.length_eq_zero_iff.mp hn;subst this;exact conv_nil w
 ·refine zy w ⟨g,0,none⟩ cap l (fun i hi=>?_);rw [Addr.add_lit,Nat.zero_add,cell_of_row _ _ _ _ _ _ hh];have:cur.toList[i]?=(cur.toList.take (l.length*1))[i]?:=by rw [List.getElem?_take,if_pos (by omega)]
  rw [<-Array.getElem?_toList,this,ht];simp [bcells,hi]
theorem wrank_any (z:Nat->UInt8) (b o c:Nat) (w:World) (hb:b<w.heap.size) (hz:∀ i,i<8->w.cell? ⟨b,o+i,none⟩=some (.int .u8 ((z i).toNat:Int))) :
  Calls Tryz.prog 150 #[.slice (some ⟨b,o,none⟩) 8 c] w fun e w'=>e=.returned (.string ⟨(wrankS z).toArray⟩)/\Gr w w':=by
 have hz':=hide hz;clear hz;obtain ⟨i0,hi,hz0,hz1,hz2⟩:=info_parts infoB;have hi':=hide hi;clear hi;go_enter Tryz.func150,Tryz.ntmps150;go_wp2;go_loopg [3,4,9] 8 (fun G t g i wr=>∃ k:Nat,k+G=8/\i=.int .i64 k/\g=.int .i64 (wrK z k).2/\Txt w.heap.size t (wrK z k).1 wr/\Below w.heap.size w wr)
 case atStart=>exact ⟨0,rfl,rfl,rfl,⟨rfl,Or.inl ⟨rfl,rfl⟩⟩,Below.refl _ _⟩
 case round =>
  obtain ⟨k,k1,rfl,rfl,ht0,hbe0⟩:=hrel;have ht:=hide ht0;have hbe:=hide hbe0;clear ht0 hbe0;have hbd:=wrK_bd z k;by_cases hlt:k<8
  ·have hcell:wr.cell? ⟨b,o+k,none⟩=some (.int .u8 ((z k).toNat:Int)):=(Below.cell (qa hbe) (p:=⟨b,o+k,none⟩) hb).trans (qa hz' k hlt);by_cases h46:z k=46
   ·have hst:Hid (wrK z (k+1)=((wrK z k).1,(wrK z k).2+1)):=hide (by rw [wrK,if_pos h46]);have hnn:((z k).toNat:Int)=46:=by rw [h46];rfl
    rw [hnn] at hcell;clear hnn h46;go_wp2;go_roundg (gk-1)
    case measure=>omega
    case rel=>exact ⟨k+1,by omega,by go_num,by rw [qa hst];go_num,by rw [qa hst];exact qa ht,qa hbe⟩
   ·have hst:Hid (wrK z (k+1)=((wrK z k).1++gapS (wrK z k).2++[z k],0)):=hide (by rw [wrK,if_neg h46])
    have hnn:(((z k).toNat:Int)==46)=false:=by
     simp only [beq_eq_false_iff_ne];intro e;exact h46 (UInt8.toNat_inj.mp (by simp;omega))
    clear h46;go_wp2_with fail;refine (gap_any w.heap.size _ _ (by omega) _ (by omega) _ (Below.size (qa hbe)) (qa ht)).mono ?_;rintro e w1 ⟨v1,rfl,ht1,hb1⟩;have hs1:w.heap.size<=w1.heap.size:=by have:=Below.size (qa hbe);have:=Below.size hb1;omega
    have hgl:(gapS (wrK z k).2).length<=1:=by unfold gapS;split<;>simp
    have hll:((wrK z k).1++gapS (wrK z k).2).length<=40:=by simp;omega
    have ht1':=hide ht1;have hb1':=hide ((qa hbe).trans hb1);clear ht1 hb1 hcell hgl;go_wp2_with (at_builtin;refine wpList_append_own _ rfl (.tmp 19) (.tmp 21) 101 rfl w.heap.size 5 i0 (.int .u8 0) 1 1 Tryz.underlying101 (qa hi') hz0 hz1 hz2 rfl (by decide) v1 _ _ rfl ((qa ht1').alloc _) ⟨w1.heap.size,0,none⟩ 1 1 [.int .u8 ((z k).toNat:Int)] rfl rfl (cell_one_new _ _ _) (by simp [Value.oneCell']) (by unfold maxLen;omega) (by omega) (by simp;omega) ?_;intro v' w2 hown' hgrow hnil)
    have hT:Hid (Txt w.heap.size v' (wrK z (k+1)).1 w2):=hide (by
     rw [qa hst];unfold Txt bcells;rw [List.map_append,List.length_append];exact hown')
    have hB:Hid (Below w.heap.size w w2):=hide (((qa hb1').alloc hs1 _).grown hgrow (by simp;omega) (txt_block (qa ht1')));clear hown' hgrow hnil;go_wp2;go_roundg (gk-1)
    case measure=>omega
    case rel=>exact ⟨k+1,by omega,by go_num,by rw [qa hst];rfl,qa hT,qa hB⟩
  ·have ek:k=8:=by omega
   subst ek;go_wp2_with fail;refine (gap_any w.heap.size _ _ (by omega) _ (by omega) _ (Below.size (qa hbe)) (qa ht)).mono ?_;rintro e w1 ⟨v1,rfl,ht1,hb1⟩;have hcv:=txt_conv ht1;have hB:=hide ((qa hbe).trans hb1);clear ht1 hb1;go_wp2;go_ret;exact ⟨rfl,qa hB⟩
def wrowS (z:Nat->UInt8) (i:Nat):List UInt8:=wrankS (fun f=>z (8*(7-i)+f))
def wrowsS (z:Nat->UInt8):List ByteArray:=(List.range 8).map (fun i=>⟨(wrowS z i).toArray⟩)
def wboardS (z:Nat->UInt8):List UInt8:=Lib.join ((wrowsS z).map (·.data.toList)) [47]
theorem Gr.setCell {a b:World} (h:Gr a b) {p:Addr} (hp:a.heap.size<=p.block) (v:Value):Gr a (b.setCell p v):=Below.setCell h hp v
theorem wrowS_len (z:Nat->UInt8) (i:Nat):(wrowS z i).length<=17:=by
 unfold wrowS wrankS;have h:=wrK_bd (fun f=>z (8*(7-i)+f)) 8;have hg:(gapS (wrK (fun f=>z (8*(7-i)+f)) 8).2).length<=1:=by unfold gapS;split<;>simp
 rw [List.length_append];omega
theorem qxo (sep:List UInt8) (n:Nat):∀ xs:List (List UInt8),(∀ x∈xs,x.length<=n)->(Lib.join xs sep).length<=xs.length*(n+sep.length)
 | [],_=>by simp [Lib.join,List.intercalate]
 | [x],h=>by
   have:=h x (by simp);rw [Lib.join_one];simp;omega
 | x :: y :: r,h=>by
   have ih:=qxo sep n (y :: r) (fun a ha=>h a (by simp at ha ⊢;right;exact ha));have hx:=h x (by simp);have e:Lib.join (x :: y :: r) sep=x++sep++Lib.join (y :: r) sep:=by simp [Lib.join,List.intercalate,List.intersperse]
   rw [e,List.length_append,List.length_append,List.length_cons,Nat.add_mul];omega
theorem wboard_any (z:Nat->UInt8) (A:Array Value) (hA:∀ i,i<64->A[i]?=some (.int .u8 ((z i).toNat:Int))) (w:World) :
  Calls Tryz.prog 80 #[.agg A] w fun e w'=>e=.returned (.string ⟨(wboardS z).toArray⟩)/\Gr w w':=by
 have hA':=hide hA;clear hA;go_enter Tryz.func80,Tryz.ntmps80;go_wp2;go_loopg [6] 8 (fun G i wr=>∃ k:Nat,k+G=8/\i=.int .i64 k/\wr.heap[w.heap.size]?=some (.cells A 22)/\(∃ R:Array Value,R.size=8/\wr.heap[w.heap.size+1]?=some (.cells R 227)/\∀ j,j<k->R[j]?=some (.string ⟨(wrowS z j).toArray⟩))/\w.heap.size+2<=wr.heap.size/\Gr w wr)
 case atStart=>exact ⟨0,rfl,rfl,heap_alloc2_old _ _ _,⟨_,rfl,heap_alloc2_new _ _ _,fun j h=>by omega⟩,by simp,((Gr.refl w).alloc _ _).alloc _ _⟩
 case round =>
  obtain ⟨k,k1,rfl,hb0,⟨R,hR,hb1,hrows⟩,hsz,hgr⟩:=hrel;have hb0':=hide hb0;have hb1':=hide hb1;have hR':=hide hR;have hrows':=hide hrows;have hgr':=hide hgr;clear hb0 hb1 hR hrows hgr;by_cases hlt:k<8
  ·obtain ⟨q,hq⟩:∃ q:Nat,q=8*(7-k):=⟨_,rfl⟩;have hw:8*(7-(k:Int))=(q:Int):=by omega
   have hq1:(q:Int)+8<=64:=by omega
   have hq2:(q:Int)<=(q:Int)+8:=by omega
   have hq56:q<=56:=by omega
   have hq':=hide hq;clear hq;go_wp2_with fail
   refine (wrank_any (fun f=>z (8*(7-k)+f)) w.heap.size q (64-q) _ (by omega) (fun i hi=>by
    rw [cell_of_row _ _ _ _ _ _ (qa hb0'),qa hA' (q+i) (by omega),qa hq'])).mono ?_
   rintro e w1 ⟨rfl,hg1⟩;have hs1:=Below.size hg1;have hB0:Hid (w1.heap[w.heap.size]?=some (.cells A 22)):=hide (by rw [Below.block hg1 _ (by omega)];exact qa hb0');have hB1:Hid (w1.heap[w.heap.size+1]?=some (.cells R 227)):=hide (by rw [Below.block hg1 _ (by omega)];exact qa hb1');have hG1:Hid (Gr w w1):=hide ((qa hgr').trans hg1);have hRk:k<R.size:=by rw [qa hR'];exact hlt
   have hcell:w1.cell? ⟨w.heap.size+1,k,none⟩=some (R[k]'hRk):=by rw [cell_of_row _ _ _ _ _ _ (qa hB1)];exact Array.getElem?_eq_getElem _
   have hfro:w1.frozen? ⟨w.heap.size+1,k,none⟩=false:=frozen_of_row _ _ _ _ _ (qa hB1);clear hb0' hb1' hgr' hg1;go_wp2;go_roundg (gk-1)
   case measure=>omega
   case rel =>
    refine ⟨k+1,by omega,by go_num,?_,⟨R.setIfInBounds k (.string ⟨(wrowS z k).toArray⟩),by simpa using qa hR',?_,?_⟩,?_,?_⟩
    ·rw [heap_setCell_other _ _ _ _ (by show w.heap.size≠w.heap.size+1;omega)];exact qa hB0
    ·exact heap_setCell_same _ _ _ _ _ _ (qa hB1)
    ·intro j hj;rw [Array.getElem?_setIfInBounds];by_cases e:k=j
     ·subst e;rw [if_pos rfl,if_pos hRk]
     ·rw [if_neg e];exact qa hrows' j (by omega)
    ·simp [World.setCell];omega
    ·exact (qa hG1).setCell (p:=⟨w.heap.size+1,k,none⟩) (by show w.heap.size<=w.heap.size+1;omega) _
  ·have ek:k=8:=by omega
   subst ek;have hlen8:(wrowsS z).length=8:=by simp [wrowsS]
   have hj:=Tryz.strings_Join (w.heap.size+1) 0 8 (wrowsS z) ⟨#[47]⟩ wr (by
    intro j x hx;have hj8:j<8:=by rw [<-hlen8];exact (List.getElem?_eq_some_iff.mp hx).1
    rw [Nat.zero_add,cell_of_row _ _ _ _ _ _ (qa hb1'),qa hrows' j hj8]
    have:x=⟨(wrowS z j).toArray⟩:=by
     unfold wrowsS at hx;rw [List.getElem?_map,List.getElem?_range hj8] at hx;simpa using hx.symm
    rw [this]) (by omega) (by rw [hlen8];omega) (by rw [hlen8];omega) (by
    have:=qxo [47] 17 ((wrowsS z).map (·.data.toList)) (by
     intro x hx;obtain ⟨y,hy,rfl⟩:=List.mem_map.mp hx;obtain ⟨i,_,rfl⟩:=List.mem_map.mp hy;exact wrowS_len z i)
    rw [List.length_map,hlen8] at this;exact Nat.le_trans this (by simp))
   rw [hlen8] at hj;have hj':=hide hj;clear hj;go_wp2_with (go_at_call 85;refine (qa hj').mono ?_;rintro e w1 ⟨rfl,hg1⟩);go_ret;exact ⟨rfl,(qa hgr').trans hg1⟩
def Tab (w : World) : Prop := Lib.TabIs Tryz.prog w "internal/strconv.uint64pow10" .u64 Lib.pow10Tab
theorem pow10_named : ∃ g, Tryz.prog.globalNamed "internal/strconv.uint64pow10" = some g := ⟨5, by kernel_rfl⟩
theorem Tab.gr {w w':World} (h:Tab w) (g:Gr w w'):Tab w':=by
 obtain ⟨i,hi⟩:=pow10_named;unfold Tab Lib.TabIs World.var? at h ⊢;rw [hi] at h ⊢;simp only [Option.bind_some] at h ⊢
 have hlt:i<w.heap.size:=by
  rcases Nat.lt_or_ge i w.heap.size with h'|h'
  ·exact h'
  ·rw [Array.getElem?_eq_none h'] at h;cases h
 rw [Below.block g i hlt];exact h
theorem Gr.grow (w:World) (k:Nat) (os:Array Obj):Gr w (Go.Sort.grow (w.drewN k) os):=by
 refine ⟨rfl,rfl,rfl,?_,fun i hi=>?_⟩
 ·show w.heap.size<=(w.heap++os).size;simp
 ·show (w.heap++os)[i]?=_;rw [Array.getElem?_append,if_pos hi]
theorem itoa_any (n:Int) (h0:0<=n) (h1:n<=65535) (w:World) (ht:Tab w):Calls Tryz.prog 84 #[.int .i64 n] w fun e w'=>e=.returned (.string ⟨(Lib.itoa n).toArray⟩)/\Gr w w':=by
 refine (Tryz.strconv_Itoa n (by omega) (by omega) w ht).mono ?_;rintro e w' ⟨rfl,k,os,rfl⟩;exact ⟨rfl,Gr.grow w k os⟩
def PS (w:World) (A:List Value) (wh c0 c1 c2 c3:Bool) (b h f:Int) (w':World):Prop :=
 w'.rangeAt w.heap.size 0 A/\w'.cell? ⟨w.heap.size,64,none⟩=some (.bool wh)/\w'.cell? ⟨w.heap.size,65,none⟩=some (.bool c0)/\w'.cell? ⟨w.heap.size,66,none⟩=some (.bool c1)/\w'.cell? ⟨w.heap.size,67,none⟩=some (.bool c2)/\w'.cell? ⟨w.heap.size,68,none⟩=some (.bool c3)/\w'.cell? ⟨w.heap.size,69,none⟩=some (.int .i64 b)/\w'.cell? ⟨w.heap.size,70,none⟩=some (.int .i64 h)/\w'.cell? ⟨w.heap.size,71,none⟩=some (.int .i64 f)/\(w.heap.size<w'.heap.size/\Gr w w'/\Tab w')
theorem PS.gr {w:World} {A:List Value} {wh c0 c1 c2 c3:Bool} {b h f:Int} {w1 w2:World} (p:PS w A wh c0 c1 c2 c3 b h f w1) (g:Gr w1 w2):PS w A wh c0 c1 c2 c3 b h f w2:=by
 obtain ⟨p0,p1,p2,p3,p4,p5,p6,p7,p8,hs,hg,ht⟩:=p;have k:∀ o,w2.cell? ⟨w.heap.size,o,none⟩=w1.cell? ⟨w.heap.size,o,none⟩:=fun o=>Below.cell g (p:=⟨w.heap.size,o,none⟩) hs
 exact ⟨fun j v hv=>(k _).trans (p0 j v hv),(k _).trans p1,(k _).trans p2,(k _).trans p3,(k _).trans p4,(k _).trans p5,(k _).trans p6,(k _).trans p7,(k _).trans p8,Nat.lt_of_lt_of_le hs (Below.size g),hg.trans g,ht.gr g⟩
theorem join6 (x0 x1 x2 x3 x4 x5:ByteArray) (hb:∀ x∈[x0,x1,x2,x3,x4,x5],x.data.toList.length<=100000) (w:World) :
  Calls Tryz.prog 85 #[.slice (some ⟨w.heap.size,0,none⟩) 6 6,.string ⟨#[32]⟩] (w.alloc (.cells #[.string x0,.string x1,.string x2,.string x3,.string x4,.string x5] 9)) fun e w' =>
   e=.returned (.string ⟨(Lib.join ([x0,x1,x2,x3,x4,x5].map (·.data.toList)) [32]).toArray⟩)/\Gr w w':=by
 have hj:=Tryz.strings_Join w.heap.size 0 6 [x0,x1,x2,x3,x4,x5] ⟨#[32]⟩ (w.alloc (.cells #[.string x0,.string x1,.string x2,.string x3,.string x4,.string x5] 9)) (by
  intro j x hx;rw [Nat.zero_add,World.cell?_alloc_at _ _ _ _ rfl];have hj:j<6:=by simpa using (List.getElem?_eq_some_iff.mp hx).1
  have:j=0\/j=1\/j=2\/j=3\/j=4\/j=5:=by omega
  rcases this with rfl|rfl|rfl|rfl|rfl|rfl<;>simp at hx<;>subst hx<;>rfl) (by rw [World.size_alloc];omega) (by simp) (by simp) (by
  have:=qxo [32] 100000 ([x0,x1,x2,x3,x4,x5].map (·.data.toList)) (by
   intro y hy;obtain ⟨x,hx,rfl⟩:=List.mem_map.mp hy;exact hb x hx)
  exact Nat.le_trans this (by simp))
 refine hj.mono ?_;rintro e w' ⟨rfl,hg⟩;exact ⟨rfl,((Gr.refl w).alloc _ _).trans hg⟩
theorem digits_le:∀ n u,u<=n->(Lib.decDigits u).length<=u+1:=by
 intro n;induction n with
 | zero=>intro u h;unfold Lib.decDigits;rw [dif_pos (by omega)];simp
 | succ n ih =>
  intro u h;unfold Lib.decDigits;by_cases hu:u<10
  ·rw [dif_pos hu];simp
  ·rw [dif_neg hu,List.length_append];have:=ih (u/10) (by omega);simp;omega
theorem qxp (n:Int) (h0:0<=n) (h1:n<=65535):(Lib.itoa n).length<=65536:=by
 unfold Lib.itoa;rw [if_neg (by omega)];have:=digits_le n.toNat n.toNat (Nat.le_refl _);omega
theorem qxw (z:Nat->UInt8):(wboardS z).length<=144:=by
 have hlen8:(wrowsS z).length=8:=by simp [wrowsS]
 have:=qxo [47] 17 ((wrowsS z).map (·.data.toList)) (by
  intro x hx;obtain ⟨y,hy,rfl⟩:=List.mem_map.mp hx;obtain ⟨i,_,rfl⟩:=List.mem_map.mp hy;exact wrowS_len z i)
 rw [List.length_map,hlen8] at this;exact Nat.le_trans this (by simp)
theorem wcS_len (f:Nat->Bool):∀ i,(wcS f i).length<=i
 | 0=>Nat.le_refl _
 | i+1=>by
   have:=wcS_len f i;rw [xq,List.length_append];split<;>simp<;>omega
theorem qjy (f:Nat->Bool):(wcastS f).length<=4:=by
 unfold wcastS;split
 ·simp
 ·exact wcS_len f 4
theorem wbehS_len (b:Int):(wbehS b).length<=2:=by unfold wbehS nameS;split<;>simp
def writeS (z:Nat->UInt8) (wh:Bool) (f:Nat->Bool) (b h g:Int):List UInt8 :=
 Lib.join [wboardS z,[if wh then 119 else 98],wcastS f,wbehS b,Lib.itoa h,Lib.itoa g] [32]
def sideW (b:Bool):ByteArray:=⟨#[if b then 119 else 98]⟩
theorem wside_gr (b:Bool) (w:World):Calls Tryz.prog 81 #[.bool b] w fun e w'=>e=.returned (.string (sideW b))/\Gr w w' :=
 (wside_any b w).mono (by rintro e w' ⟨rfl,rfl⟩;exact ⟨rfl,Gr.refl _⟩)
theorem heldL {w1 w2:World} {q:Prop} (h:Gr w1 w2/\q):Gr w1 w2:=h.1
theorem held {w:World} {A:List Value} {wh c0 c1 c2 c3:Bool} {b h f:Int} {w1 w':World} (p:PS w A wh c0 c1 c2 c3 b h f w1) (g:Gr w1 w') :
  Gr w1 w'/\w'.rangeAt w.heap.size 0 A/\w'.cell? ⟨w.heap.size,64,none⟩=some (.bool wh)/\w'.cell? ⟨w.heap.size,65,none⟩=some (.bool c0)/\w'.cell? ⟨w.heap.size,66,none⟩=some (.bool c1)/\w'.cell? ⟨w.heap.size,67,none⟩=some (.bool c2)/\w'.cell? ⟨w.heap.size,68,none⟩=some (.bool c3)/\w'.cell? ⟨w.heap.size,69,none⟩=some (.int .i64 b)/\w'.cell? ⟨w.heap.size,70,none⟩=some (.int .i64 h)/\w'.cell? ⟨w.heap.size,71,none⟩=some (.int .i64 f):=by
 obtain ⟨p0,p1,p2,p3,p4,p5,p6,p7,p8,_⟩:=p.gr g;exact ⟨g,p0,p1,p2,p3,p4,p5,p6,p7,p8⟩
theorem write_any (z:Nat->UInt8) (A:Array Value) (hs:A.size=64) (hA:∀ i,i<64->A[i]?=some (.int .u8 ((z i).toNat:Int))) (wh:Bool) (f:Nat->Bool) (b h g:Int) (hb:b=-1\/(0<=b/\b<64)) (h0:0<=h) (h1:h<=65535) (g0:0<=g) (g1:g<=65535) (w:World) (ht:Tab w) :
  Calls Tryz.prog 39 #[.agg (posA A wh (f 0) (f 1) (f 2) (f 3) b h g)] w fun e w'=>e=.returned (.string ⟨(writeS z wh f b h g).toArray⟩)/\Gr w w':=by
 have hu:=Tryz.underlying22;have hi:(Tryz.prog.info? 22).map (·.size)=some A.toList.length:=by rw [info64];simp [hs]
 have hl:A.toList.length=64:=by simpa using hs
 have h1c:∀ v∈A.toList,v.oneCell'=true:=by
  intro v hv;obtain ⟨i,hi,rfl⟩:=List.getElem_of_mem hv;have:=hA i (by omega);rw [<-Array.getElem?_toList,List.getElem?_eq_getElem hi] at this;simp at this;simp [this,Value.oneCell']
 have hps:PS w A.toList wh (f 0) (f 1) (f 2) (f 3) b h g (w.alloc (.cells (posA A wh (f 0) (f 1) (f 2) (f 3) b h g) 25)):=by
  have hc:∀ o,(w.alloc (.cells (posA A wh (f 0) (f 1) (f 2) (f 3) b h g) 25)).cell? ⟨w.heap.size,o,none⟩=(posA A wh (f 0) (f 1) (f 2) (f 3) b h g)[o]?:=fun o=>World.cell?_alloc_at _ _ _ _ rfl
  refine ⟨fun j v hv=>?_,?_,?_,?_,?_,?_,?_,?_,?_,by rw [World.size_alloc];omega,(Gr.refl w).alloc _ _,ht.gr ((Gr.refl w).alloc _ _)⟩
  ·rw [hc,Nat.zero_add];unfold posA;rw [Array.getElem?_append,if_pos (by rw [hs,<-hl];exact (List.getElem?_eq_some_iff.mp hv).1),<-Array.getElem?_toList];exact hv
  all_goals (rw [hc];unfold posA;rw [Array.getElem?_append,if_neg (by omega),hs];rfl)
 have hps':=hide hps;clear hps;generalize hP:posA A wh (f 0) (f 1) (f 2) (f 3) b h g=PA at hps' ⊢;clear hP;have hA':=hide hA;clear hA;go_enter Tryz.func39,Tryz.ntmps39;go_wp2;obtain ⟨w1,hw1⟩:∃ w1,w1=w.alloc (.cells PA 25):=⟨_,rfl⟩;rw [<-hw1] at hps' ⊢;clear hw1;have htab:Hid (Tab w1):=hide (qa hps').2.2.2.2.2.2.2.2.2.2.2;go_region_held3 (fun w'=>Gr w1 w'/\w'.rangeAt w.heap.size 0 A.toList/\w'.cell? ⟨w.heap.size,64,none⟩=some (.bool wh)/\w'.cell? ⟨w.heap.size,65,none⟩=some (.bool (f 0))/\w'.cell? ⟨w.heap.size,66,none⟩=some (.bool (f 1))/\w'.cell? ⟨w.heap.size,67,none⟩=some (.bool (f 2))/\w'.cell? ⟨w.heap.size,68,none⟩=some (.bool (f 3))/\w'.cell? ⟨w.heap.size,69,none⟩=some (.int .i64 b)/\w'.cell? ⟨w.heap.size,70,none⟩=some (.int .i64 h)/\w'.cell? ⟨w.heap.size,71,none⟩=some (.int .i64 g)) (first|exact held (qa hps') (Gr.refl _).drew|exact held (qa hps') (by assumption)|exact held (qa hps') (Gr.alloc (heldL (by assumption)) _ _)) (first|(go_at_call 80;refine (wboard_any z A (qa hA') _).mono ?_;rintro e w' ⟨rfl,hg⟩;have hg2:=Gr.trans (heldL (by assumption)) hg)|(go_at_call 81;refine (wside_gr wh _).mono ?_;rintro e w' ⟨rfl,hg⟩;have hg2:=Gr.trans (heldL (by assumption)) hg)|(go_at_call 82;refine (wcastle_any f _).mono ?_;rintro e w' ⟨rfl,hg⟩;have hg2:=Gr.trans (heldL (by assumption)) hg)|(go_at_call 83;refine (wbehind_any b hb _).mono ?_;rintro e w' ⟨rfl,hg⟩;have hg2:=Gr.trans (heldL (by assumption)) hg)|(go_at_call 84;refine (itoa_any _ (by assumption) (by assumption) _ (Tab.gr (qa htab) (heldL (by assumption)))).mono ?_;rintro e w' ⟨rfl,hg⟩;have hg2:=Gr.trans (heldL (by assumption)) hg))
 have hj:=fun W=>join6 ⟨(wboardS z).toArray⟩ (sideW wh) ⟨(wcastS f).toArray⟩ ⟨(wbehS b).toArray⟩ ⟨(Lib.itoa h).toArray⟩ ⟨(Lib.itoa g).toArray⟩ (by
  intro x hx;simp only [List.mem_cons,List.mem_nil_iff,or_false] at hx;rcases hx with rfl|rfl|rfl|rfl|rfl|rfl
  ·exact Nat.le_trans (qxw z) (by omega)
  ·show ([if wh then 119 else 98]:List UInt8).length<=_;simp
  ·exact Nat.le_trans (qjy f) (by omega)
  ·exact Nat.le_trans (wbehS_len b) (by omega)
  ·exact Nat.le_trans (qxp h h0 h1) (by omega)
  ·exact Nat.le_trans (qxp g g0 g1) (by omega)) W
 have hj':=hide hj;clear hj;have hw0:Hid (Gr w w1):=hide (qa hps').2.2.2.2.2.2.2.2.2.2.1;go_wp2_with (go_at_call 85;refine (qa hj' w').mono ?_;rintro e w9 ⟨rfl,hg9⟩);go_ret;exact ⟨rfl,((qa hw0).trans hg2).trans hg9⟩
end Go.Proofs.YtnfakamfmkhlbaaGreatDoor.C
namespace Go.Proofs.YtnfakamfmkhlbaaGreatDoor.C
open Go.ChangeShapes Go.WideShapes Go.ChangeAt Go.RowKit Go.Shelf
open Go.Proofs.YtnfakamfmkhlbaaGreatDoor.P
def BTab (w:World):Prop:=TabAt 2 Lib.deBruijn64tab w
theorem BTab.gr {w w':World} (h:BTab w) (g:Gr w w'):BTab w':=fun j hj=>by
 have hc:=h j hj;exact (Below.cell g (World.block_lt_of_cell? w _ hc)).trans hc
theorem BTab.below {n₀:Nat} {w w':World} (h:BTab w) (g:Below n₀ w w') (hn:2<n₀):BTab w':=fun j hj=>(g.cell (p:=⟨_,j,none⟩) hn).trans (h j hj)
theorem tz_any (s:BitVec 64) (t:Nat) (h1:s.getLsbD t=true) (h2:∀ j,j<t->s.getLsbD j=false) (w:World) (hb:BTab w):Calls Tryz.prog 225 #[.int .u64 (U s)] w fun e w'=>e=.returned (.int .i64 t)/\w'=w:=by
 have:=Any7.bits_TrailingZeros64 Tryz.lays7x29 s.toNat s.isLt w (fun _=>hb);rw [ctz_is s t h1 h2] at this;exact this
attribute [local go_sem] Oper.semAt_some
theorem sq1_in (n:Nat) (hn:1<=n) (l Bn n₀:Nat) (_hB:Bn<n₀) (ht0:2<n₀) (s:BitVec 64) (J Jx:List Nat->World->Prop)
  (hY:∀ pre x W,J pre W->pre.length<(sqs s).length->YieldAt Fence.wide (n-1) Tryz.prog l #[.int .i64 ((x:Nat):Int)] W fun e W' =>
   (e=.returned (.bool true)/\J (pre++[x]) W'/\Below n₀ W W')\/(e=.returned (.bool false)/\Jx (pre++[x]) W'))
  (W:World) (hBn:W.cell? ⟨Bn,0,none⟩=some (.int .u64 (U s))) (hT:BTab W) (h0:J [] W) :
  CallsIn Fence.wide n Tryz.prog 224 #[.func (.yield l) #[] #[],.pointer (some ⟨Bn,0,none⟩)] W fun e W'=>(∃ v,e=.returned v) ∧
   ((∃ ys,ys=sqs s/\J ys W')\/(∃ pre,pre <+: sqs s/\Jx pre W')):=by
 refine callsIn_of_wp Tryz.func224 rfl trivial ?_ rfl;simp only [Tryz.ntmps224,List.size_toArray,List.length_cons,List.length_nil,Nat.reduceAdd,Nat.reduceSub,Array.replicate_succ,Array.replicate_zero,List.push_toArray,List.append_toArray,List.nil_append,List.cons_append];gi_wp2;gi_loopw [3] (fun p wr=>∃ (pre:List Nat) (r:BitVec 64),p=.int .u64 (U r)/\sqs s=pre++sqs r/\BTab wr/\J pre wr) (fun p _=>(sqs (BitVec.ofInt 64 (intOf p))).length)
 case atStart=>exact ⟨[],s,rfl,rfl,hT,h0⟩
 case round =>
  obtain ⟨pre,r,rfl,hx,htb,hJs⟩:=hrel;by_cases hr:r=0#64
  ·subst hr;have hz:(U 0#64 != 0)=false:=by decide +kernel
   rw [qzp,List.append_nil] at hx;have hx':=hide hx;clear hx;gi_wp2;go_end0;exact ⟨⟨_,rfl⟩,.inl ⟨pre,(qa hx').symm,hJs⟩⟩
  ·obtain ⟨t,t1,t2,t3⟩:=qxb r hr;have hst:=qzq r t t1 t2 t3
   have hnz:(U r != 0)=true:=by
    simp only [bne_iff_ne];intro e;exact hr (U_inj (e.trans (by decide +kernel)))
   have htz:=hide (tz_any r t t2 t3);obtain ⟨fn,tmps,assign,body,hy,hR⟩:=hY pre t wr hJs (by rw [hx,hst];simp);have hx':=hide hx;have hst':=hide hst;have htb':=hide htb;clear hx hst htb hr t2 t3;gi_wp2_with (refine ⟨trivial,?_⟩;gi_at_call 225;refine (callsIn_wide.2 (qa htz _ (qa htb'))).mono ?_;rintro e w' ⟨rfl,rfl⟩);refine hR.mono ?_;rintro e W3 (⟨rfl,hJ3,hk3⟩|⟨rfl,hJx3⟩)
   ·have e1:IntKind.u64.wrap (U r-1)=U (r-1#64):=by
     rw [show (1:Int)=U 1#64 from by decide +kernel];exact sub_U r 1#64
    have e2:bits .and .u64 (U r) (U (r-1#64))=U (r &&& (r-1#64)):=and_U _ _;gi_wp2;go_roundw
    case rel=>exact ⟨pre++[t],r &&& (r-1#64),rfl,by rw [qa hx',qa hst'];simp,(qa htb').below hk3 ht0,hJ3⟩
    case measure=>simp only [intOf];rw [ofInt_U,ofInt_U,qa hst'];simp
   ·gi_wp2;refine bodyPost_ret (results_none rfl _ _ _) rfl ?_;exact ⟨⟨_,rfl⟩,.inr ⟨pre++[t],⟨sqs (r &&& (r-1#64)),by rw [qa hx',qa hst'];simp⟩,hJx3⟩⟩
theorem sq_stops (n:Nat) (hn:1<=n) (Bn n₀:Nat) (hB:Bn<n₀) (ht0:2<n₀) (s:BitVec 64) (w:World) (hn₀:n₀<=w.heap.size) (hc:w.cell? ⟨Bn,0,none⟩=some (.int .u64 (U s))) (hT:BTab w) :
  SeqStopsK Fence.wide n Tryz.prog 224 #[.pointer (some ⟨Bn,0,none⟩)] (fun x:Nat=>#[Value.int .i64 (x:Int)]) (Below n₀) (fun ys=>ys=sqs s) (fun pre=>pre <+: sqs s) (sqs s).length w:=fun l J Jx W hW _ _ hY h0 =>
 sq1_in n hn l Bn n₀ hB ht0 s J Jx hY W ((hW.cell (p:=⟨Bn,0,none⟩) (Nat.lt_of_lt_of_le hB hn₀)).trans hc) (hT.below hW (Nat.lt_of_lt_of_le ht0 hn₀)) h0
theorem qc {W:World} {B:Nat} {v:Value} {t:TypeId} (h:W.heap[B]?=some (.cells #[v] t (0,0))):W.cell? ⟨B,0,none⟩=some v/\W.frozen? ⟨B,0,none⟩=false:=by
 constructor<;>simp [World.cell?,World.frozen?,h]
theorem zz (W:World) (v:Value) (t:TypeId):(W.alloc (.cells #[v] t)).cell? ⟨W.heap.size,0,none⟩=some v/\(W.alloc (.cells #[v] t)).frozen? ⟨W.heap.size,0,none⟩=false :=
 qc (World.alloc_heap_new W _)
theorem sqs_len (s:BitVec 64):(sqs s).length<=64:=by
 have:=List.length_filter_le (fun i=>s.getLsbD i) (List.range 64);unfold sqs;simpa using this
theorem qy (s:BitVec 64) (w:World):Calls Tryz.prog 142 #[.int .u64 (U s)] w fun e w'=>e=.returned (.func (.func 224) #[] #[.pointer (some ⟨w.heap.size,0,none⟩)])/\w'=w.alloc (.cells #[.int .u64 (U s)] 149):=by
 have hmf:∀ (fn:Fn) (first cap:Array Value) (w:World),(Instr.makeFunc fn first cap).run Tryz.prog w=.ok (.func fn first cap) w:=fun _ _ _ _=>rfl
 go_enter Tryz.func142,Tryz.ntmps142;go_wp2;go_ret;exact ⟨rfl,rfl⟩
theorem one_worth (x:Int) (w:World):Calls Tryz.prog 223 #[.int .i64 x] w fun e w'=>e=.returned (.int .i64 1)/\w'=w:=by
 go_enter Tryz.func223,Tryz.ntmps223;go_wp2;go_ret;exact ⟨rfl,rfl⟩
theorem sum_round {w W:World} {pre:List Nat} {x:Nat} {v:Value} (hc:W.cell? ⟨w.heap.size+1,0,none⟩=some (.int .i64 (pre.length:Nat))) (hf:W.frozen? ⟨w.heap.size+1,0,none⟩=false) (hwo:W.cell? ⟨w.heap.size,0,none⟩=some v) (hB:Below w.heap.size w W) :
  let W':=(W.setCell ⟨w.heap.size+1,0,none⟩ (.int .i64 ((pre.length:Int)+1))).drew
  KeepsOthers W W'/\Below w.heap.size W W'/\(W'.cell? ⟨w.heap.size+1,0,none⟩=some (.int .i64 ((pre++[x]).length:Nat))/\W'.frozen? ⟨w.heap.size+1,0,none⟩=false/\W'.cell? ⟨w.heap.size,0,none⟩=some v)/\Below w.heap.size w W':=by
 intro W';have h1:W'.cell? ⟨w.heap.size+1,0,none⟩=some (.int .i64 ((pre.length:Int)+1)):=World.cell?_setCell_same' W _ _ (by rw [hc];rfl)
 have h2:W'.frozen? ⟨w.heap.size+1,0,none⟩=false:=by
  show (W.setCell ⟨w.heap.size+1,0,none⟩ (.int .i64 ((pre.length:Int)+1))).frozen? ⟨w.heap.size+1,0,none⟩=false;rw [World.frozen?_setCell];exact hf
 have h3:W'.cell? ⟨w.heap.size,0,none⟩=some v:=by
  show (W.setCell ⟨w.heap.size+1,0,none⟩ (.int .i64 ((pre.length:Int)+1))).cell? ⟨w.heap.size,0,none⟩=some v;rw [World.cell?_of_block (w:=W) (Below.heap_setCell W ⟨w.heap.size+1,0,none⟩ _ w.heap.size (by simp))];exact hwo
 refine ⟨(KeepsOthers.setCell W _ _).trans (KeepsOthers.drew _),((Below.refl w.heap.size W).setCell (p:=⟨w.heap.size+1,0,none⟩) (by simp) _).drew,⟨?_,h2,h3⟩,(hB.setCell (p:=⟨w.heap.size+1,0,none⟩) (by simp) _).drew⟩;rw [h1];simp
theorem sum_any (s:BitVec 64) (Bn:Nat) (w:World) (hB:Bn<w.heap.size) (ht0:2<w.heap.size) (hc:w.cell? ⟨Bn,0,none⟩=some (.int .u64 (U s))) (hT:BTab w) :
  Calls Tryz.prog 222 #[.func (.func 224) #[] #[.pointer (some ⟨Bn,0,none⟩)],.func (.func 223) #[] #[]] w fun e w'=>e=.returned (.int .i64 (sqs s).length)/\Gr w w':=by
 refine (callsIn_wide (n:=3)).1 ?_;refine callsIn_of_wp_marks Tryz.func222 rfl trivial ?_ rfl;simp only [Tryz.ntmps222,List.size_toArray,List.length_cons,List.length_nil,Nat.reduceAdd,Nat.reduceSub,Array.replicate_succ,Array.replicate_zero,List.push_toArray,List.append_toArray,List.nil_append,List.cons_append];gi_wp2;have hs:=zz (w.alloc (.cells #[.func (.func 223) #[] #[]] 278)) (.int .i64 0) 3;have hwo:=(zz w (.func (.func 223) #[] #[]) 278).1;have hB0:Below w.heap.size w ((w.alloc (.cells #[.func (.func 223) #[] #[]] 278)).alloc (.cells #[.int .i64 0] 3)):=((Below.refl _ w).alloc (Nat.le_refl _) _).alloc (by simp) _
 have hwo2:((w.alloc (.cells #[.func (.func 223) #[] #[]] 278)).alloc (.cells #[.int .i64 0] 3)).cell? ⟨w.heap.size,0,none⟩=some (.func (.func 223) #[] #[]) :=
  (Below.cell (p:=⟨w.heap.size,0,none⟩) ((Below.refl (w.heap.size+1) _).alloc (by simp) _) (Nat.lt_succ_self _)).trans hwo
 rw [World.size_alloc] at hs
 refine wpIn_rangeFunc_ownF rfl (by omega) (gf:=224) (lb:=#[.pointer (some ⟨Bn,0,none⟩)]) rfl trivial (enters_of Tryz.func224 (by kernel_rfl) rfl)
  (sq_stops _ (by omega) Bn w.heap.size hB ht0 s _ (by simp;omega) ((hB0.cell (p:=⟨Bn,0,none⟩) hB).trans hc) (hT.below hB0 ht0)) belowK_t (belowK_b (by simp;omega)) (Below.refl _ _) (fun _=>rfl)
  (fun pre W=>(W.cell? ⟨w.heap.size+1,0,none⟩=some (.int .i64 (pre.length:Nat))/\W.frozen? ⟨w.heap.size+1,0,none⟩=false/\W.cell? ⟨w.heap.size,0,none⟩=some (.func (.func 223) #[] #[]))/\Below w.heap.size w W)
  (fun _ _ _=>False)
  (OwnFrom.and (Own.from (fun s A B row hs hg hr=>⟨cell_kept hs.1 hg hr,(frozen_kept hs.1 hg hr).trans hs.2.1,cell_kept hs.2.2 hg hr⟩) _) (ownFrom_below (Nat.le_refl _) (by simp;omega)))
  (fun _ _ _ _ _ hs _ _=>hs)
  ⟨⟨hs.1,hs.2,hwo2⟩,hB0⟩
  (fun x=>{ tmps:=#[.func (.func 224) #[] #[.pointer (some ⟨Bn,0,none⟩)],.func (.func 223) #[] #[],undef,.pointer (some ⟨w.heap.size,0,none⟩),.int .i64 0,.pointer (some ⟨w.heap.size+1,0,none⟩),.int .i64 (x:Nat),.func (.func 224) #[] #[.pointer (some ⟨Bn,0,none⟩)],.int .i64 (x:Nat),undef,undef,undef,undef,undef,undef],defers:=[] }) ?assign ?body ?done ?stop
 case assign =>
  intro l x W K hK;gi_wp2;simpa using hK
 case body =>
  rintro l pre x W ⟨⟨hc,hf,hwo⟩,hB⟩ hlt;have hp64:pre.length<64:=Nat.lt_of_lt_of_le hlt (sqs_len s);gi_wp2;have hcd:W.drew.cell? ⟨w.heap.size+1,0,none⟩=some (.int .i64 (pre.length:Nat)):=hc;have hfd:W.drew.frozen? ⟨w.heap.size+1,0,none⟩=false:=hf;have hwd:W.drew.cell? ⟨w.heap.size,0,none⟩=some (.func (.func 223) #[] #[]):=hwo;gi_region_with (refine ⟨trivial,?_⟩;gi_at_call 223;refine ((callsIn_wide.2 (one_worth _ _)).inRound l).mono ?_;rintro e w' ⟨rfl,rfl⟩)
  all_goals
   gi_wp2;rw [show IntKind.i64.wrap ((pre.length:Int)+1)=(pre.length:Int)+1 from by rw [IntKind.wrap_i64];omega];exact sum_round hc hf hwo hB
 case done =>
  rintro D ys W hD rfl ⟨⟨hc,_,_⟩,hB⟩ hK;gi_wp2;refine ⟨by simp,.inl ⟨_,_,rfl,run_takeDeferred hK,?_⟩⟩;exact ⟨_,results_tmp rfl _ _ _,rfl,hB.trans (belowK_b (w:=w) (Nat.le_refl _) W D _ _ (by simp at hD;omega) hK rfl rfl)⟩
 case stop =>
  rintro D c pre W _ _ h _;exact h.elim
theorem count_any (s:BitVec 64) (Bn:Nat) (w:World) (hB:Bn<w.heap.size) (ht0:2<w.heap.size) (hc:w.cell? ⟨Bn,0,none⟩=some (.int .u64 (U s))) (hT:BTab w) :
  Calls Tryz.prog 140 #[.func (.func 224) #[] #[.pointer (some ⟨Bn,0,none⟩)]] w fun e w'=>e=.returned (.int .i64 (sqs s).length)/\Gr w w':=by
 go_enter Tryz.func140,Tryz.ntmps140;go_wp2_with (go_at_call 222;refine (sum_any s Bn w hB ht0 hc hT).mono ?_;rintro e w' ⟨rfl,hg⟩);go_ret;exact ⟨rfl,hg⟩
end Go.Proofs.YtnfakamfmkhlbaaGreatDoor.C
