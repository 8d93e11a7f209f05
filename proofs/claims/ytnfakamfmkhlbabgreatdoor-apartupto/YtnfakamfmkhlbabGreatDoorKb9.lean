import Derived.Test.YtnfakamfmkhlbabGreatDoorKb8
import Derived.Test.YtnfakamfmkhlbabGreatDoorKz2
import Derived.Test.YtnfakamfmkhlbabGreatDoorKz3
set_option maxRecDepth 100000
set_option maxHeartbeats 4000000
set_option linter.unusedSimpArgs false
namespace Go.Proofs.YtnfakamfmkhlbabGreatDoor.C
open Go.ChangeShapes Go.WideShapes Go.ChangeAt Go.RowKit Go.Shelf
open Go.Proofs.YtnfakamfmkhlbabGreatDoor.P
attribute [local go_sem] setCell_drewN alloc_drewN
variable {m:Nat->BitVec 64} {wh:Bool} {own oth beh:BitVec 64} {fc:Nat->Bool} {FA:Array Value}
def goneB (wh:Bool) (beh:BitVec 64) (place t:Nat):BitVec 64:=if place=0/\1#64 <<< t=beh then upB beh (-(dirI wh)) else 1#64 <<< t
def cutB (m:Nat->BitVec 64) (q:Nat) (g:BitVec 64) (k:Nat):Nat->BitVec 64:=fun i=>if q<=i/\i<q+k then m i &&& ~~~g else m i
def afterB (m:Nat->BitVec 64) (wh:Bool) (beh:BitVec 64) (place f t:Nat):Nat->BitVec 64:=fun i =>
 if i=bg wh+place then cutB m (bg (!wh)) (goneB wh beh place t) 6 i ^^^ (1#64 <<< f ||| 1#64 <<< t) else cutB m (bg (!wh)) (goneB wh beh place t) 6 i
theorem isMen_set {m m':Nat->BitVec 64} {M:Array Value} {j:Nat} (h:IsMen m M) (hj:j<12) (hm:∀ i,i≠j->m' i=m i):IsMen m' (M.setIfInBounds j (.int .u64 (U (m' j)))):=by
 refine ⟨by rw [Array.size_setIfInBounds];exact h.1,fun i hi=>?_⟩;by_cases e:i=j
 ·subst e;rw [Array.getElem?_setIfInBounds,if_pos rfl,if_pos (by rw [h.1];exact hi)]
 ·rw [Array.getElem?_setIfInBounds,if_neg (fun h=>e h.symm),hm i e];exact h.2 i hi
theorem set_row3 {W:World} {b i:Nat} {A:Array Value} {v:Value} {t:TypeId} (h:W.heap[b]?=some (.cells A t)):(W.setCell ⟨b,i,none⟩ v).heap[b]?=some (.cells (A.setIfInBounds i v) t):=by
 have hb:=(Array.getElem?_eq_some_iff.1 h).1;have h':W.heap[b]=.cells A t:=(Array.getElem?_eq_some_iff.1 h).2;simp [World.setCell,hb,Array.getElem_modify,h']
structure Af (w:World) (FA:Array Value) (W:World):Prop where
 fa:FAt w.heap.size FA W
 res:W.heap[w.heap.size+1]?=some (.cells Z12 197)
 gr:Gr w W
theorem Af.next {w W W':World} (h:Af w FA W) (g:Gr W W'):Af w FA W':=⟨h.fa.gr g,(Below.block g _ (Array.getElem?_eq_some_iff.1 h.res).1).trans h.res,Gr.trans h.gr g⟩
theorem Af.drew {w W:World} (h:Af w FA W):Af w FA W.drew:=h.next (Gr.refl _).drew
theorem FAt.put {b g:Nat} {A M:Array Value} {W:World} (h:FAt b A W) (hne:b≠g):FAt b A (W.setRow g M):=⟨by rw [size_setRow];exact h.1,fun j v hv=>by rw [cell_setRow_other _ _ _ _ hne];exact h.2 j v hv⟩
theorem Af.put {w W:World} (h:Af w FA W) {g:Nat} (hg:w.heap.size+2<=g) (M:Array Value):Af w FA (W.setRow g M) :=
 ⟨h.fa.put (by omega),by rw [setRow_other _ _ _ _ (by omega)];exact h.res,h.gr.setRow _ (by omega) _⟩
theorem y_menF (r:Fld m wh own oth beh fc FA) {ops:Array Oper} {op:Oper} {a:Act} {S:World->Prop} (hw:Region.wanted op (yielded ops a.tmps)=true) (x:Operand) (ho:op.op=.load 197 x) (b:Nat) (hx:a.eval x=.pointer (some ⟨b,0,none⟩)) (hS:∀ w,S w->FAt b FA w):YieldsIf Tryz.prog ops S op (.agg (menOf FA)) a :=
 y_men r.isMen.1 hw x ho b hx (fun W h=>r.held (hS W h))
def Aw (w:World) (FA:Array Value) (W:World):Prop:=Af w FA W/\W.heap[w.heap.size+2]?=some (.cells (menOf FA) 197)
theorem Aw.next {w W W':World} (h:Aw w FA W) (g:Gr W W'):Aw w FA W':=⟨h.1.next g,(Below.block g _ (Array.getElem?_eq_some_iff.1 h.2).1).trans h.2⟩
def Bf (w:World) (M:Array Value) (W:World):Prop:=W.heap[w.heap.size+2]?=some (.cells M 197)/\W.heap[w.heap.size+1]?=some (.cells Z12 197)/\Gr w W
theorem after_any (r:Fld m wh own oth beh fc FA) (place f t:Nat) (hp:place<6) (hf:f<64) (ht:t<64) (w:World):Calls Tryz.prog 211 #[.agg FA,.int .i64 (place:Int),.int .i64 (f:Int),.int .i64 (t:Int)] w fun e w'=>∃ M,e=.returned (.agg M)/\IsMen (afterB m wh beh place f t) M/\Gr w w':=by
  have hr:=hide r
  have hbe:=hide (fun b W=>begin_any b W)
  obtain ⟨x1,x2⟩:=heapTwo w (.cells FA 202) (.cells Z12 197)
  have hA0:Af w FA (((w.alloc (.cells FA 202)).alloc (.cells Z12 197))):=⟨(FAt.new w FA 202).gr ((Gr.refl _).alloc _ _),x2,((Gr.refl w).alloc _ _).alloc _ _⟩
  have hs2:((w.alloc (.cells FA 202)).alloc (.cells Z12 197)).heap.size=w.heap.size+2:=by simp
  clear x1 x2
  go_enter Tryz.func211,Tryz.ntmps211
  go_upto_region 1 with fail
  go_cut [9,10,11] from 14 to 22 (fun s9 s10 s11 wx=>s9=.pointer (some ⟨w.heap.size+2,0,none⟩)/\s10=.int .i64 (bg wh:Nat)/\s11=.int .i64 (bg (!wh):Nat)/\Af w FA wx/\wx.heap[w.heap.size+2]?=some (.cells (menOf FA) 197))
  case first =>
    have hA1:=hA0.drew
    generalize hW0:((w.alloc (.cells FA 202)).alloc (.cells Z12 197))=W0 at hA0 hA1 hs2
    have hW0':((w.alloc (.cells FA 202)).alloc (.cells #[.int .u64 0,.int .u64 0,.int .u64 0,.int .u64 0,.int .u64 0,.int .u64 0,.int .u64 0,.int .u64 0,.int .u64 0,.int .u64 0,.int .u64 0,.int .u64 0] 197))=W0:=hW0
    rw [hW0']
    have h9:(W0.alloc (.cells Z12 197)).drew.heap[w.heap.size+2]?=some (.cells Z12 197):=by rw [<-hs2];exact World.alloc_heap_new _ _
    refine wp_region_held_drew (S:=Af w FA) (by kernel_rfl) hA1 (fun hHeld=>?_)
    refine C.ty 0 (.pointer (some ⟨w.heap.size,0,none⟩)) rfl (Or.inl ⟨by rfl,fun w hw=>(by have c12:=hw.fa.cell (unhide hr).wh;go_simp)⟩) hHeld ?_
    refine C.ty 1 (.agg (menOf FA)) rfl (y_menF (unhide hr) (by rfl) _ rfl w.heap.size rfl (fun _ h=>h.fa)) hHeld ?_
    refine C.ty 2 (.pointer (some ⟨w.heap.size,12,none⟩)) rfl (Or.inl ⟨by rfl,fun w hw=>(by have c12:=hw.fa.cell (unhide hr).wh;go_simp)⟩) hHeld ?_
    refine C.ty 3 (.bool wh) rfl (Or.inl ⟨by rfl,fun w hw=>(by have c12:=hw.fa.cell (unhide hr).wh;go_simp)⟩) hHeld ?_
    refine C.ty 5 (.pointer (some ⟨w.heap.size,12,none⟩)) rfl (Or.inl ⟨by rfl,fun w hw=>(by have c12:=hw.fa.cell (unhide hr).wh;go_simp)⟩) hHeld ?_
    refine C.ty 6 (.bool wh) rfl (Or.inl ⟨by rfl,fun w hw=>(by have c12:=hw.fa.cell (unhide hr).wh;go_simp)⟩) hHeld ?_
    refine C.ty 7 (.bool (!wh)) rfl (Or.inl ⟨by rfl,fun w hw=>(by have c12:=hw.fa.cell (unhide hr).wh;go_simp)⟩) hHeld ?_
    refine wpAnyH_ready (rs:=[4,9]) (by kernel_rfl) (by simp) ?_
    refine AllReadyH.cons rfl (fun K hK=>?_) (AllReadyH.cons rfl (fun K hK=>?_) AllReadyH.nil)
    · go_simp
      refine (unhide hbe _ _).mono ?_
      rintro e wa ⟨rfl,rfl⟩
      refine hK.out _ _ hHeld (fun hHeld=>?_)
      clear hK K
      refine wpAnyH_ready (rs:=[8,9]) (by kernel_rfl) (by simp) ?_
      refine AllReadyH.cons rfl (fun K hK=>?_) (AllReadyH.cons rfl (fun K hK=>?_) AllReadyH.nil)
      · go_simp
        refine (unhide hbe _ _).mono ?_
        rintro e wa ⟨rfl,rfl⟩
        refine hK.out _ _ hHeld (fun hHeld=>?_)
        clear hK K
        refine C.rd 9 fun K hK=>?_
        go_simp
        refine hK.out _ _ (hHeld.next ((Gr.refl _).alloc _ _)) (fun hHeld=>?_)
        clear hK K
        refine C.rd 10 fun K hK=>?_
        rw [if_pos (by rfl)]
        refine wp_store_row 197 _ _ rfl _ (menOf FA) rfl rfl 197 Z12 h9 (unhide hr).isMen.info (unhide hr).isMen.1.symm (unhide hr).isMen.ones ?_
        refine hK.out _ _ (hHeld.put (Nat.le_refl _) _) (fun hHeld=>?_)
        clear hK K
        simp only [C.py]
        refine C.rd 11 fun K hK=>?_
        go_simp
        refine hK.out _ _ hHeld (fun hHeld=>?_)
        clear hK K
        refine C.rd 12 fun K hK=>?_
        go_simp
        refine hK.out _ _ hHeld (fun hHeld=>?_)
        clear hK K
        refine wpAnyH_done (by kernel_rfl) ?_ _
        go_wp2_with fail
        go_meet
        case rel=>exact ⟨rfl,rfl,rfl,hHeld,setRow_heap _ _ _ _ _ _ h9⟩
      · go_simp
        refine hK.out _ _ (hHeld.next ((Gr.refl _).alloc _ _)) (fun hHeld=>?_)
        clear hK K
        refine C.rd 8 fun K hK=>?_
        go_simp
        refine (unhide hbe _ _).mono ?_
        rintro e wa ⟨rfl,rfl⟩
        refine hK.out _ _ hHeld (fun hHeld=>?_)
        clear hK K
        refine C.rd 10 fun K hK=>?_
        rw [if_pos (by rfl)]
        refine wp_store_row 197 _ _ rfl _ (menOf FA) rfl rfl 197 Z12 h9 (unhide hr).isMen.info (unhide hr).isMen.1.symm (unhide hr).isMen.ones ?_
        refine hK.out _ _ (hHeld.put (Nat.le_refl _) _) (fun hHeld=>?_)
        clear hK K
        simp only [C.py]
        refine C.rd 11 fun K hK=>?_
        go_simp
        refine hK.out _ _ hHeld (fun hHeld=>?_)
        clear hK K
        refine C.rd 12 fun K hK=>?_
        go_simp
        refine hK.out _ _ hHeld (fun hHeld=>?_)
        clear hK K
        refine wpAnyH_done (by kernel_rfl) ?_ _
        go_wp2_with fail
        go_meet
        case rel=>exact ⟨rfl,rfl,rfl,hHeld,setRow_heap _ _ _ _ _ _ h9⟩
    · go_simp
      refine hK.out _ _ (hHeld.next ((Gr.refl _).alloc _ _)) (fun hHeld=>?_)
      clear hK K
      refine C.rd 4 fun K hK=>?_
      go_simp
      refine (unhide hbe _ _).mono ?_
      rintro e wa ⟨rfl,rfl⟩
      refine hK.out _ _ hHeld (fun hHeld=>?_)
      clear hK K
      refine C.rd 8 fun K hK=>?_
      go_simp
      refine (unhide hbe _ _).mono ?_
      rintro e wa ⟨rfl,rfl⟩
      refine hK.out _ _ hHeld (fun hHeld=>?_)
      clear hK K
      refine C.rd 10 fun K hK=>?_
      rw [if_pos (by rfl)]
      refine wp_store_row 197 _ _ rfl _ (menOf FA) rfl rfl 197 Z12 h9 (unhide hr).isMen.info (unhide hr).isMen.1.symm (unhide hr).isMen.ones ?_
      refine hK.out _ _ (hHeld.put (Nat.le_refl _) _) (fun hHeld=>?_)
      clear hK K
      simp only [C.py]
      refine C.rd 11 fun K hK=>?_
      go_simp
      refine hK.out _ _ hHeld (fun hHeld=>?_)
      clear hK K
      refine C.rd 12 fun K hK=>?_
      go_simp
      refine hK.out _ _ hHeld (fun hHeld=>?_)
      clear hK K
      refine wpAnyH_done (by kernel_rfl) ?_ _
      go_wp2_with fail
      go_meet
      case rel=>exact ⟨rfl,rfl,rfl,hHeld,setRow_heap _ _ _ _ _ _ h9⟩
  case rest =>
    obtain ⟨rfl,rfl,rfl,hA,h9⟩:=hcut
    clear hA0 hs2
    have hone:=hide (fun (x:Nat) (hx:x<64) (W:World)=>one_any (x:Int) (by omega) (by omega) W)
    have hot:=unhide hone t ht
    rw [one_U t ht] at hot
    have hot':=hide hot
    clear hot
    go_upto_region 3 with (go_at_call 204;refine (unhide hot' _).mono ?_;rintro e w' ⟨rfl,rfl⟩)
    have hA1:=hA
    have h91:=h9
    have cb:w'.cell? ⟨w.heap.size,15,none⟩=some (.int .u64 (U beh)):=hA.fa.cell (unhide hr).beh
    have hrk:=hide (fun W=>ranks_any (unhide hr) W)
    have hgn:Hid (goneB wh beh place t=if place=0/\1#64 <<< t=beh then upB beh (-(dirI wh)) else 1#64 <<< t):=hide rfl
    clear hA1 h91
    have haf:Hid (afterB m wh beh place f t=fun i=>if i=bg wh+place then cutB m (bg (!wh)) (goneB wh beh place t) 6 i ^^^ (1#64 <<< f ||| 1#64 <<< t) else cutB m (bg (!wh)) (goneB wh beh place t) 6 i):=hide rfl
    generalize hAFe:afterB m wh beh place f t=AF at haf
    have hAFe':=hide hAFe
    clear hAFe
    generalize goneB wh beh place t=G at haf hgn
    obtain ⟨CB,hCB⟩:∃ c,Hid (decide (place=0/\1#64 <<< t=beh)=c):=⟨_,hide rfl⟩
    go_cut [32] from 25 to 31 (fun s32 wx=>s32=.bool CB/\wx=w')
    case first =>
      by_cases h0:place=0
      · have e0:((place:Int)==0)=true:=by simp;omega
        obtain ⟨x,hx⟩:∃ x,(U (1#64 <<< t)==U beh)=x:=⟨_,rfl⟩
        have hxx:Hid (CB=x):=hide (by
          rw [<-unhide hCB,<-hx]
          by_cases hb:1#64 <<< t=beh
          · rw [decide_eq_true ⟨h0,hb⟩,hb];simp
          · rw [decide_eq_false (fun h=>hb h.2)];exact (beq_eq_false_iff_ne.2 (fun h=>hb (U_inj h))).symm)
        clear h0 hCB
        cases x<;>(go_wp2_with fail;go_meet;exact ⟨by rw [unhide hxx],rfl⟩)
      · have e1:((place:Int)==0)=false:=by simp;omega
        have hxx:Hid (CB=false):=hide (by rw [<-unhide hCB,decide_eq_false (fun h=>h0 h.1)])
        clear h0 hCB
        go_wp2_with fail
        go_meet
        case rel=>exact ⟨by rw [unhide hxx],rfl⟩
    case rest =>
     obtain ⟨rfl,hww⟩:=hcut
     have hww':=hww.symm
     subst hww'
     clear hww
     go_upto_if 32 with fail
     go_cut [12] from 33 to 38 (fun s12 wx=>s12=.int .u64 (U G)/\Aw w FA wx)
     case first =>
      cases CB
      · have hG:Hid (G=1#64 <<< t):=hide (by rw [unhide hgn,if_neg (of_decide_eq_false (unhide hCB))])
        clear hgn hCB
        go_wp2_with fail
        go_meet
        case rel=>exact ⟨by rw [unhide hG],hA,h9⟩
      · have hG:Hid (G=upB beh (-(dirI wh))):=hide (by rw [unhide hgn,if_pos (of_decide_eq_true (unhide hCB))])
        have hz:=hide (unhide hr).size
        clear hgn hCB
        go_upto_region 4 with fail
        have hneg:IntKind.i64.wrap (-(dirI wh))=-(dirI wh):=by cases wh<;>decide
        have hdd:(-7:Int)<=-(dirI wh) ∧ -(dirI wh)<=7:=by cases wh<;>decide
        have hH4:Aw w FA w'.drew:=⟨hA.drew,h9⟩
        refine wp_region_held_drew (S:=Aw w FA) (by kernel_rfl) hH4 (fun hHeld=>?_)
        refine C.ty 0 (.pointer (some ⟨w.heap.size,15,none⟩)) rfl (Or.inl ⟨by rfl,fun w hw=>(by have c15:=hw.1.fa.cell (unhide hr).beh;go_simp)⟩) hHeld ?_
        refine C.ty 1 (.int .u64 (U beh)) rfl (Or.inl ⟨by rfl,fun w hw=>(by have c15:=hw.1.fa.cell (unhide hr).beh;go_simp)⟩) hHeld ?_
        refine C.ty 2 (.agg FA) rfl (y_fld (unhide hz) (by rfl) _ rfl w.heap.size rfl (fun _ h=>h.1.fa)) hHeld ?_
        refine C.rd 3 fun K hK=>?_
        go_simp
        refine (unhide hrk _).mono ?_
        rintro e wb ⟨rfl,hgb⟩
        refine hK.out _ _ (hHeld.next hgb) (fun hHeld=>?_)
        clear hK K
        refine C.ty 4 (.int .i64 (-(dirI wh))) rfl (Or.inl ⟨by rfl,fun w hw=>(by have c15:=hw.1.fa.cell (unhide hr).beh;go_simp)⟩) hHeld ?_
        refine C.rd 5 fun K hK=>?_
        go_simp
        refine (up_any _ _ _ hdd.1 hdd.2).mono ?_
        rintro e wc ⟨rfl,rfl⟩
        refine hK.out _ _ hHeld (fun hHeld=>?_)
        clear hK K
        refine C.rd 6 fun K hK=>?_
        go_simp
        refine hK.out _ _ hHeld (fun hHeld=>?_)
        clear hK K
        refine wpAnyH_done (by kernel_rfl) ?_ _
        go_wp2_with fail
        go_meet
        case rel=>exact ⟨by rw [up_U,<-unhide hG],hHeld⟩
     case rest =>
      clear hA h9
      obtain ⟨rfl,hA,h9⟩:=hcut
      clear hgn hrk hCB
      go_upto_region 6 with fail
      clear cb
      generalize hQ:bg (!wh)=q
      have hq6:q<=6:=by rw [<-hQ];exact bg_le _
      have hQ':=hide hQ
      clear hQ
      have hcut0:Hid (IsMen (cutB m q G 0) (menOf FA)):=hide (by
        have e:cutB m q G 0=m:=by funext i;unfold cutB;rw [if_neg (by omega)]
        rw [e];exact (unhide hr).isMen)
      have h9':=hide h9
      have hA':=hide hA
      clear h9 hA
      go_loopg [39] 6 (fun gg n wr=>∃ (k:Nat) (M:Array Value),k+gg=6/\n=.int .i64 k/\IsMen (cutB m q G k) M/\wr.heap[w.heap.size+2]?=some (.cells M 197)/\wr.heap[w.heap.size+1]?=some (.cells Z12 197)/\Gr w wr)
      case atStart=>exact ⟨0,menOf FA,by omega,rfl,unhide hcut0,unhide h9',(unhide hA').res,(unhide hA').gr⟩
      case round =>
        obtain ⟨k,M,k1,rfl,kM,k9,k8,kG⟩:=hrel
        have kM':=hide kM
        have k9':=hide k9
        have k8':=hide k8
        have kG':=hide kG
        by_cases hlt:k<6
        · have hqk:q+k<12:=by omega
          have hcell:wr.cell? ⟨w.heap.size+2,q+k,none⟩=some (.int .u64 (U (m (q+k)))):=by
            rw [cell_of_row _ _ _ _ _ _ k9,kM.2 _ hqk];unfold cutB;rw [if_neg (by omega)]
          have hfr:wr.frozen? ⟨w.heap.size+2,q+k,none⟩=false:=by simp [World.frozen?,k9]
          have han:bits .andNot .u64 (U (m (q+k))) (U G)=U (m (q+k) &&& ~~~G):=andNot_U _ _
          have hk0:(0:Int)<=(k:Int):=by omega
          have hk6:(k:Int)<6:=by omega
          clear kM k9 k8 kG
          go_wp2
          go_roundg (gk-1)
          case measure=>omega
          case rel =>
            refine ⟨k+1,M.setIfInBounds (q+k) (.int .u64 (U (m (q+k) &&& ~~~G))),by omega,by go_num,?_,set_row3 (unhide k9'),?_,Below.setCell (unhide kG') (show w.heap.size<=w.heap.size+2 by omega) _⟩
            · have e:cutB m q G (k+1) (q+k)=m (q+k) &&& ~~~G:=by unfold cutB;rw [if_pos (by omega)]
              have:=isMen_set (m':=cutB m q G (k+1)) (j:=q+k) (unhide kM') hqk (fun i hi=>by
                unfold cutB
                by_cases h:q<=i/\i<q+k
                · rw [if_pos h,if_pos (by omega)]
                · rw [if_neg h,if_neg (by omega)])
              rwa [e] at this
            · rw [Below.heap_setCell _ _ _ _ (by simp)];exact unhide k8'
        · have ek:k=6:=by omega
          subst ek
          clear kM k9 k8 kG hlt
          have ho6:=bg_le wh
          have hcell6:∀ W:World,Bf w M W->W.cell? ⟨w.heap.size+2,bg wh+place,none⟩=some (.int .u64 (U (cutB m q G 6 (bg wh+place)))):=fun W h=>by rw [cell_of_row _ _ _ _ _ _ h.1];exact (unhide kM').2 _ (by omega)
          have d1:wr.drew.cell? ⟨w.heap.size+2,bg wh+place,none⟩=some (.int .u64 (U (cutB m q G 6 (bg wh+place)))):=hcell6 wr ⟨unhide k9',unhide k8',unhide kG'⟩
          have d2:wr.drew.frozen? ⟨w.heap.size+2,bg wh+place,none⟩=false:=by show wr.frozen? _=false;simp [World.frozen?,unhide k9']
          clear hcell6
          generalize bg wh=o at ho6 haf d1 d2 ⊢
          have hop0:(0:Int)<=(o:Int)+(place:Int):=by omega
          have hop1:(o:Int)+(place:Int)<12:=by omega
          have hwr:IntKind.i64.wrap ((o:Int)+(place:Int))=(o:Int)+(place:Int):=by rw [IntKind.wrap_i64];omega
          have e5:bits .or .u64 (oneI (f:Int)) (oneI (t:Int))=U (1#64 <<< f ||| 1#64 <<< t):=by rw [one_U f hf,one_U t ht,or_U]
          have e6:bits .xor .u64 (U (cutB m q G 6 (o+place))) (U (1#64 <<< f ||| 1#64 <<< t))=U (cutB m q G 6 (o+place) ^^^ (1#64 <<< f ||| 1#64 <<< t)):=xor_U _ _
          go_upto_region 10 with fail
          refine wp_region_held_drew (S:=fun _=>True) (by kernel_rfl) trivial (fun hHeld=>?_)
          refine C.tq 0 (.int .i64 (o:Int)) hHeld ?_
          refine C.tq 1 (.int .i64 (place:Int)) hHeld ?_
          refine C.tq 2 (.int .i64 ((o:Int)+(place:Int))) hHeld ?_
          refine C.tq 3 (.pointer (some ⟨w.heap.size+2,o+place,none⟩)) hHeld ?_
          refine C.tq 5 (.int .i64 (f:Int)) hHeld ?_
          refine C.tq 7 (.int .i64 (t:Int)) hHeld ?_
          refine wpAnyH_ready (rs:=[4,6]) (by kernel_rfl) (by simp) ?_
          refine AllReadyH.cons rfl (fun K hK=>?_) (AllReadyH.cons rfl (fun K hK=>?_) AllReadyH.nil)
          · go_simp
            refine hK.out _ _ trivial (fun hHeld=>?_)
            clear hK K
            refine C.rd 6 fun K hK=>?_
            go_simp
            refine (unhide hone _ hf _).mono ?_
            rintro e w1 ⟨rfl,hww⟩
            have hww':=hww.symm
            subst hww'
            clear hww
            refine hK.out _ _ trivial (fun hHeld=>?_)
            clear hK K
            refine C.rd 8 fun K hK=>?_
            go_simp
            refine (unhide hone _ ht _).mono ?_
            rintro e w1 ⟨rfl,hww⟩
            have hww':=hww.symm
            subst hww'
            clear hww
            refine hK.out _ _ trivial (fun hHeld=>?_)
            clear hK K
            refine C.tq 9 (.int .u64 (U (1#64 <<< f ||| 1#64 <<< t))) hHeld ?_
            refine C.tq 10 (.int .u64 (U (cutB m q G 6 (o+place) ^^^ (1#64 <<< f ||| 1#64 <<< t)))) hHeld ?_
            refine C.tq 11 (.pointer (some ⟨w.heap.size+2,o+place,none⟩)) hHeld ?_
            refine C.rd 12 fun K hK=>?_
            go_simp
            refine hK.out _ _ trivial (fun hHeld=>?_)
            clear hK K
            refine wpAnyH_done (by kernel_rfl) ?_ _
            have hM2:=hide (isMen_set (m':=AF) (j:=o+place) (unhide kM') (by omega) (fun i hi=>by rw [unhide haf];simp only [if_neg hi,unhide hQ']))
            have hAF:AF (o+place)=cutB m q G 6 (o+place) ^^^ (1#64 <<< f ||| 1#64 <<< t):=by rw [unhide haf];simp only [if_true,unhide hQ']
            rw [hAF] at hM2
            have k92:=set_row3 (i:=o+place) (v:=.int .u64 (U (cutB m q G 6 (o+place) ^^^ (1#64 <<< f ||| 1#64 <<< t)))) (unhide k9')
            have k82:(wr.setCell ⟨w.heap.size+2,o+place,none⟩ (.int .u64 (U (cutB m q G 6 (o+place) ^^^ (1#64 <<< f ||| 1#64 <<< t))))).heap[w.heap.size+1]?=some (.cells Z12 197):=by rw [Below.heap_setCell _ _ _ _ (by simp)];exact unhide k8'
            have kG2:Gr w (wr.setCell ⟨w.heap.size+2,o+place,none⟩ (.int .u64 (U (cutB m q G 6 (o+place) ^^^ (1#64 <<< f ||| 1#64 <<< t))))):=Below.setCell (unhide kG') (show w.heap.size<=w.heap.size+2 by omega) _
            generalize (wr.setCell ⟨w.heap.size+2,o+place,none⟩ (.int .u64 (U (cutB m q G 6 (o+place) ^^^ (1#64 <<< f ||| 1#64 <<< t)))))=wz at k92 k82 kG2 ⊢
            generalize M.setIfInBounds (o+place) (.int .u64 (U (cutB m q G 6 (o+place) ^^^ (1#64 <<< f ||| 1#64 <<< t))))=M2 at k92 hM2
            clear d1 d2
            have k93:wz.drew.heap[w.heap.size+2]?=some (.cells M2 197):=k92
            have k83:wz.drew.heap[w.heap.size+1]?=some (.cells Z12 197):=k82
            go_wp2_with (first|(refine wpList_load_row rfl 197 _ rfl (w.heap.size+2) rfl 197 M2 (0,0) _ k93 Tryz.underlying197 rfl (unhide hM2).info ?_)|(refine wpList_store_row rfl 197 _ _ rfl (w.heap.size+1) M2 rfl rfl 197 Z12 k83 (unhide hM2).info (unhide hM2).1.symm (unhide hM2).ones ?_))
            exact bodyPost_ret (v:=.agg M2) (results_cell_row Tryz.results211 _ _ (w.heap.size+1) 197 M2 (0,0) _ rfl (setRow_heap _ _ _ _ _ _ k83) Tryz.underlying197 rfl (unhide hM2).info) rfl ⟨M2,rfl,(by rw [unhide hAFe'];exact unhide hM2),kG2.drew.setRow _ (by omega) _⟩
          · go_simp
            refine (unhide hone _ hf _).mono ?_
            rintro e w1 ⟨rfl,hww⟩
            have hww':=hww.symm
            subst hww'
            clear hww
            refine hK.out _ _ trivial (fun hHeld=>?_)
            clear hK K
            refine wpAnyH_ready (rs:=[4,8]) (by kernel_rfl) (by simp) ?_
            refine AllReadyH.cons rfl (fun K hK=>?_) (AllReadyH.cons rfl (fun K hK=>?_) AllReadyH.nil)
            · go_simp
              refine hK.out _ _ trivial (fun hHeld=>?_)
              clear hK K
              refine C.rd 8 fun K hK=>?_
              go_simp
              refine (unhide hone _ ht _).mono ?_
              rintro e w1 ⟨rfl,hww⟩
              have hww':=hww.symm
              subst hww'
              clear hww
              refine hK.out _ _ trivial (fun hHeld=>?_)
              clear hK K
              refine C.tq 9 (.int .u64 (U (1#64 <<< f ||| 1#64 <<< t))) hHeld ?_
              refine C.tq 10 (.int .u64 (U (cutB m q G 6 (o+place) ^^^ (1#64 <<< f ||| 1#64 <<< t)))) hHeld ?_
              refine C.tq 11 (.pointer (some ⟨w.heap.size+2,o+place,none⟩)) hHeld ?_
              refine C.rd 12 fun K hK=>?_
              go_simp
              refine hK.out _ _ trivial (fun hHeld=>?_)
              clear hK K
              refine wpAnyH_done (by kernel_rfl) ?_ _
              have hM2:=hide (isMen_set (m':=AF) (j:=o+place) (unhide kM') (by omega) (fun i hi=>by rw [unhide haf];simp only [if_neg hi,unhide hQ']))
              have hAF:AF (o+place)=cutB m q G 6 (o+place) ^^^ (1#64 <<< f ||| 1#64 <<< t):=by rw [unhide haf];simp only [if_true,unhide hQ']
              rw [hAF] at hM2
              have k92:=set_row3 (i:=o+place) (v:=.int .u64 (U (cutB m q G 6 (o+place) ^^^ (1#64 <<< f ||| 1#64 <<< t)))) (unhide k9')
              have k82:(wr.setCell ⟨w.heap.size+2,o+place,none⟩ (.int .u64 (U (cutB m q G 6 (o+place) ^^^ (1#64 <<< f ||| 1#64 <<< t))))).heap[w.heap.size+1]?=some (.cells Z12 197):=by rw [Below.heap_setCell _ _ _ _ (by simp)];exact unhide k8'
              have kG2:Gr w (wr.setCell ⟨w.heap.size+2,o+place,none⟩ (.int .u64 (U (cutB m q G 6 (o+place) ^^^ (1#64 <<< f ||| 1#64 <<< t))))):=Below.setCell (unhide kG') (show w.heap.size<=w.heap.size+2 by omega) _
              generalize (wr.setCell ⟨w.heap.size+2,o+place,none⟩ (.int .u64 (U (cutB m q G 6 (o+place) ^^^ (1#64 <<< f ||| 1#64 <<< t)))))=wz at k92 k82 kG2 ⊢
              generalize M.setIfInBounds (o+place) (.int .u64 (U (cutB m q G 6 (o+place) ^^^ (1#64 <<< f ||| 1#64 <<< t))))=M2 at k92 hM2
              clear d1 d2
              have k93:wz.drew.heap[w.heap.size+2]?=some (.cells M2 197):=k92
              have k83:wz.drew.heap[w.heap.size+1]?=some (.cells Z12 197):=k82
              go_wp2_with (first|(refine wpList_load_row rfl 197 _ rfl (w.heap.size+2) rfl 197 M2 (0,0) _ k93 Tryz.underlying197 rfl (unhide hM2).info ?_)|(refine wpList_store_row rfl 197 _ _ rfl (w.heap.size+1) M2 rfl rfl 197 Z12 k83 (unhide hM2).info (unhide hM2).1.symm (unhide hM2).ones ?_))
              exact bodyPost_ret (v:=.agg M2) (results_cell_row Tryz.results211 _ _ (w.heap.size+1) 197 M2 (0,0) _ rfl (setRow_heap _ _ _ _ _ _ k83) Tryz.underlying197 rfl (unhide hM2).info) rfl ⟨M2,rfl,(by rw [unhide hAFe'];exact unhide hM2),kG2.drew.setRow _ (by omega) _⟩
            · go_simp
              refine (unhide hone _ ht _).mono ?_
              rintro e w1 ⟨rfl,hww⟩
              have hww':=hww.symm
              subst hww'
              clear hww
              refine hK.out _ _ trivial (fun hHeld=>?_)
              clear hK K
              refine C.tq 9 (.int .u64 (U (1#64 <<< f ||| 1#64 <<< t))) hHeld ?_
              refine C.rd 4 fun K hK=>?_
              go_simp
              refine hK.out _ _ trivial (fun hHeld=>?_)
              clear hK K
              refine C.tq 10 (.int .u64 (U (cutB m q G 6 (o+place) ^^^ (1#64 <<< f ||| 1#64 <<< t)))) hHeld ?_
              refine C.tq 11 (.pointer (some ⟨w.heap.size+2,o+place,none⟩)) hHeld ?_
              refine C.rd 12 fun K hK=>?_
              go_simp
              refine hK.out _ _ trivial (fun hHeld=>?_)
              clear hK K
              refine wpAnyH_done (by kernel_rfl) ?_ _
              have hM2:=hide (isMen_set (m':=AF) (j:=o+place) (unhide kM') (by omega) (fun i hi=>by rw [unhide haf];simp only [if_neg hi,unhide hQ']))
              have hAF:AF (o+place)=cutB m q G 6 (o+place) ^^^ (1#64 <<< f ||| 1#64 <<< t):=by rw [unhide haf];simp only [if_true,unhide hQ']
              rw [hAF] at hM2
              have k92:=set_row3 (i:=o+place) (v:=.int .u64 (U (cutB m q G 6 (o+place) ^^^ (1#64 <<< f ||| 1#64 <<< t)))) (unhide k9')
              have k82:(wr.setCell ⟨w.heap.size+2,o+place,none⟩ (.int .u64 (U (cutB m q G 6 (o+place) ^^^ (1#64 <<< f ||| 1#64 <<< t))))).heap[w.heap.size+1]?=some (.cells Z12 197):=by rw [Below.heap_setCell _ _ _ _ (by simp)];exact unhide k8'
              have kG2:Gr w (wr.setCell ⟨w.heap.size+2,o+place,none⟩ (.int .u64 (U (cutB m q G 6 (o+place) ^^^ (1#64 <<< f ||| 1#64 <<< t))))):=Below.setCell (unhide kG') (show w.heap.size<=w.heap.size+2 by omega) _
              generalize (wr.setCell ⟨w.heap.size+2,o+place,none⟩ (.int .u64 (U (cutB m q G 6 (o+place) ^^^ (1#64 <<< f ||| 1#64 <<< t)))))=wz at k92 k82 kG2 ⊢
              generalize M.setIfInBounds (o+place) (.int .u64 (U (cutB m q G 6 (o+place) ^^^ (1#64 <<< f ||| 1#64 <<< t))))=M2 at k92 hM2
              clear d1 d2
              have k93:wz.drew.heap[w.heap.size+2]?=some (.cells M2 197):=k92
              have k83:wz.drew.heap[w.heap.size+1]?=some (.cells Z12 197):=k82
              go_wp2_with (first|(refine wpList_load_row rfl 197 _ rfl (w.heap.size+2) rfl 197 M2 (0,0) _ k93 Tryz.underlying197 rfl (unhide hM2).info ?_)|(refine wpList_store_row rfl 197 _ _ rfl (w.heap.size+1) M2 rfl rfl 197 Z12 k83 (unhide hM2).info (unhide hM2).1.symm (unhide hM2).ones ?_))
              exact bodyPost_ret (v:=.agg M2) (results_cell_row Tryz.results211 _ _ (w.heap.size+1) 197 M2 (0,0) _ rfl (setRow_heap _ _ _ _ _ _ k83) Tryz.underlying197 rfl (unhide hM2).info) rfl ⟨M2,rfl,(by rw [unhide hAFe'];exact unhide hM2),kG2.drew.setRow _ (by omega) _⟩
variable {m:Nat->BitVec 64} {wh:Bool} {own oth beh:BitVec 64} {fc:Nat->Bool} {FA:Array Value}
def legalB (m:Nat->BitVec 64) (wh:Bool) (beh:BitVec 64) (place f t:Nat):Bool:=!(anyB (afterB m wh beh place f t) (afterB m wh beh place f t (bg wh+5)) wh)
def putMen (FA M:Array Value):Array Value:=put 0 M FA
theorem Fld.putMen {m':Nat->BitVec 64} {M:Array Value} (r:Fld m wh own oth beh fc FA) (h:IsMen m' M):Fld m' wh own oth beh fc (putMen FA M):=by
 have p:=put_at 0 M FA;have hz:=r.size
 have hp:∀ i,(C.putMen FA M)[i]?=if i<12 then M[i]? else FA[i]?:=fun i=>by
  have:=p.2 i (by rw [h.1,hz];omega);unfold C.putMen;rw [this,h.1];simp
 refine ⟨by unfold C.putMen;rw [p.1];exact hz,fun i hi=>?_,?_,?_,?_,?_,fun i hi=>?_⟩
 ·rw [hp,if_pos hi];exact h.2 i hi
 ·rw [hp,if_neg (by omega)];exact r.wh
 ·rw [hp,if_neg (by omega)];exact r.own
 ·rw [hp,if_neg (by omega)];exact r.oth
 ·rw [hp,if_neg (by omega)];exact r.beh
 ·rw [hp,if_neg (by omega)];exact r.c i hi
theorem below_setCells {B b:Nat} {a:World} (hb:B<=b):∀ (vs:List Value) (o:Nat) (w:World),Below B a w->Below B a (w.setCells b o vs)
 | [],_,_,h=>h
 | v :: r,o,_,h=>below_setCells hb r (o+1) _ (h.setCell (p:=⟨b,o,none⟩) hb v)
theorem putMen_at {M:Array Value} (hz:FA.size=20) (hM:M.size=12) (i:Nat):(putMen FA M)[i]?=if i<12 then M[i]? else FA[i]?:=by
 have:=(put_at 0 M FA).2 i (by rw [hM,hz];omega);unfold putMen;rw [this,hM];simp
theorem there_of {b n:Nat} {W:World} {t:TypeId} (h:W.heap[b]?=some (.cells FA t)) (hn:n<=FA.size):W.there b 0 n:=fun j hj=>by
 constructor
 ·rw [cell_of_row _ _ _ _ _ _ h,Array.getElem?_eq_getElem (by omega)];rfl
 ·simp [World.frozen?,h]
theorem FAt.putMen {b:Nat} {W:World} {t:TypeId} {M:Array Value} (h:W.heap[b]?=some (.cells FA t)) (hz:FA.size=20) (hM:M.size=12):FAt b (putMen FA M) (W.setCells b 0 M.toList):=by
 refine ⟨Nat.lt_of_lt_of_le (Array.getElem?_eq_some_iff.1 h).1 (below_setCells (B:=0) (Nat.zero_le _) _ _ _ (Below.refl _ _)).size,fun j v hv=>?_⟩;rw [Array.getElem?_toList,putMen_at hz hM] at hv;by_cases hj:j<12
 ·rw [if_pos hj] at hv;have:=World.cell?_setCells_in b M.toList 0 W (fun i hi=>(there_of (n:=12) h (by rw [hz];omega) i (by simpa [hM] using hi)).1) j (by simp [hM];exact hj);rw [this];rw [<-hv,Array.getElem?_eq_getElem (by rw [hM];exact hj)];simp
 ·rw [if_neg hj] at hv;rw [World.cell?_setCells_out b M.toList 0 W _ (fun _ _=>.inr (by simp [hM];omega)),cell_of_row _ _ _ _ _ _ h,Nat.zero_add];exact hv
theorem legal_any (r:Fld m wh own oth beh fc FA) (place f t:Nat) (hp:place<6) (hf:f<64) (ht:t<64) (w:World) (hT:TabIn w):Calls Tryz.prog 134 #[.agg FA,.int .i64 (place:Int),.int .i64 (f:Int),.int .i64 (t:Int)] w fun e w'=>e=.returned (.bool (legalB m wh beh place f t))/\Gr w w':=by
 have hr:=hide r;have hfa:=FAt.new w FA 202;have hg1:=(Gr.refl w).alloc FA 202;have hh1:=World.alloc_heap_new w (.cells FA 202);have haf:=hide (fun W=>after_any r place f t hp hf ht W);clear r;go_enter Tryz.func134,Tryz.ntmps134
 go_upto_region 2 with (first
  | (go_at_call 211;refine (unhide haf _).mono ?_;rintro e w' ⟨M,rfl,hM,hg2⟩)
  | (refine wpList_load_fld (by rfl) _ rfl w.heap.size rfl (unhide hr).size hfa ?_)
  | (refine wpList_store_mid rfl 197 _ _ rfl w.heap.size 0 M rfl rfl (there_of ((Below.block hg2 _ (by rw [World.size_alloc];omega)).trans hh1) (by rw [hM.1,(unhide hr).size];omega)) hM.info hM.ones ?_))
 have hb2:=(Below.block hg2 w.heap.size (by rw [World.size_alloc];omega)).trans hh1;have hr2:=hide ((unhide hr).putMen hM);have hH:HF w w.heap.size (putMen FA M) (w'.setCells w.heap.size 0 M.toList).drew:=⟨(FAt.putMen hb2 (unhide hr).size hM.1).gr (Gr.refl _).drew,(below_setCells (Nat.le_refl _) _ _ _ (Gr.trans hg1 hg2)).drew⟩;have hM':=hide hM;clear hM hb2 hg2 hfa hg1 hh1 haf;generalize w'.setCells w.heap.size 0 M.toList=w2 at hH ⊢;generalize hFA2:putMen FA M=F2 at hr2 hH;clear hFA2;have hki:=hide (fun W=>kings_any (afterB m wh beh place f t) _ (unhide hr2).isMen wh W);have hany:=hide (fun s W hT=>anyAtt_any (unhide hr2) s W hT);have hle:Hid (legalB m wh beh place f t=!(anyB (afterB m wh beh place f t) (afterB m wh beh place f t (bg wh+5)) wh)):=hide rfl;generalize hLe:legalB m wh beh place f t=L at hle;have hLe':=hide hLe;clear hLe;have hz2:=hide (unhide hr2).size;generalize afterB m wh beh place f t=AF at hr2 hki hany hle hM';refine wp_region_held_drew (S:=HF w w.heap.size F2) (by kernel_rfl) hH (fun hHeld=>?_);refine C.ty 0 (.agg F2) rfl (y_fld (unhide hz2) (by rfl) _ rfl w.heap.size rfl (fun _ h=>h.1)) hHeld ?_;refine C.ty 1 (.pointer (some ⟨w.heap.size,0,none⟩)) rfl (Or.inl ⟨by rfl,fun w hw=>(by have c12:=hw.1.cell (unhide hr2).wh;go_simp)⟩) hHeld ?_;refine C.ty 2 (.agg (menOf F2)) rfl (y_menF (unhide hr2) (by rfl) _ rfl w.heap.size rfl (fun _ h=>h.1)) hHeld ?_;refine C.ty 3 (.pointer (some ⟨w.heap.size,12,none⟩)) rfl (Or.inl ⟨by rfl,fun w hw=>(by have c12:=hw.1.cell (unhide hr2).wh;go_simp)⟩) hHeld ?_;refine C.ty 4 (.bool wh) rfl (Or.inl ⟨by rfl,fun w hw=>(by have c12:=hw.1.cell (unhide hr2).wh;go_simp)⟩) hHeld ?_;refine C.rd 5 fun K hK=>?_
 go_simp;refine (unhide hki _).mono ?_;rintro e wa ⟨rfl,hga⟩;refine hK.out _ _ (hHeld.gr hga) (fun hHeld=>?_);clear hK K hga;refine C.rd 6 fun K hK=>?_
 go_simp;refine (unhide hany _ _ (hT.gr hHeld.2)).mono ?_;rintro e wb ⟨rfl,hgb⟩;refine hK.out _ _ (hHeld.gr hgb) (fun hHeld=>?_);clear hK K hgb;refine C.ty 7 (.bool L) rfl (Or.inl ⟨by rfl,fun w hw=>(by rw [unhide hle];go_simp)⟩) hHeld ?_;refine C.rd 8 fun K hK=>?_
 go_simp;refine hK.out _ _ hHeld (fun hHeld=>?_);clear hK K;refine wpAnyH_done (by kernel_rfl) ?_ _;go_wp2_with fail;go_ret;exact ⟨by rw [unhide hLe'];rfl,hHeld.2⟩
end Go.Proofs.YtnfakamfmkhlbabGreatDoor.C
