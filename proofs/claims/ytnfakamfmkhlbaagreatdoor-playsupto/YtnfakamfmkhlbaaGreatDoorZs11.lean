import Derived.Test.YtnfakamfmkhlbaaGreatDoorZs10
import Derived.Test.YtnfakamfmkhlbaaGreatDoorKz2
set_option maxRecDepth 100000
set_option maxHeartbeats 4000000
set_option linter.unusedSimpArgs false
namespace Go.Proofs.YtnfakamfmkhlbaaGreatDoor.C
open Go.ChangeShapes Go.WideShapes Go.ChangeAt Go.RowKit Go.Shelf
open Go.Proofs.YtnfakamfmkhlbaaGreatDoor.P
attribute [local go_sem] qd qi
variable {m:Nat->BitVec 64} {wh:Bool} {own oth beh:BitVec 64} {fc:Nat->Bool} {FA:Array Value}
def goneB (wh:Bool) (beh:BitVec 64) (place t:Nat):BitVec 64:=if place=0/\1#64 <<< t=beh then upB beh (-(dirI wh)) else 1#64 <<< t
def cutB (m:Nat->BitVec 64) (q:Nat) (g:BitVec 64) (k:Nat):Nat->BitVec 64:=fun i=>if q<=i/\i<q+k then m i &&& ~~~g else m i
def afterB (m:Nat->BitVec 64) (wh:Bool) (beh:BitVec 64) (place f t:Nat):Nat->BitVec 64:=fun i =>
 if i=bg wh+place then cutB m (bg (!wh)) (goneB wh beh place t) 6 i ^^^ (1#64 <<< f ||| 1#64 <<< t) else cutB m (bg (!wh)) (goneB wh beh place t) 6 i
theorem qq9 {m m':Nat->BitVec 64} {M:Array Value} {j:Nat} (h:IsMen m M) (hj:j<12) (hm:∀ i,i≠j->m' i=m i):IsMen m' (M.setIfInBounds j (.int .u64 (U (m' j)))):=by
 refine ⟨by rw [Array.size_setIfInBounds];exact h.1,fun i hi=>?_⟩;by_cases e:i=j
 ·subst e;rw [Array.getElem?_setIfInBounds,if_pos rfl,if_pos (by rw [h.1];exact hi)]
 ·rw [Array.getElem?_setIfInBounds,if_neg (fun h=>e h.symm),hm i e];exact h.2 i hi
theorem qx {W:World} {b i:Nat} {A:Array Value} {v:Value} {t:TypeId} (h:W.heap[b]?=some (.cells A t)):(W.setCell ⟨b,i,none⟩ v).heap[b]?=some (.cells (A.setIfInBounds i v) t):=by
 have hb:=(Array.getElem?_eq_some_iff.1 h).1;have h':W.heap[b]=.cells A t:=(Array.getElem?_eq_some_iff.1 h).2;simp [World.setCell,hb,Array.getElem_modify,h']
structure Af (w:World) (FA:Array Value) (W:World):Prop where
 fa:FAt w.heap.size FA W
 res:W.heap[w.heap.size+1]?=some (.cells Z12 151)
 gr:Gr w W
theorem Af.next {w W W':World} (h:Af w FA W) (g:Gr W W'):Af w FA W':=⟨h.fa.gr g,(Below.block g _ (Array.getElem?_eq_some_iff.1 h.res).1).trans h.res,Gr.trans h.gr g⟩
theorem Af.drew {w W:World} (h:Af w FA W):Af w FA W.drew:=h.next (Gr.refl _).drew
theorem FAt.put {b g:Nat} {A M:Array Value} {W:World} (h:FAt b A W) (hne:b≠g):FAt b A (W.setRow g M):=⟨by rw [size_setRow];exact h.1,fun j v hv=>by rw [cell_setRow_other _ _ _ _ hne];exact h.2 j v hv⟩
theorem Af.put {w W:World} (h:Af w FA W) {g:Nat} (hg:w.heap.size+2<=g) (M:Array Value):Af w FA (W.setRow g M) :=
 ⟨h.fa.put (by omega),by rw [setRow_other _ _ _ _ (by omega)];exact h.res,h.gr.setRow _ (by omega) _⟩
theorem y_menF (r:Fld m wh own oth beh fc FA) {ops:Array Oper} {op:Oper} {a:Act} {S:World->Prop} (hw:Region.wanted op (yielded ops a.tmps)=true) (x:Operand) (ho:op.op=.load 151 x) (b:Nat) (hx:a.eval x=.pointer (some ⟨b,0,none⟩)) (hS:∀ w,S w->FAt b FA w):YieldsIf Tryz.prog ops S op (.agg (menOf FA)) a :=
 y_men r.isMen.1 hw x ho b hx (fun W h=>r.held (hS W h))
def Aw (w:World) (FA:Array Value) (W:World):Prop:=Af w FA W/\W.heap[w.heap.size+2]?=some (.cells (menOf FA) 151)
theorem Aw.next {w W W':World} (h:Aw w FA W) (g:Gr W W'):Aw w FA W':=⟨h.1.next g,(Below.block g _ (Array.getElem?_eq_some_iff.1 h.2).1).trans h.2⟩
def Bf (w:World) (M:Array Value) (W:World):Prop:=W.heap[w.heap.size+2]?=some (.cells M 151)/\W.heap[w.heap.size+1]?=some (.cells Z12 151)/\Gr w W
theorem after_any (r:Fld m wh own oth beh fc FA) (place f t:Nat) (hp:place<6) (hf:f<64) (ht:t<64) (w:World):Calls Tryz.prog 245 #[.agg FA,.int .i64 (place:Int),.int .i64 (f:Int),.int .i64 (t:Int)] w fun e w'=>∃ M,e=.returned (.agg M)/\IsMen (afterB m wh beh place f t) M/\Gr w w':=by
  have hr:=hide r
  have hbe:=hide (fun b W=>zj b W)
  obtain ⟨x1,x2⟩:=heapTwo w (.cells FA 259) (.cells Z12 151)
  have hA0:Af w FA (((w.alloc (.cells FA 259)).alloc (.cells Z12 151))):=⟨(FAt.new w FA 259).gr ((Gr.refl _).alloc _ _),x2,((Gr.refl w).alloc _ _).alloc _ _⟩
  have hs2:((w.alloc (.cells FA 259)).alloc (.cells Z12 151)).heap.size=w.heap.size+2:=by simp
  clear x1 x2
  go_enter Tryz.func245,Tryz.ntmps245
  go_upto_region 1 with fail
  go_cut [9,10,11] from 14 to 22 (fun s9 s10 s11 wx=>s9=.pointer (some ⟨w.heap.size+2,0,none⟩)/\s10=.int .i64 (bg wh:Nat)/\s11=.int .i64 (bg (!wh):Nat)/\Af w FA wx/\wx.heap[w.heap.size+2]?=some (.cells (menOf FA) 151))
  case first =>
    have hA1:=hA0.drew
    generalize hW0:((w.alloc (.cells FA 259)).alloc (.cells Z12 151))=W0 at hA0 hA1 hs2
    have hW0':((w.alloc (.cells FA 259)).alloc (.cells #[.int .u64 0,.int .u64 0,.int .u64 0,.int .u64 0,.int .u64 0,.int .u64 0,.int .u64 0,.int .u64 0,.int .u64 0,.int .u64 0,.int .u64 0,.int .u64 0] 151))=W0:=hW0
    rw [hW0']
    have h9:(W0.alloc (.cells Z12 151)).drew.heap[w.heap.size+2]?=some (.cells Z12 151):=by rw [<-hs2];exact World.alloc_heap_new _ _
    refine wp_region_held_drew (S:=Af w FA) (by kernel_rfl) hA1 (fun hHeld=>?_)
    refine C.ty 0 (.pointer (some ⟨w.heap.size,0,none⟩)) rfl (Or.inl ⟨by rfl,fun w hw=>(by have c12:=hw.fa.cell (qa hr).wh;go_simp)⟩) hHeld ?_
    refine C.ty 1 (.agg (menOf FA)) rfl (y_menF (qa hr) (by rfl) _ rfl w.heap.size rfl (fun _ h=>h.fa)) hHeld ?_
    refine C.ty 2 (.pointer (some ⟨w.heap.size,12,none⟩)) rfl (Or.inl ⟨by rfl,fun w hw=>(by have c12:=hw.fa.cell (qa hr).wh;go_simp)⟩) hHeld ?_
    refine C.ty 3 (.bool wh) rfl (Or.inl ⟨by rfl,fun w hw=>(by have c12:=hw.fa.cell (qa hr).wh;go_simp)⟩) hHeld ?_
    refine C.ty 5 (.pointer (some ⟨w.heap.size,12,none⟩)) rfl (Or.inl ⟨by rfl,fun w hw=>(by have c12:=hw.fa.cell (qa hr).wh;go_simp)⟩) hHeld ?_
    refine C.ty 6 (.bool wh) rfl (Or.inl ⟨by rfl,fun w hw=>(by have c12:=hw.fa.cell (qa hr).wh;go_simp)⟩) hHeld ?_
    refine C.ty 7 (.bool (!wh)) rfl (Or.inl ⟨by rfl,fun w hw=>(by have c12:=hw.fa.cell (qa hr).wh;go_simp)⟩) hHeld ?_
    refine wpAnyH_ready (rs:=[4,9]) (by kernel_rfl) (by simp) ?_
    refine AllReadyH.cons rfl (fun K hK=>?_) (AllReadyH.cons rfl (fun K hK=>?_) AllReadyH.nil)
    · go_simp
      refine (qa hbe _ _).mono ?_
      rintro e wa ⟨rfl,rfl⟩
      refine hK.out _ _ hHeld (fun hHeld=>?_)
      clear hK K
      refine wpAnyH_ready (rs:=[8,9]) (by kernel_rfl) (by simp) ?_
      refine AllReadyH.cons rfl (fun K hK=>?_) (AllReadyH.cons rfl (fun K hK=>?_) AllReadyH.nil)
      · go_simp
        refine (qa hbe _ _).mono ?_
        rintro e wa ⟨rfl,rfl⟩
        refine hK.out _ _ hHeld (fun hHeld=>?_)
        clear hK K
        refine C.rd 9 fun K hK=>?_
        go_simp
        refine hK.out _ _ (hHeld.next ((Gr.refl _).alloc _ _)) (fun hHeld=>?_)
        clear hK K
        refine C.rd 10 fun K hK=>?_
        rw [if_pos (by rfl)]
        refine wp_store_row 151 _ _ rfl _ (menOf FA) rfl rfl 151 Z12 h9 (qa hr).isMen.info (qa hr).isMen.1.symm (qa hr).isMen.ones ?_
        refine hK.out _ _ (hHeld.put (Nat.le_refl _) _) (fun hHeld=>?_)
        clear hK K
        simp only [C.py]
        refine C.rd 11 fun K hK=>?_
        go_simp
        refine hK.out _ _ hHeld (fun hHeld=>?_)
        clear hK K
        refine C.rd 12 fun K hK=>?_
        go_simp
        refine hK.out _ _ hHeld (fun hHeld=>?_)
        clear hK K
        refine wpAnyH_done (by kernel_rfl) ?_ _
        go_wp2_with fail
        go_meet
        case rel=>exact ⟨rfl,rfl,rfl,hHeld,setRow_heap _ _ _ _ _ _ h9⟩
      · go_simp
        refine hK.out _ _ (hHeld.next ((Gr.refl _).alloc _ _)) (fun hHeld=>?_)
        clear hK K
        refine C.rd 8 fun K hK=>?_
        go_simp
        refine (qa hbe _ _).mono ?_
        rintro e wa ⟨rfl,rfl⟩
        refine hK.out _ _ hHeld (fun hHeld=>?_)
        clear hK K
        refine C.rd 10 fun K hK=>?_
        rw [if_pos (by rfl)]
        refine wp_store_row 151 _ _ rfl _ (menOf FA) rfl rfl 151 Z12 h9 (qa hr).isMen.info (qa hr).isMen.1.symm (qa hr).isMen.ones ?_
        refine hK.out _ _ (hHeld.put (Nat.le_refl _) _) (fun hHeld=>?_)
        clear hK K
        simp only [C.py]
        refine C.rd 11 fun K hK=>?_
        go_simp
        refine hK.out _ _ hHeld (fun hHeld=>?_)
        clear hK K
        refine C.rd 12 fun K hK=>?_
        go_simp
        refine hK.out _ _ hHeld (fun hHeld=>?_)
        clear hK K
        refine wpAnyH_done (by kernel_rfl) ?_ _
        go_wp2_with fail
        go_meet
        case rel=>exact ⟨rfl,rfl,rfl,hHeld,setRow_heap _ _ _ _ _ _ h9⟩
    · go_simp
      refine hK.out _ _ (hHeld.next ((Gr.refl _).alloc _ _)) (fun hHeld=>?_)
      clear hK K
      refine C.rd 4 fun K hK=>?_
      go_simp
      refine (qa hbe _ _).mono ?_
      rintro e wa ⟨rfl,rfl⟩
      refine hK.out _ _ hHeld (fun hHeld=>?_)
      clear hK K
      refine C.rd 8 fun K hK=>?_
      go_simp
      refine (qa hbe _ _).mono ?_
      rintro e wa ⟨rfl,rfl⟩
      refine hK.out _ _ hHeld (fun hHeld=>?_)
      clear hK K
      refine C.rd 10 fun K hK=>?_
      rw [if_pos (by rfl)]
      refine wp_store_row 151 _ _ rfl _ (menOf FA) rfl rfl 151 Z12 h9 (qa hr).isMen.info (qa hr).isMen.1.symm (qa hr).isMen.ones ?_
      refine hK.out _ _ (hHeld.put (Nat.le_refl _) _) (fun hHeld=>?_)
      clear hK K
      simp only [C.py]
      refine C.rd 11 fun K hK=>?_
      go_simp
      refine hK.out _ _ hHeld (fun hHeld=>?_)
      clear hK K
      refine C.rd 12 fun K hK=>?_
      go_simp
      refine hK.out _ _ hHeld (fun hHeld=>?_)
      clear hK K
      refine wpAnyH_done (by kernel_rfl) ?_ _
      go_wp2_with fail
      go_meet
      case rel=>exact ⟨rfl,rfl,rfl,hHeld,setRow_heap _ _ _ _ _ _ h9⟩
  case rest =>
    obtain ⟨rfl,rfl,rfl,hA,h9⟩:=hcut
    clear hA0 hs2
    have hone:=hide (fun (x:Nat) (hx:x<64) (W:World)=>zp (x:Int) (by omega) (by omega) W)
    have hot:=qa hone t ht
    rw [qzb t ht] at hot
    have hot':=hide hot
    clear hot
    go_upto_region 3 with (go_at_call 139;refine (qa hot' _).mono ?_;rintro e w' ⟨rfl,rfl⟩)
    have hA1:=hA
    have h91:=h9
    have cb:w'.cell? ⟨w.heap.size,15,none⟩=some (.int .u64 (U beh)):=hA.fa.cell (qa hr).beh
    have hrk:=hide (fun W=>ranks_any (qa hr) W)
    have hgn:Hid (goneB wh beh place t=if place=0/\1#64 <<< t=beh then upB beh (-(dirI wh)) else 1#64 <<< t):=hide rfl
    clear hA1 h91
    have haf:Hid (afterB m wh beh place f t=fun i=>if i=bg wh+place then cutB m (bg (!wh)) (goneB wh beh place t) 6 i ^^^ (1#64 <<< f ||| 1#64 <<< t) else cutB m (bg (!wh)) (goneB wh beh place t) 6 i):=hide rfl
    generalize hAFe:afterB m wh beh place f t=AF at haf
    have hAFe':=hide hAFe
    clear hAFe
    generalize goneB wh beh place t=G at haf hgn
    obtain ⟨CB,hCB⟩:∃ c,Hid (decide (place=0/\1#64 <<< t=beh)=c):=⟨_,hide rfl⟩
    go_cut [32] from 25 to 31 (fun s32 wx=>s32=.bool CB/\wx=w')
    case first =>
      by_cases h0:place=0
      · have e0:((place:Int)==0)=true:=by simp;omega
        obtain ⟨x,hx⟩:∃ x,(U (1#64 <<< t)==U beh)=x:=⟨_,rfl⟩
        have hxx:Hid (CB=x):=hide (by
          rw [<-qa hCB,<-hx]
          by_cases hb:1#64 <<< t=beh
          · rw [decide_eq_true ⟨h0,hb⟩,hb];simp
          · rw [decide_eq_false (fun h=>hb h.2)];exact (beq_eq_false_iff_ne.2 (fun h=>hb (U_inj h))).symm)
        clear h0 hCB
        cases x<;>(go_wp2_with fail;go_meet;exact ⟨by rw [qa hxx],rfl⟩)
      · have e1:((place:Int)==0)=false:=by simp;omega
        have hxx:Hid (CB=false):=hide (by rw [<-qa hCB,decide_eq_false (fun h=>h0 h.1)])
        clear h0 hCB
        go_wp2_with fail
        go_meet
        case rel=>exact ⟨by rw [qa hxx],rfl⟩
    case rest =>
     obtain ⟨rfl,hww⟩:=hcut
     have hww':=hww.symm
     subst hww'
     clear hww
     go_upto_if 32 with fail
     go_cut [12] from 33 to 38 (fun s12 wx=>s12=.int .u64 (U G)/\Aw w FA wx)
     case first =>
      cases CB
      · have hG:Hid (G=1#64 <<< t):=hide (by rw [qa hgn,if_neg (of_decide_eq_false (qa hCB))])
        clear hgn hCB
        go_wp2_with fail
        go_meet
        case rel=>exact ⟨by rw [qa hG],hA,h9⟩
      · have hG:Hid (G=upB beh (-(dirI wh))):=hide (by rw [qa hgn,if_pos (of_decide_eq_true (qa hCB))])
        have hz:=hide (qa hr).size
        clear hgn hCB
        go_upto_region 4 with fail
        have hneg:IntKind.i64.wrap (-(dirI wh))=-(dirI wh):=by cases wh<;>decide
        have hdd:(-7:Int)<=-(dirI wh) ∧ -(dirI wh)<=7:=by cases wh<;>decide
        have hH4:Aw w FA w'.drew:=⟨hA.drew,h9⟩
        refine wp_region_held_drew (S:=Aw w FA) (by kernel_rfl) hH4 (fun hHeld=>?_)
        refine C.ty 0 (.pointer (some ⟨w.heap.size,15,none⟩)) rfl (Or.inl ⟨by rfl,fun w hw=>(by have c15:=hw.1.fa.cell (qa hr).beh;go_simp)⟩) hHeld ?_
        refine C.ty 1 (.int .u64 (U beh)) rfl (Or.inl ⟨by rfl,fun w hw=>(by have c15:=hw.1.fa.cell (qa hr).beh;go_simp)⟩) hHeld ?_
        refine C.ty 2 (.agg FA) rfl (y_fld (qa hz) (by rfl) _ rfl w.heap.size rfl (fun _ h=>h.1.fa)) hHeld ?_
        refine C.rd 3 fun K hK=>?_
        go_simp
        refine (qa hrk _).mono ?_
        rintro e wb ⟨rfl,hgb⟩
        refine hK.out _ _ (hHeld.next hgb) (fun hHeld=>?_)
        clear hK K
        refine C.ty 4 (.int .i64 (-(dirI wh))) rfl (Or.inl ⟨by rfl,fun w hw=>(by have c15:=hw.1.fa.cell (qa hr).beh;go_simp)⟩) hHeld ?_
        refine C.rd 5 fun K hK=>?_
        go_simp
        refine (qja _ _ _ hdd.1 hdd.2).mono ?_
        rintro e wc ⟨rfl,rfl⟩
        refine hK.out _ _ hHeld (fun hHeld=>?_)
        clear hK K
        refine C.rd 6 fun K hK=>?_
        go_simp
        refine hK.out _ _ hHeld (fun hHeld=>?_)
        clear hK K
        refine wpAnyH_done (by kernel_rfl) ?_ _
        go_wp2_with fail
        go_meet
        case rel=>exact ⟨by rw [up_U,<-qa hG],hHeld⟩
     case rest =>
      clear hA h9
      obtain ⟨rfl,hA,h9⟩:=hcut
      clear hgn hrk hCB
      go_upto_region 6 with fail
      clear cb
      generalize hQ:bg (!wh)=q
      have hq6:q<=6:=by rw [<-hQ];exact qxh _
      have hQ':=hide hQ
      clear hQ
      have hcut0:Hid (IsMen (cutB m q G 0) (menOf FA)):=hide (by
        have e:cutB m q G 0=m:=by funext i;unfold cutB;rw [if_neg (by omega)]
        rw [e];exact (qa hr).isMen)
      have h9':=hide h9
      have hA':=hide hA
      clear h9 hA
      go_loopg [39] 6 (fun gg n wr=>∃ (k:Nat) (M:Array Value),k+gg=6/\n=.int .i64 k/\IsMen (cutB m q G k) M/\wr.heap[w.heap.size+2]?=some (.cells M 151)/\wr.heap[w.heap.size+1]?=some (.cells Z12 151)/\Gr w wr)
      case atStart=>exact ⟨0,menOf FA,by omega,rfl,qa hcut0,qa h9',(qa hA').res,(qa hA').gr⟩
      case round =>
        obtain ⟨k,M,k1,rfl,kM,k9,k8,kG⟩:=hrel
        have kM':=hide kM
        have k9':=hide k9
        have k8':=hide k8
        have kG':=hide kG
        by_cases hlt:k<6
        · have hqk:q+k<12:=by omega
          have hcell:wr.cell? ⟨w.heap.size+2,q+k,none⟩=some (.int .u64 (U (m (q+k)))):=by
            rw [cell_of_row _ _ _ _ _ _ k9,kM.2 _ hqk];unfold cutB;rw [if_neg (by omega)]
          have hfr:wr.frozen? ⟨w.heap.size+2,q+k,none⟩=false:=by simp [World.frozen?,k9]
          have han:bits .andNot .u64 (U (m (q+k))) (U G)=U (m (q+k) &&& ~~~G):=andNot_U _ _
          have hk0:(0:Int)<=(k:Int):=by omega
          have hk6:(k:Int)<6:=by omega
          clear kM k9 k8 kG
          go_wp2
          go_roundg (gk-1)
          case measure=>omega
          case rel =>
            refine ⟨k+1,M.setIfInBounds (q+k) (.int .u64 (U (m (q+k) &&& ~~~G))),by omega,by go_num,?_,qx (qa k9'),?_,Below.setCell (qa kG') (show w.heap.size<=w.heap.size+2 by omega) _⟩
            · have e:cutB m q G (k+1) (q+k)=m (q+k) &&& ~~~G:=by unfold cutB;rw [if_pos (by omega)]
              have:=qq9 (m':=cutB m q G (k+1)) (j:=q+k) (qa kM') hqk (fun i hi=>by
                unfold cutB
                by_cases h:q<=i/\i<q+k
                · rw [if_pos h,if_pos (by omega)]
                · rw [if_neg h,if_neg (by omega)])
              rwa [e] at this
            · rw [Below.heap_setCell _ _ _ _ (by simp)];exact qa k8'
        · have ek:k=6:=by omega
          subst ek
          clear kM k9 k8 kG hlt
          have ho6:=qxh wh
          have hcell6:∀ W:World,Bf w M W->W.cell? ⟨w.heap.size+2,bg wh+place,none⟩=some (.int .u64 (U (cutB m q G 6 (bg wh+place)))):=fun W h=>by rw [cell_of_row _ _ _ _ _ _ h.1];exact (qa kM').2 _ (by omega)
          have d1:wr.drew.cell? ⟨w.heap.size+2,bg wh+place,none⟩=some (.int .u64 (U (cutB m q G 6 (bg wh+place)))):=hcell6 wr ⟨qa k9',qa k8',qa kG'⟩
          have d2:wr.drew.frozen? ⟨w.heap.size+2,bg wh+place,none⟩=false:=by show wr.frozen? _=false;simp [World.frozen?,qa k9']
          clear hcell6
          generalize bg wh=o at ho6 haf d1 d2 ⊢
          have hop0:(0:Int)<=(o:Int)+(place:Int):=by omega
          have hop1:(o:Int)+(place:Int)<12:=by omega
          have hwr:IntKind.i64.wrap ((o:Int)+(place:Int))=(o:Int)+(place:Int):=by rw [IntKind.wrap_i64];omega
          have e5:bits .or .u64 (oneI (f:Int)) (oneI (t:Int))=U (1#64 <<< f ||| 1#64 <<< t):=by rw [qzb f hf,qzb t ht,or_U]
          have e6:bits .xor .u64 (U (cutB m q G 6 (o+place))) (U (1#64 <<< f ||| 1#64 <<< t))=U (cutB m q G 6 (o+place) ^^^ (1#64 <<< f ||| 1#64 <<< t)):=xor_U _ _
          go_upto_region 10 with fail
          refine wp_region_held_drew (S:=fun _=>True) (by kernel_rfl) trivial (fun hHeld=>?_)
          refine C.tq 0 (.int .i64 (o:Int)) hHeld ?_
          refine C.tq 1 (.int .i64 (place:Int)) hHeld ?_
          refine C.tq 2 (.int .i64 ((o:Int)+(place:Int))) hHeld ?_
          refine C.tq 3 (.pointer (some ⟨w.heap.size+2,o+place,none⟩)) hHeld ?_
          refine C.tq 5 (.int .i64 (f:Int)) hHeld ?_
          refine C.tq 7 (.int .i64 (t:Int)) hHeld ?_
          refine wpAnyH_ready (rs:=[4,6]) (by kernel_rfl) (by simp) ?_
          refine AllReadyH.cons rfl (fun K hK=>?_) (AllReadyH.cons rfl (fun K hK=>?_) AllReadyH.nil)
          · go_simp
            refine hK.out _ _ trivial (fun hHeld=>?_)
            clear hK K
            refine C.rd 6 fun K hK=>?_
            go_simp
            refine (qa hone _ hf _).mono ?_
            rintro e w1 ⟨rfl,hww⟩
            have hww':=hww.symm
            subst hww'
            clear hww
            refine hK.out _ _ trivial (fun hHeld=>?_)
            clear hK K
            refine C.rd 8 fun K hK=>?_
            go_simp
            refine (qa hone _ ht _).mono ?_
            rintro e w1 ⟨rfl,hww⟩
            have hww':=hww.symm
            subst hww'
            clear hww
            refine hK.out _ _ trivial (fun hHeld=>?_)
            clear hK K
            refine C.tq 9 (.int .u64 (U (1#64 <<< f ||| 1#64 <<< t))) hHeld ?_
            refine C.tq 10 (.int .u64 (U (cutB m q G 6 (o+place) ^^^ (1#64 <<< f ||| 1#64 <<< t)))) hHeld ?_
            refine C.tq 11 (.pointer (some ⟨w.heap.size+2,o+place,none⟩)) hHeld ?_
            refine C.rd 12 fun K hK=>?_
            go_simp
            refine hK.out _ _ trivial (fun hHeld=>?_)
            clear hK K
            refine wpAnyH_done (by kernel_rfl) ?_ _
            have hM2:=hide (qq9 (m':=AF) (j:=o+place) (qa kM') (by omega) (fun i hi=>by rw [qa haf];simp only [if_neg hi,qa hQ']))
            have hAF:AF (o+place)=cutB m q G 6 (o+place) ^^^ (1#64 <<< f ||| 1#64 <<< t):=by rw [qa haf];simp only [if_true,qa hQ']
            rw [hAF] at hM2
            have k92:=qx (i:=o+place) (v:=.int .u64 (U (cutB m q G 6 (o+place) ^^^ (1#64 <<< f ||| 1#64 <<< t)))) (qa k9')
            have k82:(wr.setCell ⟨w.heap.size+2,o+place,none⟩ (.int .u64 (U (cutB m q G 6 (o+place) ^^^ (1#64 <<< f ||| 1#64 <<< t))))).heap[w.heap.size+1]?=some (.cells Z12 151):=by rw [Below.heap_setCell _ _ _ _ (by simp)];exact qa k8'
            have kG2:Gr w (wr.setCell ⟨w.heap.size+2,o+place,none⟩ (.int .u64 (U (cutB m q G 6 (o+place) ^^^ (1#64 <<< f ||| 1#64 <<< t))))):=Below.setCell (qa kG') (show w.heap.size<=w.heap.size+2 by omega) _
            generalize (wr.setCell ⟨w.heap.size+2,o+place,none⟩ (.int .u64 (U (cutB m q G 6 (o+place) ^^^ (1#64 <<< f ||| 1#64 <<< t)))))=wz at k92 k82 kG2 ⊢
            generalize M.setIfInBounds (o+place) (.int .u64 (U (cutB m q G 6 (o+place) ^^^ (1#64 <<< f ||| 1#64 <<< t))))=M2 at k92 hM2
            clear d1 d2
            have k93:wz.drew.heap[w.heap.size+2]?=some (.cells M2 151):=k92
            have k83:wz.drew.heap[w.heap.size+1]?=some (.cells Z12 151):=k82
            go_wp2_with (first|(refine wpList_load_row rfl 151 _ rfl (w.heap.size+2) rfl 151 M2 (0,0) _ k93 Tryz.underlying151 rfl (qa hM2).info ?_)|(refine wpList_store_row rfl 151 _ _ rfl (w.heap.size+1) M2 rfl rfl 151 Z12 k83 (qa hM2).info (qa hM2).1.symm (qa hM2).ones ?_))
            exact bodyPost_ret (v:=.agg M2) (results_cell_row Tryz.results245 _ _ (w.heap.size+1) 151 M2 (0,0) _ rfl (setRow_heap _ _ _ _ _ _ k83) Tryz.underlying151 rfl (qa hM2).info) rfl ⟨M2,rfl,(by rw [qa hAFe'];exact qa hM2),kG2.drew.setRow _ (by omega) _⟩
          · go_simp
            refine (qa hone _ hf _).mono ?_
            rintro e w1 ⟨rfl,hww⟩
            have hww':=hww.symm
            subst hww'
            clear hww
            refine hK.out _ _ trivial (fun hHeld=>?_)
            clear hK K
            refine wpAnyH_ready (rs:=[4,8]) (by kernel_rfl) (by simp) ?_
            refine AllReadyH.cons rfl (fun K hK=>?_) (AllReadyH.cons rfl (fun K hK=>?_) AllReadyH.nil)
            · go_simp
              refine hK.out _ _ trivial (fun hHeld=>?_)
              clear hK K
              refine C.rd 8 fun K hK=>?_
              go_simp
              refine (qa hone _ ht _).mono ?_
              rintro e w1 ⟨rfl,hww⟩
              have hww':=hww.symm
              subst hww'
              clear hww
              refine hK.out _ _ trivial (fun hHeld=>?_)
              clear hK K
              refine C.tq 9 (.int .u64 (U (1#64 <<< f ||| 1#64 <<< t))) hHeld ?_
              refine C.tq 10 (.int .u64 (U (cutB m q G 6 (o+place) ^^^ (1#64 <<< f ||| 1#64 <<< t)))) hHeld ?_
              refine C.tq 11 (.pointer (some ⟨w.heap.size+2,o+place,none⟩)) hHeld ?_
              refine C.rd 12 fun K hK=>?_
              go_simp
              refine hK.out _ _ trivial (fun hHeld=>?_)
              clear hK K
              refine wpAnyH_done (by kernel_rfl) ?_ _
              have hM2:=hide (qq9 (m':=AF) (j:=o+place) (qa kM') (by omega) (fun i hi=>by rw [qa haf];simp only [if_neg hi,qa hQ']))
              have hAF:AF (o+place)=cutB m q G 6 (o+place) ^^^ (1#64 <<< f ||| 1#64 <<< t):=by rw [qa haf];simp only [if_true,qa hQ']
              rw [hAF] at hM2
              have k92:=qx (i:=o+place) (v:=.int .u64 (U (cutB m q G 6 (o+place) ^^^ (1#64 <<< f ||| 1#64 <<< t)))) (qa k9')
              have k82:(wr.setCell ⟨w.heap.size+2,o+place,none⟩ (.int .u64 (U (cutB m q G 6 (o+place) ^^^ (1#64 <<< f ||| 1#64 <<< t))))).heap[w.heap.size+1]?=some (.cells Z12 151):=by rw [Below.heap_setCell _ _ _ _ (by simp)];exact qa k8'
              have kG2:Gr w (wr.setCell ⟨w.heap.size+2,o+place,none⟩ (.int .u64 (U (cutB m q G 6 (o+place) ^^^ (1#64 <<< f ||| 1#64 <<< t))))):=Below.setCell (qa kG') (show w.heap.size<=w.heap.size+2 by omega) _
              generalize (wr.setCell ⟨w.heap.size+2,o+place,none⟩ (.int .u64 (U (cutB m q G 6 (o+place) ^^^ (1#64 <<< f ||| 1#64 <<< t)))))=wz at k92 k82 kG2 ⊢
              generalize M.setIfInBounds (o+place) (.int .u64 (U (cutB m q G 6 (o+place) ^^^ (1#64 <<< f ||| 1#64 <<< t))))=M2 at k92 hM2
              clear d1 d2
              have k93:wz.drew.heap[w.heap.size+2]?=some (.cells M2 151):=k92
              have k83:wz.drew.heap[w.heap.size+1]?=some (.cells Z12 151):=k82
              go_wp2_with (first|(refine wpList_load_row rfl 151 _ rfl (w.heap.size+2) rfl 151 M2 (0,0) _ k93 Tryz.underlying151 rfl (qa hM2).info ?_)|(refine wpList_store_row rfl 151 _ _ rfl (w.heap.size+1) M2 rfl rfl 151 Z12 k83 (qa hM2).info (qa hM2).1.symm (qa hM2).ones ?_))
              exact bodyPost_ret (v:=.agg M2) (results_cell_row Tryz.results245 _ _ (w.heap.size+1) 151 M2 (0,0) _ rfl (setRow_heap _ _ _ _ _ _ k83) Tryz.underlying151 rfl (qa hM2).info) rfl ⟨M2,rfl,(by rw [qa hAFe'];exact qa hM2),kG2.drew.setRow _ (by omega) _⟩
            · go_simp
              refine (qa hone _ ht _).mono ?_
              rintro e w1 ⟨rfl,hww⟩
              have hww':=hww.symm
              subst hww'
              clear hww
              refine hK.out _ _ trivial (fun hHeld=>?_)
              clear hK K
              refine C.tq 9 (.int .u64 (U (1#64 <<< f ||| 1#64 <<< t))) hHeld ?_
              refine C.rd 4 fun K hK=>?_
              go_simp
              refine hK.out _ _ trivial (fun hHeld=>?_)
              clear hK K
              refine C.tq 10 (.int .u64 (U (cutB m q G 6 (o+place) ^^^ (1#64 <<< f ||| 1#64 <<< t)))) hHeld ?_
              refine C.tq 11 (.pointer (some ⟨w.heap.size+2,o+place,none⟩)) hHeld ?_
              refine C.rd 12 fun K hK=>?_
              go_simp
              refine hK.out _ _ trivial (fun hHeld=>?_)
              clear hK K
              refine wpAnyH_done (by kernel_rfl) ?_ _
              have hM2:=hide (qq9 (m':=AF) (j:=o+place) (qa kM') (by omega) (fun i hi=>by rw [qa haf];simp only [if_neg hi,qa hQ']))
              have hAF:AF (o+place)=cutB m q G 6 (o+place) ^^^ (1#64 <<< f ||| 1#64 <<< t):=by rw [qa haf];simp only [if_true,qa hQ']
              rw [hAF] at hM2
              have k92:=qx (i:=o+place) (v:=.int .u64 (U (cutB m q G 6 (o+place) ^^^ (1#64 <<< f ||| 1#64 <<< t)))) (qa k9')
              have k82:(wr.setCell ⟨w.heap.size+2,o+place,none⟩ (.int .u64 (U (cutB m q G 6 (o+place) ^^^ (1#64 <<< f ||| 1#64 <<< t))))).heap[w.heap.size+1]?=some (.cells Z12 151):=by rw [Below.heap_setCell _ _ _ _ (by simp)];exact qa k8'
              have kG2:Gr w (wr.setCell ⟨w.heap.size+2,o+place,none⟩ (.int .u64 (U (cutB m q G 6 (o+place) ^^^ (1#64 <<< f ||| 1#64 <<< t))))):=Below.setCell (qa kG') (show w.heap.size<=w.heap.size+2 by omega) _
              generalize (wr.setCell ⟨w.heap.size+2,o+place,none⟩ (.int .u64 (U (cutB m q G 6 (o+place) ^^^ (1#64 <<< f ||| 1#64 <<< t)))))=wz at k92 k82 kG2 ⊢
              generalize M.setIfInBounds (o+place) (.int .u64 (U (cutB m q G 6 (o+place) ^^^ (1#64 <<< f ||| 1#64 <<< t))))=M2 at k92 hM2
              clear d1 d2
              have k93:wz.drew.heap[w.heap.size+2]?=some (.cells M2 151):=k92
              have k83:wz.drew.heap[w.heap.size+1]?=some (.cells Z12 151):=k82
              go_wp2_with (first|(refine wpList_load_row rfl 151 _ rfl (w.heap.size+2) rfl 151 M2 (0,0) _ k93 Tryz.underlying151 rfl (qa hM2).info ?_)|(refine wpList_store_row rfl 151 _ _ rfl (w.heap.size+1) M2 rfl rfl 151 Z12 k83 (qa hM2).info (qa hM2).1.symm (qa hM2).ones ?_))
              exact bodyPost_ret (v:=.agg M2) (results_cell_row Tryz.results245 _ _ (w.heap.size+1) 151 M2 (0,0) _ rfl (setRow_heap _ _ _ _ _ _ k83) Tryz.underlying151 rfl (qa hM2).info) rfl ⟨M2,rfl,(by rw [qa hAFe'];exact qa hM2),kG2.drew.setRow _ (by omega) _⟩
end Go.Proofs.YtnfakamfmkhlbaaGreatDoor.C
