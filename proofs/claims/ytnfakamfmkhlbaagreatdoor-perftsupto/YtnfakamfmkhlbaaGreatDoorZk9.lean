import Derived.Test.YtnfakamfmkhlbaaGreatDoorZk8
set_option maxRecDepth 100000
set_option maxHeartbeats 4000000
set_option linter.unusedSimpArgs false
namespace Go.Proofs.YtnfakamfmkhlbaaGreatDoor.C
open Go.ChangeShapes Go.WideShapes Go.ChangeAt Go.RowKit Go.Shelf
open Go.Proofs.YtnfakamfmkhlbaaGreatDoor.P
attribute [local go_sem] qd qi Oper.semAt_some
theorem lstep_any (kd ca:Int) (hk:kd<=2) (hc1:-9223372036854775808<=ca) (hc2:ca<=9223372036854775807) (fen s:ByteArray) (hs:fen.size<4294967281) (nn wy:Int) (wb:Nat) (lv:Value) (cs:List Cc) (hcs:cs.length<=4294967296) (m:Int) (w W:World) (hc:Ct m w) (htb:Tabs w) (hwb:w.heap.size<=wb) (h:Wi wb lv cs w W) :
  Calls Tryz.prog 58 #[.pointer (some ⟨wb,0,none⟩),.agg (opA kd ca fen s nn wy)] W fun e W'=>e=.returned (.bool true)/\∃ lv' cs',cs'.length<=cs.length+1/\Wi wb lv' cs' w W':=by
 have x1:=heap_alloc_new W (.cells (opA kd ca fen s nn wy) 118);have h0:=hide (h.gr' ((Gr.refl W).alloc (opA kd ca fen s nn wy) 118))
 have hcl:Hid (∀ W,Wi wb lv cs w W->(kd=1\/kd=2)->Calls Tryz.prog 122 #[.pointer (some ⟨wb,0,none⟩),.agg (opA kd ca fen s nn wy)] W fun e W'=>e=.returned (.bool true)/\∃ lv' cs',cs'.length<=cs.length+1/\Wi wb lv' cs' w W'):=hide fun W hW q=>by
  rcases q with rfl|rfl
  ·exact qkg ca fen s nn wy wb lv cs hcs w W (jj hc htb) hW hwb
  ·exact (qkh 2 ca (by omega) hc1 hc2 fen s hs nn wy wb lv cs m w W hc htb hW).mono fun e W' k=>⟨k.1,lv,cs,by omega,k.2⟩
 clear h hc htb hs hc1 hc2;go_enter Tryz.func58,Tryz.ntmps58;go_upto_region 1 with fail;show Code.wp _ _ _ _ (W.alloc (.cells (opA kd ca fen s nn wy) 118));generalize W.alloc (.cells (opA kd ca fen s nn wy) 118)=w0 at x1 h0 ⊢;have c0:w0.cell? ⟨W.heap.size,0,none⟩=some (.int .i64 kd):=by rw [qm x1];rfl
 have c1:w0.cell? ⟨W.heap.size,1,none⟩=some (.int .i64 ca):=by rw [qm x1];rfl
 have c2:w0.cell? ⟨W.heap.size,2,none⟩=some (.string fen):=by rw [qm x1];rfl
 have c3:w0.cell? ⟨W.heap.size,3,none⟩=some (.string s):=by rw [qm x1];rfl
 have c4:w0.cell? ⟨W.heap.size,4,none⟩=some (.int .i64 nn):=by rw [qm x1];rfl
 have c5:w0.cell? ⟨W.heap.size,5,none⟩=some (.int .i64 wy):=by rw [qm x1];rfl
 clear x1;by_cases q1:kd=1
 ·have hcl':=hide fun W hW=>qa hcl W hW (.inl q1)
  have e1:(kd==1)=true:=by rw [beq_iff_eq];exact q1
  clear hcl q1;go_wp2_with (go_at_call 122;refine (qa hcl' _ (qa h0)).mono ?_;rintro e w' ⟨rfl,hfin⟩);go_ret;exact ⟨rfl,hfin⟩
 ·have e1:(kd==1)=false:=by rw [beq_eq_false_iff_ne];exact q1
  by_cases q2:kd=2
  ·have hcl':=hide fun W hW=>qa hcl W hW (.inr q2)
   have e2:(kd==2)=true:=by rw [beq_iff_eq];exact q2
   clear hcl q1 q2;go_wp2_with (go_at_call 122;refine (qa hcl' _ (qa h0)).mono ?_;rintro e w' ⟨rfl,hfin⟩);go_ret;exact ⟨rfl,hfin⟩
  ·have e2:(kd==2)=false:=by rw [beq_eq_false_iff_ne];exact q2
   have e3:(kd==3)=false:=by rw [beq_eq_false_iff_ne];omega
   have e4:(kd==4)=false:=by rw [beq_eq_false_iff_ne];omega
   have e5:(kd==5)=false:=by rw [beq_eq_false_iff_ne];omega
   have e6:(kd==6)=false:=by rw [beq_eq_false_iff_ne];omega
   have e7:(kd==7)=false:=by rw [beq_eq_false_iff_ne];omega
   have e8:(kd==8)=false:=by rw [beq_eq_false_iff_ne];omega
   have e9:(kd==9)=false:=by rw [beq_eq_false_iff_ne];omega
   have e10:(kd==10)=false:=by rw [beq_eq_false_iff_ne];omega
   clear hcl q1 q2 hk;go_wp2_with fail;go_ret;exact ⟨rfl,lv,cs,by omega,qa h0⟩
theorem looks_any (wb:Nat) (lv:Value) (W:World) (h:W.heap[wb]?=some (.cells (wldA lv) 116)) :
  Calls Tryz.prog 59 #[.pointer (some ⟨wb,0,none⟩)] W fun e W'=>e=.returned (.bool true)/\W'=W:=by
 have c1:W.cell? ⟨wb,1,none⟩=some (.slice none 0 0):=by rw [qm h];rfl
 have c3:W.cell? ⟨wb,3,none⟩=some (.slice none 0 0):=by rw [qm h];rfl
 clear h;go_enter Tryz.func59,Tryz.ntmps59;go_wp2_with fail;go_loopg [3,4] 0 (fun g i k wr=>i=.int .i64 0/\wr=W)
 case atStart=>exact ⟨rfl,rfl⟩
 case round =>
  obtain ⟨rfl,rfl⟩:=hrel;go_wp2_with fail;go_loopg [5,6] 0 (fun g i k wr'=>i=.int .i64 0/\wr'=wr)
  case atStart=>exact ⟨rfl,rfl⟩
  case round =>
   obtain ⟨rfl,hww⟩:=hrel;have hww':=hww.symm;subst hww';clear hww;go_wp2_with fail;go_ret;exact ⟨rfl,rfl⟩
theorem kings_five:(readS kingsB).map (fun p=>(posCan p,pathsN 1 (posZ p) p.white (fcN p.castle) p.behind))=some (true,5):=by decide +kernel
theorem kings_end {e:Ending} (h:PrfEnd kingsB 1 1 e):e=.returned (.tuple #[.int .u64 5,.int .i64 0]):=by
 obtain ⟨p,hr,hp⟩:=Option.map_eq_some_iff.1 kings_five;have hc:posCan p=true:=congrArg Prod.fst hp;have h5:pathsN 1 (posZ p) p.white (fcN p.castle) p.behind=5:=congrArg Prod.snd hp;rcases h with ⟨k',(a|⟨p,_,_,a,_⟩|⟨p,_,_,_,a,_⟩),rfl⟩|⟨q,m',a,b,e',_,_,rfl⟩
 ·exact (qqc a hr hc).elim
 ·exact (a ⟨by omega,by omega⟩).elim
 ·exact (a (.inl rfl)).elim
 ·rw [hr] at a;obtain rfl:m'=1:=by omega
  obtain rfl:=Option.some.inj a;rw [h5];rfl
def OpsIn (W:World) (a:Option Addr) (len:Nat):Prop :=
 ∀ i,i<len->∃ sb so,a=some ⟨sb,so,none⟩/\∃ (kd ca nn wy:Int) (fen s:ByteArray),fen.size<4294967281 ∧ -9223372036854775808<=ca/\ca<=9223372036854775807/\∀ r v,(opA kd ca fen s nn wy)[r]?=some v->W.cell? ⟨sb,so+i*6+r,none⟩=some v
theorem script_any (a:Option Addr) (len cap:Nat) (hlen:len<=4294967295) (m:Int) (w:World) (hc:Ct m w) (htb:Tabs w) (ho:OpsIn w a len) :
  Calls Tryz.prog 32 #[.slice a len cap,.int .i64 2] w fun e w'=>e=.returned (.bool true)/\Gr w w':=by
 have hwt:=jj hc htb;have hsu:Hid (∀ W,Gr w W->Calls Tryz.prog 17 #[] W fun e w'=>e=.returned (.bool true)/\Gr W w'):=hide fun W g=>sure_any m W (hc.gr g) (htb.gr g)
 have hnew:Hid (∀ W,Gr w W->Calls Tryz.prog 33 #[.int .i64 1] W fun e w'=>(∃ bc g,e=.returned (.tuple #[.pointer (some ⟨bc,0,none⟩),.int .i64 0])/\CacI bc g 1 w'/\w.heap.size<=bc/\w.heap.size<=g)/\Gr w w'):=hide fun W g=>(newC_any 1 (by decide) W (hwt.gr g)).mono fun e w' k=>by
  obtain ⟨⟨bc,q,k1,k2,k3,k4⟩,k5⟩:=k;have:=Below.size g;exact ⟨⟨bc,q,k1,k2,by omega,by omega⟩,Gr.trans g k5⟩
 have hkp:Hid (∀ bc g W,w.heap.size<=bc->w.heap.size<=g->CacI bc g 1 W->Gr w W->Calls Tryz.prog 34 #[.pointer (some ⟨bc,0,none⟩),.string kingsB,.int .i64 1,.int .i64 1] W fun e w'=>e=.returned (.tuple #[.int .u64 5,.int .i64 0])/\Gr w w'):=hide fun bc g W h1 h2 hC hg =>
  (perft_any bc g 1 kingsB (by decide) 1 1 m W (hc.gr hg) (htb.gr hg) hC (hwt.lt h1)).mono fun e w' q=>⟨kings_end q.1,(Fx.trans (Fx.of hg) q.2.1).gr h2⟩
 have hst:Hid (∀ (kd ca:Int) (hk:kd<=2) (hc1:-9223372036854775808<=ca) (hc2:ca<=9223372036854775807) (fen s:ByteArray) (hs:fen.size<4294967281) (nn wy:Int) (wb:Nat) (lv:Value) (cs:List Cc) (hcs:cs.length<=4294967296) (W:World) (hwb:w.heap.size<=wb) (h:Wi wb lv cs w W),Calls Tryz.prog 58 #[.pointer (some ⟨wb,0,none⟩),.agg (opA kd ca fen s nn wy)] W fun e W'=>e=.returned (.bool true)/\∃ lv' cs',cs'.length<=cs.length+1/\Wi wb lv' cs' w W'):=hide fun kd ca hk hc1 hc2 fen s hs nn wy wb lv cs hcs W hwb h=>lstep_any kd ca hk hc1 hc2 fen s hs nn wy wb lv cs hcs m w W hc htb hwb h
 have ho':=hide ho;have x1:=heap_alloc_new w (.cells (wldA (.slice none 0 0)) 116);have hg1:Gr w (w.alloc (.cells (wldA (.slice none 0 0)) 116)):=(Gr.refl w).alloc _ _;clear ho hc htb hwt;go_enter Tryz.func32,Tryz.ntmps32;generalize hF:(⟨#[52,107,51,47,56,47,56,47,56,47,56,47,56,47,56,47,52,75,51,32,119,32,45,32,45,32,48,32,49]⟩:ByteArray)=F;rw [show kingsB=F from hF] at hkp;clear hF;go_upto_region 2 with fail;show Code.wp _ _ _ _ (w.alloc (.cells (wldA (.slice none 0 0)) 116));generalize w.alloc (.cells (wldA (.slice none 0 0)) 116)=w1 at x1 hg1 ⊢;have hW1:Hid (Wi w.heap.size (.slice none 0 0) [] w w1):=hide ⟨x1,World.ownsRow_nil _ _ _ _,fun _ hm=>absurd hm List.not_mem_nil,List.Pairwise.nil,hg1⟩;obtain ⟨B,hBB⟩:∃ B,B=w.heap.size:=⟨_,rfl⟩;have hB:w.heap.size<=B:=by omega
 rw [<-hBB] at x1 hW1 ⊢;clear hBB;clear x1;go_upto_region 5 with (go_at_call 17;refine (qa hsu _ hg1).mono ?_;rintro e w2 ⟨rfl,hg2⟩);have hW2:=hide ((qa hW1).gr' hg2);clear hW1 hg1 hg2 hsu;go_wp2_with fail;go_loopg [6,7] len (fun gk ok i wr=>∃ k:Nat,k+gk=len/\i=.int .i64 (k:Int)/\ok=.bool true/\∃ lv cs,cs.length<=k/\Wi B lv cs w wr)
 case atStart=>exact ⟨0,by omega,rfl,rfl,_,[],by simp,qa hW2⟩
 case round =>
  obtain ⟨k,k1,rfl,rfl,lv,cs,hl,hwi⟩:=hrel;have hW:=hide hwi;clear hwi hW2;by_cases hlt:k<len
  ·obtain ⟨sb,so,rfl,kd,ca,nn,wy,fen,s,hf,q1,q2,hcell⟩:=qa ho' k hlt;have at':∀ r v,(opA kd ca fen s nn wy)[r]?=some v->wr.cell? ⟨sb,so+k*6+r,none⟩=some v:=fun r v hv=>(Below.cell (qa hW).gr (World.block_lt_of_cell? _ _ (hcell r v hv))).trans (hcell r v hv)
   have d0:wr.cell? ⟨sb,so+k*6,none⟩=some (.int .i64 kd):=at' 0 _ rfl;have d1:wr.cell? ⟨sb,so+k*6+1,none⟩=some (.int .i64 ca):=at' 1 _ rfl;have d2:wr.cell? ⟨sb,so+k*6+2,none⟩=some (.string fen):=at' 2 _ rfl;have d3:wr.cell? ⟨sb,so+k*6+3,none⟩=some (.string s):=at' 3 _ rfl;have d4:wr.cell? ⟨sb,so+k*6+4,none⟩=some (.int .i64 nn):=at' 4 _ rfl;have d5:wr.cell? ⟨sb,so+k*6+5,none⟩=some (.int .i64 wy):=at' 5 _ rfl;have k0:(0:Int)<=(k:Int):=by omega
   have kl:(k:Int)<(len:Int):=by omega
   clear hcell at' ho';by_cases hkd:kd<=2
   ·have hkd':¬ (2<kd):=by omega
    have hst':=hide (qa hst kd ca hkd q1 q2 fen s hf nn wy B lv cs (by omega) wr hB (qa hW));clear hst hkd q1 q2 hf hnew hkp hW
    go_wp2_with (first
     | (go_at_call 58;refine (qa hst').mono ?_;rintro e w3 ⟨rfl,lv',cs',hl',hwi'⟩)
     | (go_at_call 59;refine (looks_any B lv' _ hwi'.wb).mono ?_;rintro e w4 ⟨rfl,hww⟩;have hww':=hww.symm;subst hww';clear hww))
    go_roundg (gk-1)
    case measure=>omega
    case rel=>exact ⟨k+1,by omega,by go_num,rfl,lv',cs',by omega,hwi'⟩
   ·have hkd':2<kd:=by omega
    clear hst hkd q1 q2 hf hnew hkp;go_wp2_with fail;go_roundg (gk-1)
    case measure=>omega
    case rel=>exact ⟨k+1,by omega,by go_num,rfl,lv,cs,by omega,qa hW⟩
  ·have ek:k=len:=by omega
   have hg5:=(qa hW).gr;subst ek;clear hst ho'
   go_wp2_with (first
    | (go_at_call 33;refine (qa hnew _ hg5).mono ?_;rintro e w5 ⟨⟨bc,g,rfl,hC,hb1,hb2⟩,hg6⟩)
    | (go_at_call 34;refine (qa hkp bc g _ hb1 hb2 hC hg6).mono ?_;rintro e w6 ⟨rfl,hg7⟩))
   go_ret;exact ⟨rfl,hg7⟩
theorem perfts_any (a:Option Addr) (len cap:Nat) (hlen:len<=4294967295) (m:Int) (w:World) (hc:Ct m w) (htb:Tabs w) (ho:OpsIn w a len) :
  Calls Tryz.prog 10 #[.slice a len cap] w fun e w'=>e=.returned (.bool true)/\Gr w w':=by
 have h:=hide (script_any a len cap hlen m w hc htb ho);clear hc htb ho;go_enter Tryz.func10,Tryz.ntmps10;go_wp2_with (go_at_call 32;refine (qa h).mono ?_;rintro e w' ⟨rfl,hg⟩);go_ret;exact ⟨rfl,hg⟩
end Go.Proofs.YtnfakamfmkhlbaaGreatDoor.C
