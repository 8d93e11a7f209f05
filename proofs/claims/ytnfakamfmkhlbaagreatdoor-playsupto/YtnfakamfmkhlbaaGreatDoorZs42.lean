import Derived.Test.YtnfakamfmkhlbaaGreatDoorZs41
import Derived.Test.YtnfakamfmkhlbaaGreatDoorZs38
import Derived.Test.YtnfakamfmkhlbaaGreatDoorZs34
import Derived.Test.YtnfakamfmkhlbaaGreatDoorKz2
set_option maxRecDepth 100000
set_option maxHeartbeats 4000000
set_option linter.unusedSimpArgs false
namespace Go.Proofs.YtnfakamfmkhlbaaGreatDoor.C
open Go.ChangeShapes Go.WideShapes Go.ChangeAt Go.RowKit Go.Shelf
open Go.Proofs.YtnfakamfmkhlbaaGreatDoor.P
attribute [local go_sem] qd qi Oper.semAt_some
theorem infoMr:(Tryz.prog.info? 171).map (fun i=>(i.zero,i.size,i.bytes))=some (some (.agg #[.int .i64 0,.int .i64 0,.int .u8 0]),3,24):=by kernel_rfl
def Mrs (base:Nat) (v:Value) (xs:List Mv) (w:World):Prop:=w.ownsRow base 171 3 v xs.length (rowM xs)
theorem mrs_block {base:Nat} {v:Value} {l:List Mv} {w:World} (h:Mrs base v l w):∀ k,v.ownBlock=some k->base<=k:=by
 intro k hk;rcases h.2 with ⟨rfl,_⟩|⟨g,cap,cur,rfl,hb,_⟩
 ·simp [Value.ownBlock] at hk
 ·obtain rfl:g=k:=by simpa [Value.ownBlock] using hk
  exact hb
theorem u5_at {q:Nat} (hq:q<5):U5.getD q 0∈U5/\U5.take (q+1)=U5.take q++[U5.getD q 0]:=by
 have:q=0\/q=1\/q=2\/q=3\/q=4:=by omega
 rcases this with rfl|rfl|rfl|rfl|rfl<;>decide
theorem upT5_len (z:Nat->UInt8) (wh:Bool) (fc:Nat->Bool) (b:Int) (f t n:Nat):(upT5 z wh fc b f t n).length<=5:=by
 unfold upT5;rw [List.length_map];refine Nat.le_trans (List.length_filter_le _ _) ?_;rw [List.length_take];exact Nat.le_trans (Nat.min_le_right _ _) (Nat.le_refl 5)
theorem flat_le {α β:Type} (F:α->List β) (c:Nat) (h:∀ a,(F a).length<=c):∀ l:List α,(l.flatMap F).length<=l.length*c
 | []=>by simp
 | a :: r=>by
   rw [List.flatMap_cons,List.length_append,List.length_cons,Nat.add_mul];have:=flat_le F c h r;have:=h a;omega
theorem upK_len (z:Nat->UInt8) (wh:Bool) (fc:Nat->Bool) (b:Int) (f n:Nat):(upK z wh fc b f n).length<=n*5:=by
 have:=flat_le (fun k=>upT5 z wh fc b f (sqF k) (moR z f (sqF k))) 5 (fun k=>upT5_len z wh fc b f _ _) (List.range n);rw [List.length_range] at this;exact this
theorem upI_len (z:Nat->UInt8) (wh:Bool) (fc:Nat->Bool) (b:Int) (n:Nat):(upI z wh fc b n).length<=n*320:=by
 have:=flat_le (fun i=>if coc (z (sqF i))=sdb wh then upK z wh fc b (sqF i) 64 else []) 320 (fun i=>by
  split
  ·exact Nat.le_trans (upK_len z wh fc b _ 64) (by omega)
  ·simp) (List.range n)
 rw [List.length_range] at this;exact this
theorem lastR_is (t:Nat):lastR t=(((t:Int)/8==0)||((t:Int)/8==7)):=by
 unfold lastR
 have e0:decide (t/8=0)=((t:Int)/8==0):=by
  by_cases q:t/8=0
  ·rw [decide_eq_true q];symm;rw [beq_iff_eq];omega
  ·rw [decide_eq_false q];symm;rw [beq_eq_false_iff_ne];omega
 have e7:decide (t/8=7)=((t:Int)/8==7):=by
  by_cases q:t/8=7
  ·rw [decide_eq_true q];symm;rw [beq_iff_eq];omega
  ·rw [decide_eq_false q];symm;rw [beq_eq_false_iff_ne];omega
 rw [e0,e7]
theorem qzq {β:Type} (F:Nat->List β) (n:Nat):(List.range (n+1)).flatMap F=(List.range n).flatMap F++F n:=by
 rw [List.range_succ,List.flatMap_append];simp
theorem upT5_succ (z:Nat->UInt8) (wh:Bool) (fc:Nat->Bool) (b:Int) (f t q:Nat) (hq:q<5):upT5 z wh fc b f t (q+1)=upT5 z wh fc b f t q++(if legR z wh fc b f t (U5.getD q 0) then [(f,t,U5.getD q 0)] else []):=by
 unfold upT5;rw [(u5_at hq).2,List.filter_append,List.map_append];congr 1;by_cases h:legR z wh fc b f t (U5.getD q 0)=true
 ·rw [List.filter_cons_of_pos h,if_pos h];rfl
 ·rw [List.filter_cons_of_neg h,if_neg h];rfl
theorem allR_any {z:Nat->UInt8} {wh:Bool} {fc:Nat->Bool} {b h g:Int} {PA:Array Value} (r:Row z wh fc b h g PA) (hC:Can z wh fc b) (hb0:-1<=b) (hb1:b<=63) (h0:0<=h) (h1:h<=65535) (g0:0<=g) (g1:g<=65535) (w:World) :
  Calls Tryz.prog 95 #[.agg PA] w fun e w'=>∃ v,e=.returned v/\Mrs w.heap.size v (allR z wh fc b) w'/\Gr w w':=by
 obtain ⟨i0,hi,hz0,hz1,hz2⟩:=info_parts infoMr;have hi':=hide hi;clear hi;have hz:=r.size;have htu:=hide (fun W=>zn r W);have hsq:=hide r.sq;have hco:=hide (fun (n:Nat) W=>jo (z n) W);have hkd:=hide (fun (n:Nat) W=>zu (z n) W);have hle:=hide (fun (f t:Nat) (hf:f<64) (ht:t<64) (u:UInt8) (hu:u∈U5) W=>qzz r hC hb0 hb1 h0 h1 g0 g1 f t hf ht u hu W);have hbw:Hid ((w.alloc (.cells PA 25)).heap[w.heap.size]?=some (.cells PA 25)/\w.heap.size<(w.alloc (.cells PA 25)).heap.size):=hide ⟨heap_alloc_new _ _,by rw [World.size_alloc];omega⟩;have hg0:Hid (Gr w (w.alloc (.cells PA 25))):=hide ((Gr.refl w).alloc _ _);clear r hC;go_enter Tryz.func95,Tryz.ntmps95;go_upto_region 2 with fail;generalize hW0:w.alloc (.cells PA 25)=w0 at hbw hg0 ⊢;have hpa:Hid (∀ W,Gr w0 W->W.heap[w.heap.size]?=some (.cells PA 25)):=hide (fun W g=>(Below.block g _ (qa hbw).2).trans (qa hbw).1);clear hW0 hbw;go_wp2_with fail;go_loopg [3,4] 64 (fun gm v i wr=>∃ d:Nat,d+gm=64/\i=.int .i64 (d:Int)/\Mrs w0.heap.size v (upI z wh fc b d) wr/\Gr w0 wr)
 case atStart=>exact ⟨0,by omega,rfl,⟨rfl,.inl ⟨rfl,rfl⟩⟩,Gr.refl _⟩
 case round =>
  obtain ⟨d,d1,rfl,hst,hgr⟩:=hrel;have hst':=hide hst;have hgr':=hide hgr;clear hst hgr;obtain ⟨go1,hgo1⟩:∃ x,x=gk:=⟨_,rfl⟩;subst hgo1;by_cases hd:d<64
  ·obtain ⟨f,hfd⟩:∃ f,Hid (f=sqF d):=⟨_,hide rfl⟩;have hf:f<64:=by rw [qa hfd];exact qzj d hd
   have e1:IntKind.i64.wrap ((d:Int)%8*8)=(d:Int)%8*8:=by rw [IntKind.wrap_i64];omega
   have e2:IntKind.i64.wrap ((d:Int)%8*8+(d:Int)/8)=(f:Int):=by
    have:=qa hfd;unfold sqF at this;rw [IntKind.wrap_i64];omega
   have f0:(0:Int)<=(f:Int):=by omega
   have f1:(f:Int)<64:=by omega
   obtain ⟨CB,hCB⟩:∃ x,Hid ((coc (z f) != sdb wh)=x):=⟨_,hide rfl⟩;have hcb:(coc (z f) != sdb wh)=CB:=qa hCB;go_upto_region 6 with fail;have hHeld0:RowAt w.heap.size PA wr.drew/\Gr w0 wr.drew:=⟨(rowOf (qa hpa _ (qa hgr'))).gr (Gr.refl _).drew,(qa hgr').drew⟩;refine wp_region_held_drew (S:=fun W=>RowAt w.heap.size PA W/\Gr wr W) (by kernel_rfl) ⟨hHeld0.1,(Gr.refl _).drew⟩ (fun hHeld=>?_);clear hHeld0;refine C.ty 0 (.int .i64 (f:Int)) rfl (Or.inl ⟨by rfl,fun w hw=>(by have cw:=hw.1.at' (qa hsq f hf);go_simp)⟩) hHeld ?_;refine C.ty 1 (.pointer (some ⟨w.heap.size,0,none⟩)) rfl (Or.inl ⟨by rfl,fun w hw=>(by have cw:=hw.1.at' (qa hsq f hf);go_simp)⟩) hHeld ?_;refine C.ty 2 (.pointer (some ⟨w.heap.size,f,none⟩)) rfl (Or.inl ⟨by rfl,fun w hw=>(by have cw:=hw.1.at' (qa hsq f hf);go_simp)⟩) hHeld ?_;refine C.ty 3 (.int .u8 ((z f).toNat:Int)) rfl (Or.inl ⟨by rfl,fun w hw=>(by have cw:=hw.1.at' (qa hsq f hf);go_simp)⟩) hHeld ?_;refine C.ty 5 (.agg PA) rfl (zd hz (by rfl) _ rfl w.heap.size rfl (fun _ h=>h.1)) hHeld ?_;refine C.rd 4 fun K hK=>?_
   go_simp;refine (qa hco f _).mono ?_;rintro e wa ⟨rfl,hww⟩;subst hww;refine hK.out _ _ hHeld (fun hHeld=>?_);clear hK K
   try simp only [C.py]
   refine C.rd 6 fun K hK=>?_
   go_simp;refine (qa htu _).mono ?_;rintro e wb ⟨rfl,hgb⟩;refine hK.out _ _ ⟨hHeld.1.gr hgb,Gr.trans hHeld.2 hgb⟩ (fun hHeld=>?_);clear hK K hgb
   try simp only [C.py]
   refine C.tq 7 (.bool CB) hHeld ?_;refine wpAnyH_done (by kernel_rfl) ?_ _;have hg6:=hide (Gr.trans (qa hgr') hHeld.2);have hst6:=hide (owns_gr (qa hst') hHeld.2);clear hHeld hst' hgr' hcb;have hup:Hid (upI z wh fc b (d+1)=upI z wh fc b d++(if coc (z f)=sdb wh then upK z wh fc b f 64 else [])):=hide (by unfold upI;rw [qzq,qa hfd]);clear hfd e1 e2;cases CB
   ·have hcm:coc (z f)=sdb wh:=by simpa using qa hCB
    have hup2:Hid (upI z wh fc b (d+1)=upI z wh fc b d++upK z wh fc b f 64):=hide (by rw [qa hup,if_pos hcm]);clear hup hcm hCB;obtain ⟨X,hX⟩:∃ x,Hid (upI z wh fc b d=x):=⟨_,hide rfl⟩;have hXl:X.length<=d*320:=by rw [<-qa hX];exact upI_len z wh fc b d
    rw [qa hX] at hst6 hup2;clear hX;go_wp2_with fail;go_loopg [3,6] 64 (fun gm v kk wr=>∃ e:Nat,e+gm=64/\kk=.int .i64 (e:Int)/\Mrs w0.heap.size v (X++upK z wh fc b f e) wr/\Gr w0 wr)
    case atStart=>exact ⟨0,by omega,rfl,by rw [show upK z wh fc b f 0=[] from rfl,List.append_nil];exact qa hst6,qa hg6⟩
    case round =>
     clear hst6 hg6;obtain ⟨e,k1,rfl,hst,hgr⟩:=hrel;have hst':=hide hst;have hgr':=hide hgr;clear hst hgr;obtain ⟨go2,hgo2⟩:∃ x,x=gk:=⟨_,rfl⟩;subst hgo2;by_cases he:e<64
     ·obtain ⟨t,htd⟩:∃ t,Hid (t=sqF e):=⟨_,hide rfl⟩;have ht:t<64:=by rw [qa htd];exact qzj e he
      have e1:IntKind.i64.wrap ((e:Int)%8*8)=(e:Int)%8*8:=by rw [IntKind.wrap_i64];omega
      have e2:IntKind.i64.wrap ((e:Int)%8*8+(e:Int)/8)=(t:Int):=by
       have:=qa htd;unfold sqF at this;rw [IntKind.wrap_i64];omega
      obtain ⟨MO,hMO⟩:∃ x,Hid (moR z f t=x):=⟨_,hide rfl⟩;have hMO5:MO<=5:=by rw [<-qa hMO];unfold moR;split<;>omega
      have hup3:Hid (upK z wh fc b f (e+1)=upK z wh fc b f e++upT5 z wh fc b f t MO):=hide (by unfold upK;rw [qzq,<-qa hMO,qa htd]);obtain ⟨Y,hY⟩:∃ x,Hid (upK z wh fc b f e=x):=⟨_,hide rfl⟩;have hYl:Y.length<=e*5:=by rw [<-qa hY];exact upK_len z wh fc b f e
      rw [qa hY] at hst' hup3;clear hY htd;obtain ⟨MB,hMB⟩:∃ x,Hid ((decide (kdc (z f)=0)&&lastR t)=x):=⟨_,hide rfl⟩;have cf:wr.cell? ⟨w.heap.size,f,none⟩=some (.int .u8 ((z f).toNat:Int)):=by rw [qm (qa hpa _ (qa hgr'))];exact qa hsq f hf
      obtain ⟨KD,hKD⟩:∃ x,Hid (kdc (z f)=x):=⟨_,hide rfl⟩;have hkf:=hide (qa hkd f);rw [qa hKD] at hkf hMB;have hl0:Hid (lastR t=(((t:Int)/8==0)||((t:Int)/8==7))):=hide (lastR_is t);go_upto_region 12 with fail;clear e1 e2;go_cut [55] from 30 to 73 (fun s55 wx=>s55=.bool MB/\wx=wr)
      case first =>
       obtain ⟨y1,q1⟩:∃ x,((t:Int)/8==0)=x:=⟨_,rfl⟩;obtain ⟨y2,q2⟩:∃ x,((t:Int)/8==7)=x:=⟨_,rfl⟩;rw [q1,q2] at hl0;by_cases k0:KD=0
       ·have hk6:(KD==0)=true:=beq_iff_eq.2 k0;have hx:Hid (MB=(y1||y2)):=hide (by rw [<-qa hMB,decide_eq_true k0,qa hl0,Bool.true_and]);clear k0 hMB hl0 hle hco htu hkd;cases y1
        ·go_wp2_with (go_at_call 86;refine (qa hkf _).mono ?_;rintro e w' ⟨rfl,hww⟩;have hww':=hww.symm;subst hww';clear hww);go_meet
         case rel=>exact ⟨by rw [qa hx];rfl,rfl⟩
        ·go_wp2_with (go_at_call 86;refine (qa hkf _).mono ?_;rintro e w' ⟨rfl,hww⟩;have hww':=hww.symm;subst hww';clear hww);go_meet
         case rel=>exact ⟨by rw [qa hx];rfl,rfl⟩
       ·have hk6:(KD==0)=false:=by rw [beq_eq_false_iff_ne];exact k0
        have hx:Hid (MB=false):=hide (by rw [<-qa hMB,decide_eq_false k0];rfl);clear k0 hMB hl0 hle hco htu hkd;go_wp2_with (go_at_call 86;refine (qa hkf _).mono ?_;rintro e w' ⟨rfl,hww⟩;have hww':=hww.symm;subst hww';clear hww);go_meet
        case rel=>exact ⟨by rw [qa hx],rfl⟩
      case rest =>
       obtain ⟨rfl,hww⟩:=hcut;subst hww;clear cf hkf hl0;go_upto_if 55 with fail;go_cut [8] from 56 to 73 (fun s8 wx=>s8=.int .i64 (MO:Int)/\wx=wc)
       case first =>
        cases MB
        ·have hx:Hid (MO=1):=hide (by
          rw [<-qa hMO];unfold moR;rw [qa hKD,if_neg];rintro ⟨pp1,pp2⟩;have:=qa hMB;rw [decide_eq_true pp1,pp2] at this;cases this)
         go_wp2_with fail;go_meet
         case rel=>exact ⟨by rw [qa hx];rfl,rfl⟩
        ·have hx:Hid (MO=5):=hide (by
          rw [<-qa hMO];unfold moR;rw [qa hKD,if_pos];have:=qa hMB;rw [Bool.and_eq_true,decide_eq_true_eq] at this;exact this)
         go_wp2_with fail;go_meet
         case rel=>exact ⟨by rw [qa hx];rfl,rfl⟩
       case rest =>
        obtain ⟨rfl,hww⟩:=hcut;subst hww;clear hMB hMO hKD;go_wp2_with fail;go_loopg [3,9] MO (fun gm v qq wr=>∃ n:Nat,n+gm=MO/\qq=.int .i64 (n:Int)/\Mrs w0.heap.size v (X++Y++upT5 z wh fc b f t n) wr/\Gr w0 wr)
        case atStart=>exact ⟨0,by omega,rfl,by rw [show upT5 z wh fc b f t 0=[] from rfl,List.append_nil];exact qa hst',qa hgr'⟩
        case round =>
         clear hst' hgr';obtain ⟨n,n1,rfl,hst,hgr⟩:=hrel;have hst':=hide hst;have hgr':=hide hgr;clear hst hgr;by_cases hn:n<MO
         ·obtain ⟨u,hud⟩:∃ u,Hid (u=U5.getD n 0):=⟨_,hide rfl⟩;have hu5:u∈U5:=by rw [qa hud];exact (u5_at (by omega)).1
          obtain ⟨LG,hLG⟩:∃ x,Hid (legR z wh fc b f t u=x):=⟨_,hide rfl⟩;have hup4:Hid (upT5 z wh fc b f t (n+1)=upT5 z wh fc b f t n++(if LG then [(f,t,u)] else [])):=hide (by rw [upT5_succ z wh fc b f t n (by omega),<-qa hLG,qa hud]);have hlg:Hid (∀ W,Calls Tryz.prog 157 #[.agg PA,.agg #[.int .i64 (f:Int),.int .i64 (t:Int),.int .u8 (u.toNat:Int)]] W fun e w'=>e=.returned (.bool LG)/\Gr W w'):=hide (fun W=>by rw [<-qa hLG];exact qa hle f t hf ht u hu5 W)
          have hix:∀ W:World,(Instr.index 9 (.string ⟨#[0,98,110,113,114]⟩) (.int .i64 (n:Int))).run Tryz.prog W=.ok (.int .u8 (u.toNat:Int)) W:=by
           have hn5:n=0\/n=1\/n=2\/n=3\/n=4:=by omega
           have hh:=qa hud;intro W;rcases hn5 with rfl|rfl|rfl|rfl|rfl<;>(rw [hh];rfl)
          have nl:(n:Int)<(MO:Int):=by omega
          have hZl:(upT5 z wh fc b f t n).length<=5:=upT5_len z wh fc b f t n;obtain ⟨Z,hZ⟩:∃ x,Hid (upT5 z wh fc b f t n=x):=⟨_,hide rfl⟩;rw [qa hZ] at hst' hup4 hZl;clear hud hLG hZ;have hga:Hid (Gr wr (wr.alloc (.cells #[.int .i64 (f:Int),.int .i64 (t:Int),.int .u8 (u.toNat:Int)] 171))):=hide ((Gr.refl _).alloc _ _);go_upto_region 18 with fail;show Code.wp _ _ _ _ (wr.alloc (.cells #[.int .i64 (f:Int),.int .i64 (t:Int),.int .u8 (u.toNat:Int)] 171));have hx:=World.alloc_heap_new wr (.cells #[.int .i64 (f:Int),.int .i64 (t:Int),.int .u8 (u.toNat:Int)] 171);generalize (wr.alloc (.cells #[.int .i64 (f:Int),.int .i64 (t:Int),.int .u8 (u.toNat:Int)] 171))=wm at hga hx ⊢;generalize wr.heap.size=Bm at hx ⊢;have y0:wm.cell? ⟨Bm,0,none⟩=some (.int .i64 (f:Int)):=by rw [qm hx];rfl
          have y1:wm.cell? ⟨Bm,1,none⟩=some (.int .i64 (t:Int)):=by rw [qm hx];rfl
          have y2:wm.cell? ⟨Bm,2,none⟩=some (.int .u8 (u.toNat:Int)):=by rw [qm hx];rfl
          have hbl:Bm<wm.heap.size:=World.block_lt_of_cell? _ _ y0;have hga0:=hide (Gr.trans (qa hgr') (qa hga));have hrow:=hide (rowOf (qa hpa _ (qa hga0)));clear hx hix hle hco hkd htu hsq
          go_upto_if 69 with (first
           | (go_at_call 157;refine (qa hlg _).mono ?_;rintro e w2 ⟨rfl,hg2⟩)
           | (refine ql (by rfl) _ rfl w.heap.size rfl hz (qa hrow) ?_))
          have hg3:=Gr.trans (qa hga0) hg2;have hst2:=hide (owns_gr (qa hst') (Gr.trans (qa hga) hg2));have y0:=(Below.cell hg2 (p:=⟨Bm,0,none⟩) hbl).trans y0;have y1:=(Below.cell hg2 (p:=⟨Bm,1,none⟩) hbl).trans y1;have y2:=(Below.cell hg2 (p:=⟨Bm,2,none⟩) hbl).trans y2;have hs3:=Below.size hg3;have hg3':=hide hg3;clear hg2 hga hga0 hgr' hst' hrow hlg hbl hg3;cases LG
          ·have hst4:Hid (Mrs w0.heap.size u3 (X++Y++upT5 z wh fc b f t (n+1)) w2):=hide (by rw [qa hup4,if_neg (by simp),List.append_nil];exact qa hst2);clear hst2;go_wp2_with fail;go_roundg (gk-1)
           case measure=>omega
           case rel=>exact ⟨n+1,by omega,by go_num,qa hst4,qa hg3'⟩
          ·have hcl:∀ j u',[Value.int .i64 (f:Int),.int .i64 (t:Int),.int .u8 (u.toNat:Int)][j]?=some u'->(w2.alloc (.cells #[.int .i64 (f:Int),.int .i64 (t:Int),.int .u8 (u.toNat:Int)] 171)).cell? ((⟨w2.heap.size,0,none⟩:Addr).add j)=some u':=fun j u' hu=>by
            rw [Addr.add_lit,Nat.zero_add,World.cell?_alloc_at _ _ _ _ rfl,<-Array.getElem?_toList];exact hu
           have hlen:(X++Y++Z).length<=20805:=by rw [List.length_append,List.length_append];omega
           obtain ⟨XX,hXX⟩:∃ x,Hid (X++Y++Z=x):=⟨_,hide rfl⟩;rw [qa hXX] at hst2 hlen;have hup5:Hid (X++Y++upT5 z wh fc b f t (n+1)=XX++[(f,t,u)]):=hide (by rw [qa hup4,if_pos rfl,<-List.append_assoc,qa hXX]);clear hup4 hXX;go_wp2_with (at_builtin;refine wpList_append_own _ rfl (.tmp 70) (.tmp 72) 169 rfl w0.heap.size 171 i0 (.agg #[.int .i64 0,.int .i64 0,.int .u8 0]) 3 24 Tryz.underlying169 (qa hi') hz0 hz1 hz2 rfl (by decide) u3 XX.length (rowM XX) rfl ((qa hst2).alloc _) ⟨w2.heap.size,0,none⟩ 1 1 [.int .i64 (f:Int),.int .i64 (t:Int),.int .u8 (u.toNat:Int)] rfl rfl hcl (by simp [Value.oneCell']) (by unfold maxLen;omega) (by omega) (by simp;omega) ?_;intro v' w3 hown' hgrow hnil);go_roundg (gk-1)
           case measure=>omega
           case rel =>
            refine ⟨n+1,by omega,by go_num,?_,?_⟩
            ·unfold Mrs;rw [qa hup5,rowM_snoc,List.length_append];exact hown'
            ·exact ((qa hg3').alloc _ _).grown hgrow (by simp;omega) (mrs_block (qa hst2))
         ·have en:n=MO:=by omega
          subst en;have hst8:Hid (Mrs w0.heap.size u3 (X++upK z wh fc b f (e+1)) wr):=hide (by rw [qa hup3,<-List.append_assoc];exact qa hst');have hnn:¬ ((n:Int)<(n:Int)):=by omega
          clear hst' hup3;go_wp2_with fail;go_roundg (go2-1)
          case measure=>omega
          case rel=>exact ⟨e+1,by omega,by go_num,qa hst8,qa hgr'⟩
     ·have ee:e=64:=by omega
      subst ee;have hst9:Hid (Mrs w0.heap.size u3 (upI z wh fc b (d+1)) wr):=hide (by rw [qa hup2];exact qa hst');clear hst' hup2;go_wp2_with fail;go_roundg (go1-1)
      case measure=>omega
      case rel=>exact ⟨d+1,by omega,by go_num,qa hst9,qa hgr'⟩
   ·have hcm:¬ coc (z f)=sdb wh:=by simpa using qa hCB
    have hst7:Hid (Mrs w0.heap.size u3 (upI z wh fc b (d+1)) wb):=hide (by rw [qa hup,if_neg hcm,List.append_nil];exact qa hst6);clear hcm hCB hup hst6;go_wp2_with fail;go_roundg (go1-1)
    case measure=>omega
    case rel=>exact ⟨d+1,by omega,by go_num,qa hst7,qa hg6⟩
  ·have ed:d=64:=by omega
   subst ed;go_wp2_with fail;go_ret;exact ⟨u3,rfl,qq3 (qa hst') (Below.size (qa hg0)),Gr.trans (qa hg0) (qa hgr')⟩
theorem mrs_form {w:World} {base:Nat} {v:Value} {ys:List Mv} (h:Mrs base v ys w):∃ p cap,v=.slice p ys.length cap/\ys.length<=cap/\∀ i (hy:i<ys.length),∃ g,p=some ⟨g,0,none⟩/\w.cell? ⟨g,i*3,none⟩=some (.int .i64 (ys[i].1:Int))/\w.cell? ⟨g,i*3+1,none⟩=some (.int .i64 (ys[i].2.1:Int))/\w.cell? ⟨g,i*3+2,none⟩=some (.int .u8 (ys[i].2.2.toNat:Int)):=by
 rcases h.2 with ⟨rfl,h0⟩|⟨g,cap,cur,rfl,hb,hg,hn,hm,hcs,htk⟩
 ·have e0:ys.length=0:=h0;exact ⟨none,0,by rw [e0],by omega,fun i hi=>absurd hi (by omega)⟩
 ·refine ⟨_,_,rfl,hn,fun i hy=>⟨g,rfl,?_⟩⟩
  have hj:∀ c,c<3->w.cell? ⟨g,i*3+c,none⟩=(mvC ys[i]).toList[c]?:=fun c hc=>by
   have h1:i*3+c<ys.length*3:=by omega
   simp only [World.cell?];rw [hg];show cur[i*3+c]?=_;rw [<-Array.getElem?_toList,<-List.getElem?_take_of_lt h1,htk,flat_get,show (i*3+c)/3=i by omega,show (i*3+c)%3=c by omega,List.getElem?_eq_getElem hy];rfl
  exact ⟨hj 0 (by decide),hj 1 (by decide),hj 2 (by decide)⟩
theorem sure_any (m:Int) (w:World) (hc:Ct m w) (ht:Tabs w):Calls Tryz.prog 17 #[] w fun e w'=>e=.returned (.bool true)/\Gr w w':=by
 have h1:Hid (∀ n:Int,(n=1\/n=2)->∀ W,Gr w W->Calls Tryz.prog 20 #[.string kingsB,.int .i64 n] W fun e w'=>MoEnd kingsT 0 e w'/\Gr W w'):=hide fun n hn W hg=>kingsMoves n hn m W (hc.gr hg) (ht.gr hg)
 have h3:Hid (∀ (p1 p2:Option Addr) (c1 c2:Nat) (W:World),El p1 kingsT W->El p2 kingsT W->Calls Tryz.prog 42 #[.slice p1 kingsT.length c1,.slice p2 5 c2] W fun e w'=>e=.returned (.bool true)/\Gr W w'):=hide (fun p1 p2 c1 c2 W a b=>qvh kingsT (by decide) p1 p2 c1 c2 W a b);clear hc ht;go_enter Tryz.func17,Tryz.ntmps17;generalize hF:(⟨#[52,107,51,47,56,47,56,47,56,47,56,47,56,47,56,47,52,75,51,32,119,32,45,32,45,32,48,32,49]⟩:ByteArray)=F;rw [show kingsB=F from hF] at h1;clear hF;go_upto_region 2 with (go_at_call 20;refine (qa h1 1 (.inl rfl) _ (Gr.refl _)).mono ?_;rintro e w1 ⟨⟨p1,cap1,rfl,hcap1,hel1⟩,hg1⟩);have hel1':Hid (El p1 kingsT w1):=hide hel1;clear hel1;go_upto_region 3 with (go_at_call 20;refine (qa h1 2 (.inr rfl) _ hg1).mono ?_;rintro e w2 ⟨⟨p2,cap2,rfl,hcap2,hel2⟩,hg2⟩);have hg12:=Gr.trans hg1 hg2;have hel1'':=hide ((qa hel1').gr hg2);have hel2':Hid (El p2 kingsT w2):=hide hel2;clear hel2 hel1' h1 hg1 hg2;go_upto_region 4 with fail;have hx:=World.alloc_heap_new w2 (.cells #[.string ⟨#[101,49,100,49]⟩,.string ⟨#[101,49,100,50]⟩,.string ⟨#[101,49,101,50]⟩,.string ⟨#[101,49,102,49]⟩,.string ⟨#[101,49,102,50]⟩] 9);have hga:=(Gr.refl w2).alloc #[.string ⟨#[101,49,100,49]⟩,.string ⟨#[101,49,100,50]⟩,.string ⟨#[101,49,101,50]⟩,.string ⟨#[101,49,102,49]⟩,.string ⟨#[101,49,102,50]⟩] 9;show Code.wp _ _ _ _ (w2.alloc (.cells #[.string ⟨#[101,49,100,49]⟩,.string ⟨#[101,49,100,50]⟩,.string ⟨#[101,49,101,50]⟩,.string ⟨#[101,49,102,49]⟩,.string ⟨#[101,49,102,50]⟩] 9))
 have hel3:Hid (El (some ⟨w2.heap.size,0,none⟩) kingsT (w2.alloc (.cells #[.string ⟨#[101,49,100,49]⟩,.string ⟨#[101,49,100,50]⟩,.string ⟨#[101,49,101,50]⟩,.string ⟨#[101,49,102,49]⟩,.string ⟨#[101,49,102,50]⟩] 9))):=hide (fun i hi=>⟨_,rfl,by
  rw [qm hx];have h5:i<5:=hi;have:i=0\/i=1\/i=2\/i=3\/i=4:=by omega
  rcases this with rfl|rfl|rfl|rfl|rfl<;>rfl⟩)
 generalize (w2.alloc (.cells #[.string ⟨#[101,49,100,49]⟩,.string ⟨#[101,49,100,50]⟩,.string ⟨#[101,49,101,50]⟩,.string ⟨#[101,49,102,49]⟩,.string ⟨#[101,49,102,50]⟩] 9))=w3 at hga hel3 ⊢;generalize w2.heap.size=b3 at hel3 ⊢;have hg13:=Gr.trans hg12 hga;have ha3:=hide ((qa hel1'').gr hga);have hb3:=hide ((qa hel2').gr hga);clear hx hg12 hga hel1'' hel2';go_upto_region 5 with (go_at_call 42;refine (qa h3 _ _ _ _ _ (qa ha3) (qa hel3)).mono ?_;rintro e w4 ⟨rfl,hg4⟩);have hg14:=Gr.trans hg13 hg4;have hb4:=hide ((qa hb3).gr hg4);have hel4:=hide ((qa hel3).gr hg4);clear hg13 hg4 ha3 hb3 hel3;go_upto_region 6 with (go_at_call 42;refine (qa h3 _ _ _ _ _ (qa hb4) (qa hel4)).mono ?_;rintro e w5 ⟨rfl,hg5⟩);have hg:=hide (Gr.trans hg14 hg5);clear hg14 hg5 hb4 hel4 h3;go_wp2_with fail;go_ret;exact ⟨rfl,qa hg⟩
end Go.Proofs.YtnfakamfmkhlbaaGreatDoor.C
namespace Go.Proofs.YtnfakamfmkhlbaaGreatDoor.C
open Go.ChangeShapes Go.WideShapes Go.ChangeAt Go.RowKit
open Go.Proofs.YtnfakamfmkhlbaaGreatDoor.P
attribute [local go_sem] qd qi
structure Pmm (w:World) (PA:Array Value) (f t:Nat) (u:UInt8) (W:World):Prop where
 pa:W.heap[w.heap.size]?=some (.cells PA 25)
 mv:W.heap[w.heap.size+1]?=some (.cells #[.int .i64 (f:Int),.int .i64 (t:Int),.int .u8 (u.toNat:Int)] 94)
 lt:w.heap.size+1<W.heap.size
 gr:Gr w W
theorem Pmm.next {w W W':World} {PA:Array Value} {f t:Nat} {u:UInt8} (h:Pmm w PA f t u W) (g:Gr W W'):Pmm w PA f t u W' :=
 ⟨(Below.block g _ (Nat.lt_of_succ_lt h.lt)).trans h.pa,(Below.block g _ h.lt).trans h.mv,Nat.lt_of_lt_of_le h.lt (Below.size g),Gr.trans h.gr g⟩
theorem Pmm.start (w:World) (PA:Array Value) (f t:Nat) (u:UInt8):Pmm w PA f t u ((w.alloc (.cells PA 25)).alloc (.cells #[.int .i64 (f:Int),.int .i64 (t:Int),.int .u8 (u.toNat:Int)] 94)):=by
 obtain ⟨e1,e2⟩:=row_at (w:=w) (PA:=PA) (o:=#[.int .i64 (f:Int),.int .i64 (t:Int),.int .u8 (u.toNat:Int)]) (ty:=25) (ty2:=94) (Gr.refl _);exact ⟨e1,e2,by rw [World.size_alloc,World.size_alloc];omega,((Gr.refl w).alloc _ _).alloc _ _⟩
theorem Pmm.cells {w W:World} {PA:Array Value} {f t:Nat} {u:UInt8} (h:Pmm w PA f t u W):W.cell? ⟨w.heap.size+1,0,none⟩=some (.int .i64 (f:Int))/\W.cell? ⟨w.heap.size+1,1,none⟩=some (.int .i64 (t:Int))/\W.cell? ⟨w.heap.size+1,2,none⟩=some (.int .u8 (u.toNat:Int)) :=
 ⟨by rw [qm h.mv];rfl,by rw [qm h.mv];rfl,by rw [qm h.mv];rfl⟩
theorem Pmm.at {w W:World} {PA:Array Value} {f t:Nat} {u:UInt8} (h:Pmm w PA f t u W) {k:Nat} {v:Value} (hv:PA[k]?=some v):W.cell? ⟨w.heap.size,k,none⟩=some v:=by
 rw [qm h.pa];exact hv
def tchB (f t:Nat) (s:Int):Bool:=((f:Int)==s)||((t:Int)==s)
theorem touches_any (f t:Nat) (u:UInt8) (s:Int) (w:World):Calls Tryz.prog 184 #[.agg #[.int .i64 (f:Int),.int .i64 (t:Int),.int .u8 (u.toNat:Int)],.int .i64 s] w fun e w'=>e=.returned (.bool (tchB f t s))/\Gr w w':=by
 have hx:=World.alloc_heap_new w (.cells #[.int .i64 (f:Int),.int .i64 (t:Int),.int .u8 (u.toNat:Int)] 94);have m0:(w.alloc (.cells #[.int .i64 (f:Int),.int .i64 (t:Int),.int .u8 (u.toNat:Int)] 94)).cell? ⟨w.heap.size,0,none⟩=some (.int .i64 (f:Int)):=by rw [qm hx];rfl
 have m1:(w.alloc (.cells #[.int .i64 (f:Int),.int .i64 (t:Int),.int .u8 (u.toNat:Int)] 94)).cell? ⟨w.heap.size,1,none⟩=some (.int .i64 (t:Int)):=by rw [qm hx];rfl
 have hg:=hide ((Gr.refl w).alloc #[.int .i64 (f:Int),.int .i64 (t:Int),.int .u8 (u.toNat:Int)] 94);unfold tchB;obtain ⟨x1,e1⟩:∃ x,((f:Int)==s)=x:=⟨_,rfl⟩;obtain ⟨x2,e2⟩:∃ x,((t:Int)==s)=x:=⟨_,rfl⟩;rw [e1,e2];clear hx;cases x1
 ·go_enter Tryz.func184,Tryz.ntmps184;go_wp2_with fail;go_ret;exact ⟨rfl,qa hg⟩
 ·go_enter Tryz.func184,Tryz.ntmps184;go_wp2_with fail;go_ret;exact ⟨rfl,qa hg⟩
def twoP (f t:Nat):Bool:=decide (upR f t*upR f t=4)
def behA (z:Nat->UInt8) (f t:Nat):Int:=if pawnB (z f)&&twoP f t then (((f+t)/2:Nat):Int) else -1
def halA (z:Nat->UInt8) (f t:Nat) (h:Int):Int:=if pawnB (z f)||!decide (z t=46) then 0 else min (h+1) 65535
def fulA (wh:Bool) (g:Int):Int:=if wh then g else min (g+1) 65535
theorem qj5 {z:Nat->UInt8} {wh:Bool} {fc:Nat->Bool} {b h g:Int} {PA:Array Value} (r:Row z wh fc b h g PA) (f t:Nat) (hf:f<64) (ht:t<64) (u:UInt8) (w:World):Calls Tryz.prog 112 #[.agg PA,.agg #[.int .i64 (f:Int),.int .i64 (t:Int),.int .u8 (u.toNat:Int)]] w fun e w'=>e=.returned (.int .i64 (behA z f t))/\Gr w w':=by
 have hP:=Pmm.start w PA f t u;have hp:=hide (fun W=>je (z f) W);obtain ⟨m0,m1,m2⟩:=hP.cells;have cf:=hP.at (r.sq f hf);have hg:=hide hP.gr;have hf0:(0:Int)<=(f:Int):=by omega
 have hf1:(f:Int)<64:=by omega
 obtain ⟨V,hV⟩:∃ x,Hid (behA z f t=x):=⟨_,hide rfl⟩;rw [qa hV];obtain ⟨PW,hPW⟩:∃ x,Hid (pawnB (z f)=x):=⟨_,hide rfl⟩;rw [qa hPW] at hp;obtain ⟨dd,hdd⟩:∃ x,Hid ((t:Int)/8-(f:Int)/8=x):=⟨_,hide rfl⟩;have hwr:IntKind.i64.wrap ((t:Int)/8-(f:Int)/8)=dd:=by rw [IntKind.wrap_i64];have:=qa hdd;omega
 have hup:upR f t=dd:=by rw [<-qa hdd];unfold upR;omega
 have hb:-7<=dd/\dd<=7:=by have:=qa hdd;omega
 have hsq:-100<=dd*dd/\dd*dd<=100:=by
  obtain ⟨q1,q2⟩:=hb;have h1:dd=-7\/dd=-6\/dd=-5\/dd=-4\/dd=-3\/dd=-2\/dd=-1\/dd=0\/dd=1\/dd=2\/dd=3\/dd=4\/dd=5\/dd=6\/dd=7:=by omega
  rcases h1 with e|e|e|e|e|e|e|e|e|e|e|e|e|e|e<;>(rw [e];decide)
 obtain ⟨D2,hD2⟩:∃ x,Hid (dd*dd=x):=⟨_,hide rfl⟩;have hw2:IntKind.i64.wrap (dd*dd)=D2:=by rw [IntKind.wrap_i64];have:=qa hD2;omega
 obtain ⟨mm,hmm⟩:∃ n,Hid (n=(f+t)/2):=⟨_,hide rfl⟩;have e1:IntKind.i64.wrap ((f:Int)+(t:Int))=(f:Int)+(t:Int):=by rw [IntKind.wrap_i64];omega
 have e2:((f:Int)+(t:Int))/2=(mm:Int):=by have:=qa hmm;omega
 have e3:((f:Int)+(t:Int)).tdiv 2=(mm:Int):=by rw [Int.tdiv_eq_ediv_of_nonneg (by omega)];exact e2
 have e4:IntKind.i64.wrap (mm:Int)=(mm:Int):=by rw [IntKind.wrap_i64];have:=qa hmm;omega
 have hV2:Hid (V=if PW&&decide (D2=4) then (mm:Int) else -1):=hide (by rw [<-qa hV];unfold behA twoP;rw [qa hPW,hup,qa hD2,qa hmm]);clear hb hsq hup hP;cases PW
 ·have hV3:Hid (V=-1):=hide (by rw [qa hV2];rfl);go_enter Tryz.func112,Tryz.ntmps112;go_wp2_with (go_at_call 182;refine (qa hp _).mono ?_;rintro e w' ⟨rfl,hww⟩;have hww':=hww.symm;subst hww';clear hww);go_ret;exact ⟨by rw [qa hV3];rfl,qa hg⟩
 ·by_cases d4:D2=4
  ·have hV3:Hid (V=(mm:Int)):=hide (by rw [qa hV2,decide_eq_true d4];rfl);have hd4:(D2==4)=true:=beq_iff_eq.2 d4;clear d4;go_enter Tryz.func112,Tryz.ntmps112;go_wp2_with (go_at_call 182;refine (qa hp _).mono ?_;rintro e w' ⟨rfl,hww⟩;have hww':=hww.symm;subst hww';clear hww);go_ret;exact ⟨by rw [qa hV3];rfl,qa hg⟩
  ·have hV3:Hid (V=-1):=hide (by rw [qa hV2,decide_eq_false d4];rfl);have hd4:(D2==4)=false:=by rw [beq_eq_false_iff_ne];exact d4
   clear d4;go_enter Tryz.func112,Tryz.ntmps112;go_wp2_with (go_at_call 182;refine (qa hp _).mono ?_;rintro e w' ⟨rfl,hww⟩;have hww':=hww.symm;subst hww';clear hww);go_ret;exact ⟨by rw [qa hV3];rfl,qa hg⟩
theorem qvs {z:Nat->UInt8} {wh:Bool} {fc:Nat->Bool} {b h g:Int} {PA:Array Value} (r:Row z wh fc b h g PA) (f t:Nat) (hf:f<64) (ht:t<64) (u:UInt8) (h0:0<=h) (h1:h<=65535) (w:World):Calls Tryz.prog 113 #[.agg PA,.agg #[.int .i64 (f:Int),.int .i64 (t:Int),.int .u8 (u.toNat:Int)]] w fun e w'=>e=.returned (.int .i64 (halA z f t h))/\Gr w w':=by
 have hP:=Pmm.start w PA f t u;have hp:=hide (fun W=>je (z f) W);obtain ⟨m0,m1,m2⟩:=hP.cells;have cf:=hP.at (r.sq f hf);have ct:=hP.at (r.sq t ht);have ch:=hP.at r.h;have hg:=hide hP.gr;have hf0:(0:Int)<=(f:Int):=by omega
 have hf1:(f:Int)<64:=by omega
 have ht0:(0:Int)<=(t:Int):=by omega
 have ht1:(t:Int)<64:=by omega
 obtain ⟨V,hV⟩:∃ x,Hid (halA z f t h=x):=⟨_,hide rfl⟩;rw [qa hV];obtain ⟨PW,hPW⟩:∃ x,Hid (pawnB (z f)=x):=⟨_,hide rfl⟩;rw [qa hPW] at hp;obtain ⟨TK,hTK⟩:∃ x,Hid ((!decide (z t=46))=x):=⟨_,hide rfl⟩
 have htk:(((z t).toNat:Int) != 46)=TK:=by
  rw [<-qa hTK];by_cases e:z t=46
  ·rw [e];rfl
  ·have:((z t).toNat:Int)≠46:=fun q=>e (UInt8.toNat_inj.1 (by show (z t).toNat=46;omega))
   rw [bne_iff_ne.2 this,decide_eq_false e];rfl
 have hV2:Hid (V=if PW||TK then 0 else min (h+1) 65535):=hide (by rw [<-qa hV];unfold halA;rw [qa hPW,qa hTK]);have hw:IntKind.i64.wrap (h+1)=h+1:=by rw [IntKind.wrap_i64];omega
 clear hP;cases PW
 ·cases TK
  ·have hV3:Hid (V=min (h+1) 65535):=hide (by rw [qa hV2];rfl);go_enter Tryz.func113,Tryz.ntmps113;go_wp2_with (go_at_call 182;refine (qa hp _).mono ?_;rintro e w' ⟨rfl,hww⟩;have hww':=hww.symm;subst hww';clear hww);go_ret;exact ⟨by rw [qa hV3];rfl,qa hg⟩
  ·have hV3:Hid (V=0):=hide (by rw [qa hV2];rfl);go_enter Tryz.func113,Tryz.ntmps113;go_wp2_with (go_at_call 182;refine (qa hp _).mono ?_;rintro e w' ⟨rfl,hww⟩;have hww':=hww.symm;subst hww';clear hww);go_ret;exact ⟨by rw [qa hV3];rfl,qa hg⟩
 ·have hV3:Hid (V=0):=hide (by rw [qa hV2];rfl);go_enter Tryz.func113,Tryz.ntmps113;go_wp2_with (go_at_call 182;refine (qa hp _).mono ?_;rintro e w' ⟨rfl,hww⟩;have hww':=hww.symm;subst hww';clear hww);go_ret;exact ⟨by rw [qa hV3];rfl,qa hg⟩
theorem qvv {z:Nat->UInt8} {wh:Bool} {fc:Nat->Bool} {b h g:Int} {PA:Array Value} (r:Row z wh fc b h g PA) (g0:0<=g) (g1:g<=65535) (w:World):Calls Tryz.prog 114 #[.agg PA] w fun e w'=>e=.returned (.int .i64 (fulA wh g))/\Gr w w':=by
 have cw:(w.alloc (.cells PA 25)).cell? ⟨w.heap.size,64,none⟩=some (.bool wh):=by rw [World.cell?_alloc_at _ _ _ _ rfl];exact r.wh
 have cg:(w.alloc (.cells PA 25)).cell? ⟨w.heap.size,71,none⟩=some (.int .i64 g):=by rw [World.cell?_alloc_at _ _ _ _ rfl];exact r.g
 have hw:IntKind.i64.wrap (g+1)=g+1:=by rw [IntKind.wrap_i64];omega
 have hg:=hide ((Gr.refl w).alloc PA 25);clear r;cases wh
 ·go_enter Tryz.func114,Tryz.ntmps114;go_wp2_with fail;go_ret;exact ⟨rfl,qa hg⟩
 ·go_enter Tryz.func114,Tryz.ntmps114;go_wp2_with fail;go_ret;exact ⟨rfl,qa hg⟩
end Go.Proofs.YtnfakamfmkhlbaaGreatDoor.C
