import Derived.Test.YtnfakamfmkhlbabGreatDoorUm32
import Derived.Test.YtnfakamfmkhlbabGreatDoorUm22
import Derived.Test.YtnfakamfmkhlbabGreatDoorKz2
import Derived.Test.YtnfakamfmkhlbabGreatDoorKz3
set_option maxRecDepth 100000
set_option maxHeartbeats 4000000
set_option linter.unusedSimpArgs false
namespace Go.Proofs.YtnfakamfmkhlbabGreatDoor.C
open Go.ChangeShapes Go.WideShapes Go.ChangeAt Go.RowKit Go.Shelf Go.Proofs.YtnfakamfmkhlbabGreatDoor.P
section
attribute [local go_sem] qd qe Oper.semAt_some
theorem Eb:(Tryz.prog.info? 125).map (fun i=>(i.zero,i.size,i.bytes))=some (some (.agg #[.int .i64 0,.int .i64 0,.int .u8 0]),3,24):=by kernel_rfl
def np(base:Nat)(v:Value)(xs:List Mv)(w:World):Prop:=w.ownsRow base 125 3 v xs.length (vO xs)
theorem mW{base:Nat}{v:Value}{l:List Mv}{w:World}(h:np base v l w):∀k,v.ownBlock=some k->base<=k:=by
 intro k hk;rcases h.2 with⟨rfl,_⟩|⟨g,cap,cur,rfl,hb,_⟩
 ·simp[Value.ownBlock]at hk
 ·obtain rfl:g=k:=by simpa[Value.ownBlock]using hk
  exact hb
theorem C2{q:Nat}(hq:q<5):U5.getD q 0∈U5/\U5.take (q+1)=U5.take q++[U5.getD q 0]:=by
 have:q=0\/q=1\/q=2\/q=3\/q=4:=by omega
 rcases this with rfl|rfl|rfl|rfl|rfl<;>decide
theorem cu(z:Nat->UInt8)(wh:Bool)(fc:Nat->Bool)(b:Int)(f t n:Nat):(kr z wh fc b f t n).length<=5:=by
 unfold kr;rw[List.length_map];refine q7 (List.length_filter_le _ _) ?_;rw[List.length_take];exact q7 (Nat.min_le_right _ _) (qL 5)
theorem du{α β:Type}(F:α->List β)(c:Nat)(h:∀a,(F a).length<=c):∀l:List α,(l.flatMap F).length<=l.length*c
 | []=>by simp
 | a :: r=>by
   rw[List.flatMap_cons,qZ,List.length_cons,Nat.add_mul];have:=du F c h r;have:=h a;omega
theorem iV(z:Nat->UInt8)(wh:Bool)(fc:Nat->Bool)(b:Int)(f n:Nat):(eH z wh fc b f n).length<=n*5:=by
 have:=du (fun k=>kr z wh fc b f (pQ k) (ED z f (pQ k))) 5 (fun k=>cu z wh fc b f _ _) (List.range n);rw[List.length_range]at this;exact this
theorem iW(z:Nat->UInt8)(wh:Bool)(fc:Nat->Bool)(b:Int)(n:Nat):(yE z wh fc b n).length<=n*320:=by
 have:=du (fun i=>if vB (z (pQ i))=xK wh then eH z wh fc b (pQ i) 64 else[]) 320 (fun i=>by
  split
  ·exact q7 (iV z wh fc b _ 64) (by omega)
  ·simp) (List.range n)
 rw[List.length_range]at this;exact this
theorem se(t:Nat):zO t=(((t:Int)/8==0)||((t:Int)/8==7)):=by
 unfold zO
 have e0:decide (t/8=0)=((t:Int)/8==0):=by
  by_cases q:t/8=0
  ·rw[qJ q];symm;rw[beq_iff_eq];omega
  ·rw[qE q];symm;rw[qM];omega
 have e7:decide (t/8=7)=((t:Int)/8==7):=by
  by_cases q:t/8=7
  ·rw[qJ q];symm;rw[beq_iff_eq];omega
  ·rw[qE q];symm;rw[qM];omega
 rw[e0,e7]
theorem qvh{β:Type}(F:Nat->List β)(n:Nat):(List.range (n+1)).flatMap F=(List.range n).flatMap F++F n:=by
 rw[List.range_succ,List.flatMap_append];simp
theorem ln(z:Nat->UInt8)(wh:Bool)(fc:Nat->Bool)(b:Int)(f t q:Nat)(hq:q<5):kr z wh fc b f t (q+1)=kr z wh fc b f t q++(if vo z wh fc b f t (U5.getD q 0)then[(f,t,U5.getD q 0)]else[]):=by
 unfold kr;rw[(C2 hq).2,List.filter_append,List.map_append];congr 1;by_cases h:vo z wh fc b f t (U5.getD q 0)=true
 ·rw[List.filter_cons_of_pos h,qI h];rfl
 ·rw[List.filter_cons_of_neg h,qF h];rfl
theorem ai{z:Nat->UInt8}{wh:Bool}{fc:Nat->Bool}{b h g:Int}{PA:Array Value}(r:jE z wh fc b h g PA)(hC:kJ z wh fc b)(hb0:-1<=b)(hb1:b<=63)(h0:0<=h)(h1:h<=65535)(g0:0<=g)(g1:g<=65535)(w:World) :
  Calls Tryz.prog 54 #[.agg PA] w fun e w'=>∃v,e=.returned v/\np w.heap.size v (yY z wh fc b) w'/\Gr w w':=by
 obtain⟨i0,hi,hz0,hz1,hz2⟩:=info_parts Eb;have hi':=qC hi;clear hi;have hz:=r.size;have htu:=qC (fun W=>Dv r W);have hsq:=qC r.sq;have hco:=qC (fun(n:Nat) W=>za (z n) W);have hkd:=qC (fun(n:Nat) W=>zp (z n) W);have hle:=qC (fun(f t:Nat)(hf:f<64)(ht:t<64)(u:UInt8)(hu:u∈U5) W=>qjj r hC hb0 hb1 h0 h1 g0 g1 f t hf ht u hu W);have hbw:Hid ((w.alloc (.cells PA 70)).heap[w.heap.size]?=some (.cells PA 70)/\w.heap.size<(w.alloc (.cells PA 70)).heap.size):=qC ⟨heap_alloc_new _ _,by rw[World.size_alloc];omega⟩;have hg0:Hid (Gr w (w.alloc (.cells PA 70))):=qC ((Gr.refl w).alloc _ _);clear r hC;go_enter Tryz.func54,Tryz.ntmps54;go_upto_region 2 with fail;generalize hW0:w.alloc (.cells PA 70)=w0 at hbw hg0 ⊢;have hpa:Hid (∀W,Gr w0 W->W.heap[w.heap.size]?=some (.cells PA 70)):=qC (fun W g=>(Below.block g _ (qa hbw).2).trans (qa hbw).1);clear hW0 hbw;go_wp2_with fail;go_loopg [3,4] 64 (fun gm v i wr=>∃d:Nat,d+gm=64/\i=.int .i64 (d:Int)/\np w0.heap.size v (yE z wh fc b d) wr/\Gr w0 wr)
 case atStart=>exact⟨0,by omega,rfl,⟨rfl,.inl ⟨rfl,rfl⟩⟩,Gr.refl _⟩
 case round =>
  obtain⟨d,d1,rfl,hst,hgr⟩:=hrel;have hst':=qC hst;have hgr':=qC hgr;clear hst hgr;obtain⟨go1,hgo1⟩:∃x,x=gk:=⟨_,rfl⟩;subst hgo1;by_cases hd:d<64
  ·obtain⟨f,hfd⟩:∃f,Hid (f=pQ d):=⟨_,qC rfl⟩;have hf:f<64:=by rw[qa hfd];exact E8 d hd
   have e1:IntKind.i64.wrap ((d:Int)%8*8)=(d:Int)%8*8:=by rw[IntKind.wrap_i64];omega
   have e2:IntKind.i64.wrap ((d:Int)%8*8+(d:Int)/8)=(f:Int):=by
    have:=qa hfd;unfold pQ at this;rw[IntKind.wrap_i64];omega
   have f0:(0:Int)<=(f:Int):=by omega
   have f1:(f:Int)<64:=by omega
   obtain⟨CB,hCB⟩:∃x,Hid ((vB (z f) != xK wh)=x):=⟨_,qC rfl⟩;have hcb:(vB (z f) != xK wh)=CB:=qa hCB;go_upto_region 6 with fail;have hHeld0:zJ w.heap.size PA wr.drew/\Gr w0 wr.drew:=⟨(vF (qa hpa _ (qa hgr'))).gr (Gr.refl _).drew,(qa hgr').drew⟩;refine wp_region_held_drew (S:=fun W=>zJ w.heap.size PA W/\Gr wr W) (by kernel_rfl) ⟨hHeld0.1,(Gr.refl _).drew⟩ (fun qD=>?_);clear hHeld0;refine C.ty 0 (.int .i64 (f:Int)) rfl (Or.inl ⟨by rfl,fun w hw=>(by have cw:=hw.1.at' (qa hsq f hf);go_simp)⟩) qD ?_;refine C.ty 1 (.pointer (some ⟨w.heap.size,0,none⟩)) rfl (Or.inl ⟨by rfl,fun w hw=>(by have cw:=hw.1.at' (qa hsq f hf);go_simp)⟩) qD ?_;refine C.ty 2 (.pointer (some ⟨w.heap.size,f,none⟩)) rfl (Or.inl ⟨by rfl,fun w hw=>(by have cw:=hw.1.at' (qa hsq f hf);go_simp)⟩) qD ?_;refine C.ty 3 (.int .u8 ((z f).toNat:Int)) rfl (Or.inl ⟨by rfl,fun w hw=>(by have cw:=hw.1.at' (qa hsq f hf);go_simp)⟩) qD ?_;refine C.ty 5 (.agg PA) rfl (zy hz (by rfl) _ rfl w.heap.size rfl (fun _ h=>h.1)) qD ?_;refine C.rd 4 fun K hK=>?_
   go_simp;refine(qa hco f _).mono ?_;rintro e wa ⟨rfl,hww⟩;subst hww;refine hK.out _ _ qD (fun qD=>?_);clear hK K
   try simp only[C.py]
   refine C.rd 6 fun K hK=>?_
   go_simp;refine(qa htu _).mono ?_;rintro e wb ⟨rfl,hgb⟩;refine hK.out _ _ ⟨qD.1.gr hgb,Gr.trans qD.2 hgb⟩ (fun qD=>?_);clear hK K hgb
   try simp only[C.py]
   refine C.tq 7 (.bool CB) qD ?_;refine wpAnyH_done (by kernel_rfl) ?_ _;have hg6:=qC (Gr.trans (qa hgr') qD.2);have hst6:=qC (dU (qa hst') qD.2);clear qD hst' hgr' hcb;have hup:Hid (yE z wh fc b (d+1)=yE z wh fc b d++(if vB (z f)=xK wh then eH z wh fc b f 64 else[])):=qC (by unfold yE;rw[qvh,qa hfd]);clear hfd e1 e2;cases CB
   ·have hcm:vB (z f)=xK wh:=by simpa using qa hCB
    have hup2:Hid (yE z wh fc b (d+1)=yE z wh fc b d++eH z wh fc b f 64):=qC (by rw[qa hup,qI hcm]);clear hup hcm hCB;obtain⟨X,hX⟩:∃x,Hid (yE z wh fc b d=x):=⟨_,qC rfl⟩;have hXl:X.length<=d*320:=by rw[<-qa hX];exact iW z wh fc b d
    rw[qa hX]at hst6 hup2;clear hX;go_wp2_with fail;go_loopg [3,6] 64 (fun gm v kk wr=>∃e:Nat,e+gm=64/\kk=.int .i64 (e:Int)/\np w0.heap.size v (X++eH z wh fc b f e) wr/\Gr w0 wr)
    case atStart=>exact⟨0,by omega,rfl,by rw[show eH z wh fc b f 0=[]from rfl,List.append_nil];exact qa hst6,qa hg6⟩
    case round =>
     clear hst6 hg6;obtain⟨e,k1,rfl,hst,hgr⟩:=hrel;have hst':=qC hst;have hgr':=qC hgr;clear hst hgr;obtain⟨go2,hgo2⟩:∃x,x=gk:=⟨_,rfl⟩;subst hgo2;by_cases he:e<64
     ·obtain⟨t,htd⟩:∃t,Hid (t=pQ e):=⟨_,qC rfl⟩;have ht:t<64:=by rw[qa htd];exact E8 e he
      have e1:IntKind.i64.wrap ((e:Int)%8*8)=(e:Int)%8*8:=by rw[IntKind.wrap_i64];omega
      have e2:IntKind.i64.wrap ((e:Int)%8*8+(e:Int)/8)=(t:Int):=by
       have:=qa htd;unfold pQ at this;rw[IntKind.wrap_i64];omega
      obtain⟨MO,hMO⟩:∃x,Hid (ED z f t=x):=⟨_,qC rfl⟩;have hMO5:MO<=5:=by rw[<-qa hMO];unfold ED;split<;>omega
      have hup3:Hid (eH z wh fc b f (e+1)=eH z wh fc b f e++kr z wh fc b f t MO):=qC (by unfold eH;rw[qvh,<-qa hMO,qa htd]);obtain⟨Y,hY⟩:∃x,Hid (eH z wh fc b f e=x):=⟨_,qC rfl⟩;have hYl:Y.length<=e*5:=by rw[<-qa hY];exact iV z wh fc b f e
      rw[qa hY]at hst' hup3;clear hY htd;obtain⟨MB,hMB⟩:∃x,Hid ((decide (vE (z f)=0)&&zO t)=x):=⟨_,qC rfl⟩;have cf:wr.cell? ⟨w.heap.size,f,none⟩=some (.int .u8 ((z f).toNat:Int)):=by rw[qn (qa hpa _ (qa hgr'))];exact qa hsq f hf
      obtain⟨KD,hKD⟩:∃x,Hid (vE (z f)=x):=⟨_,qC rfl⟩;have hkf:=qC (qa hkd f);rw[qa hKD]at hkf hMB;have hl0:Hid (zO t=(((t:Int)/8==0)||((t:Int)/8==7))):=qC (se t);go_upto_region 12 with fail;clear e1 e2;go_cut [55]from 30 to 73 (fun s55 wx=>s55=.bool MB/\wx=wr)
      case first =>
       obtain⟨y1,q1⟩:∃x,((t:Int)/8==0)=x:=⟨_,rfl⟩;obtain⟨y2,q2⟩:∃x,((t:Int)/8==7)=x:=⟨_,rfl⟩;rw[q1,q2]at hl0;by_cases k0:KD=0
       ·have hk6:(KD==0)=true:=beq_iff_eq.2 k0;have hx:Hid (MB=(y1||y2)):=qC (by rw[<-qa hMB,qJ k0,qa hl0,Bool.true_and]);clear k0 hMB hl0 hle hco htu hkd;cases y1
        ·go_wp2_with(go_at_call 107;refine(qa hkf _).mono ?_;rintro e w' ⟨rfl,hww⟩;have hww':=hww.symm;subst hww';clear hww);go_meet
         case rel=>exact⟨by rw[qa hx];rfl,rfl⟩
        ·go_wp2_with(go_at_call 107;refine(qa hkf _).mono ?_;rintro e w' ⟨rfl,hww⟩;have hww':=hww.symm;subst hww';clear hww);go_meet
         case rel=>exact⟨by rw[qa hx];rfl,rfl⟩
       ·have hk6:(KD==0)=false:=by rw[qM];exact k0
        have hx:Hid (MB=false):=qC (by rw[<-qa hMB,qE k0];rfl);clear k0 hMB hl0 hle hco htu hkd;go_wp2_with(go_at_call 107;refine(qa hkf _).mono ?_;rintro e w' ⟨rfl,hww⟩;have hww':=hww.symm;subst hww';clear hww);go_meet
        case rel=>exact⟨by rw[qa hx],rfl⟩
      case rest =>
       obtain⟨rfl,hww⟩:=hcut;subst hww;clear cf hkf hl0;go_upto_if 55 with fail;go_cut [8]from 56 to 73 (fun s8 wx=>s8=.int .i64 (MO:Int)/\wx=wc)
       case first =>
        cases MB
        ·have hx:Hid (MO=1):=qC (by
          rw[<-qa hMO];unfold ED;rw[qa hKD,qF];rintro⟨pp1,pp2⟩;have:=qa hMB;rw[qJ pp1,pp2]at this;cases this)
         go_wp2_with fail;go_meet
         case rel=>exact⟨by rw[qa hx];rfl,rfl⟩
        ·have hx:Hid (MO=5):=qC (by
          rw[<-qa hMO];unfold ED;rw[qa hKD,qI];have:=qa hMB;rw[qH,qG]at this;exact this)
         go_wp2_with fail;go_meet
         case rel=>exact⟨by rw[qa hx];rfl,rfl⟩
       case rest =>
        obtain⟨rfl,hww⟩:=hcut;subst hww;clear hMB hMO hKD;go_wp2_with fail;go_loopg [3,9] MO (fun gm v qq wr=>∃n:Nat,n+gm=MO/\qq=.int .i64 (n:Int)/\np w0.heap.size v (X++Y++kr z wh fc b f t n) wr/\Gr w0 wr)
        case atStart=>exact⟨0,by omega,rfl,by rw[show kr z wh fc b f t 0=[]from rfl,List.append_nil];exact qa hst',qa hgr'⟩
        case round =>
         clear hst' hgr';obtain⟨n,n1,rfl,hst,hgr⟩:=hrel;have hst':=qC hst;have hgr':=qC hgr;clear hst hgr;by_cases hn:n<MO
         ·obtain⟨u,hud⟩:∃u,Hid (u=U5.getD n 0):=⟨_,qC rfl⟩;have hu5:u∈U5:=by rw[qa hud];exact(C2 (by omega)).1
          obtain⟨LG,hLG⟩:∃x,Hid (vo z wh fc b f t u=x):=⟨_,qC rfl⟩;have hup4:Hid (kr z wh fc b f t (n+1)=kr z wh fc b f t n++(if LG then[(f,t,u)]else[])):=qC (by rw[ln z wh fc b f t n (by omega),<-qa hLG,qa hud]);have hlg:Hid (∀W,Calls Tryz.prog 105 #[.agg PA,.agg #[.int .i64 (f:Int),.int .i64 (t:Int),.int .u8 (u.toNat:Int)]] W fun e w'=>e=.returned (.bool LG)/\Gr W w'):=qC (fun W=>by rw[<-qa hLG];exact qa hle f t hf ht u hu5 W)
          have hix:∀W:World,(Instr.index 9 (.string ⟨#[0,98,110,113,114]⟩) (.int .i64 (n:Int))).run Tryz.prog W=.ok (.int .u8 (u.toNat:Int)) W:=by
           have hn5:n=0\/n=1\/n=2\/n=3\/n=4:=by omega
           have hh:=qa hud;intro W;rcases hn5 with rfl|rfl|rfl|rfl|rfl<;>(rw[hh];rfl)
          have nl:(n:Int)<(MO:Int):=by omega
          have hZl:(kr z wh fc b f t n).length<=5:=cu z wh fc b f t n;obtain⟨Z,hZ⟩:∃x,Hid (kr z wh fc b f t n=x):=⟨_,qC rfl⟩;rw[qa hZ]at hst' hup4 hZl;clear hud hLG hZ;have hga:Hid (Gr wr (wr.alloc (.cells #[.int .i64 (f:Int),.int .i64 (t:Int),.int .u8 (u.toNat:Int)] 125))):=qC ((Gr.refl _).alloc _ _);go_upto_region 18 with fail;show Code.wp _ _ _ _ (wr.alloc (.cells #[.int .i64 (f:Int),.int .i64 (t:Int),.int .u8 (u.toNat:Int)] 125));have hx:=World.alloc_heap_new wr (.cells #[.int .i64 (f:Int),.int .i64 (t:Int),.int .u8 (u.toNat:Int)] 125);generalize (wr.alloc (.cells #[.int .i64 (f:Int),.int .i64 (t:Int),.int .u8 (u.toNat:Int)] 125))=wm at hga hx ⊢;generalize wr.heap.size=Bm at hx ⊢;have y0:wm.cell? ⟨Bm,0,none⟩=some (.int .i64 (f:Int)):=by rw[qn hx];rfl
          have y1:wm.cell? ⟨Bm,1,none⟩=some (.int .i64 (t:Int)):=by rw[qn hx];rfl
          have y2:wm.cell? ⟨Bm,2,none⟩=some (.int .u8 (u.toNat:Int)):=by rw[qn hx];rfl
          have hbl:Bm<wm.heap.size:=World.block_lt_of_cell? _ _ y0;have hga0:=qC (Gr.trans (qa hgr') (qa hga));have hrow:=qC (vF (qa hpa _ (qa hga0)));clear hx hix hle hco hkd htu hsq
          go_upto_if 69 with(first
           | (go_at_call 105;refine(qa hlg _).mono ?_;rintro e w2 ⟨rfl,hg2⟩)
           | (refine ql (by rfl) _ rfl w.heap.size rfl hz (qa hrow) ?_))
          have hg3:=Gr.trans (qa hga0) hg2;have hst2:=qC (dU (qa hst') (Gr.trans (qa hga) hg2));have y0:=(Below.cell hg2 (p:=⟨Bm,0,none⟩) hbl).trans y0;have y1:=(Below.cell hg2 (p:=⟨Bm,1,none⟩) hbl).trans y1;have y2:=(Below.cell hg2 (p:=⟨Bm,2,none⟩) hbl).trans y2;have hs3:=Below.size hg3;have hg3':=qC hg3;clear hg2 hga hga0 hgr' hst' hrow hlg hbl hg3;cases LG
          ·have hst4:Hid (np w0.heap.size u3 (X++Y++kr z wh fc b f t (n+1)) w2):=qC (by rw[qa hup4,qF (by simp),List.append_nil];exact qa hst2);clear hst2;go_wp2_with fail;go_roundg (gk-1)
           case measure=>omega
           case rel=>exact⟨n+1,by omega,by go_num,qa hst4,qa hg3'⟩
          ·have hcl:∀j u',[Value.int .i64 (f:Int),.int .i64 (t:Int),.int .u8 (u.toNat:Int)][j]?=some u'->(w2.alloc (.cells #[.int .i64 (f:Int),.int .i64 (t:Int),.int .u8 (u.toNat:Int)] 125)).cell? ((⟨w2.heap.size,0,none⟩:Addr).add j)=some u':=fun j u' hu=>by
            rw[Addr.add_lit,Nat.zero_add,World.cell?_alloc_at _ _ _ _ rfl,<-qO];exact hu
           have hlen:(X++Y++Z).length<=20805:=by rw[qZ,qZ];omega
           obtain⟨XX,hXX⟩:∃x,Hid (X++Y++Z=x):=⟨_,qC rfl⟩;rw[qa hXX]at hst2 hlen;have hup5:Hid (X++Y++kr z wh fc b f t (n+1)=XX++[(f,t,u)]):=qC (by rw[qa hup4,qI rfl,<-qS,qa hXX]);clear hup4 hXX;go_wp2_with(at_builtin;refine wpList_append_own _ rfl (.tmp 70) (.tmp 72) 131 rfl w0.heap.size 125 i0 (.agg #[.int .i64 0,.int .i64 0,.int .u8 0]) 3 24 Tryz.underlying131 (qa hi') hz0 hz1 hz2 rfl (by decide) u3 XX.length (vO XX) rfl ((qa hst2).alloc _) ⟨w2.heap.size,0,none⟩ 1 1 [.int .i64 (f:Int),.int .i64 (t:Int),.int .u8 (u.toNat:Int)] rfl rfl hcl (by simp[Value.oneCell']) (by unfold maxLen;omega) (by omega) (by simp;omega) ?_;intro v' w3 hown' hgrow hnil);go_roundg (gk-1)
           case measure=>omega
           case rel =>
            refine⟨n+1,by omega,by go_num,?_,?_⟩
            ·unfold np;rw[qa hup5,pt,qZ];exact hown'
            ·exact((qa hg3').alloc _ _).grown hgrow (by simp;omega) (mW (qa hst2))
         ·have en:n=MO:=by omega
          subst en;have hst8:Hid (np w0.heap.size u3 (X++eH z wh fc b f (e+1)) wr):=qC (by rw[qa hup3,<-qS];exact qa hst');have hnn:¬ ((n:Int)<(n:Int)):=by omega
          clear hst' hup3;go_wp2_with fail;go_roundg (go2-1)
          case measure=>omega
          case rel=>exact⟨e+1,by omega,by go_num,qa hst8,qa hgr'⟩
     ·have ee:e=64:=by omega
      subst ee;have hst9:Hid (np w0.heap.size u3 (yE z wh fc b (d+1)) wr):=qC (by rw[qa hup2];exact qa hst');clear hst' hup2;go_wp2_with fail;go_roundg (go1-1)
      case measure=>omega
      case rel=>exact⟨d+1,by omega,by go_num,qa hst9,qa hgr'⟩
   ·have hcm:¬ vB (z f)=xK wh:=by simpa using qa hCB
    have hst7:Hid (np w0.heap.size u3 (yE z wh fc b (d+1)) wb):=qC (by rw[qa hup,qF hcm,List.append_nil];exact qa hst6);clear hcm hCB hup hst6;go_wp2_with fail;go_roundg (go1-1)
    case measure=>omega
    case rel=>exact⟨d+1,by omega,by go_num,qa hst7,qa hg6⟩
  ·have ed:d=64:=by omega
   subst ed;go_wp2_with fail;go_ret;exact⟨u3,rfl,qxn (qa hst') (Below.size (qa hg0)),Gr.trans (qa hg0) (qa hgr')⟩
theorem bt{w:World}{base:Nat}{v:Value}{ys:List Mv}(h:np base v ys w):∃p cap,v=.slice p ys.length cap/\ys.length<=cap/\∀i (hy:i<ys.length),∃g,p=some ⟨g,0,none⟩/\w.cell? ⟨g,i*3,none⟩=some (.int .i64 (ys[i].1:Int))/\w.cell? ⟨g,i*3+1,none⟩=some (.int .i64 (ys[i].2.1:Int))/\w.cell? ⟨g,i*3+2,none⟩=some (.int .u8 (ys[i].2.2.toNat:Int)):=by
 rcases h.2 with⟨rfl,h0⟩|⟨g,cap,cur,rfl,hb,hg,hn,hm,hcs,htk⟩
 ·have e0:ys.length=0:=h0;exact⟨none,0,by rw[e0],by omega,fun i hi=>absurd hi (by omega)⟩
 ·refine⟨_,_,rfl,hn,fun i hy=>⟨g,rfl,?_⟩⟩
  have hj:∀c,c<3->w.cell? ⟨g,i*3+c,none⟩=(pU ys[i]).toList[c]?:=fun c hc=>by
   have h1:i*3+c<ys.length*3:=by omega
   simp only[World.cell?];rw[hg];show cur[i*3+c]?=_;rw[<-qO,<-List.getElem?_take_of_lt h1,htk,ut,show(i*3+c)/3=i by omega,show(i*3+c)%3=c by omega,List.getElem?_eq_getElem hy];rfl
  exact⟨hj 0 (by decide),hj 1 (by decide),hj 2 (by decide)⟩
theorem ou(m:Int)(w:World)(hc:Ct m w)(ht:uV w):Calls Tryz.prog 12 #[] w fun e w'=>e=.returned (.bool true)/\Gr w w':=by
 have h1:Hid (∀n:Int,(n=1\/n=2)->∀W,Gr w W->Calls Tryz.prog 15 #[.string yT,.int .i64 n] W fun e w'=>DQ kW 0 e w'/\Gr W w'):=qC fun n hn W hg=>fK n hn m W (hc.gr hg) (ht.gr hg)
 have h3:Hid (∀(p1 p2:Option Addr)(c1 c2:Nat)(W:World),El p1 kW W->El p2 kW W->Calls Tryz.prog 27 #[.slice p1 kW.length c1,.slice p2 5 c2] W fun e w'=>e=.returned (.bool true)/\Gr W w'):=qC (fun p1 p2 c1 c2 W a b=>qka kW (by decide) p1 p2 c1 c2 W a b);clear hc ht;go_enter Tryz.func12,Tryz.ntmps12;generalize hF:(⟨#[52,107,51,47,56,47,56,47,56,47,56,47,56,47,56,47,52,75,51,32,119,32,45,32,45,32,48,32,49]⟩:ByteArray)=F;rw[show yT=F from hF]at h1;clear hF;go_upto_region 2 with(go_at_call 15;refine(qa h1 1 (.inl rfl) _ (Gr.refl _)).mono ?_;rintro e w1 ⟨⟨p1,cap1,rfl,hcap1,hel1⟩,hg1⟩);have hel1':Hid (El p1 kW w1):=qC hel1;clear hel1;go_upto_region 3 with(go_at_call 15;refine(qa h1 2 (.inr rfl) _ hg1).mono ?_;rintro e w2 ⟨⟨p2,cap2,rfl,hcap2,hel2⟩,hg2⟩);have hg12:=Gr.trans hg1 hg2;have hel1'':=qC ((qa hel1').gr hg2);have hel2':Hid (El p2 kW w2):=qC hel2;clear hel2 hel1' h1 hg1 hg2;go_upto_region 4 with fail;have hx:=World.alloc_heap_new w2 (.cells #[.string ⟨#[101,49,100,49]⟩,.string ⟨#[101,49,100,50]⟩,.string ⟨#[101,49,101,50]⟩,.string ⟨#[101,49,102,49]⟩,.string ⟨#[101,49,102,50]⟩] 9);have hga:=(Gr.refl w2).alloc #[.string ⟨#[101,49,100,49]⟩,.string ⟨#[101,49,100,50]⟩,.string ⟨#[101,49,101,50]⟩,.string ⟨#[101,49,102,49]⟩,.string ⟨#[101,49,102,50]⟩] 9;show Code.wp _ _ _ _ (w2.alloc (.cells #[.string ⟨#[101,49,100,49]⟩,.string ⟨#[101,49,100,50]⟩,.string ⟨#[101,49,101,50]⟩,.string ⟨#[101,49,102,49]⟩,.string ⟨#[101,49,102,50]⟩] 9))
 have hel3:Hid (El (some ⟨w2.heap.size,0,none⟩) kW (w2.alloc (.cells #[.string ⟨#[101,49,100,49]⟩,.string ⟨#[101,49,100,50]⟩,.string ⟨#[101,49,101,50]⟩,.string ⟨#[101,49,102,49]⟩,.string ⟨#[101,49,102,50]⟩] 9))):=qC (fun i hi=>⟨_,rfl,by
  rw[qn hx];have h5:i<5:=hi;have:i=0\/i=1\/i=2\/i=3\/i=4:=by omega
  rcases this with rfl|rfl|rfl|rfl|rfl<;>rfl⟩)
 generalize (w2.alloc (.cells #[.string ⟨#[101,49,100,49]⟩,.string ⟨#[101,49,100,50]⟩,.string ⟨#[101,49,101,50]⟩,.string ⟨#[101,49,102,49]⟩,.string ⟨#[101,49,102,50]⟩] 9))=w3 at hga hel3 ⊢;generalize w2.heap.size=b3 at hel3 ⊢;have hg13:=Gr.trans hg12 hga;have ha3:=qC ((qa hel1'').gr hga);have hb3:=qC ((qa hel2').gr hga);clear hx hg12 hga hel1'' hel2';go_upto_region 5 with(go_at_call 27;refine(qa h3 _ _ _ _ _ (qa ha3) (qa hel3)).mono ?_;rintro e w4 ⟨rfl,hg4⟩);have hg14:=Gr.trans hg13 hg4;have hb4:=qC ((qa hb3).gr hg4);have hel4:=qC ((qa hel3).gr hg4);clear hg13 hg4 ha3 hb3 hel3;go_upto_region 6 with(go_at_call 27;refine(qa h3 _ _ _ _ _ (qa hb4) (qa hel4)).mono ?_;rintro e w5 ⟨rfl,hg5⟩);have hg:=qC (Gr.trans hg14 hg5);clear hg14 hg5 hb4 hel4 h3;go_wp2_with fail;go_ret;exact⟨rfl,qa hg⟩
end
section
attribute [local go_sem] qd qe
theorem dN(s:ByteArray)(w:World):Calls Tryz.prog 118 #[.string s] w fun e w'=>e=.returned (.tuple #[.int .u8 ((aw s).1.toNat:Int),.bool (aw s).2])/\Gr w w':=by
 by_cases h:0<s.size
 ·have e1:(aw s)=(s[0],decide (0<=Lib.indexByte uf s[0])):=by unfold aw;rw[dif_pos h]
  have hne:(s.toList==[])=false:=by
   rw[qM];intro e;have:s.toList.length=0:=by rw[e];rfl
   have h2:s.toList.length=s.size:=by rw[Lib.toList_data];exact Array.length_toList
   omega
  rw[e1];have hib:=qC (fun W=>Tryz.strings_IndexByte ⟨#[113,114,98,110]⟩ (s[0].toNat:Int) W);have h0:(0:Int)<(s.size:Int):=by omega
  go_enter Tryz.func118,Tryz.ntmps118;go_upto_region 3 with fail;go_quiet((go_at_call 200;exact Calls.quiet_of_same (qa hib _)))
  all_goals
   go_wp2;go_ret2;exact⟨rfl,Gr.drewN (Gr.refl w) _⟩
 ·have e1:(aw s)=(0,true):=by unfold aw;rw[dif_neg h]
  rw[e1]
  have hs:s=⟨#[]⟩:=by
   have:s.size=0:=by omega
   exact ByteArray.size_eq_zero_iff.1 this
  subst hs;go_enter Tryz.func118,Tryz.ntmps118;go_wp2_with fail;go_ret2;exact⟨rfl,Gr.refl _⟩
def z8(x:Nat × Nat × UInt8):Array Value:=#[.int .i64 (x.1:Int),.int .i64 (x.2.1:Int),.int .u8 (x.2.2.toNat:Int)]
def yy(s:ByteArray):Value:=match yn s with
 | some x=>.tuple #[.agg (z8 x),.bool true]
 | none=>.tuple #[.agg (z8 (0,0,0)),.bool false]
def E7(s:ByteArray):Int × Bool:=match uX s with|some n=>((n:Int),true)|none=>(0,false)
theorem xW:(Tryz.prog.info? 87).map (·.size)=some 3:=by kernel_rfl
theorem eM(s:ByteArray)(w:World):Calls Tryz.prog 117 #[.string s] w fun e w'=>e=.returned (.tuple #[.int .i64 (E7 s).1,.bool (E7 s).2])/\Gr w w':=by
 unfold E7;cases h:uX s with
 | none=>exact(pl s h w).mono fun e w' q=>⟨q.1,by rw[q.2];exact Gr.refl _⟩
 | some n=>exact qz7 s n h w
theorem mX(s:ByteArray)(hs:s.size<4294967281)(w:World):Calls Tryz.prog 56 #[.string s] w fun e w'=>e=.returned (yy s)/\Gr w w':=by
  have hg0:=qC ((Gr.refl w).alloc #[.int .i64 0,.int .i64 0,.int .u8 0] 87)
  have hsq:=qC (fun x W=>eM x W)
  have hrt:=qC (fun x W=>dN x W)
  by_cases h45:s.size=4\/s.size=5
  · obtain⟨V,hV⟩:∃V,Hid (yy s=V):=⟨_,qC rfl⟩
    rw[qa hV]
    have hl:(4:Int)<=(s.size:Int)/\(s.size:Int)<=5:=by omega
    obtain⟨l4,l5⟩:=hl
    go_enter Tryz.func56,Tryz.ntmps56
    obtain⟨A1,hA1⟩:∃x,Hid (E7 (s.extract 0 2)=x):=⟨_,qC rfl⟩
    obtain⟨A2,hA2⟩:∃x,Hid (E7 (s.extract 2 4)=x):=⟨_,qC rfl⟩
    obtain⟨A3,hA3⟩:∃x,Hid (aw (s.extract 4 s.size)=x):=⟨_,qC rfl⟩
    have hV2:Hid (V=if A1.2&&A2.2&&A3.2 then .tuple #[.agg #[.int .i64 A1.1,.int .i64 A2.1,.int .u8 (A3.1.toNat:Int)],.bool true]else .tuple #[.agg #[.int .i64 0,.int .i64 0,.int .u8 0],.bool false]):=qC (by
      rw[<-qa hV,<-qa hA1,<-qa hA2,<-qa hA3]
      unfold yy yn E7
      rw[qI h45]
      cases uX (s.extract 0 2)with
      | none=>rfl
      | some f =>
        cases uX (s.extract 2 4)with
        | none=>rfl
        | some t =>
          simp only
          cases (aw (s.extract 4 s.size)).2<;>rfl)
    have k1:Hid (∀W,Calls Tryz.prog 117 #[.string (s.extract 0 2)] W fun e w'=>e=.returned (.tuple #[.int .i64 A1.1,.bool A1.2])/\Gr W w'):=qC (fun W=>by rw[<-qa hA1];exact qa hsq _ W)
    have k2:Hid (∀W,Calls Tryz.prog 117 #[.string (s.extract 2 4)] W fun e w'=>e=.returned (.tuple #[.int .i64 A2.1,.bool A2.2])/\Gr W w'):=qC (fun W=>by rw[<-qa hA2];exact qa hsq _ W)
    have k3:Hid (∀W,Calls Tryz.prog 118 #[.string (s.extract 4 s.size)] W fun e w'=>e=.returned (.tuple #[.int .u8 (A3.1.toNat:Int),.bool A3.2])/\Gr W w'):=qC (fun W=>by rw[<-qa hA3];exact qa hrt _ W)
    have hb0:=qC (heap_alloc_new w (.cells #[.int .i64 0,.int .i64 0,.int .u8 0] 87))
    have hbs:Hid (w.heap.size<(w.alloc (.cells #[.int .i64 0,.int .i64 0,.int .u8 0] 87)).heap.size):=qC (by rw[World.size_alloc];omega)
    have h45':=h45
    clear hV hA1 hA2 hA3 hsq hrt h45
    obtain⟨a1,b1⟩:=A1
    obtain⟨a2,b2⟩:=A2
    obtain⟨a3,b3⟩:=A3
    simp only at hV2 k1 k2 k3
    generalize ((a3.toNat:Nat):Int)=u3 at hV2 k3
    go_upto_region 1 with fail
    generalize w.alloc (.cells #[.int .i64 0,.int .i64 0,.int .u8 0] 87)=w0 at hg0 hb0 hbs ⊢
    go_cut [17]from 10 (fun s17 wx=>s17=.bool false/\wx=w0)
    case first =>
      rcases h45' with h|h
      · have n1:((s.size:Int) != 4)=false:=by rw[h];rfl
        go_wp2_with fail
        go_meet
        case rel=>exact⟨rfl,rfl⟩
      · have n1:((s.size:Int) != 4)=true:=by rw[h];rfl
        have n2:((s.size:Int) != 5)=false:=by rw[h];rfl
        go_wp2_with fail
        go_meet
        case rel=>exact⟨rfl,rfl⟩
    case rest =>
     obtain⟨rfl,hww⟩:=hcut
     subst hww
     go_upto_region 3 with fail
     go_upto_region 4 with(go_at_call 117;refine(qa k1 _).mono ?_;rintro e w1 ⟨rfl,hg1⟩)
     go_upto_region 5 with(go_at_call 117;refine(qa k2 _).mono ?_;rintro e w2 ⟨rfl,hg2⟩)
     go_upto_region 6 with(go_at_call 118;refine(qa k3 _).mono ?_;rintro e w3 ⟨rfl,hg3⟩)
     have hg:=Gr.trans hg1 (Gr.trans hg2 hg3)
     have hb:w3.heap[w.heap.size]?=some (.cells #[.int .i64 0,.int .i64 0,.int .u8 0] 87):=(Below.block hg _ (qa hbs)).trans (qa hb0)
     have hgw:=qC (Gr.trans (qa hg0) hg)
     clear hg1 hg2 hg3 hg k1 k2 k3 hb0 hbs hg0
     cases b1
     · clear h45'
       go_wp2_with(refine wpList_store_row rfl 87 _ _ rfl w.heap.size #[.int .i64 0,.int .i64 0,.int .u8 0] rfl rfl 87 #[.int .i64 0,.int .i64 0,.int .u8 0] hb xW rfl (by simp[Value.oneCell']) ?_)
       exact bodyPost_ret (v:=.tuple #[.agg #[.int .i64 0,.int .i64 0,.int .u8 0],.bool false]) (qj Tryz.results56 _ _ w.heap.size 87 _ (0,0) _ rfl (setRow_heap _ _ _ _ _ _ hb) Tryz.underlying87 rfl xW) rfl ⟨by rw[qa hV2];rfl,(qa hgw).setRow _ (qL _) _⟩
     · cases b2
       · clear h45'
         go_wp2_with(refine wpList_store_row rfl 87 _ _ rfl w.heap.size #[.int .i64 0,.int .i64 0,.int .u8 0] rfl rfl 87 #[.int .i64 0,.int .i64 0,.int .u8 0] hb xW rfl (by simp[Value.oneCell']) ?_)
         exact bodyPost_ret (v:=.tuple #[.agg #[.int .i64 0,.int .i64 0,.int .u8 0],.bool false]) (qj Tryz.results56 _ _ w.heap.size 87 _ (0,0) _ rfl (setRow_heap _ _ _ _ _ _ hb) Tryz.underlying87 rfl xW) rfl ⟨by rw[qa hV2];rfl,(qa hgw).setRow _ (qL _) _⟩
       · cases b3
         · clear h45'
           go_wp2_with(refine wpList_store_row rfl 87 _ _ rfl w.heap.size #[.int .i64 0,.int .i64 0,.int .u8 0] rfl rfl 87 #[.int .i64 0,.int .i64 0,.int .u8 0] hb xW rfl (by simp[Value.oneCell']) ?_)
           exact bodyPost_ret (v:=.tuple #[.agg #[.int .i64 0,.int .i64 0,.int .u8 0],.bool false]) (qj Tryz.results56 _ _ w.heap.size 87 _ (0,0) _ rfl (setRow_heap _ _ _ _ _ _ hb) Tryz.underlying87 rfl xW) rfl ⟨by rw[qa hV2];rfl,(qa hgw).setRow _ (qL _) _⟩
         · clear h45'
           go_wp2_with(refine wpList_store_row rfl 87 _ _ rfl w.heap.size #[.int .i64 a1,.int .i64 a2,.int .u8 u3] rfl rfl 87 #[.int .i64 0,.int .i64 0,.int .u8 0] hb xW rfl (by simp[Value.oneCell']) ?_)
           exact bodyPost_ret (v:=.tuple #[.agg #[.int .i64 a1,.int .i64 a2,.int .u8 u3],.bool true]) (qj Tryz.results56 _ _ w.heap.size 87 _ (0,0) _ rfl (setRow_heap _ _ _ _ _ _ hb) Tryz.underlying87 rfl xW) rfl ⟨by rw[qa hV2];rfl,(qa hgw).setRow _ (qL _) _⟩
  · have hv:yy s=.tuple #[.agg (z8 (0,0,0)),.bool false]:=by unfold yy yn;rw[qF h45]
    rw[hv]
    have n4:((s.size:Int) != 4)=true:=by rw[qU];omega
    have n5:((s.size:Int) != 5)=true:=by rw[qU];omega
    clear h45 hsq hrt
    go_enter Tryz.func56,Tryz.ntmps56
    go_wp2_with fail
    exact bodyPost_ret (v:=.tuple #[.agg #[.int .i64 0,.int .i64 0,.int .u8 0],.bool false]) (qj Tryz.results56 _ _ w.heap.size 87 _ (0,0) _ rfl (heap_alloc_new w _) Tryz.underlying87 rfl xW) rfl ⟨rfl,qa hg0⟩
end
end Go.Proofs.YtnfakamfmkhlbabGreatDoor.C
