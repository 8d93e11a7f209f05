import Derived.Test.YtnfakamfmkhlbabGreatDoorUm19
import Derived.Test.YtnfakamfmkhlbabGreatDoorUm30
import Derived.Stop.RegionWithIn
import Derived.Test.YtnfakamfmkhlbabGreatDoorUm21
import Derived.Test.YtnfakamfmkhlbabGreatDoorKz2
set_option maxRecDepth 100000
set_option maxHeartbeats 4000000
set_option linter.unusedSimpArgs false
namespace Go.Proofs.YtnfakamfmkhlbabGreatDoor.C
open Go.ChangeShapes Go.WideShapes Go.ChangeAt Go.RowKit Go.Shelf Go.Proofs.YtnfakamfmkhlbabGreatDoor.P
section
attribute [local go_sem] qd qe Oper.semAt_some
def wV(p:pH)(n:Int):List Mv:=if n=1 then yo (xM p) p.white p.castle p.behind else xC (xM p) p.white p.castle p.behind
def yc(s:ByteArray)(n:Int)(base:Nat)(e:Ending)(w':World):Prop :=
 (xG s=none/\e=.returned (.tuple #[mU,.int .i64 1])) ∨
 (∃p,xG s=some p/\xP p=false/\e=.returned (.tuple #[mU,.int .i64 2])) ∨
 (∃p,xG s=some p/\xP p=true/\¬ (n=1\/n=2)/\e=.returned (.tuple #[mU,.int .i64 3])) ∨
 (∃p v,xG s=some p/\xP p=true/\(n=1\/n=2)/\e=.returned (.tuple #[v,.int .i64 0])/\yt base v (ud (jI (wV p n))) w')
theorem Ab{base base':Nat}{v:Value}{xs:List ByteArray}{w:World}(h:yt base v xs w)(hb:base'<=base):yt base' v xs w:=by
 refine⟨h.1,?_⟩;rcases h.2 with⟨a,b⟩|⟨g,cap,cur,e,hg,r⟩
 ·exact .inl ⟨a,b⟩
 ·exact .inr ⟨g,cap,cur,e,q7 hb hg,r⟩
theorem lR{p:pH}(h:xP p=true):xO (xM p)=true:=by
 unfold xP k6 at h;simp only[qH]at h;exact h.1
theorem nU{s:ByteArray}{n k:Int}{base:Nat}{w':World}(h:iP s k):yc s n base (.returned (.tuple #[mU,.int .i64 k])) w':=by
 rcases h with⟨rfl,h⟩|⟨rfl,p,h1,h2⟩
 ·exact .inl ⟨h,rfl⟩
 ·exact .inr (.inl ⟨p,h1,h2,rfl⟩)
theorem qkd(s:ByteArray)(hs:s.size<4294967281)(n:Int)(hL:∀p,xG s=some p->xP p=true->lg (xM p) p.white p.castle p.behind)(m:Int)(w:World)(hc:Ct m w)(ht:uV w) :
  Calls Tryz.prog 15 #[.string s,.int .i64 n] w fun e w'=>yc s n w.heap.size e w'/\Gr w w':=by
 have h1:Hid (Calls Tryz.prog 34 #[.string s] w fun e w'=>zA s e/\Gr w w'):=qC (qzg s hs m w hc.mx hc.ml hc.tab hc.homes);rcases xy s with⟨p,hr,hcan,hone⟩|⟨k,hk,hbad,hone⟩
 ·have h2:Hid (Calls Tryz.prog 34 #[.string s] w fun e w'=>e=.returned (.tuple #[.agg (jV p),.int .i64 0])/\Gr w w'):=qC ((qa h1).mono fun e w' h=>⟨hone e h.1,h.2⟩);have hrow:=jo hr;have hz:=hrow.size;have ho:=qC (qx hrow);have hb:=qjv hr
  have htx:Hid (∀W:World,Gr w W->∀q,(n=1/\q=mc\/n=2/\q=jP)->Calls Tryz.prog 36 #[.agg q,.agg (jV p)] W fun e w'=>∃v,e=.returned v/\yt W.heap.size v (ud (jI (wV p n))) w'/\Gr W w'):=qC (by
   rintro W hg q (⟨rfl,rfl⟩|⟨rfl,rfl⟩)
   ·exact qxz hz ((mkL hrow (hL p hr hcan) W (ht.gr hg).st))
   ·exact qxz hz ((mkS hrow (lR hcan) hb.1 hb.2 W (hc.gr hg).tab (ht.gr hg).cas)))
  have hend:Hid (∀base v w',(n=1\/n=2)->yt base v (ud (jI (wV p n))) w'->yc s n base (.returned (.tuple #[v,.int .i64 0])) w'):=qC fun base v w' hn hv=>.inr (.inr (.inr ⟨p,v,hr,hcan,hn,rfl,hv⟩))
  have hend3:Hid (∀base w',¬ (n=1\/n=2)->yc s n base (.returned (.tuple #[mU,.int .i64 3])) w'):=qC fun base w' hn=>.inr (.inr (.inl ⟨p,hr,hcan,hn,rfl⟩))
  generalize jV p=A at h2 hz ho htx;clear h1 hone hrow hr hcan hb hL hc ht hs;go_enter Tryz.func15,Tryz.ntmps15
  go_upto_region 2 with(first
   | (go_at_call 34;refine(qa h2).mono ?_;rintro e w3 ⟨rfl,hg3⟩)
   | (refine wpList_store_row rfl 70 _ _ rfl w3.heap.size A rfl rfl 70 _ (heap_alloc_new _ _) (by rw[hz];exact q9) (by rw[hz];exact xF.symm) (qa ho) ?_))
  generalize hw4:(w3.alloc (.cells Tryz.zeroCells70 70)).setRow w3.heap.size A=w4;have hk4:Tb w w3.heap.size A w4:=⟨Gr.trans hg3 (by rw[<-hw4];exact((Gr.refl w3).alloc _ _).setRow _ (qL _) _),by rw[<-hw4];exact setRow_heap _ _ _ _ _ _ (heap_alloc_new w3 _),by rw[<-hw4,size_setRow,World.size_alloc];omega⟩;generalize w3.heap.size=b1 at hk4 ⊢;clear hw4 hg3 h2;go_upto_region 4 with fail;by_cases hn:n=1\/n=2
  ·obtain⟨q,hq,hof,ha2⟩:∃q,(n=1/\q=mc\/n=2/\q=jP)/\FV n=.tuple #[.agg q,.bool true]/\(∃ga gm,q=zG ga gm):=by
    rcases hn with rfl|rfl
    ·exact⟨mc,.inl ⟨rfl,rfl⟩,rfl,_,_,rfl⟩
    ·exact⟨jP,.inr ⟨rfl,rfl⟩,rfl,_,_,rfl⟩
   obtain⟨ga,gm,rfl⟩:=ha2;have hofc:Hid (∀W,Calls Tryz.prog 35 #[.int .i64 n] W fun e w'=>e=.returned (.tuple #[.agg (zG ga gm),.bool true])/\Gr W w'):=qC fun W=>by rw[<-hof];exact sJ n W
   have hn':=qC hn;have hq':=qC hq;clear hof hn hq
   go_upto_region 5 with(first
    | (go_at_call 35;refine(qa hofc _).mono ?_;rintro e w5 ⟨rfl,hg5⟩)
    | (refine wpList_store_row rfl 74 _ _ rfl w5.heap.size (zG ga gm) rfl rfl 74 ku (heap_alloc_new _ _) yU rfl (qxi _ _) ?_))
   have hg6:Gr w5 ((w5.alloc (.cells #[.nilFunc,.nilFunc] 74)).setRow w5.heap.size (zG ga gm)):=((Gr.refl w5).alloc _ _).setRow _ (qL _) _;have hw6:((w5.alloc (.cells #[.nilFunc,.nilFunc] 74)).setRow w5.heap.size (zG ga gm)).heap[w5.heap.size]?=some (.cells (zG ga gm) 74):=setRow_heap _ _ _ _ _ _ (heap_alloc_new w5 _);have hk6:=hk4.next (Gr.trans hg5 hg6);generalize ((w5.alloc (.cells #[.nilFunc,.nilFunc] 74)).setRow w5.heap.size (zG ga gm))=w6 at hw6 hk6 ⊢;generalize w5.heap.size=b2 at hw6 ⊢;clear hk4 hg5 hg6 hofc
   go_wp2_with(first
    | (refine wpList_load_row rfl 70 _ rfl b1 rfl 70 A (0,0) _ (Tb.p (w:=w) hk6) Tryz.underlying70 rfl (by rw[hz];exact q9) ?_)
    | (refine wpList_load_row rfl 74 _ rfl b2 rfl 74 (zG ga gm) (0,0) _ hw6 Tryz.underlying74 rfl yU ?_)
    | (go_at_call 36;refine(qa htx _ hk6.gr _ (qa hq')).mono ?_;rintro e w7 ⟨v,rfl,hv,hg7⟩))
   go_ret2;exact⟨qa hend _ _ _ (qa hn') (Ab hv (Below.size hk6.gr)),Gr.trans hk6.gr hg7⟩
  ·have hof:FV n=.tuple #[.agg ku,.bool false]:=by unfold FV;rw[qF (fun h=>hn (.inl h)),qF (fun h=>hn (.inr h))]
   have hofc:Hid (∀W,Calls Tryz.prog 35 #[.int .i64 n] W fun e w'=>e=.returned (.tuple #[.agg ku,.bool false])/\Gr W w'):=qC fun W=>by rw[<-hof];exact sJ n W
   have hn':=qC hn;clear hof hn
   go_wp2_with(first
    | (go_at_call 35;refine(qa hofc _).mono ?_;rintro e w5 ⟨rfl,hg5⟩)
    | (refine wpList_store_row rfl 74 _ _ rfl w5.heap.size ku rfl rfl 74 ku (heap_alloc_new _ _) yU rfl gF ?_))
   go_ret2;exact⟨qa hend3 _ _ (qa hn'),Gr.trans (Gr.trans hk4.gr hg5) (((Gr.refl w5).alloc _ _).setRow _ (qL _) _)⟩
 ·have h2:Hid (Calls Tryz.prog 34 #[.string s] w fun e w'=>e=.returned (.tuple #[.agg Tryz.zeroCells70,.int .i64 k])/\Gr w w'):=qC ((qa h1).mono fun e w' h=>⟨hone e h.1,h.2⟩);have hend:Hid (∀base w',yc s n base (.returned (.tuple #[mU,.int .i64 k])) w'):=qC fun base w'=>nU hbad
  clear h1 hone hbad hL hc ht hs;go_enter Tryz.func15,Tryz.ntmps15
  go_upto_region 2 with(first
   | (go_at_call 34;refine(qa h2).mono ?_;rintro e w3 ⟨rfl,hg3⟩)
   | (refine wpList_store_row rfl 70 _ _ rfl w3.heap.size Tryz.zeroCells70 rfl rfl 70 _ (heap_alloc_new _ _) (by rw[xF];exact q9) rfl xH ?_))
  have hg4:Gr w ((w3.alloc (.cells Tryz.zeroCells70 70)).setRow w3.heap.size Tryz.zeroCells70):=Gr.trans hg3 (((Gr.refl w3).alloc _ _).setRow _ (qL _) _);generalize (w3.alloc (.cells Tryz.zeroCells70 70)).setRow w3.heap.size Tryz.zeroCells70=w4 at hg4 ⊢;go_wp2;go_ret2;exact⟨qa hend _ _,hg4⟩
theorem qjq{z:Nat->UInt8}{B:Array Value}(hok:xO z=true)(hs:B.size=64)(hB:∀i,i<64->B[i]?=some (.int .u8 ((z i).toNat:Int)))(sq:Int)(h0:0<=sq)(h1:sq<=63)(bw:Bool)(w:World) :
  Calls Tryz.prog 60 #[.agg B,.int .i64 sq,.bool bw] w fun e w'=>e=.returned (.bool (xV (xD z 64) sq bw))/\Gr w w':=by
 have hlay:=qC (db hok hs hB);have hbox:Hid ((w.alloc (.cells B 67)).heap[w.heap.size]?=some (.cells B 67)):=qC (heap_alloc_new w _);have hg1:Hid (Gr w (w.alloc (.cells B 67))):=qC ((Gr.refl w).alloc _ _);have hat:Hid (∀M W,jS (xD z 64) M->Calls Tryz.prog 127 #[.agg M,.int .i64 sq,.bool bw] W fun e w'=>e=.returned (.bool (xV (xD z 64) sq bw))/\Gr W w'):=qC fun M W h=>qq0 _ M h sq h0 h1 bw W
 generalize xV (xD z 64) sq bw=R at hat ⊢;generalize xD z 64=m at hlay hat;clear hB hok h0 h1;go_enter Tryz.func60,Tryz.ntmps60
 go_upto_region 2 with(first
  | (refine wpList_load_row rfl 67 _ rfl w.heap.size rfl 67 B (0,0) _ (qa hbox) Tryz.underlying67 rfl (by rw[hs];exact x7) ?_)
  | (go_at_call 126;refine(qa hlay _).mono ?_;rintro e w2 ⟨M,rfl,hM,hg2⟩)
  | (refine wpList_store_row rfl 197 _ _ rfl w2.heap.size M rfl rfl 197 _ (heap_alloc_new _ _) hM.info hM.1.symm hM.ones ?_))
 generalize hw3:(w2.alloc (.cells #[.int .u64 0,.int .u64 0,.int .u64 0,.int .u64 0,.int .u64 0,.int .u64 0,.int .u64 0,.int .u64 0,.int .u64 0,.int .u64 0,.int .u64 0,.int .u64 0] 197)).setRow w2.heap.size M=w3;have hb3:w3.heap[w2.heap.size]?=some (.cells M 197):=by rw[<-hw3];exact setRow_heap _ _ _ _ _ _ (heap_alloc_new w2 _)
 have hg3:Gr w w3:=Gr.trans (Gr.trans (qa hg1) hg2) (by rw[<-hw3];exact((Gr.refl w2).alloc _ _).setRow _ (qL _) _);generalize w2.heap.size=b2 at hb3 ⊢;clear hw3 hg2 hbox hlay hg1
 go_wp2_with(first
  | (refine wpList_load_row rfl 197 _ rfl b2 rfl 197 M (0,0) _ hb3 Tryz.underlying197 rfl hM.info ?_)
  | (go_at_call 127;refine(qa hat M _ hM).mono ?_;rintro e w4 ⟨rfl,hg4⟩))
 go_ret;exact⟨rfl,Gr.trans hg3 hg4⟩
def yB(c:UInt8):Bool:=c==46||c==75||c==107
def vG(c:UInt8):Bool:=c==78||c==110||c==66||c==98
def ws(z:Nat->UInt8)(k:Nat):Nat:=((List.range k).filter fun i=>vG (z i)).length
def uw(z:Nat->UInt8):Bool:=(List.range 64).all (fun i=>yB (z i)||vG (z i))&&decide (ws z 64<=1)
theorem sU(z:Nat->UInt8)(k:Nat):ws z (k+1)=ws z k+if vG (z k)then 1 else 0:=by
 unfold ws;rw[List.range_succ,List.filter_append,qZ];cases h:vG (z k)<;>simp[h]
theorem EH(z:Nat->UInt8)(k:Nat):ws z k<=k:=by
 have:=List.length_filter_le (fun i=>vG (z i)) (List.range k);unfold ws;simpa using this
theorem tT{z:Nat->UInt8}{k:Nat}(hk:k<64)(h:(yB (z k)||vG (z k))=false):uw z=false:=by
 unfold uw
 have:(List.range 64).all (fun i=>yB (z i)||vG (z i))=false:=by
  rw[List.all_eq_false];exact⟨k,qK.2 hk,by rw[h];simp⟩
 rw[this];rfl
theorem tU{z:Nat->UInt8}(h:∀j,j<64->(yB (z j)||vG (z j))=true):uw z=decide (((ws z 64:Nat):Int)<=1):=by
 unfold uw;have:(List.range 64).all (fun i=>yB (z i)||vG (z i))=true:=qW.2 fun j hj=>h j (qK.1 hj)
 rw[this,Bool.true_and];apply decide_eq_decide.2;omega
def DO(c:UInt8):Prop:=(yB c=true/\vG c=false/\(((c.toNat:Int)=46\/(c.toNat:Int)=75\/(c.toNat:Int)=107)))\/(yB c=false/\vG c=true/\((c.toNat:Int)=78\/(c.toNat:Int)=110\/(c.toNat:Int)=66\/(c.toNat:Int)=98))\/((yB c||vG c)=false/\∀n∈[(46:Int),75,107,78,110,66,98],((c.toNat:Int)==n)=false)
instance (c:UInt8):Decidable (DO c):=by unfold DO;infer_instance
structure Ck(w:World)(ga gm:Nat)(PA:Array Value)(W:World):Prop where
 q:W.heap[w.heap.size]?=some (.cells (zG ga gm) 74)
 pa:W.heap[w.heap.size+1]?=some (.cells PA 70)
 gr:Gr w W
theorem Ck.next{w W W':World}{ga gm:Nat}{PA:Array Value}(h:Ck w ga gm PA W)(g:Gr W W'):Ck w ga gm PA W' :=
 ⟨(Below.block g _ (qB.1 h.q).1).trans h.q,(Below.block g _ (qB.1 h.pa).1).trans h.pa,Gr.trans h.gr g⟩
theorem ta(w:World)(ga gm:Nat)(PA:Array Value):Ck w ga gm PA ((w.alloc (.cells (zG ga gm) 74)).alloc (.cells PA 70)):=by
 obtain⟨e1,e2⟩:=x6 w (.cells (zG ga gm) 74) (.cells PA 70);exact⟨e1,e2,((Gr.refl w).alloc _ _).alloc _ _⟩
def kz(z:Nat->UInt8)(wh:Bool):Bool:=xV (xD z 64) (xR z wh) (!wh)
theorem fp{z:Nat->UInt8}{wh:Bool}{fc:Nat->Bool}{b h g:Int}{PA:Array Value}(r:jE z wh fc b h g PA)(hok:xO z=true)(h0:0<=xR z wh)(h1:xR z wh<=63)(w:World) :
  Calls Tryz.prog 124 #[.agg jP,.agg PA] w fun e w'=>e=.returned (.bool (kz z wh))/\Gr w w':=by
 obtain⟨b1,b2⟩:=FN r;have hz:=r.size;have hwh:=r.wh;have hking:=qC (fun W=>gP z _ b2 wh W);have hatt:=qC (fun W=>qjq hok b1 b2 (xR z wh) h0 h1 (!wh) W);unfold kz;generalize xV (xD z 64) (xR z wh) (!wh)=R at hatt ⊢;generalize xR z wh=kk at hking hatt;have hA0:=ta w 60 61 PA;clear r hok b1 b2 h0 h1;simp only[jP,zG];go_enter Tryz.func124,Tryz.ntmps124;go_upto_region 1 with fail;show Code.wp _ _ _ _ ((w.alloc (.cells (zG 60 61) 74)).alloc (.cells PA 70));generalize ((w.alloc (.cells (zG 60 61) 74)).alloc (.cells PA 70))=wA at hA0 ⊢;refine wp_region_held_drew (S:=Ck w 60 61 PA) (by kernel_rfl) (hA0.next (Gr.refl _).drew) (fun qD=>?_);refine C.tq 0 (.pointer (some ⟨w.heap.size,0,none⟩)) qD ?_;refine C.ty 1 (.func (.func 60) #[] #[]) rfl (Or.inl ⟨by rfl,fun w' hw=>(by have cq:w'.cell? ⟨w.heap.size,0,none⟩=some (.func (.func 60) #[] #[]):=(by rw[cell_of_row _ _ _ _ _ _ hw.q];rfl);go_simp)⟩) qD ?_;refine C.tq 2 (.pointer (some ⟨w.heap.size+1,0,none⟩)) qD ?_;refine C.ty 3 (.agg (PA.toList.take 64).toArray) rfl (DB hz (by rfl) _ rfl (w.heap.size+1) rfl (fun _ h=>qy h.pa)) qD ?_;refine C.tq 4 (.pointer (some ⟨w.heap.size+1,0,none⟩)) qD ?_;refine C.ty 5 (.agg (PA.toList.take 64).toArray) rfl (DB hz (by rfl) _ rfl (w.heap.size+1) rfl (fun _ h=>qy h.pa)) qD ?_;refine C.tq 6 (.pointer (some ⟨w.heap.size+1,64,none⟩)) qD ?_;refine C.ty 7 (.bool wh) rfl (Or.inl ⟨by rfl,fun w' hw=>(by have cw:w'.cell? ⟨w.heap.size+1,64,none⟩=some (.bool wh):=(by rw[cell_of_row _ _ _ _ _ _ hw.pa];exact hwh);go_simp)⟩) qD ?_;refine C.tq 9 (.pointer (some ⟨w.heap.size+1,64,none⟩)) qD ?_;refine C.ty 10 (.bool wh) rfl (Or.inl ⟨by rfl,fun w' hw=>(by have cw:w'.cell? ⟨w.heap.size+1,64,none⟩=some (.bool wh):=(by rw[cell_of_row _ _ _ _ _ _ hw.pa];exact hwh);go_simp)⟩) qD ?_;refine C.tq 11 (.bool (!wh)) qD ?_;refine C.rd 8 fun K hK=>?_
 go_simp;refine(qa hking _).mono ?_;rintro e wa ⟨rfl,hga⟩;refine hK.out _ _ (qD.next hga) (fun qD=>?_);clear hK K;refine C.rd 12 fun K hK=>?_
 go_simp;refine(qa hatt _).mono ?_;rintro e wb ⟨rfl,hgb⟩;refine hK.out _ _ (qD.next hgb) (fun qD=>?_);clear hK K;refine C.rd 13 fun K hK=>?_
 go_simp;refine hK.out _ _ qD (fun qD=>?_);clear hK K;refine wpAnyH_done (by kernel_rfl) ?_ _;go_wp2_with fail;go_ret;exact⟨rfl,qD.gr⟩
def yO(z:Nat->UInt8)(c:Bool)(n:Int):Int:=if n=0 then(if c then 1 else 2)else if uw z then 3 else 0
def xB(c:Bool)(n o:Int):Array Value:=#[.bool c,.int .i64 n,.int .i64 o]
theorem vI:(Tryz.prog.info? 186).map (·.size)=some 3:=by kernel_rfl
theorem xw(c:Bool)(n o:Int):(xB c n o).all (·.oneCell')=true:=by simp[xB,Value.oneCell']
def bx(z:Nat->UInt8)(wh:Bool)(fc:Nat->Bool)(b:Int):Array Value:=xB (kz z wh) ((xC z wh fc b).length:Int) (yO z (kz z wh) ((xC z wh fc b).length:Int))
end
theorem rz{s:ByteArray}{p:pH}(hr:xG s=some p)(hc:xP p=true):jI (wV p 1)=jI (wV p 2)/\(jI (wV p 2)).Pairwise fun x y=>yJ x<yJ y:=by
 obtain⟨h,h0,h1⟩:=Fp hr hc;exact Fd h h0 h1
theorem BH{s:ByteArray}{p:pH}(hr:xG s=some p)(hc:xP p=true):lg (xM p) p.white p.castle p.behind:=by
 obtain⟨h,h0,h1⟩:=Fp hr hc;exact qjw h h0 h1
section
attribute [local go_sem] qd qe Oper.semAt_some
theorem l7{w:World}{base:Nat}{v:Value}{xs:List ByteArray}(h:yt base v xs w):∃p cap,v=.slice p xs.length cap/\xs.length<=cap/\∀i (hi:i<xs.length),∃g,p=some ⟨g,0,none⟩/\w.cell? ⟨g,i,none⟩=some (.string xs[i]):=by
 rcases h.2 with⟨rfl,hn⟩|⟨g,cap,cur,rfl,hb,hg,hn,hm,hcs,htk⟩
 ·have:xs=[]:=by simpa using hn
  subst this;exact⟨none,0,rfl,qL _,fun i hi=>absurd hi (Nat.not_lt_zero i)⟩
 ·refine⟨_,_,rfl,hn,fun i hi=>⟨g,rfl,?_⟩⟩;simp only[World.cell?];rw[hg];show cur[i]?=_;rw[<-qO,<-List.getElem?_take_of_lt (show i<xs.length*1 by omega),htk,List.getElem?_map,List.getElem?_eq_getElem hi];rfl
def DQ(T:List ByteArray)(k:Int)(e:Ending)(w':World):Prop:=∃p cap,e=.returned (.tuple #[.slice p T.length cap,.int .i64 k])/\T.length<=cap/\∀i (hi:i<T.length),∃g,p=some ⟨g,0,none⟩/\w'.cell? ⟨g,i,none⟩=some (.string T[i])
theorem G8{T:List ByteArray}{p:Option Addr}{W W':World}(h:∀i (hi:i<T.length),∃g,p=some ⟨g,0,none⟩/\W.cell? ⟨g,i,none⟩=some (.string T[i]))(hg:Gr W W'):∀i (hi:i<T.length),∃g,p=some ⟨g,0,none⟩/\W'.cell? ⟨g,i,none⟩=some (.string T[i]):=fun i hi=>by
 obtain⟨g,e,hx⟩:=h i hi;exact⟨g,e,(Below.cell hg (p:=⟨g,i,none⟩) (World.block_lt_of_cell? W _ hx)).trans hx⟩
def El(p:Option Addr)(T:List ByteArray)(W:World):Prop:=∀i (hi:i<T.length),∃g,p=some ⟨g,0,none⟩/\W.cell? ⟨g,i,none⟩=some (.string T[i])
theorem El.gr{T:List ByteArray}{p:Option Addr}{W W':World}(h:El p T W)(hg:Gr W W'):El p T W':=G8 h hg
theorem qka(T:List ByteArray)(hT:T.length<=1000000)(p1 p2:Option Addr)(c1 c2:Nat)(w:World)(h1:El p1 T w)(h2:El p2 T w):Calls Tryz.prog 27 #[.slice p1 T.length c1,.slice p2 T.length c2] w fun e w'=>e=.returned (.bool true)/\Gr w w':=by
 have h1':=qC h1;have h2':=qC h2;clear h1 h2;obtain⟨N,hN⟩:∃N,N=T.length:=⟨_,rfl⟩;rw[<-hN]at hT ⊢;go_enter Tryz.func27,Tryz.ntmps27;go_upto_region 3 with fail;go_wp2_with fail;go_loopg [5] N (fun g v wr=>∃(j d:Nat),j+g=N/\v=.int .i64 (j:Int)/\wr=w.drewN d)
 case atStart=>exact⟨0,0,by omega,rfl,rfl⟩
 case round =>
  obtain⟨j,d,k1,rfl,rfl⟩:=hrel;by_cases hlt:j<N
  ·obtain⟨g1,rfl,x1⟩:=qa h1' j (by omega);obtain⟨g2,rfl,x2⟩:=qa h2' j (by omega);have hj0:(0:Int)<=(j:Int):=by omega
   have hjN:(j:Int)<(N:Int):=by omega
   generalize T[j]'(by omega)=X at x1 x2;have f1:=i6 X;go_upto_region 6 with fail;go_quiet(fail)
   all_goals
    go_wp2;go_roundg (gk-1)
    case measure=>omega
    case rel=>exact⟨j+1,_,by omega,by go_num,rfl⟩
  ·have ej:j=N:=by omega
   go_wp2;go_ret;exact⟨rfl,Gr.drewN (Gr.refl w) _⟩
def dh:List Mv:=[(4,12,0),(4,13,0),(4,5,0),(4,3,0),(4,11,0)]
def yS:List Mv:=[(4,3,0),(4,11,0),(4,12,0),(4,5,0),(4,13,0)]
theorem mj:(xG yT).map (fun p=>yo (xM p) p.white p.castle p.behind)=some dh:=by decide +kernel
theorem fH:yS.Pairwise fun x y=>yJ x<yJ y:=by decide +kernel
theorem qvr:(dh.all fun x=>yS.contains x)=true/\(yS.all fun x=>dh.contains x)=true:=by decide +kernel
def kW:List ByteArray:=[⟨#[101,49,100,49]⟩,⟨#[101,49,100,50]⟩,⟨#[101,49,101,50]⟩,⟨#[101,49,102,49]⟩,⟨#[101,49,102,50]⟩]
theorem mi:ud yS=kW:=by decide +kernel
theorem sh:∃p,xG yT=some p/\xP p=true/\jI (wV p 1)=yS/\jI (wV p 2)=yS:=by
 obtain⟨p,h1,h2⟩:=fJ;have hl:=mj;rw[h1]at hl;have hl:yo (xM p) p.white p.castle p.behind=dh:=by simpa using hl
 obtain⟨hC,hb0,hb1⟩:=Fp h1 h2;have hk:=qjw hC hb0 hb1;obtain⟨t1,t2⟩:=rz h1 h2
 have e1:jI (wV p 1)=yS:=by
  refine zu (fun a c h=>List.lt_asymm h) _ _ (by rw[t1];exact t2) fH fun x=>?_
  rw[(xq _).mem_iff];show x∈yo (xM p) p.white p.castle p.behind↔_;rw[hl];constructor
  ·intro hx;have:=qW.1 qvr.1 x hx;simpa using this
  ·intro hx;have:=qW.1 qvr.2 x hx;simpa using this
 exact⟨p,h1,h2,e1,by rw[<-t1];exact e1⟩
theorem fK(n:Int)(hn:n=1\/n=2)(m:Int)(w:World)(hc:Ct m w)(ht:uV w):Calls Tryz.prog 15 #[.string yT,.int .i64 n] w fun e w'=>DQ kW 0 e w'/\Gr w w':=by
 obtain⟨p,h1,h2,h3,h4⟩:=sh;refine(qkd yT (by decide +kernel) n (fun q a b=>BH a b) m w hc ht).mono fun e w' h=>⟨?_,h.2⟩
 have hs:jI (wV p n)=yS:=by rcases hn with rfl|rfl;exact h3;exact h4
 rcases h.1 with⟨a,_⟩|⟨q,a,b,_⟩|⟨q,_,_,a,_⟩|⟨q,v,a,_,_,rfl,hv⟩
 ·rw[h1]at a;cases a
 ·rw[h1]at a;rw[<-qP a,h2]at b;cases b
 ·exact absurd hn a
 ·rw[h1]at a;rw[<-qP a,hs,mi]at hv;obtain⟨pp,cap,rfl,hcap,hel⟩:=l7 hv;exact⟨pp,cap,rfl,hcap,hel⟩
end
section
attribute [local go_sem] qd qe
structure Pm(w:World)(PA:Array Value)(f t:Nat)(u:UInt8)(W:World):Prop where
 pa:W.heap[w.heap.size]?=some (.cells PA 70)
 mv:W.heap[w.heap.size+1]?=some (.cells #[.int .i64 (f:Int),.int .i64 (t:Int),.int .u8 (u.toNat:Int)] 125)
 lt:w.heap.size+1<W.heap.size
 gr:Gr w W
theorem Pm.next{w W W':World}{PA:Array Value}{f t:Nat}{u:UInt8}(h:Pm w PA f t u W)(g:Gr W W'):Pm w PA f t u W' :=
 ⟨(Below.block g _ (Nat.lt_of_succ_lt h.lt)).trans h.pa,(Below.block g _ h.lt).trans h.mv,qN h.lt (Below.size g),Gr.trans h.gr g⟩
theorem Pm.start(w:World)(PA:Array Value)(f t:Nat)(u:UInt8):Pm w PA f t u ((w.alloc (.cells PA 70)).alloc (.cells #[.int .i64 (f:Int),.int .i64 (t:Int),.int .u8 (u.toNat:Int)] 125)):=by
 obtain⟨e1,e2⟩:=eQ (w:=w) (PA:=PA) (o:=#[.int .i64 (f:Int),.int .i64 (t:Int),.int .u8 (u.toNat:Int)]) (ty:=70) (ty2:=125) (Gr.refl _);exact⟨e1,e2,by rw[World.size_alloc,World.size_alloc];omega,((Gr.refl w).alloc _ _).alloc _ _⟩
theorem Pm.cells{w W:World}{PA:Array Value}{f t:Nat}{u:UInt8}(h:Pm w PA f t u W):W.cell? ⟨w.heap.size+1,0,none⟩=some (.int .i64 (f:Int))/\W.cell? ⟨w.heap.size+1,1,none⟩=some (.int .i64 (t:Int))/\W.cell? ⟨w.heap.size+1,2,none⟩=some (.int .u8 (u.toNat:Int)) :=
 ⟨by rw[qn h.mv];rfl,by rw[qn h.mv];rfl,by rw[qn h.mv];rfl⟩
theorem Pm.at{w W:World}{PA:Array Value}{f t:Nat}{u:UInt8}(h:Pm w PA f t u W){k:Nat}{v:Value}(hv:PA[k]?=some v):W.cell? ⟨w.heap.size,k,none⟩=some v:=by
 rw[qn h.pa];exact hv
theorem qvy(wh:Bool)(fc:Nat->Bool)(f t:Nat)(u:UInt8):zK wh fc f t u=-1\/∃i:Nat,i<4/\zK wh fc f t u=(i:Int):=by
 have hu:zK wh fc f t u=if jZ wh fc f t u 0 then 0 else if jZ wh fc f t u 1 then 1 else if jZ wh fc f t u 2 then 2 else if jZ wh fc f t u 3 then 3 else -1:=rfl;rw[hu];split
 ·exact .inr ⟨0,by omega,rfl⟩
 ·split
  ·exact .inr ⟨1,by omega,rfl⟩
  ·split
   ·exact .inr ⟨2,by omega,rfl⟩
   ·split
    ·exact .inr ⟨3,by omega,rfl⟩
    ·exact .inl rfl
theorem m4{z:Nat->UInt8}{wh:Bool}{fc:Nat->Bool}{b h g:Int}{PA:Array Value}(r:jE z wh fc b h g PA)(f t:Nat)(hf:f<64)(ht:t<64)(u:UInt8)(w:World):Calls Tryz.prog 191 #[.agg PA,.agg #[.int .i64 (f:Int),.int .i64 (t:Int),.int .u8 (u.toNat:Int)]] w fun e w'=>e=.returned (.bool (j9 z wh fc b f t u))/\Gr w w':=by
 have hz:=r.size;have hP0:=Pm.start w PA f t u;have htu:=qC (fun W=>Dv r W);have hcf:=qC (fun(c:UInt8) W=>za c W);have hkf:=qC (fun W=>zp (z f) W);have hf0:(0:Int)<=(f:Int):=by omega
 have hf1:(f:Int)<64:=by omega
 have ht0:(0:Int)<=(t:Int):=by omega
 have ht1:(t:Int)<64:=by omega
 have hvf:=r.sq f hf;have hvt:=r.sq t ht;have hrow:=qC (vF hP0.pa);obtain⟨bs,bA⟩:=FN r;have hatt:=qC (fun(k:Nat)(hk:k<=5) W=>qzz _ (zI z) bA bs k hk (xK wh) (f:Int) (t:Int) (by omega) (by omega) (by omega) (by omega) W);have hcas:=qC (fun W=>qxf r f t u W);have hfree:=qC (fun i hi W=>tF r i hi W);have hmid:=qC (fun W (h:zJ w.heap.size PA W)=>sP h);have hi64:(Tryz.prog.info? 67).map (·.size)=some (PA.toList.take 64).length:=by rw[x7];simp[r.size]
 have hi64':=qC hi64;have hvb:=r.b;have hsq:=qC r.sq;clear bs bA hi64;generalize (PA.toList.take 64)=L at hatt hmid hi64';obtain⟨V,hV⟩:∃V,Hid (V=j9 z wh fc b f t u):=⟨_,qC rfl⟩;rw[<-qa hV];go_enter Tryz.func191,Tryz.ntmps191
 go_upto_region 2 with(first
  | (go_at_call 116;refine(qa htu _).mono ?_;rintro e w1 ⟨rfl,hg1⟩)
  | (refine ql (by rfl) _ rfl w.heap.size rfl hz (qa hrow) ?_))
 have hP1:=hP0.next hg1;clear hP0 hg1 hrow htu;obtain⟨m0,m1,m2⟩:=hP1.cells;have cf:=hP1.at hvf;have ct:=hP1.at hvt;clear ct cf m0 m1 m2;have hcl:=qC (fun W (h:Pm w PA f t u W)=>h.cells);have hbd:=qC (fun W (h:Pm w PA f t u W)=>(⟨h.at hvf,h.at hvt⟩:_/\_));have hgw:=qC hP1.gr;by_cases c1:vB (z f)=xK wh
 case neg =>
  have hV1:Hid (V=false):=qC (by rw[qa hV];unfold j9;rw[qE c1];simp);have d1:(vB (z f) != xK wh)=true:=qU.2 c1;obtain⟨m0,m1,m2⟩:=qa hcl _ hP1;obtain⟨cf,ct⟩:=qa hbd _ hP1;clear c1
  go_wp2_with(first
   | (go_at_call 115;refine(qa hcf _ _).mono ?_;rintro e w' ⟨rfl,hww⟩;have hww':=hww.symm;subst hww';clear hww))
  go_ret;exact⟨by rw[qa hV1];rfl,qa hgw⟩
 case pos =>
  have d1:(vB (z f) != xK wh)=false:=by rw[c1];simp
  by_cases c2:vB (z t)=xK wh
  case pos =>
   have hV1:Hid (V=false):=qC (by rw[qa hV];unfold j9;rw[qJ c2];simp);have d2:(vB (z t)==xK wh)=true:=beq_iff_eq.2 c2;obtain⟨m0,m1,m2⟩:=qa hcl _ hP1;obtain⟨cf,ct⟩:=qa hbd _ hP1;clear c1 c2
   go_wp2_with(first
    | (go_at_call 115;refine(qa hcf _ _).mono ?_;rintro e w' ⟨rfl,hww⟩;have hww':=hww.symm;subst hww';clear hww))
   go_ret;exact⟨by rw[qa hV1];rfl,qa hgw⟩
  case neg =>
   have d2:(vB (z t)==xK wh)=false:=by rw[qM];exact c2
   obtain⟨m0,m1,m2⟩:=qa hcl _ hP1;obtain⟨cf,ct⟩:=qa hbd _ hP1
   have hl0:Hid (zO t=(((t:Int)/8==0)||((t:Int)/8==7))):=qC (by
    unfold zO
    have e0:decide (t/8=0)=((t:Int)/8==0):=by
     by_cases q:t/8=0
     ·rw[qJ q];symm;rw[beq_iff_eq];omega
     ·rw[qE q];symm;rw[qM];omega
    have e7:decide (t/8=7)=((t:Int)/8==7):=by
     by_cases q:t/8=7
     ·rw[qJ q];symm;rw[beq_iff_eq];omega
     ·rw[qE q];symm;rw[qM];omega
    rw[e0,e7])
   have hnu:((u.toNat:Int) != 0)=decide (u≠0):=by
    by_cases e:u=0
    ·subst e;rfl
    ·have:(u.toNat:Int)≠0:=fun h=>e (q6.1 (by simpa using h))
     rw[qU.2 this,qJ e]
   obtain⟨k,hk5,hkd⟩:=aD c1;rw[hkd]at hkf;by_cases k0:k=0
   ·subst k0;have hkf:Hid (∀W,Calls Tryz.prog 107 #[.int .u8 ((z f).toNat:Int)] W fun e w'=>e=.returned (.int .i64 0)/\w'=W):=hkf;have hV2:∀a l,decide (u≠0)=a->zO t=l->V=((a==l)&&BD z wh b f t):=fun a l ea el=>by rw[qa hV];unfold j9;rw[qJ c1,qE c2,ea,el,hkd];simp
    have hV2:=qC hV2
    go_upto_region 6 with(first
     | (go_at_call 115;refine(qa hcf _ _).mono ?_;rintro e w' ⟨rfl,hww⟩;have hww':=hww.symm;subst hww';clear hww)
     | (go_at_call 107;refine(qa hkf _).mono ?_;rintro e w' ⟨rfl,hww⟩;have hww':=hww.symm;subst hww';clear hww))
    clear hkf;go_cut [8]from 37 (fun s8 wx=>s8=.bool (zO t)/\wx=w1)
    case first =>
     clear hatt hcas hfree hmid hi64' hcl hbd hV;go_wp2_with fail
     all_goals
      go_meet
      case rel=>exact⟨by first|(rw[qa hl0];done)|(rw[qa hl0];simp[*]),rfl⟩
    case rest =>
     obtain⟨rfl,rfl⟩:=hcut;obtain⟨a,ha⟩:∃a,Hid (decide (u≠0)=a):=⟨_,qC rfl⟩;obtain⟨l,hl⟩:∃l,Hid (zO t=l):=⟨_,qC rfl⟩;rw[qa ha]at hnu;rw[qa hl];clear hl0;have hV3:=qC (qa hV2 a l (qa ha) (qa hl));clear hV hV2 ha hl hkd;have hat:Hid (∀W,Calls Tryz.prog 247 #[.agg L.toArray,.int .i64 0,.int .i64 (xK wh),.int .i64 (f:Int),.int .i64 (t:Int)] W fun e w'=>e=.returned (.bool (xS (zI z) 0 (xK wh) (f:Int) (t:Int)))/\Gr W w'):=qC (qa hatt 0 (by omega));obtain⟨AT,hAT⟩:∃x,Hid (xS (zI z) 0 (xK wh) (f:Int) (t:Int)=x):=⟨_,qC rfl⟩;rw[qa hAT]at hat;clear hatt hcas hfree;by_cases hal:a=l
     case neg =>
      have hne:(!a==l)=true:=by cases a<;>cases l<;>simp at hal ⊢
      have hV4:Hid (V=false):=qC (by rw[qa hV3,qM.2 hal];rfl);go_wp2_with fail;go_ret;exact⟨by rw[qa hV4];rfl,qa hgw⟩
     case pos =>
      subst hal;have hne:(!a==a)=false:=by cases a<;>rfl
      have hV4:Hid (V=BD z wh b f t):=qC (by rw[qa hV3];simp);have hV5:Hid (V=if AT then decide (vB (z t)=xK (!wh))||decide ((t:Int)=b)else decide (f%8=t%8)&&decide (z t=46)&&DC z wh f t):=qC (by rw[qa hV4,<-qa hAT];rfl);clear hV3 hV4 hAT;have hrow:=qC (vF hP1.pa)
      go_upto_region 10 with(first
       | (go_at_call 247;refine(qa hat _).mono ?_;rintro e w2 ⟨rfl,hg2⟩)
       | (refine wpList_load_mid rfl 67 _ rfl w.heap.size 0 rfl L _ (qa hmid _ (qa hrow)) Tryz.underlying67 rfl (qa hi64') ?_))
      have hP2:=hP1.next hg2;clear hP1 hg2 hrow hat hmid hi64' m0 m1 m2 cf ct hgw;have hgw:=qC hP2.gr;obtain⟨m0,m1,m2⟩:=qa hcl _ hP2;obtain⟨cf,ct⟩:=qa hbd _ hP2;have cb:=hP2.at hvb;cases AT
      ·have hV6:Hid (V=(decide (f%8=t%8)&&decide (z t=46)&&DC z wh f t)):=hV5;clear hV5 hcf;by_cases s1:f%8=t%8
       case neg =>
        have hs1:((f:Int)%8==(t:Int)%8)=false:=by rw[qM];omega
        have hs2:((f:Int)%8 != (t:Int)%8)=true:=by rw[qU];omega
        have hV7:Hid (V=false):=qC (by rw[qa hV6,qE s1];rfl);clear s1;go_wp2_with fail;go_ret;exact⟨by rw[qa hV7];rfl,qa hgw⟩
       case pos =>
        have hs1:((f:Int)%8==(t:Int)%8)=true:=by rw[beq_iff_eq];omega
        have hs2:((f:Int)%8 != (t:Int)%8)=false:=by
         have:(f:Int)%8=(t:Int)%8:=by omega
         rw[this];simp
        by_cases s2:z t=46
        case neg =>
         have hs3:(((z t).toNat:Int) != 46)=true:=by rw[qU];intro e;exact s2 (q6.1 (by show(z t).toNat=46;omega))
         have hs4:(((z t).toNat:Int)==46)=false:=by rw[qM];intro e;exact s2 (q6.1 (by show(z t).toNat=46;omega))
         have hV7:Hid (V=false):=qC (by rw[qa hV6,qE s2];simp);clear s1 s2;go_wp2_with fail;go_ret;exact⟨by rw[qa hV7];rfl,qa hgw⟩
        case pos =>
         have hs3:(z t).toNat=46:=by rw[s2];rfl
         rw[hs3]at ct;have hV7:Hid (V=DC z wh f t):=qC (by rw[qa hV6,qJ s1,qJ s2];rfl);clear hV6 s1 s2;have hV8:Hid (V=(decide (uI f t=xK wh)||(decide (uI f t=2*xK wh)&&decide (f/8=(if wh then 1 else 6))&&decide (z (if wh then f+8 else f-8)=46)))):=hV7;have hup:Hid (uI f t=(t:Int)/8-(f:Int)/8):=qC (by unfold uI;omega);have hwr:IntKind.i64.wrap ((t:Int)/8-(f:Int)/8)=(t:Int)/8-(f:Int)/8:=by rw[IntKind.wrap_i64];omega
         rw[qa hup]at hV8;clear hV7 hup hcl hbd;obtain⟨d,hd⟩:∃d,Hid ((t:Int)/8-(f:Int)/8=d):=⟨_,qC rfl⟩;cases wh
         ·have hV9:Hid (V=(decide (d=-1)||(decide (d=-2)&&decide (f/8=6)&&decide (z (f-8)=46)))):=qC (by rw[qa hV8,qa hd];rfl);clear hV8;have hme:xK false=-1:=rfl;rw[hme];go_upto_region 26 with fail;rw[qa hd];have hsd:=qC (show(t:Int)/8-(f:Int)/8=d from qa hd);by_cases d1:d=-1
          case pos =>
           have hVa:Hid (V=true):=qC (by rw[qa hV9,d1];rfl);subst d1;go_wp2_with fail;go_ret;exact⟨by rw[qa hVa];rfl,qa hgw⟩
          case neg =>
           have e1:(d==-1)=false:=by rw[qM];exact d1
           by_cases d2:d=-2
           case neg =>
            have e2:(d==-2)=false:=by rw[qM];exact d2
            have hVa:Hid (V=false):=qC (by rw[qa hV9,qE d1,qE d2];rfl);clear d1 d2;go_wp2_with fail;go_ret;exact⟨by rw[qa hVa];rfl,qa hgw⟩
           case pos =>
            subst d2;by_cases d3:f/8=6
            case neg =>
             have e3:((f:Int)/8==6)=false:=by rw[qM];omega
             have hVa:Hid (V=false):=qC (by rw[qa hV9,qE d3];rfl);clear d3 d1;go_wp2_with fail;go_ret;exact⟨by rw[qa hVa];rfl,qa hgw⟩
            case pos =>
             have e3:((f:Int)/8==6)=true:=by rw[beq_iff_eq];omega
             obtain⟨n,hn⟩:∃n,Hid (f-8=n):=⟨_,qC rfl⟩;have hn1:n<64:=by have:=qa hn;omega
             have e4:IntKind.i64.wrap ((f:Int)+(-8))=(n:Int):=by rw[IntKind.wrap_i64];have:=qa hn;omega
             have e5:(0:Int)<=(n:Int):=by omega
             have e6:(n:Int)<64:=by omega
             have cn:=hP2.at (qa hsq n hn1)
             have hVa:Hid (V=(((z n).toNat:Int)==46)):=qC (by
              rw[qa hV9,qJ d3,qa hn];by_cases e:z n=46
              ·rw[e];rfl
              ·have:¬ ((z n).toNat:Int)=46:=fun q=>e (q6.1 (by show(z n).toNat=46;omega))
               rw[qE e,qM.2 this];rfl)
             clear d3 d1 hn;go_wp2_with fail;go_ret;exact⟨by rw[qa hVa];rfl,qa hgw⟩
         ·have hV9:Hid (V=(decide (d=1)||(decide (d=2)&&decide (f/8=1)&&decide (z (f+8)=46)))):=qC (by rw[qa hV8,qa hd];rfl);clear hV8;have hme:xK true=1:=rfl;rw[hme];go_upto_region 26 with fail;rw[qa hd];have hsd:=qC (show(t:Int)/8-(f:Int)/8=d from qa hd);by_cases d1:d=1
          case pos =>
           have hVa:Hid (V=true):=qC (by rw[qa hV9,d1];rfl);subst d1;go_wp2_with fail;go_ret;exact⟨by rw[qa hVa];rfl,qa hgw⟩
          case neg =>
           have e1:(d==1)=false:=by rw[qM];exact d1
           by_cases d2:d=2
           case neg =>
            have e2:(d==2)=false:=by rw[qM];exact d2
            have hVa:Hid (V=false):=qC (by rw[qa hV9,qE d1,qE d2];rfl);clear d1 d2;go_wp2_with fail;go_ret;exact⟨by rw[qa hVa];rfl,qa hgw⟩
           case pos =>
            subst d2;by_cases d3:f/8=1
            case neg =>
             have e3:((f:Int)/8==1)=false:=by rw[qM];omega
             have hVa:Hid (V=false):=qC (by rw[qa hV9,qE d3];rfl);clear d3 d1;go_wp2_with fail;go_ret;exact⟨by rw[qa hVa];rfl,qa hgw⟩
            case pos =>
             have e3:((f:Int)/8==1)=true:=by rw[beq_iff_eq];omega
             obtain⟨n,hn⟩:∃n,Hid (f+8=n):=⟨_,qC rfl⟩;have hn1:n<64:=by have:=qa hn;omega
             have e4:IntKind.i64.wrap ((f:Int)+8)=(n:Int):=by rw[IntKind.wrap_i64];have:=qa hn;omega
             have e5:(0:Int)<=(n:Int):=by omega
             have e6:(n:Int)<64:=by omega
             have cn:=hP2.at (qa hsq n hn1)
             have hVa:Hid (V=(((z n).toNat:Int)==46)):=qC (by
              rw[qa hV9,qJ d3,qa hn];by_cases e:z n=46
              ·rw[e];rfl
              ·have:¬ ((z n).toNat:Int)=46:=fun q=>e (q6.1 (by show(z n).toNat=46;omega))
               rw[qE e,qM.2 this];rfl)
             clear d3 d1 hn;go_wp2_with fail;go_ret;exact⟨by rw[qa hVa];rfl,qa hgw⟩
      ·have hV6:Hid (V=(decide (vB (z t)=xK (!wh))||decide ((t:Int)=b))):=hV5;clear hV5;have hng:IntKind.i64.wrap (-(xK wh))=xK (!wh):=by cases wh<;>decide
       by_cases s1:vB (z t)=xK (!wh)
       case pos =>
        have hs1:(vB (z t)==xK (!wh))=true:=beq_iff_eq.2 s1;have hV7:Hid (V=true):=qC (by rw[qa hV6,qJ s1];rfl);clear s1 hV6;go_wp2_with(go_at_call 115;refine(qa hcf _ _).mono ?_;rintro e w' ⟨rfl,hww⟩;have hww':=hww.symm;subst hww';clear hww);go_ret;exact⟨by rw[qa hV7];rfl,qa hgw⟩
       case neg =>
        have hs1:(vB (z t)==xK (!wh))=false:=by rw[qM];exact s1
        have hV7:Hid (V=((t:Int)==b)):=qC (by rw[qa hV6,qE s1,Bool.false_or];by_cases e:(t:Int)=b<;>simp[e])
        clear s1 hV6;go_wp2_with(go_at_call 115;refine(qa hcf _ _).mono ?_;rintro e w' ⟨rfl,hww⟩;have hww':=hww.symm;subst hww';clear hww);go_ret;exact⟨by rw[qa hV7];rfl,qa hgw⟩
   ·have hk1:((k:Int)==0)=false:=by rw[qM];omega
    have hk2:((k:Int) != 0)=true:=by rw[qU];omega
    have hV2:∀a,decide (u≠0)=a->V=(!a&&EE z wh fc k f t u):=fun a ea=>by
     rw[qa hV];unfold j9;rw[qJ c1,qE c2,ea,hkd,qE (show ¬ ((k:Int)=0) by omega),qF (show ¬ ((k:Int)=0) by omega)];cases a<;>simp
    have hV2:=qC hV2
    go_upto_region 6 with(first
     | (go_at_call 115;refine(qa hcf _ _).mono ?_;rintro e w' ⟨rfl,hww⟩;have hww':=hww.symm;subst hww';clear hww)
     | (go_at_call 107;refine(qa hkf _).mono ?_;rintro e w' ⟨rfl,hww⟩;have hww':=hww.symm;subst hww';clear hww))
    clear hkf;go_cut [8]from 37 (fun s8 wx=>s8=.bool (zO t)/\wx=w1)
    case first =>
     clear hatt hcas hfree hmid hi64' hcl hbd hV;go_wp2_with fail
     all_goals
      go_meet
      case rel=>exact⟨by first|(rw[qa hl0];done)|(rw[qa hl0];simp[*]),rfl⟩
    case rest =>
     obtain⟨rfl,rfl⟩:=hcut;obtain⟨a,ha⟩:∃a,Hid (decide (u≠0)=a):=⟨_,qC rfl⟩;obtain⟨l,hl⟩:∃l,Hid (zO t=l):=⟨_,qC rfl⟩;rw[qa ha]at hnu;rw[qa hl];clear hl0;have hV3:=qC (qa hV2 a (qa ha));clear hV hV2 ha hl hkd;have hat:=qC (qa hatt k hk5);obtain⟨AT,hAT⟩:∃x,Hid (xS (zI z) k (xK wh) (f:Int) (t:Int)=x):=⟨_,qC rfl⟩;rw[qa hAT]at hat;clear hatt;cases a
     case true =>
      have hV4:Hid (V=false):=qC (by rw[qa hV3];rfl);clear hcas hfree hat;go_wp2_with fail;go_ret;exact⟨by rw[qa hV4];rfl,qa hgw⟩
     case false =>
      have hV4:Hid (V=if AT then true else decide (k=5)&&decide (0<=zK wh fc f t u)&&km z (zK wh fc f t u).toNat):=qC (by rw[qa hV3,<-qa hAT];rfl);clear hV3 hAT;have hrow:=qC (vF hP1.pa)
      go_upto_region 11 with(first
       | (go_at_call 247;refine(qa hat _).mono ?_;rintro e w2 ⟨rfl,hg2⟩)
       | (refine wpList_load_mid rfl 67 _ rfl w.heap.size 0 rfl L _ (qa hmid _ (qa hrow)) Tryz.underlying67 rfl (qa hi64') ?_))
      have hP2:=hP1.next hg2;clear hP1 hg2 hrow hat hmid hi64' m0 m1 m2 cf ct hgw;have hgw:=qC hP2.gr;obtain⟨m0,m1,m2⟩:=qa hcl _ hP2;have hrow:=qC (vF hP2.pa);cases AT
      case true =>
       have hV5:Hid (V=true):=hV4;clear hcas hfree;go_wp2_with fail;go_ret;exact⟨by rw[qa hV5];rfl,qa hgw⟩
      case false =>
       have hV5:Hid (V=(decide (k=5)&&decide (0<=zK wh fc f t u)&&km z (zK wh fc f t u).toNat)):=hV4;clear hV4;have hcc:=qvy wh fc f t u;obtain⟨C,hCc⟩:∃C,Hid (zK wh fc f t u=C):=⟨_,qC rfl⟩;rw[qa hCc]at hcas hV5 hcc
       go_upto_region 14 with(first
        | (go_at_call 108;refine(qa hcas _).mono ?_;rintro e w3 ⟨rfl,hg3⟩)
        | (refine ql (by rfl) _ rfl w.heap.size rfl hz (qa hrow) ?_))
       have hP3:=hP2.next hg3;clear hP2 hg3 hrow hgw m0 m1 m2 hcas hCc;have hgw:=qC hP3.gr;have hrow:=qC (vF hP3.pa);by_cases k5:k=5
       case neg =>
        have hk6:((k:Int) != 5)=true:=by rw[qU];omega
        have hk7:((k:Int)==5)=false:=by rw[qM];omega
        have hV6:Hid (V=false):=qC (by rw[qa hV5,qE k5];rfl);clear hfree;go_wp2_with fail;go_ret;exact⟨by rw[qa hV6];rfl,qa hgw⟩
       case pos =>
        have hk6:((k:Int) != 5)=false:=by rw[k5];rfl
        have hk7:((k:Int)==5)=true:=by rw[k5];rfl
        rcases hcc with rfl|⟨i,hi,rfl⟩
        ·have hV6:Hid (V=false):=qC (by rw[qa hV5];simp);clear hfree;go_wp2_with fail;go_ret;exact⟨by rw[qa hV6];rfl,qa hgw⟩
        ·have hV6:Hid (V=km z i):=qC (by rw[qa hV5,qJ k5];simp);have hlt:((i:Int)<0)=False:=by simp
         have hfr:=qC (qa hfree i hi);clear hV5 hfree
         go_wp2_with(first
          | (go_at_call 248;refine(qa hfr _).mono ?_;rintro e w4 ⟨rfl,hg4⟩;have hgx:=qC (Gr.trans (qa hgw) hg4))
          | (refine ql (by rfl) _ rfl w.heap.size rfl hz (qa hrow) ?_))
         go_ret;exact⟨by rw[qa hV6];rfl,qa hgx⟩
end
end Go.Proofs.YtnfakamfmkhlbabGreatDoor.C
