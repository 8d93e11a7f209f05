import Derived.Test.YtnfakamfmkhlbabGreatDoorUm11
import Derived.Test.YtnfakamfmkhlbabGreatDoorUm7
import Derived.Deep.QuietTactic
import Derived.BigQuiet
import Derived.Test.YtnfakamfmkhlbabGreatDoorUm4
import Derived.Test.YtnfakamfmkhlbabGreatDoorUm2
import Derived.Test.YtnfakamfmkhlbabGreatDoorUm5
import Derived.Deep.RegionHeld3
import Derived.Maps.AppendAt
import Derived.RangeFuncBox
import Derived.Shelf.SlSortCmp.NoneTotal
import Derived.Shelf.Lay
import Derived.Test.YtnfakamfmkhlbabGreatDoorSf
import Derived.Sort.Walk0
import Derived.Test.YtnfakamfmkhlbabGreatDoorKz2
set_option maxRecDepth 100000
set_option maxHeartbeats 4000000
set_option linter.unusedSimpArgs false
namespace Go.Proofs.YtnfakamfmkhlbabGreatDoor.C
open Go.ChangeShapes Go.WideShapes Go.ChangeAt Go.RowKit Go.Proofs.YtnfakamfmkhlbabGreatDoor.P Go.Shelf Go.Sort
section
attribute [local go_sem] qd qe
def W3(w:World)(PA:Array Value)(k0 k1 m0 m1:Nat):World:=((w.alloc (.cells PA 70)).alloc (.cells #[.int .i64 k0,.int .i64 k1] 281)).alloc (.cells #[.int .i64 m0,.int .i64 m1] 281)
theorem zJ.at'{b:Nat}{A:Array Value}{w:World}(h:zJ b A w){i:Nat}{v:Value}(hv:A[i]?=some v):w.cell? ⟨b,i,none⟩=some v:=by
 have:=h.2 i v (by rw[qO];exact hv)
 rwa[Nat.zero_add]at this
def fC(b:Bool)(j:Int):Int:=if j=5 then(if b then 75 else 107)else if j=3 then(if b then 82 else 114)else(if b then 80 else 112)
theorem i8:fC true 5=75:=rfl
theorem lA:fC true 3=82:=rfl
theorem lB:fC false 5=107:=rfl
theorem lC:fC false 3=114:=rfl
attribute [local go_sem] i8 lA lB lC
end
theorem vg{p:UInt8->Prop}(h:∀n:Fin 256,p (UInt8.ofNat n.val))(c:UInt8):p c:=by
 have:=h ⟨c.toNat,c.toNat_lt⟩;simpa using this
section
attribute [local go_sem] qd qe
end
section
section
variable {z:Nat->UInt8}{wh:Bool}{f:Nat->Bool}{b h g:Int}{PA:Array Value}
end
end
section
attribute [local go_sem] qd qe
structure Wd(gw:Nat)(xs:List ByteArray)(cur:World):Prop where
 lt:gw<cur.heap.size
 at':∀(j:Nat)(h:j<xs.length),cur.cell? ⟨gw,j,none⟩=some (.string xs[j])
theorem Wd.next{gw:Nat}{xs:List ByteArray}{cur cur':World}(h:Wd gw xs cur)(g:Gr cur cur'):Wd gw xs cur' :=
 ⟨qN h.lt (Below.size g),fun j hj=>(Below.cell g (p:=⟨gw,j,none⟩) h.lt).trans (h.at' j hj)⟩
theorem Wd.far{gw bp i:Nat}{xs:List ByteArray}{cur:World}{v:Value}(h:Wd gw xs cur)(hne:gw≠bp):Wd gw xs (cur.setCell ⟨bp,i,none⟩ v):=by
 refine⟨by rw[World.size_setCell];exact h.lt,fun j hj=>?_⟩;rw[World.cell?_of_block (w:=cur) (Below.heap_setCell cur ⟨bp,i,none⟩ v gw hne)];exact h.at' j hj
end
theorem jE.congr{z z':Nat->UInt8}{wh:Bool}{f f':Nat->Bool}{b h g:Int}{PA:Array Value}(r:jE z wh f b h g PA)(hz:∀i,i<64->z i=z' i)(hf:∀i,i<4->f i=f' i):jE z' wh f' b h g PA :=
 ⟨r.size,fun i hi=>by rw[<-hz i hi];exact r.sq i hi,r.wh,fun i hi=>by rw[<-hf i hi];exact r.c i hi,r.b,r.h,r.g⟩
theorem zy{ops:Array Oper}{op:Oper}{a:Act}{PA:Array Value}(hz:PA.size=72){S:World->Prop}(hw:Region.wanted op (yielded ops a.tmps)=true)(x:Operand)(ho:op.op=.load 70 x)(b:Nat)(hx:a.eval x=.pointer (some ⟨b,0,none⟩))(hS:∀w,S w->zJ b PA w):YieldsIf Tryz.prog ops S op (.agg PA) a:=by
 have:=yieldsIf_load_mid (P:=Tryz.prog) hw 70 x ho b 0 hx PA.toList _ (fun w h=>(hS w h).2) Tryz.underlying70 rfl (by rw[q9];simp[hz])
 rwa[Array.toArray_toList]at this
section
attribute [local go_sem] qd qe
def uY(f t:Nat)(u:UInt8):List UInt8:=xQ f++xQ t++(if u=0 then[]else[u])
def xJ(l:List UInt8):ByteArray:=⟨l.toArray⟩
theorem F6(a b:List UInt8):xJ a++xJ b=xJ (a++b):=by
 unfold xJ;apply ByteArray.ext;simp
theorem sO{w w':World}{f t u:Int}{ty:TypeId}(g:Gr (w.alloc (.cells #[.int .i64 f,.int .i64 t,.int .u8 u] ty)) w'):Gr (w.alloc (.cells #[.int .i64 f,.int .i64 t,.int .u8 u] ty)) w'/\w'.cell? ⟨w.heap.size,0,none⟩=some (.int .i64 f)/\w'.cell? ⟨w.heap.size,1,none⟩=some (.int .i64 t)/\w'.cell? ⟨w.heap.size,2,none⟩=some (.int .u8 u):=by
 have hh:w'.heap[w.heap.size]?=some (.cells #[.int .i64 f,.int .i64 t,.int .u8 u] ty (0,0)):=(Below.block g _ (by rw[World.size_alloc];exact Nat.lt_succ_self _)).trans (World.alloc_heap_new w _);refine⟨g,?_,?_,?_⟩<;>(simp only[World.cell?];rw[hh];rfl)
structure Gd(w w':World):Prop where
 gr:Gr w w'
 dr:w.drawn<=w'.drawn
theorem s4{w1 w2:World}{q:Prop}(h:Gd w1 w2/\q):Gd w1 w2:=h.1
theorem Gd.refl(w:World):Gd w w:=⟨Gr.refl w,qL _⟩
theorem Gd.trans{a b c:World}(h:Gd a b)(k:Gd b c):Gd a c:=⟨Gr.trans h.1 k.1,q7 h.2 k.2⟩
theorem Gd.alloc{a b:World}(h:Gd a b)(c:Array Value)(t:TypeId):Gd a (b.alloc (.cells c t)):=⟨h.1.alloc c t,h.2⟩
theorem Gd.drew{a b:World}(h:Gd a b):Gd a b.drew:=⟨h.1.drew,q7 h.2 (Nat.le_succ _)⟩
theorem D9{w w':World}{f t u:Int}{ty:TypeId}(g:Gd (w.alloc (.cells #[.int .i64 f,.int .i64 t,.int .u8 u] ty)) w'):Gd (w.alloc (.cells #[.int .i64 f,.int .i64 t,.int .u8 u] ty)) w'/\w'.cell? ⟨w.heap.size,0,none⟩=some (.int .i64 f)/\w'.cell? ⟨w.heap.size,1,none⟩=some (.int .i64 t)/\w'.cell? ⟨w.heap.size,2,none⟩=some (.int .u8 u) :=
 ⟨g,(sO g.1).2⟩
theorem gI(n:Nat)(h:n<64)(w:World):Calls Tryz.prog 69 #[.int .i64 n] w fun e w'=>e=.returned (.string ⟨(xQ n).toArray⟩)/\Gd w w':=by
 have e1:((UInt8.ofNat (97+n%8)).toNat:Int)=97+(n:Int)%8:=by simp;omega
 have e2:((UInt8.ofNat (49+n/8)).toNat:Int)=49+(n:Int)/8:=by simp;omega
 have hcv:=qq4 (w.alloc (.cells #[.int .u8 (97+(n:Int)%8),.int .u8 (49+(n:Int)/8)] 5)) ⟨w.heap.size,0,none⟩ 2 (xQ n) (by
  intro i hi;rw[Addr.add_lit,Nat.zero_add,World.cell?_alloc_at _ _ _ _ rfl];have:i=0\/i=1:=by simp[xQ]at hi;omega
  rcases this with rfl|rfl
  ·show some (Value.int .u8 (97+(n:Int)%8))=some (.int .u8 ((UInt8.ofNat (97+n%8)).toNat:Int));rw[e1]
  ·show some (Value.int .u8 (49+(n:Int)/8))=some (.int .u8 ((UInt8.ofNat (49+n/8)).toNat:Int));rw[e2])
 have hcv':(convert 145 9 (.slice (some ⟨w.heap.size,0,none⟩) 2 2)).run Tryz.prog (w.alloc (.cells #[.int .u8 (97+(n:Int)%8),.int .u8 (49+(n:Int)/8)] 5))=.ok (.string ⟨(xQ n).toArray⟩) (w.alloc (.cells #[.int .u8 (97+(n:Int)%8),.int .u8 (49+(n:Int)/8)] 5)):=hcv;clear hcv e1 e2;go_enter Tryz.func69,Tryz.ntmps69;go_wp2;go_ret;exact⟨rfl,(Gd.refl _).alloc _ _⟩
theorem gL(f t:Nat)(hf:f<64)(ht:t<64)(u:UInt8)(w:World):Calls Tryz.prog 38 #[.agg #[.int .i64 (f:Int),.int .i64 (t:Int),.int .u8 (u.toNat:Int)]] w fun e w'=>e=.returned (.string (xJ (uY f t u)))/\Gd w w':=by
 obtain⟨nm,hnm⟩:∃nm:Nat->ByteArray,Hid (∀n,nm n=xJ (xQ n)):=⟨fun n=>xJ (xQ n),qC (fun _=>rfl)⟩;have hN:Hid (∀n:Nat,n<64->∀W,Calls Tryz.prog 69 #[.int .i64 (n:Int)] W fun e w'=>e=.returned (.string (nm n))/\Gd W w'):=qC (fun n h W=>by rw[qa hnm];exact gI n h W);go_enter Tryz.func38,Tryz.ntmps38;have hsum:Hid (xJ (uY f t u)=xJ (xQ f++xQ t)++xJ (if u=0 then[]else[u])):=qC (by rw[F6];rfl);have hs2:(xJ (xQ f++xQ t)).size=4:=rfl;obtain⟨S2,hS2⟩:∃x,Hid (x=xJ (xQ f++xQ t)):=⟨_,qC rfl⟩
 have f1:∀W:World,(Op.stringOp .add (nm f) (nm t)).run Tryz.prog W=.ok (.string S2) W:=fun W=>by
  rw[qa hS2,<-F6,<-qa hnm,<-qa hnm];exact run_string_add_sum W _ _ (by rw[qa hnm,qa hnm];show 2+2<=_;decide)
 rw[<-qa hS2]at hs2 hsum;clear hS2 hnm;go_wp2_with fail;have hin:Hid (∀w',Gd (w.alloc (.cells #[.int .i64 (f:Int),.int .i64 (t:Int),.int .u8 (u.toNat:Int)] 87)) w'->_):=qC (fun w' g=>D9 g);have hg0:Gd w (w.alloc (.cells #[.int .i64 (f:Int),.int .i64 (t:Int),.int .u8 (u.toNat:Int)] 87)):=(Gd.refl w).alloc _ _;have hg0':=qC hg0;clear hg0;generalize w.alloc (.cells #[.int .i64 (f:Int),.int .i64 (t:Int),.int .u8 (u.toNat:Int)] 87)=w1 at hin hg0' ⊢;go_region_held3 (fun w'=>Gd w1 w'/\w'.cell? ⟨w.heap.size,0,none⟩=some (.int .i64 (f:Int))/\w'.cell? ⟨w.heap.size,1,none⟩=some (.int .i64 (t:Int))/\w'.cell? ⟨w.heap.size,2,none⟩=some (.int .u8 (u.toNat:Int))) (first|exact qa hin _ (Gd.refl _).drew|exact qa hin _ (by assumption)) (first|(go_at_call 69;refine(qa hN _ (by omega) _).mono ?_;rintro e w' ⟨rfl,hg⟩;have hg2:=Gd.trans (s4 (by assumption)) hg));rename_i hH;obtain⟨hgr,c0,c1,c2⟩:=hH;have hgw:Hid (Gd w w'):=qC (Gd.trans (qa hg0') hgr);clear hin hg0' hgr hg hg2 f1 hN;by_cases hu:u=0
 ·subst hu;have he:Hid (xJ (uY f t 0)=S2):=qC (by rw[qa hsum,qI rfl];apply ByteArray.ext;simp[xJ]);clear hsum;go_wp2_with fail;go_ret;exact⟨by rw[qa he];rfl,qa hgw⟩
 ·have hn:((u.toNat:Int) != 0)=true:=qU.2 (fun e=>hu (q6.1 (by simpa using e)));have he:Hid (xJ (uY f t u)=S2++(⟨#[u]⟩:ByteArray)):=qC (by rw[qa hsum,qF hu];rfl);have f2:∀W:World,(Op.stringOp .add S2 (⟨#[u]⟩:ByteArray)).run Tryz.prog W=.ok (.string (S2++(⟨#[u]⟩:ByteArray))) W:=fun W=>run_string_add_sum W S2 _ (by show S2.size+1<=_;rw[hs2];decide)
  have hcv:=qq4 (w'.alloc (.cells #[.int .u8 (u.toNat:Int)] 5)) ⟨w'.heap.size,0,none⟩ 1 [u] (by
   intro i hi;rw[Addr.add_lit,Nat.zero_add,World.cell?_alloc_at _ _ _ _ rfl];have:i=0:=by simp at hi;omega
   subst this;rfl)
  have hcv':(convert 145 9 (.slice (some ⟨w'.heap.size,0,none⟩) 1 1)).run Tryz.prog (w'.alloc (.cells #[.int .u8 (u.toNat:Int)] 5))=.ok (.string ⟨#[u]⟩) (w'.alloc (.cells #[.int .u8 (u.toNat:Int)] 5)):=hcv;clear hsum hu hcv;go_wp2_with fail;go_ret;exact⟨by rw[qa he];rfl,Gd.alloc (qa hgw) _ _⟩
theorem gK(f t:Nat)(hf:f<64)(ht:t<64)(u:UInt8)(w:World):Calls Tryz.prog 38 #[.agg #[.int .i64 (f:Int),.int .i64 (t:Int),.int .u8 (u.toNat:Int)]] w fun e w'=>e=.returned (.string (xJ (uY f t u)))/\Gr w w' :=
 (gL f t hf ht u w).mono fun _ _ h=>⟨h.1,h.2.1⟩
end
section
attribute [local go_sem] qd qe Oper.semAt_some
def TM(o:Obj):Prop:=∃c fr,o=.cells c 87 fr
theorem TM.cells{o:Obj}(h:TM o):o.isCells=true:=by obtain⟨c,fr,rfl⟩:=h;rfl
def vO(xs:List Mv):List Value:=xs.flatMap fun x=>(pU x).toList
theorem pt(xs:List Mv)(x:Mv):vO (xs++[x])=vO xs++(pU x).toList:=by simp[vO]
theorem bU(xs:List Mv):(vO xs).length=xs.length*3:=by
 induction xs with
 | nil=>rfl
 | cons x r ih=>rw[vO,List.flatMap_cons,qZ,List.length_cons];have:=ih;rw[vO]at this;rw[this];simp[pU];omega
theorem BK{Q:Nat->Obj->Prop}{W W':World}{base n:Nat}{v:Value}{xs:List Value}(h:W.ownsRow base 87 3 v n xs)(f:Fr Q W W')(hq:∀k o,TM o->Q k o):W'.ownsRow base 87 3 v n xs:=by
 refine⟨h.1,?_⟩;rcases h.2 with h2|⟨g,cap,cur,hv,hb,hg,rest⟩
 ·exact .inl h2
 ·exact .inr ⟨g,cap,cur,hv,hb,f.same _ _ hg (hq _ _ ⟨_,_,rfl⟩),rest⟩
theorem Ea:(Tryz.prog.info? 87).map (fun i=>(i.zero,i.size,i.bytes))=some (some (.agg #[.int .i64 0,.int .i64 0,.int .u8 0]),3,24):=by kernel_rfl
theorem qk0{g:Nat}{lb:Array Value}{C:Nat->Prop}{xs:List Mv}{w:World}(hit:It Tryz.prog g lb vr TM C xs w)(heg:∀args w,(callFunc g args).run Tryz.prog w=.ok (.enter g args) w)(hCb:∀k,C k->k<w.heap.size)(hlen:xs.length<=1000000) :
  Calls Tryz.prog 296 #[.slice none 0 0,.func (.func g) #[] lb] w fun e w'=>∃v,e=.returned v/\w'.ownsRow w.heap.size 87 3 v xs.length (vO xs)/\Gr w w':=by
 obtain⟨i0,hi0,hz0,hz1,hz2⟩:=info_parts Ea;refine(callsIn_wide (n:=9)).1 ?_;refine callsIn_of_wp_marks Tryz.func296 rfl trivial ?_ rfl;simp only[Tryz.ntmps296,List.size_toArray,List.length_cons,List.length_nil,Nat.reduceAdd,Nat.reduceSub,Array.replicate_succ,Array.replicate_zero,List.push_toArray,List.append_toArray,List.nil_append,List.cons_append];refine wpIn_wide.2 ?_;go_wp2_with fail;have h1:=World.alloc_heap_new w (.cells #[.slice none 0 0] 122);have hg1:Gr w (w.alloc (.cells #[.slice none 0 0] 122)):=(Gr.refl w).alloc _ _;have hs1:(w.alloc (.cells #[.slice none 0 0] 122)).heap.size=w.heap.size+1:=World.size_alloc _ _;have hr1:(w.alloc (.cells #[.slice none 0 0] 122)).ownsRow w.heap.size 87 3 (.slice none 0 0) 0 (vO []):=⟨rfl,.inl ⟨rfl,rfl⟩⟩;generalize (w.alloc (.cells #[.slice none 0 0] 122))=w1 at h1 hg1 hs1 hr1 ⊢
 refine wpIn_wide.1 (xj (n:=9) (gf:=g) (lb:=lb) rfl heg hit (fun _ h=>h.cells) (fun k hk=>by have:=hCb k hk;omega) (Fr.of_gr hg1) (fun _=>rfl)
  (fun pre V=>(∃v,V.heap[w.heap.size]?=some (.cells #[v] 122)/\V.ownsRow w.heap.size 87 3 v pre.length (vO pre))/\Gr w V/\w1.heap.size<=V.heap.size)
  (fun _ _ _=>False)
  ?sI (fun _ _ _ _ h _=>h) ⟨⟨_,h1,hr1⟩,hg1,qL _⟩ ?rnd ?done (fun _ _ _ _ _ _ h _=>h.elim))
 case sI =>
  rintro s A A' ⟨⟨v,a1,a2⟩,a3,a4⟩ f;exact⟨⟨v,f.same _ _ a1 (.inl (by omega)),BK a2 f (fun k o h=>.inr h)⟩,Below.trans a3 (f.below (n:=w.heap.size) (Below.size a3) (fun k o hk=>.inl (by omega))),q7 a4 f.size⟩
 case done =>
  rintro D V hD ⟨⟨v,a1,a2⟩,a3,a4⟩ hK;have c1:=(qi a1).1;go_wp2_with fail;refine⟨by simp,.inl ⟨_,_,rfl,run_takeDeferred hK,?_⟩⟩;exact⟨_,results_tmp rfl _ _ _,v,rfl,ownsRow_putObj a2 _ hK rfl,Below.trans a3 (belowK_b (w:=w1) (n₀:=w.heap.size) (by omega) _ D _ _ hD hK rfl rfl)⟩
 case rnd =>
  rintro l1 pre ⟨fr,tt,u⟩ V hbl hx ⟨⟨v,a1,a2⟩,a3,a4⟩ hl;have hl':l1<V.heap.size:=hl.elim fun r hr=>(qB.1 hr).1
  simp only[vr,gJ];gi_wp2;refine⟨(Fr.refl _ _).alloc _,?_⟩;intro V2 f2 hI2 hl2;clear a1 a2 a3 a4;obtain⟨⟨v,a1,a2⟩,a3,a4⟩:=hI2;have kx:V2.heap[V.heap.size]?=some (.cells #[.int .i64 (fr:Int),.int .i64 (tt:Int),.int .u8 (u.toNat:Int)] 87):=f2.same _ _ (World.alloc_heap_new V _) (by omega);generalize V.heap.size=Bx at kx ⊢;obtain⟨x0,x1,x2⟩:=qm kx;have c1:=(qi a1).1
  have hpl:pre.length+1<=xs.length:=by
   have:=hx.length_le;simpa using this
  have hbx:Boxed V2 w.heap.size 122 v:=a1
  have hcl:∀j u',[Value.int .i64 (fr:Int),.int .i64 (tt:Int),.int .u8 (u.toNat:Int)][j]?=some u'->(V2.alloc (.cells #[.int .i64 (fr:Int),.int .i64 (tt:Int),.int .u8 (u.toNat:Int)] 87)).cell? ((⟨V2.heap.size,0,none⟩:Addr).add j)=some u':=fun j u' hu=>by
   rw[Addr.add_lit,Nat.zero_add,World.cell?_alloc_at _ _ _ _ rfl,<-qO];exact hu
  gi_wp2_with (gi_at_builtin;refine wpListIn_append_own _ rfl _ _ 122 rfl w.heap.size 87 i0 (.agg #[.int .i64 0,.int .i64 0,.int .u8 0]) 3 24 Tryz.underlying122 hi0 hz0 hz1 hz2 rfl (by decide) _ _ _ rfl (a2.alloc _) ⟨V2.heap.size,0,none⟩ 1 1 [.int .i64 (fr:Int),.int .i64 (tt:Int),.int .u8 (u.toNat:Int)] rfl rfl hcl (by simp[Value.oneCell']) (by unfold maxLen;omega) (by omega) (by have:=Below.size a3;simp;omega) ?_;intro v' w5 hown' hgrow _;obtain⟨g',cap',rfl⟩:=ownsRow_succ hown';obtain⟨hv1,hv2,hr2,hk2,hb2⟩:=hbx.appended (by decide) a2 (Below.size a3) (qL _) hown' hgrow;have hc1:=hv1.cell;have hf1:=hv1.frozen);refine⟨⟨hb2.os,hb2.tape,hb2.output,hk2.size,fun k o e q=>?_⟩,⟨_,hv2,?_⟩,Below.trans a3 hb2,q7 a4 hk2.size⟩
  ·have hlt:k<V2.heap.size:=(qB.1 e).1
   have hkb:k≠w.heap.size:=by
    rintro rfl;rcases q with q|q
    ·have:=hCb _ q;omega
    ·omega
   have hko:¬ some k=v.ownBlock:=fun eb=>by
    rcases a2.2 with⟨rfl,_⟩|⟨g2,cap,cur,rfl,hb,hgb,_⟩
    ·simp[Value.ownBlock]at eb
    ·obtain rfl:k=g2:=by simpa[Value.ownBlock]using eb
     rw[hgb]at e;cases e;rcases q with q|q
     ·have:=hCb _ q;omega
     ·exact q.2 ⟨_,_,rfl⟩
   rw[Below.heap_setCell _ _ _ _ hkb,hgrow.block k (by rw[World.size_alloc];omega) hko,Below.heap_alloc _ _ _ hlt];exact e
  ·rw[pt,qZ];exact hr2
theorem aN{g:Nat}{lb:Array Value}{C:Nat->Prop}{xs:List Mv}{w:World}(hit:It Tryz.prog g lb vr TM C xs w)(heg:∀args w,(callFunc g args).run Tryz.prog w=.ok (.enter g args) w)(hCb:∀k,C k->k<w.heap.size)(hlen:xs.length<=1000000) :
  Calls Tryz.prog 244 #[.func (.func g) #[] lb] w fun e w'=>∃v,e=.returned v/\w'.ownsRow w.heap.size 87 3 v xs.length (vO xs)/\Gr w w':=by
 have hap:=qC (qk0 hit heg hCb hlen);go_enter Tryz.func244,Tryz.ntmps244;go_wp2_with(go_at_call 296;refine(qa hap).mono ?_;rintro e w' ⟨v,rfl,hv,hg⟩);go_ret;exact⟨v,rfl,hv,hg⟩
theorem Gd.grown{w w':World}(h:Gd w w'):∃q os,w'=grow (w.drewN q) os:=by
 refine⟨w'.drawn-w.drawn,w'.heap.extract w.heap.size w'.heap.size,?_⟩;have hb:=h.gr
 have hh:w'.heap=w.heap++w'.heap.extract w.heap.size w'.heap.size:=by
  apply Array.ext_getElem?;intro i;by_cases hi:i<w.heap.size
  ·rw[Array.getElem?_append_left hi];exact Below.block hb i hi
  ·rw[Array.getElem?_append_right (by omega),Array.getElem?_extract];by_cases h2:i<w'.heap.size
   ·rw[qI (by omega),Nat.add_sub_cancel' (by omega)]
   ·rw[qF (by omega)];exact Array.getElem?_eq_none (by omega)
 have h1:=Below.os hb;have h2:=Below.tape hb;have h3:=Below.output hb;have h4:=h.dr;have hd:(w.drewN (w'.drawn-w.drawn)).drawn=w'.drawn:=by show w.drawn+(w'.drawn-w.drawn)=_;omega
 unfold grow;show w'={ heap:=w.heap++_,tape:=w.tape,drawn:=(w.drewN (w'.drawn-w.drawn)).drawn,os:=w.os,output:=w.output };rw[hd,<-h1,<-h2,<-h3,<-hh]
def nA(x y:ByteArray):Int:=if Op.bytesLess x.toList y.toList then -1 else if !(Op.bytesLess x.toList y.toList||x.toList==y.toList)then 1 else 0
theorem B9(x y:ByteArray)(W:World):(Op.stringOp .gtr x y).run Tryz.prog W=.ok (.bool !(Op.bytesLess x.toList y.toList||x.toList==y.toList)) W:=rfl
theorem i6(x:ByteArray)(W:World):(Op.stringOp .neq x x).run Tryz.prog W=.ok (.bool false) W:=by
 have h:(x.toList==x.toList)=true:=by simp
 show(pure (Value.bool !(x.toList==x.toList)):Sem Value).run Tryz.prog W=_;rw[h];rfl
theorem mu(x:ByteArray)(w:World):Calls Tryz.prog 246 #[.string x] w fun e w'=>e=.returned (.bool false)/\w'=w:=by
 have f1:=i6 x;go_enter Tryz.func246,Tryz.ntmps246;go_wp2;go_ret;exact⟨rfl,rfl⟩
theorem aM(x y:ByteArray)(w:World):Calls Tryz.prog 188 #[.string x,.string y] w fun e w'=>e=.returned (.int .i64 (nA x y))/\w'=w:=by
 have f2:=B9 x y;go_enter Tryz.func188,Tryz.ntmps188;go_wp2_with(go_at_call 246;refine(mu _ _).mono ?_;rintro e w' ⟨rfl,rfl⟩)
 all_goals
  go_ret;refine⟨?_,rfl⟩;unfold nA;simp_all
def mo:Value:=.func (.func 38) #[] #[]
theorem te{w w':World}{x y:Array Value}{ty:TypeId}{B:Nat}{v:Value}(hx:x.size=3)(hy:y.size=3)(hB:w.cell? ⟨B,0,none⟩=some v)(g:Gd ((w.alloc (.cells x ty)).alloc (.cells y ty)) w') :
  Gd ((w.alloc (.cells x ty)).alloc (.cells y ty)) w'/\w'.cell? ⟨B,0,none⟩=some v/\w'.cell? ⟨w.heap.size,0,none⟩=some x[0]/\w'.cell? ⟨w.heap.size,1,none⟩=some x[1]/\w'.cell? ⟨w.heap.size,2,none⟩=some x[2]/\w'.cell? ⟨w.heap.size+1,0,none⟩=some y[0]/\w'.cell? ⟨w.heap.size+1,1,none⟩=some y[1]/\w'.cell? ⟨w.heap.size+1,2,none⟩=some y[2]:=by
 have hb:=World.block_lt_of_cell? _ _ hB;have hb:B<w.heap.size:=hb;have s1:((w.alloc (.cells x ty)).alloc (.cells y ty)).heap.size=w.heap.size+2:=by simp
 have h0:w'.heap[B]?=w.heap[B]?:=(Below.block g.gr _ (by omega)).trans (by rw[Below.heap_alloc _ _ _ (by rw[World.size_alloc];omega),Below.heap_alloc _ _ _ hb]);have h1:w'.heap[w.heap.size]?=some (.cells x ty (0,0)):=(Below.block g.gr _ (by omega)).trans (by rw[Below.heap_alloc _ _ _ (by rw[World.size_alloc];omega)];exact World.alloc_heap_new w _);have h2:w'.heap[w.heap.size+1]?=some (.cells y ty (0,0)):=(Below.block g.gr _ (by omega)).trans (by have:=World.alloc_heap_new (w.alloc (.cells x ty)) (.cells y ty);rw[World.size_alloc]at this;exact this);refine⟨g,?_,?_,?_,?_,?_,?_,?_⟩
 ·rw[<-hB];exact World.cell?_of_block h0
 all_goals first|(simp only[World.cell?];rw[h1];simp[hx];done)|(simp only[World.cell?];rw[h2];simp[hy];done)
theorem dp(f t:Nat)(u:UInt8)(f' t':Nat)(u':UInt8)(hf:f<64)(ht:t<64)(hf':f'<64)(ht':t'<64)(B:Nat)(w:World)(hB:w.cell? ⟨B,0,none⟩=some mo) :
  Calls Tryz.prog 187 #[.agg #[.int .i64 (f:Int),.int .i64 (t:Int),.int .u8 (u.toNat:Int)],.agg #[.int .i64 (f':Int),.int .i64 (t':Int),.int .u8 (u'.toNat:Int)],.pointer (some ⟨B,0,none⟩)] w fun e w'=>e=.returned (.int .i64 (nA (xJ (uY f t u)) (xJ (uY f' t' u'))))/\Gd w w':=by
 obtain⟨tx,htx⟩:∃tx:Nat->Nat->UInt8->ByteArray,Hid (∀f t u,tx f t u=xJ (uY f t u)):=⟨fun f t u=>xJ (uY f t u),qC (fun _ _ _=>rfl)⟩;have hN:Hid (∀f t u,f<64->t<64->∀W,Calls Tryz.prog 38 #[.agg #[.int .i64 ((f:Nat):Int),.int .i64 ((t:Nat):Int),.int .u8 ((u:UInt8).toNat:Int)]] W fun e w'=>e=.returned (.string (tx f t u))/\Gd W w'):=qC (fun f t u hf ht W=>by rw[qa htx];exact gL f t hf ht u W);rw[<-qa htx,<-qa htx];clear htx;have hCm:Hid (∀x y W,Calls Tryz.prog 188 #[.string x,.string y] W fun e w'=>e=.returned (.int .i64 (nA x y))/\w'=W):=qC aM;go_enter Tryz.func187,Tryz.ntmps187;go_wp2_with fail;unfold mo at hB;have hin:=qC (fun w' g=>te (w:=w) (w':=w') (x:=#[.int .i64 (f:Int),.int .i64 (t:Int),.int .u8 (u.toNat:Int)]) (y:=#[.int .i64 (f':Int),.int .i64 (t':Int),.int .u8 (u'.toNat:Int)]) (ty:=87) rfl rfl hB g);have hg0:Hid (Gd w ((w.alloc (.cells #[.int .i64 (f:Int),.int .i64 (t:Int),.int .u8 (u.toNat:Int)] 87)).alloc (.cells #[.int .i64 (f':Int),.int .i64 (t':Int),.int .u8 (u'.toNat:Int)] 87))):=qC (((Gd.refl w).alloc _ _).alloc _ _);simp only[List.getElem_toArray,List.getElem_cons_zero,List.getElem_cons_succ]at hin;generalize ((w.alloc (.cells #[.int .i64 (f:Int),.int .i64 (t:Int),.int .u8 (u.toNat:Int)] 87)).alloc (.cells #[.int .i64 (f':Int),.int .i64 (t':Int),.int .u8 (u'.toNat:Int)] 87))=w1 at hin hg0 ⊢;clear hB;go_region_held3 (fun w'=>Gd w1 w'/\w'.cell? ⟨B,0,none⟩=some (.func (.func 38) #[] #[])/\w'.cell? ⟨w.heap.size,0,none⟩=some (.int .i64 (f:Int))/\w'.cell? ⟨w.heap.size,1,none⟩=some (.int .i64 (t:Int))/\w'.cell? ⟨w.heap.size,2,none⟩=some (.int .u8 (u.toNat:Int))/\w'.cell? ⟨w.heap.size+1,0,none⟩=some (.int .i64 (f':Int))/\w'.cell? ⟨w.heap.size+1,1,none⟩=some (.int .i64 (t':Int))/\w'.cell? ⟨w.heap.size+1,2,none⟩=some (.int .u8 (u'.toNat:Int))) (first|exact qa hin _ (Gd.refl _).drew|exact qa hin _ (by assumption)) (first|(go_at_call 38;refine(qa hN _ _ _ (by omega) (by omega) _).mono ?_;rintro e w' ⟨rfl,hg⟩;have hg2:=Gd.trans (s4 (by assumption)) hg)|(go_at_call 188;refine(qa hCm _ _ _).mono ?_;rintro e w' ⟨rfl,rfl⟩;have hg2:=s4 (by assumption)));rename_i hH;go_wp2_with fail;go_ret;exact⟨rfl,Gd.trans (qa hg0) hH.1⟩
def yJ(x:Mv):List UInt8:=uY x.1 x.2.1 x.2.2
def bi(x:Mv):Prop:=x.1<64/\x.2.1<64
abbrev Mo:={x:Mv // bi x}
instance:Inhabited Mo:=⟨⟨(0,0,0),by decide,by decide⟩⟩
def yp(x:Mo):List Value:=(pU x.1).toList
def ww(x y:Mo):Int:=nA (xJ (yJ x.1)) (xJ (yJ y.1))
def n8(x y:Mv):Bool:=decide (yJ x<yJ y)
theorem bK(l:List UInt8):(xJ l).toList=l:=by rw[Lib.toList_data];rfl
theorem Fs(x y:Mo):ltOf ww x y=n8 x.1 y.1:=by
 unfold ltOf ww nA n8;rw[bK,bK,bytesLess_eq];by_cases h:yJ x.1<yJ y.1
 ·simp[h]
 ·by_cases h2:yJ x.1=yJ y.1
  ·have h':=h;rw[h2]at h';rw[h2];simp[h']
  ·simp[h,h2]
theorem swoO:SWO (ltOf ww) where
 irrefl x:=by rw[Fs];simp[n8]
 trans x y z h1 h2:=by
  rw[Fs]at *;simp only[n8,qG]at *;exact List.lt_trans h1 h2
 ntrans x y z h1 h2:=by
  rw[Fs]at *;simp only[n8,qX]at *;exact fun h=>h2 (List.lt_of_le_of_lt (List.not_lt.1 h1) h)
theorem bo{a b:Nat}(ha:a<64)(hb:b<64)(h:xQ a=xQ b):a=b:=by
 unfold xQ at h;simp only[List.cons.injEq,and_true]at h;have h1:=congrArg UInt8.toNat h.1;have h2:=congrArg UInt8.toNat h.2;simp at h1 h2;omega
theorem AV{x y:Mv}(hx:bi x)(hy:bi y)(h:yJ x=yJ y):x=y:=by
 obtain⟨f,t,u⟩:=x;obtain⟨f',t',u'⟩:=y;unfold yJ uY at h;simp only[qS]at h;have h1:=List.append_inj h rfl;have h2:=List.append_inj h1.2 rfl;have e1:=bo hx.1 hy.1 h1.1;have e2:=bo hx.2 hy.2 h2.1
 have e3:u=u':=by
  have:=h2.2;by_cases hu:u=0<;>by_cases hv:u'=0<;>simp[hu,hv]at this<;>simp_all
 simp only at e1 e2;rw[e1,e2,e3]
theorem totO(x y:Mo)(h1:ltOf ww x y=false)(h2:ltOf ww y x=false):x=y:=by
 rw[Fs]at h1 h2;simp only[n8,qX]at h1 h2;exact Subtype.ext (AV x.2 y.2 (List.le_antisymm (List.not_lt.1 h2) (List.not_lt.1 h1)))
def jI(xs:List Mv):List Mv:=xs.mergeSort fun x y=>!n8 y x
theorem xq(xs:List Mv):(jI xs).Perm xs:=List.mergeSort_perm _ _
theorem qj7(xs:List Mv):(jI xs).length=xs.length:=List.length_mergeSort _
theorem ut(xs:List Mv):∀j:Nat,(vO xs)[j]?=(xs[j/3]?).bind fun x=>(pU x).toList[j%3]?:=by
 induction xs with
 | nil=>intro j;simp[vO]
 | cons x r ih =>
  intro j;have e:vO (x :: r)=(pU x).toList++vO r:=by simp[vO]
  have hl:(pU x).toList.length=3:=rfl;rw[e];by_cases h:j<3
  ·rw[List.getElem?_append_left (by omega),Nat.div_eq_of_lt h,Nat.mod_eq_of_lt h];rfl
  ·obtain⟨k,rfl⟩:∃k,j=k+3:=⟨j-3,by omega⟩;rw[List.getElem?_append_right (by omega),hl,Nat.add_sub_cancel,ih k,Nat.add_div_right k (by decide),Nat.add_mod_right];rfl
theorem aH(d:Array Mo)(j:Nat)(h:j<d.size*3):(vO (d.toList.map (·.1)))[j]?=some ((flatK yp 3 d)[j]!):=by
 have h1:j/3<d.size:=Nat.div_lt_of_lt_mul (by omega);have h2:j%3<3:=Nat.mod_lt _ (by decide);rw[ut,get_flatK yp 3 d j h,List.getElem?_map,qO,qQ h1,getElem!_pos d (j/3) h1];show(yp d[j/3])[j%3]?=_;rw[getElem!_pos (yp d[j/3]) (j%3) (show j%3<3 from h2)];exact List.getElem?_eq_getElem _
theorem Bj:∀w,(isAgg 87).run Tryz.prog w=.ok true w:=Tryz.isAgg87
theorem Dd:∀w,(Go.sizeOf 87).run Tryz.prog w=.ok 3 w:=Tryz.sizeOf87
theorem eg1:∀args w,(callFunc 187 args).run Tryz.prog w=.ok (.enter 187 args) w:=enters_of Tryz.func187 (by kernel_rfl) rfl
theorem tX(B blk off n:Nat)(w:World)(hB:w.cell? ⟨B,0,none⟩=some mo)(hne:B≠blk):CmpLays Tryz.prog 187 #[.pointer (some ⟨B,0,none⟩)] yp 3 ww blk off n w:=by
 intro m os dk _ x y;have hb:B<w.heap.size:=World.block_lt_of_cell? _ _ hB;have hB':(sortWorldK yp 3 w blk off m dk os).cell? ⟨B,0,none⟩=some mo:=(cell?_sortWorldK_other yp 3 w blk off m dk os ⟨B,0,none⟩ hne hb).trans hB;obtain⟨⟨f,t,u⟩,hx⟩:=x;obtain⟨⟨f',t',u'⟩,hy⟩:=y;refine(dp f t u f' t' u' hx.1 hx.2 hy.1 hy.2 B _ hB').mono ?_;rintro e w' ⟨rfl,hg⟩;exact⟨rfl,hg.grown⟩
theorem rA{w:World}{g n:Nat}{cur:Array Value}{d d':Array Mo}{e:TypeId}{os:Array Obj}(hg:w.heap[g]?=some (.cells cur e (0,0)))(hd:d'.size=d.size)(hc:d.size*3<=cur.size) :
  ∃cur':Array Value,(sortWorldK yp 3 w g 0 n d' os).heap[g]?=some (.cells cur' e (0,0))/\cur'.size=cur.size/\cur'.toList.take (d.size*3)=vO (d'.toList.map (·.1)):=by
 have hlt:g<w.heap.size:=(qB.1 hg).1;refine⟨putCells id 0 (flatK yp 3 d') cur,?_,by simp[putCells],?_⟩
 ·unfold sortWorldK putRowK putRow mapBlock grow;show((w.heap.modify g _)++os)[g]?=_;rw[Array.getElem?_append_left (by simpa using hlt),Array.getElem?_modify,qI rfl,hg];rfl
 ·apply List.ext_getElem?;intro j;by_cases hj:j<d.size*3
  ·rw[List.getElem?_take_of_lt hj,aH d' j (by omega),qO];unfold putCells;rw[Array.getElem?_mapIdx,qQ (by omega)];show some (if 0<=j/\j<0+(flatK yp 3 d').size then _ else _)=_;rw[qI (by simp;omega)];rfl
  ·rw[List.getElem?_eq_none (by rw[List.length_take];omega),List.getElem?_eq_none];rw[bU];simp;omega
theorem eN{w:World}{g n base:Nat}{d':Array Mo}{os:Array Obj}(hb:base<=g)(hlt:g<w.heap.size):Below base w (sortWorldK yp 3 w g 0 n d' os):=by
 refine⟨rfl,rfl,rfl,?_,fun k hk=>?_⟩
 ·exact size_sortWorldK_c _ _ _ _ _ _ _ _
 ·unfold sortWorldK putRowK putRow mapBlock grow;show((w.heap.modify g _)++os)[k]?=_;rw[Array.getElem?_append_left (by simp;omega),Array.getElem?_modify,qF (by omega)]
theorem dK{w:World}{base B:Nat}{v:Value}{xs:List Mv}(hx:∀x∈xs,bi x)(hl:xs.length<=1000000)(ho:w.ownsRow base 87 3 v xs.length (vO xs))(hB:w.cell? ⟨B,0,none⟩=some mo)(hBb:B<base) :
  Calls Tryz.prog 245 #[v,.func (.func 187) #[] #[.pointer (some ⟨B,0,none⟩)]] w fun e w'=>e=.returned (.tuple #[])/\w'.ownsRow base 87 3 v xs.length (vO (jI xs))/\Below base w w':=by
 rcases ho.2 with⟨rfl,h0⟩|⟨g,cap,cur,rfl,hb,hg,hn,hm,hcs,htk⟩
 ·have e0:xs=[]:=List.eq_nil_of_length_eq_zero h0;subst e0;refine Calls.mono (AnyF.slices_SortFunc_none { Tryz.sortL with } none 0 _ w) ?_;rintro e w' ⟨rfl,rfl⟩;exact⟨rfl,by rw[show jI []=[] by simp[jI]];exact ho,Below.refl _ _⟩
 ·have hlt:g<w.heap.size:=(qB.1 hg).1;obtain⟨d,hd⟩:∃d:Array Mo,d.toList.map (·.1)=xs:=⟨(xs.attach.map fun x=>(⟨x.1,hx x.1 x.2⟩:Mo)).toArray,by simp only[List.map_map,Function.comp_def];exact List.attach_map_subtype_val xs⟩;have hds:d.size=xs.length:=by rw[<-hd];simp
  have hH:HoldsK yp 3 w g 0 d:=by
   intro j hj;have hj':j<d.size*3:=by simpa using hj
   have hj2:j<xs.length*3:=by omega
   have hjc:j<cur.size:=by have:=Nat.mul_le_mul_right 3 hn;omega
   have hcell:cur[j]?=some ((flatK yp 3 d)[j]!):=by
    rw[<-aH d j hj',hd,<-htk,List.getElem?_take_of_lt hj2,qO]
   constructor
   ·simp only[World.cell?,Nat.zero_add];rw[hg];exact hcell
   ·simp only[World.frozen?,Nat.zero_add];rw[hg];simp
  have hS:=AnyQ.slices_SortFunc_total Tryz.sortL 3 Bj Dd yp (fun _=>rfl) (fun x v hv=>by
   simp[yp,pU]at hv;rcases hv with rfl|rfl|rfl<;>rfl) ww swoO 187 #[.pointer (some ⟨B,0,none⟩)] g 0 cap d w eg1 (tX B g 0 d.size w hB (by omega)) hH hlt (by omega) totO
  rw[hds]at hS;refine Calls.mono hS ?_;rintro e w' ⟨rfl,n,os,rfl⟩;have hms:((d.toList.mergeSort fun x y=>!(ltOf ww) y x).toArray).size=d.size:=by simp[List.length_mergeSort]
  obtain⟨cur',k1,k2,k3⟩:=rA (n:=n) (os:=os) (d:=d) (d':=(d.toList.mergeSort fun x y=>!(ltOf ww) y x).toArray) hg hms (by rw[hds,hcs];exact Nat.mul_le_mul_right 3 hn)
  have hmap:(((d.toList.mergeSort fun x y=>!(ltOf ww) y x).toArray).toList.map (·.1))=jI xs:=by
   rw[<-hd];exact List.map_mergeSort (fun a _ b _=>by rw[Fs])
  rw[hmap]at k3;refine⟨rfl,⟨by rw[bU,qj7],.inr ⟨g,cap,cur',rfl,hb,k1,hn,hm,by omega,by rw[<-hds];exact k3⟩⟩,eN hb hlt⟩
theorem It.gr{α:Type}{P:Program}{g:Nat}{lb:Array Value}{encs:α->Array Value}{T:Obj->Prop}{C:Nat->Prop}{xs:List α}{w w':World}(h:It P g lb encs T C xs w)(k:Gr w w'):It P g lb encs T C xs w' :=
 fun l B J Jx W f=>h l B J Jx W ((Fr.of_gr k).trans f)
theorem qxn{w:World}{base base' n s:Nat}{e:TypeId}{v:Value}{xs:List Value}(h:w.ownsRow base e s v n xs)(hb:base'<=base):w.ownsRow base' e s v n xs:=by
 refine⟨h.1,?_⟩;rcases h.2 with h2|⟨g,cap,cur,hv,h3,rest⟩
 ·exact .inl h2
 ·exact .inr ⟨g,cap,cur,hv,q7 hb h3,rest⟩
theorem qz2{g:Nat}{lb:Array Value}{C:Nat->Prop}{xs:List Mv}{w:World}(hit:It Tryz.prog g lb vr TM C xs w)(heg:∀args w,(callFunc g args).run Tryz.prog w=.ok (.enter g args) w)(hCb:∀k,C k->k<w.heap.size)(hx:∀x∈xs,bi x)(hlen:xs.length<=1000000)(B:Nat)(hB:w.cell? ⟨B,0,none⟩=some mo) :
  Calls Tryz.prog 186 #[.func (.func g) #[] lb,.func (.func 187) #[] #[.pointer (some ⟨B,0,none⟩)]] w fun e w'=>∃v,e=.returned v/\w'.ownsRow w.heap.size 87 3 v xs.length (vO (jI xs))/\Gr w w':=by
 have hc:=qC (aN hit heg hCb hlen);have hb:B<w.heap.size:=World.block_lt_of_cell? _ _ hB;have hs:Hid (∀v W,W.ownsRow w.heap.size 87 3 v xs.length (vO xs)->Gr w W->Calls Tryz.prog 245 #[v,.func (.func 187) #[] #[.pointer (some ⟨B,0,none⟩)]] W fun e w'=>e=.returned (.tuple #[])/\w'.ownsRow w.heap.size 87 3 v xs.length (vO (jI xs))/\Below w.heap.size W w'):=qC (fun v W ho hg=>dK hx hlen ho ((Below.cell hg hb).trans hB) hb);clear hit heg hCb hx hlen hB;go_enter Tryz.func186,Tryz.ntmps186;go_wp2_with(first|(go_at_call 244;refine(qa hc).mono ?_;rintro e w' ⟨v,rfl,hv,hg⟩)|(go_at_call 245;refine(qa hs _ _ hv hg).mono ?_;rintro e w2 ⟨rfl,hv2,hg2⟩));go_ret;exact⟨v,rfl,hv2,Below.trans hg hg2⟩
theorem aE{g:Nat}{lb:Array Value}{C:Nat->Prop}{xs:List Mv}{w:World}(hit:It Tryz.prog g lb vr TM C xs w)(heg:∀args w,(callFunc g args).run Tryz.prog w=.ok (.enter g args) w)(hCb:∀k,C k->k<w.heap.size)(hx:∀x∈xs,bi x)(hlen:xs.length<=1000000) :
  Calls Tryz.prog 97 #[.func (.func g) #[] lb,.func (.func 38) #[] #[]] w fun e w'=>∃v,e=.returned v/\w'.ownsRow w.heap.size 87 3 v xs.length (vO (jI xs))/\Gr w w':=by
 have hmf:∀(fn:Fn)(first cap:Array Value)(w:World),(Instr.makeFunc fn first cap).run Tryz.prog w=.ok (.func fn first cap) w:=fun _ _ _ _=>rfl
 have hg1:∀t,Gr w (w.alloc (.cells #[.func (.func 38) #[] #[]] t)):=fun t=>(Gr.refl w).alloc _ _
 have hs:Hid (∀t,Calls Tryz.prog 186 #[.func (.func g) #[] lb,.func (.func 187) #[] #[.pointer (some ⟨w.heap.size,0,none⟩)]] (w.alloc (.cells #[.func (.func 38) #[] #[]] t)) fun e w'=>∃v,e=.returned v/\w'.ownsRow w.heap.size 87 3 v xs.length (vO (jI xs))/\Gr w w'):=qC (fun t=>by
  refine(qz2 (hit.gr (hg1 t)) heg (fun k hk=>by have:=hCb k hk;rw[World.size_alloc];omega) hx hlen w.heap.size (by rw[World.cell?_alloc_at _ _ _ _ rfl];rfl)).mono ?_;rintro e w' ⟨v,rfl,h1,h2⟩;exact⟨v,rfl,qxn h1 (by rw[World.size_alloc];omega),Gr.trans (hg1 t) h2⟩)
 clear hit heg hCb hx hlen;go_enter Tryz.func97,Tryz.ntmps97;go_wp2_with(go_at_call 186;refine(qa hs _).mono ?_;rintro e w' ⟨v,rfl,hv,hg⟩);go_ret;exact⟨v,rfl,hv,hg⟩
structure iM(gm gi:Nat)(PA:Array Value)(xs:List Mv)(w:World):Prop where
 em:∀args w,(callFunc gm args).run Tryz.prog w=.ok (.enter gm args) w
 ei:∀args w,(callFunc gi args).run Tryz.prog w=.ok (.enter gi args) w
 go:∀T:Obj->Prop,(∀o,T o->∃c fr,o=.cells c 87 fr)->∀W,Gr w W->Calls Tryz.prog gm #[.agg PA] W fun e w'=>∃lb C,e=.returned (.func (.func gi) #[] lb)/\Gr W w'/\(∀k,C k->k<w'.heap.size)/\It Tryz.prog gi lb vr T C xs w'
 ok:∀x∈xs,bi x
 len:xs.length<=1000000
theorem iM.gr{gm gi:Nat}{PA:Array Value}{xs:List Mv}{w w':World}(h:iM gm gi PA xs w)(g:Gr w w'):iM gm gi PA xs w' :=
 ⟨h.em,h.ei,fun T hT W hW=>h.go T hT W (Gr.trans g hW),h.ok,h.len⟩
structure Ig(w:World)(gm:Nat)(PA:Array Value)(W:World):Prop where
 q:W.cell? ⟨w.heap.size,1,none⟩=some (.func (.func gm) #[] #[])
 pa:W.heap[w.heap.size+1]?=some (.cells PA 70)
 gr:Gr w W
theorem Ig.next{w W W':World}{gm:Nat}{PA:Array Value}(h:Ig w gm PA W)(g:Gr W W'):Ig w gm PA W' :=
 ⟨(Below.cell g (World.block_lt_of_cell? W _ h.q)).trans h.q,(Below.block g _ (qB.1 h.pa).1).trans h.pa,Gr.trans h.gr g⟩
def zG(ga gm:Nat):Array Value:=#[.func (.func ga) #[] #[],.func (.func gm) #[] #[]]
theorem qko{ga gm gi:Nat}{PA:Array Value}{xs:List Mv}{w:World}(hsz:PA.size=72)(m:iM gm gi PA xs w) :
  Calls Tryz.prog 49 #[.agg (zG ga gm),.agg PA] w fun e w'=>∃v,e=.returned v/\w'.ownsRow w.heap.size 87 3 v xs.length (vO (jI xs))/\Gr w w':=by
 have hi72:(Tryz.prog.info? 70).map (·.size)=some PA.toList.length:=by rw[Array.length_toList,hsz];exact jJ
 have hm:=qC m;have em:=m.em;clear m;simp only[zG]at ⊢
 have hA0:Ig w gm PA ((w.alloc (.cells (zG ga gm) 74)).alloc (.cells PA 70)):=by
  obtain⟨e1,e2⟩:=x6 w (.cells (zG ga gm) 74) (.cells PA 70);exact⟨by rw[cell_of_row _ _ _ _ _ _ e1];rfl,e2,((Gr.refl w).alloc _ _).alloc _ _⟩
 go_enter Tryz.func49,Tryz.ntmps49;go_upto_region 1 with fail;show Code.wp _ _ _ _ ((w.alloc (.cells (zG ga gm) 74)).alloc (.cells PA 70));generalize ((w.alloc (.cells (zG ga gm) 74)).alloc (.cells PA 70))=wA at hA0 ⊢;have c1:=hA0.q;have kpa:=hA0.pa;have hgA:=qC hA0.gr;have hgo:Hid (Calls Tryz.prog gm #[.agg PA] wA fun e w'=>∃lb C,e=.returned (.func (.func gi) #[] lb)/\Gr wA w'/\(∀k,C k->k<w'.heap.size)/\It Tryz.prog gi lb vr TM C xs w'):=qC ((qa hm).go TM (fun _ h=>h) wA hA0.gr);have hio:Hid (∀lb C W,(∀k,C k->k<W.heap.size)->It Tryz.prog gi lb vr TM C xs W->Calls Tryz.prog 97 #[.func (.func gi) #[] lb,.func (.func 38) #[] #[]] W fun e w'=>∃v,e=.returned v/\w'.ownsRow W.heap.size 87 3 v xs.length (vO (jI xs))/\Gr W w'):=qC (fun lb C W h1 h2=>aE h2 (qa hm).ei h1 (qa hm).ok (qa hm).len);clear hA0 hm
 go_wp2_with(first
  | (refine wpList_load_row rfl 70 _ rfl (w.heap.size+1) rfl 70 PA (0,0) _ kpa Tryz.underlying70 rfl (by rw[hsz];exact q9) ?_)
  | (go_at_fn gm;refine(qa hgo).mono ?_;rintro e w' ⟨lb,C,rfl,hga,hCb,hit⟩)
  | (go_at_call 97;refine(qa hio _ _ _ hCb hit).mono ?_;rintro e w2 ⟨v,rfl,hv,hg2⟩))
 go_ret;exact⟨v,rfl,qxn hv (q7 (Below.size (qa hgA)) (Below.size hga)),Gr.trans (qa hgA) (Gr.trans hga hg2)⟩
theorem rJ{w:World}{base n:Nat}{v:Value}{ys:List Mv}(h:w.ownsRow base 87 3 v n (vO ys)):∃p cap,v=.slice p n cap/\n<=cap/\∀i,i<n->∀(hy:i<ys.length),∃g,p=some ⟨g,0,none⟩/\w.cell? ⟨g,i*3,none⟩=some (.int .i64 (ys[i].1:Int))/\w.cell? ⟨g,i*3+1,none⟩=some (.int .i64 (ys[i].2.1:Int))/\w.cell? ⟨g,i*3+2,none⟩=some (.int .u8 (ys[i].2.2.toNat:Int)):=by
 rcases h.2 with⟨rfl,rfl⟩|⟨g,cap,cur,rfl,hb,hg,hn,hm,hcs,htk⟩
 ·exact⟨none,0,rfl,qL _,fun i hi=>absurd hi (Nat.not_lt_zero i)⟩
 ·refine⟨_,_,rfl,hn,fun i hi hy=>⟨g,rfl,?_⟩⟩
  have hj:∀c,c<3->w.cell? ⟨g,i*3+c,none⟩=(pU ys[i]).toList[c]?:=fun c hc=>by
   have h1:i*3+c<n*3:=by omega
   simp only[World.cell?];rw[hg];show cur[i*3+c]?=_;rw[<-qO,<-List.getElem?_take_of_lt h1,htk,ut,show(i*3+c)/3=i by omega,show(i*3+c)%3=c by omega,List.getElem?_eq_getElem hy];rfl
  exact⟨hj 0 (by decide),hj 1 (by decide),hj 2 (by decide)⟩
theorem jz{α β:Type}{l:List α}{f:α->List β}{n k:Nat}(hl:l.length<=n)(h:∀x∈l,(f x).length<=k):(l.flatMap f).length<=n*k:=by
 have h1:∀l:List α,(∀x∈l,(f x).length<=k)->(l.flatMap f).length<=l.length*k:=by
  intro l;induction l with
  | nil=>intro _;simp
  | cons a r ih =>
   intro h;rw[List.flatMap_cons,qZ,List.length_cons,Nat.add_mul,Nat.one_mul];have:=ih (fun x hx=>h x (List.mem_cons_of_mem _ hx));have:=h a (List.mem_cons_self ..);omega
 exact q7 (h1 l h) (Nat.mul_le_mul_right k hl)
theorem pf(p:Bool)(f t:Nat):(xT p f t).length<=4:=by unfold xT;split<;>simp
theorem bB{p:Bool}{f t:Nat}{x:Mv}(hf:f<64)(ht:t<64)(h:x∈xT p f t):bi x:=by
 unfold xT at h;split at h
 ·simp only[List.mem_cons,List.not_mem_nil,or_false]at h;rcases h with rfl|rfl|rfl|rfl<;>exact⟨hf,ht⟩
 ·rw[qT.1 h];exact⟨hf,ht⟩
theorem zg(z:Nat->UInt8)(wh:Bool)(fc:Nat->Bool)(b:Int):∀x∈xC z wh fc b,bi x:=by
 intro x hx;unfold xC zH yN kF bE at hx;simp only[List.mem_flatMap]at hx;obtain⟨k,_,f,hf,t,ht,h⟩:=hx;split at h
 ·exact bB (ui hf) (ui ht) h
 ·cases h
theorem bu(z:Nat->UInt8)(wh:Bool)(fc:Nat->Bool)(b:Int):(xC z wh fc b).length<=1000000:=by
 have h:(xC z wh fc b).length<=6*(64*(64*4)):=by
  unfold xC zH;refine jz (by simp) fun k _=>?_
  refine jz (dI _) fun f _=>?_
  refine jz (dI _) fun t _=>?_
  unfold bE;split
  ·exact pf _ _ _
  ·simp
 omega
theorem mkS{z:Nat->UInt8}{wh:Bool}{fc:Nat->Bool}{b h g:Int}{PA:Array Value}(r:jE z wh fc b h g PA)(hok:xO z=true)(hb0:-1<=b)(hb1:b<=63)(w:World)(hT:jF w)(hC:jQ w) :
  iM 61 128 PA (xC z wh fc b) w where
 em:=enters_of Tryz.func61 (by kernel_rfl) rfl
 ei:=enters_of Tryz.func128 (by kernel_rfl) rfl
 ok:=zg z wh fc b
 len:=bu z wh fc b
 go:=by
  intro T hTm W hg;refine(zk PA W).mono ?_;rintro e w' ⟨rfl,hp,hg2⟩;have hgw:=Gr.trans hg hg2;refine⟨_,_,rfl,hg2,?_,qxq r hok hb0 hb1 W.heap.size T hTm w' hp (hT.gr hgw) (hC.gr hgw)⟩;rintro k (rfl|rfl|rfl)
  ·exact(qB.1 hp).1
  ·exact(hT.gr hgw).2
  ·exact(hC.gr hgw).2
end
end Go.Proofs.YtnfakamfmkhlbabGreatDoor.C
