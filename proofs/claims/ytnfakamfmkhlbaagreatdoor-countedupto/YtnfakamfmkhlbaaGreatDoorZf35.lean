import Derived.Test.YtnfakamfmkhlbaaGreatDoorZf34
import Derived.Test.YtnfakamfmkhlbaaGreatDoorZf27
import Derived.Test.YtnfakamfmkhlbaaGreatDoorZf17
import Derived.Test.YtnfakamfmkhlbaaGreatDoorZf6
import Derived.Deep.QuietTactic
import Derived.BigQuiet
import Derived.Test.YtnfakamfmkhlbaaGreatDoorZf16
import Derived.Deep.RegionHeld3
import Derived.Test.YtnfakamfmkhlbaaGreatDoorZf18
import Derived.Test.YtnfakamfmkhlbaaGreatDoorZf15
import Derived.Test.YtnfakamfmkhlbaaGreatDoorZf31
set_option maxRecDepth 100000
set_option maxHeartbeats 4000000
set_option linter.unusedSimpArgs false
namespace Go.Proofs.YtnfakamfmkhlbaaGreatDoor.C
open Go.ChangeShapes Go.WideShapes Go.ChangeAt Go.RowKit Go.Shelf
open Go.Proofs.YtnfakamfmkhlbaaGreatDoor.P
attribute [local go_sem] qb qd Oper.semAt_some
theorem U_nat (n:Nat) (h:n<18446744073709551616):U (BitVec.ofNat 64 n)=(n:Int):=by
 unfold U;rw [BitVec.toNat_ofNat,Nat.mod_eq_of_lt h]
theorem num_nat (n:Nat) (h:n<18446744073709551616) (w:World):Calls Tryz.prog 193 #[.int .u64 0,.int .u64 (n:Int)] w fun e w'=>e=.returned (.int .u64 (U (gnB n)))/\w'=w:=by
 have e:=numb_U 0#64 (BitVec.ofNat 64 n);rw [U_nat n h] at e;have:=mixNum_any (U 0#64) (n:Int) w;rw [e] at this;exact this
theorem nums_lt {z:Nat->UInt8} {wh:Bool} {fc:Nat->Bool} {b:Int} {x:Nat} (h:x∈numsS z wh fc b):x<1000:=by
 rw [qzy,List.mem_append,List.mem_append,List.mem_append] at h;rcases h with ((h|h)|h)|h
 ·unfold nmU at h;obtain ⟨n,hn,e⟩:=List.mem_filterMap.1 h;have:=List.mem_range.1 hn;have:=(ix_bd (z n)).2;split at e
  ·injection e with e;omega
  ·cases e
 ·unfold cmU at h;obtain ⟨n,hn,e⟩:=List.mem_filterMap.1 h;have:=List.mem_range.1 hn;split at e
  ·injection e with e;omega
  ·cases e
 ·unfold whN at h;split at h
  ·cases h
  ·rw [List.mem_singleton.1 h];omega
 ·unfold bhN at h;split at h
  ·rw [List.mem_singleton.1 h];omega
  ·cases h
theorem numbers_mk (Bp:Nat) (w:World):Calls Tryz.prog 192 #[.pointer (some ⟨Bp,0,none⟩)] w fun e w'=>e=.returned (.func (.func 250) #[] #[.pointer (some ⟨w.heap.size,0,none⟩)])/\w'.heap[w.heap.size]?=some (.cells #[.pointer (some ⟨Bp,0,none⟩)] 250)/\Gr w w':=by
 go_enter Tryz.func192,Tryz.ntmps192;go_wp2_with fail;go_ret;exact ⟨rfl,heap_alloc_new w _,(Gr.refl w).alloc _ _⟩
theorem keyOf_any {z:Nat->UInt8} {wh:Bool} {fc:Nat->Bool} {b h g:Int} {PA:Array Value} (r:Row z wh fc b h g PA) (hok:layOk z=true) (hb0:-1<=b) (hb1:b<=63) (w:World) :
  Calls Tryz.prog 117 #[.agg PA] w fun e w'=>e=.returned (.int .u64 (U (keyS z wh fc b)))/\Gr w w':=by
 rw [key_nums];obtain ⟨x1,x2⟩:=heapTwo w (.cells PA 25) (.cells #[.int .u64 0] 64);have hg0:Gr w ((w.alloc (.cells PA 25)).alloc (.cells #[.int .u64 0] 64)):=((Gr.refl w).alloc _ _).alloc _ _;have hs0:((w.alloc (.cells PA 25)).alloc (.cells #[.int .u64 0] 64)).heap.size=w.heap.size+2:=by simp
 have hmk:=hide (fun W=>numbers_mk w.heap.size W);refine (callsIn_wide (n:=9)).1 ?_;refine callsIn_of_wp_marks Tryz.func117 rfl trivial ?_ rfl;simp only [Tryz.ntmps117,List.size_toArray,List.length_cons,List.length_nil,Nat.reduceAdd,Nat.reduceSub,Array.replicate_succ,Array.replicate_zero,List.push_toArray,List.append_toArray,List.nil_append,List.cons_append];refine wpIn_wide.2 ?_;go_upto_region 2 with fail;generalize ((w.alloc (.cells PA 25)).alloc (.cells #[.int .u64 0] 64))=w0 at x1 x2 hg0 hs0 ⊢;go_wp2_with (go_at_call 192;refine (qa hmk _).mono ?_;rintro e w2 ⟨rfl,hb,hg1⟩);have h1:=(Below.block hg1 _ (Array.getElem?_eq_some_iff.1 x1).1).trans x1;have h2:=(Below.block hg1 _ ((Array.getElem?_eq_some_iff.1 x2).1)).trans x2;have hg2:=Gr.trans hg0 hg1;have hs2:=Below.size hg1;have hbl:=(Array.getElem?_eq_some_iff.1 hb).1;have hit:=numbers_it hok hb0 hb1 w0.heap.size w.heap.size (fun _=>False) w2 (qc hb).1 (Ps.of r h1);rw [hs0] at hb hs2 hbl hit;clear hg0 hg1 x1 x2 hmk
 refine wpIn_wide.1 (qo (n:=9) (gf:=250) (lb:=#[.pointer (some ⟨w.heap.size+2,0,none⟩)]) rfl (enters_of Tryz.func250 (by kernel_rfl) rfl) hit (fun _ h=>h.elim) (by rintro k (rfl|rfl)<;>omega) (Fr.refl _ _) (fun _=>rfl)
  (fun pre V=>V.heap[w.heap.size+1]?=some (.cells #[.int .u64 (U (xorN 0#64 pre))] 64)/\Gr w V/\w2.heap.size<=V.heap.size)
  (fun _ _ _=>False)
  ?sI (fun _ _ _ _ h _=>h) ⟨h2,hg2,Nat.le_refl _⟩ ?rnd ?done (fun _ _ _ _ _ _ h _=>h.elim))
 case sI=>exact fun s A A' h f=>⟨f.same _ _ h.1 (.inl (by omega)),Below.trans h.2.1 (f.below (n:=w.heap.size) (Below.size h.2.1) (fun k o hk=>.inl (by omega))),Nat.le_trans h.2.2 f.size⟩
 case done =>
  rintro D V hD ⟨k2,hg,hsz⟩ hK;have c2:=(qc k2).1;go_wp2_with fail;refine ⟨by simp,.inl ⟨_,_,rfl,run_takeDeferred hK,?_⟩⟩;exact ⟨_,results_tmp rfl _ _ _,rfl,Below.trans hg (belowK_b (w:=w2) (n₀:=w.heap.size) (by omega) _ D _ _ hD hK rfl rfl)⟩
 case rnd =>
  rintro l1 pre x V hbl' hx ⟨k2,hg,hsz⟩ hl;have hl':l1<V.heap.size:=hl.elim fun r hr=>(Array.getElem?_eq_some_iff.1 hr).1
  gi_wp2;refine ⟨Fr.refl _ _,?_⟩;intro V2 f2 hI2 hl2;clear k2 hg hsz;obtain ⟨k2,hg,hsz⟩:=hI2;have hxl:x<1000:=nums_lt (hx.subset (by simp));have ew:IntKind.u64.wrap ((x:Nat):Int)=(x:Int):=by rw [IntKind.wrap_u64];omega
  have hnum:=hide (fun W=>num_nat x (by omega) W);have hsn:Hid (U (xorN 0#64 (pre++[x]))=bits .xor .u64 (U (xorN 0#64 pre)) (U (gnB x))):=hide (by rw [xor_U,xorN_app];rfl);generalize gnB x=gv at hnum hsn;obtain ⟨kn,hkn⟩:∃ q,q=xorN 0#64 (pre++[x]):=⟨_,rfl⟩;rw [<-hkn] at hsn;generalize xorN 0#64 pre=kv at k2 hsn;have d2:V2.drew.cell? ⟨w.heap.size+1,0,none⟩=some (.int .u64 (U kv)):=(qc k2).1;have d3:V2.drew.frozen? ⟨w.heap.size+1,0,none⟩=false:=(qc k2).2
  have fin:Hid (Fr (Rnd1 w2.heap.size (fun _=>False) (fun k=>k=w.heap.size+2\/k=w.heap.size)) V2 (V2.setCell ⟨w.heap.size+1,0,none⟩ (.int .u64 (bits .xor .u64 (U kv) (U gv)))).drew/\(V2.setCell ⟨w.heap.size+1,0,none⟩ (.int .u64 (bits .xor .u64 (U kv) (U gv)))).drew.heap[w.heap.size+1]?=some (.cells #[.int .u64 (U (xorN 0#64 (pre++[x])))] 64)/\Gr w (V2.setCell ⟨w.heap.size+1,0,none⟩ (.int .u64 (bits .xor .u64 (U kv) (U gv)))).drew/\w2.heap.size<=(V2.setCell ⟨w.heap.size+1,0,none⟩ (.int .u64 (bits .xor .u64 (U kv) (U gv)))).drew.heap.size):=hide (by
   have fs:Fr (fun k _=>k≠w.heap.size+1) V2 (V2.setCell ⟨w.heap.size+1,0,none⟩ (.int .u64 (bits .xor .u64 (U kv) (U gv)))):=(Fr.refl _ _).setCell _ (fun o _ q=>q rfl);refine ⟨Fr.drew (fs.mono ?_),?_,Gr.drew (Below.setCell hg (show w.heap.size<=w.heap.size+1 by omega) _),?_⟩
   ·rintro k o-(q|q)
    ·rcases q with q|q<;>omega
    ·have:=q.1;omega
   ·show (V2.setCell ⟨w.heap.size+1,0,none⟩ (.int .u64 (bits .xor .u64 (U kv) (U gv)))).heap[w.heap.size+1]?=_;have:=xh (v:=.int .u64 (bits .xor .u64 (U kv) (U gv))) k2;rw [this,<-hkn,qa hsn]
   ·exact Nat.le_trans hsz fs.size)
  gi_wp2;gi_region_with (refine ⟨trivial,?_⟩;gi_at_call 193;refine ((callsIn_wide.2 (qa hnum _)).inRound l1).mono ?_;rintro e wc ⟨rfl,rfl⟩)
  all_goals
   gi_wp2;exact qa fin
end Go.Proofs.YtnfakamfmkhlbaaGreatDoor.C
namespace Go.Proofs.YtnfakamfmkhlbaaGreatDoor.C
open Go.RowKit
open Go.Proofs.YtnfakamfmkhlbaaGreatDoor.P
def pathsN:Nat->(Nat->UInt8)->Bool->(Nat->Bool)->Int->Nat
 | 0,_,_,_,_=>1
 | d+1,z,wh,fc,b=>((movS z wh fc b).map fun x=>pathsN d (plZ z b x) (!wh) (cfA fc x.1 x.2.1 4) (behA z x.1 x.2.1)).sum
theorem sum_le {l:List Nat} {m n:Nat} (hl:l.length<=m) (h:∀ x∈l,x<=n):l.sum<=m*n:=by
 have h1:∀ l:List Nat,(∀ x∈l,x<=n)->l.sum<=l.length*n:=by
  intro l;induction l with
  | nil=>intro _;simp
  | cons a r ih =>
   intro h;rw [List.sum_cons,List.length_cons,Nat.add_mul,Nat.one_mul];have:=ih (fun x hx=>h x (List.mem_cons_of_mem _ hx));have:=h a (List.mem_cons_self ..);omega
 exact Nat.le_trans (h1 l h) (Nat.mul_le_mul_right n hl)
theorem paths_le (d:Nat):∀ z wh fc b,pathsN d z wh fc b<=1000000 ^ d:=by
 induction d with
 | zero=>intros;exact Nat.le_refl _
 | succ d ih =>
  intro z wh fc b;rw [Nat.pow_succ,Nat.mul_comm];refine sum_le (by rw [List.length_map];exact zw z wh fc b) fun x hx=>?_
  obtain ⟨y,_,rfl⟩:=List.mem_map.1 hx;exact ih _ _ _ _
theorem paths_lt {d:Nat} (hd:d<=3) (z:Nat->UInt8) (wh:Bool) (fc:Nat->Bool) (b:Int):pathsN d z wh fc b<=1000000000000000000:=by
 refine Nat.le_trans (paths_le d z wh fc b) (Nat.le_trans (Nat.pow_le_pow_right (by decide) hd) (by decide))
theorem paths_one (z:Nat->UInt8) (wh:Bool) (fc:Nat->Bool) (b:Int):pathsN 1 z wh fc b=(movS z wh fc b).length:=by
 unfold pathsN;generalize movS z wh fc b=l;induction l with
 | nil=>rfl
 | cons a r ih=>rw [List.map_cons,List.sum_cons,ih,List.length_cons];show 1+_=_;omega
structure Ok (z:Nat->UInt8) (wh:Bool) (fc:Nat->Bool) (b h g:Int):Prop where
 can:canS z wh fc b h g=true
 b0:-1<=b
 b1:b<=63
 nz:∀ n,64<=n->z n=0
 nf:∀ n,4<=n->fc n=false
variable {z:Nat->UInt8} {wh:Bool} {fc:Nat->Bool} {b h g:Int}
theorem Ok.good (o:Ok z wh fc b h g):Can z wh fc b:=qxt o.can
theorem Ok.clk (o:Ok z wh fc b h g):0<=h/\h<=65535/\0<=g/\g<=65535:=by
 obtain ⟨_,_,a,c⟩:=qjn o.can;omega
theorem Ok.lay (o:Ok z wh fc b h g):layOk z=true:=o.good.ok
theorem Ok.next (o:Ok z wh fc b h g) {f t:Nat} {u:UInt8} (hx:(f,t,u)∈movS z wh fc b):Ok (plZ z b (f,t,u)) (!wh) (cfA fc f t 4) (behA z f t) (halA z f t h) (fulA wh g):=by
 have hok:=zb _ _ _ _ _ hx;obtain ⟨c0,c1,c2,c3⟩:=o.clk;obtain ⟨hb,_⟩:=qzl z f t hok.1 hok.2 c0 (wh:=wh) c2 c3;exact ⟨can_after o.can o.b0 o.b1 hx,by omega,by omega,fun n hn=>by rw [(mvd_of o.good o.b0 o.b1 hx).far n hn];exact o.nz n hn,fun n hn=>by unfold cfA;rw [o.nf n hn];rfl⟩
theorem Ok.mv (o:Ok z wh fc b h g) {f t:Nat} {u:UInt8} (hx:(f,t,u)∈movS z wh fc b):f<64/\t<64/\u∈U5/\(kingB (z f)=true->t=f+2->f+3<64)/\(kingB (z f)=true->t+2=f->4<=f):=by
 have hok:=zb _ _ _ _ _ hx;have hL:=zx o.good o.b0 o.b1;have hxl:=(List.mem_filter.1 ((jg o.good o.b0 o.b1 _).2 hx)).1;exact ⟨hok.1,hok.2,mov_u5 o.good o.b0 o.b1 hx,fun a c=>hL.k1 f t u hxl a c,fun a c=>hL.k2 f t u hxl a c⟩
def fcN (fc:Nat->Bool) (n:Nat):Bool:=decide (n<4)&&fc n
theorem fcN_at (fc:Nat->Bool) {n:Nat} (h:n<4):fcN fc n=fc n:=by unfold fcN;rw [decide_eq_true h];rfl
theorem Ok.of {s:ByteArray} {p:Pos} (hr:readS s=some p) (hc:posCan p=true):Ok (posZ p) p.white (fcN p.castle) p.behind p.half p.full:=by
 obtain ⟨b0,b1⟩:=qxm hr;refine ⟨?_,b0,b1,pos_far hr,fun n hn=>by unfold fcN;rw [decide_eq_false (by omega)];rfl⟩;rw [qzi _ _ _ _ _ (fun i hi=>fcN_at p.castle hi)];exact hc
theorem row_fcN {PA:Array Value} (r:Row z wh fc b h g PA):Row z wh (fcN fc) b h g PA:=⟨r.size,r.sq,r.wh,fun i hi=>by rw [fcN_at fc hi];exact r.c i hi,r.b,r.h,r.g⟩
theorem row_one {z':Nat->UInt8} {wh':Bool} {fc':Nat->Bool} {b' h' g':Int} {PA:Array Value} (r:Row z wh fc b h g PA) (r':Row z' wh' fc' b' h' g' PA) (n1:∀ n,64<=n->z n=0) (n2:∀ n,64<=n->z' n=0) (m1:∀ n,4<=n->fc n=false) (m2:∀ n,4<=n->fc' n=false):z=z'/\wh=wh'/\fc=fc'/\b=b':=by
 refine ⟨?_,?_,?_,?_⟩
 ·funext n;by_cases hn:n<64
  ·have:=(r.sq n hn).symm.trans (r'.sq n hn);injection this with this;injection this with _ this;exact UInt8.toNat_inj.1 (Int.ofNat.inj this)
  ·rw [n1 n (by omega),n2 n (by omega)]
 ·have:=r.wh.symm.trans r'.wh;injection this with this;injection this
 ·funext n;by_cases hn:n<4
  ·have:=(r.c n hn).symm.trans (r'.c n hn);injection this with this;injection this
  ·rw [m1 n (by omega),m2 n (by omega)]
 ·have:=r.b.symm.trans r'.b;injection this with this;injection this
theorem qj9 {l:List Mv} (hl:l.Perm (movS z wh fc b)) (d:Nat):(l.map fun x=>pathsN d (plZ z b x) (!wh) (cfA fc x.1 x.2.1 4) (behA z x.1 x.2.1)).sum=pathsN (d+1) z wh fc b:=(hl.map _).sum_nat
theorem let_perm (hC:Can z wh fc b) (h0:-1<=b) (h1:b<=63):(letL z wh fc b).Perm (movS z wh fc b):=(List.perm_ext_iff_of_nodup (qzb hC) (qza z wh fc b)).2 (jg hC h0 h1)
theorem sum_pre {f:Mv->Nat} {pre:List Mv} {x:Mv} {xs:List Mv} (h:pre++[x] <+: xs):(pre.map f).sum+f x<=(xs.map f).sum:=by
 obtain ⟨r,rfl⟩:=h;simp only [List.map_append,List.sum_append,List.map_cons,List.map_nil,List.sum_cons,List.sum_nil];omega
end Go.Proofs.YtnfakamfmkhlbaaGreatDoor.C
namespace Go.Proofs.YtnfakamfmkhlbaaGreatDoor.C
open Go.ChangeShapes Go.WideShapes Go.ChangeAt Go.RowKit Go.Shelf
open Go.Proofs.YtnfakamfmkhlbaaGreatDoor.P
attribute [local go_sem] qb qd Oper.semAt_some
def Fx (g:Nat) (w w':World):Prop:=Fr (fun k _=>k≠g) w w'
theorem Fx.refl (g:Nat) (w:World):Fx g w w:=Fr.refl _ _
theorem Fx.trans {g:Nat} {a b c:World} (h:Fx g a b) (k:Fx g b c):Fx g a c:=Fr.trans h k
theorem Fx.of {g:Nat} {a b:World} (h:Gr a b):Fx g a b:=Fr.of_gr h
theorem Fx.size {g:Nat} {a b:World} (h:Fx g a b):a.heap.size<=b.heap.size:=Fr.size h
theorem Fx.gr {g:Nat} {a b:World} (h:Fx g a b) (hg:a.heap.size<=g):Gr a b:=Fr.below h (Nat.le_refl _) (fun k _ hk=>by omega)
theorem Fx.at {g:Nat} {a b:World} (h:Fx g a b) {k:Nat} {o:Obj} (e:a.heap[k]?=some o) (hk:k≠g):b.heap[k]?=some o:=Fr.same h k o e hk
theorem Fx.below {g:Nat} {a b c:World} (h:Fx g a b) (k:Below a.heap.size b c):Fx g a c :=
 ⟨k.os.trans h.os,k.tape.trans h.tape,k.output.trans h.output,Nat.le_trans h.size k.size,fun i o e q=>(k.block i (Array.getElem?_eq_some_iff.1 e).1).trans (h.same i o e q)⟩
theorem sumU_any {gi:Nat} {lb:Array Value} {C:Nat->Prop} {xs:List Mv} {w:World} (hit:It Tryz.prog gi lb encM (fun _=>False) C xs w) (heg:∀ args w,(callFunc gi args).run Tryz.prog w=.ok (.enter gi args) w) (hCb:∀ k,C k->k<w.heap.size) (g:Nat) (hgC:¬ C g) (hgl:g<w.heap.size)
  (b1 b2 b3:Nat) (val:Mv->Nat) (I:World->Prop) (hI:∀ A A',I A->Fr (fun k _=>k<w.heap.size) A A'->I A') (h0:I w)
  (hw:∀ f t u,(f,t,u)∈xs->∀ V,I V->Calls Tryz.prog 216 #[.agg #[.int .i64 (f:Int),.int .i64 (t:Int),.int .u8 (u.toNat:Int)],.pointer (some ⟨b1,0,none⟩),.pointer (some ⟨b2,0,none⟩),.pointer (some ⟨b3,0,none⟩)] V fun e V'=>e=.returned (.int .u64 ((val (f,t,u):Nat):Int))/\Fx g V V'/\I V')
  (hb:(xs.map val).sum<=1000000000000000000) :
  Calls Tryz.prog 215 #[.func (.func gi) #[] lb,.func (.func 216) #[] #[.pointer (some ⟨b1,0,none⟩),.pointer (some ⟨b2,0,none⟩),.pointer (some ⟨b3,0,none⟩)]] w fun e w'=>e=.returned (.int .u64 (((xs.map val).sum:Nat):Int))/\Fx g w w'/\I w':=by
 obtain ⟨fv,hfv⟩:∃ fv:Value,fv=.func (.func 216) #[] #[.pointer (some ⟨b1,0,none⟩),.pointer (some ⟨b2,0,none⟩),.pointer (some ⟨b3,0,none⟩)]:=⟨_,rfl⟩;rw [<-hfv];refine (callsIn_wide (n:=9)).1 ?_;refine callsIn_of_wp_marks Tryz.func215 rfl trivial ?_ rfl;simp only [Tryz.ntmps215,List.size_toArray,List.length_cons,List.length_nil,Nat.reduceAdd,Nat.reduceSub,Array.replicate_succ,Array.replicate_zero,List.push_toArray,List.append_toArray,List.nil_append,List.cons_append];refine wpIn_wide.2 ?_;have hfo:fv.oneCell'=true:=by rw [hfv];rfl
 rw [hfv];go_wp2_with fail;rw [<-hfv];obtain ⟨h1,h2⟩:=heapTwo w (.cells #[fv] 294) (.cells #[.int .u64 0] 64);have hg2:Gr w ((w.alloc (.cells #[fv] 294)).alloc (.cells #[.int .u64 0] 64)):=((Gr.refl w).alloc _ _).alloc _ _;have hs2:((w.alloc (.cells #[fv] 294)).alloc (.cells #[.int .u64 0] 64)).heap.size=w.heap.size+2:=by simp
 generalize ((w.alloc (.cells #[fv] 294)).alloc (.cells #[.int .u64 0] 64))=w2 at h1 h2 hg2 hs2 ⊢;have hIg:∀ {A A'},I A->Gr A A'->w.heap.size<=A.heap.size->I A':=fun h k _=>hI _ _ h (Fr.of_gr k)
 refine wpIn_wide.1 (qo (n:=9) (gf:=gi) (lb:=lb) rfl heg hit (fun _ h=>h.elim) (fun k hk=>by have:=hCb k hk;omega) (Fr.of_gr hg2) (fun _=>rfl)
  (fun pre V=>V.heap[w.heap.size]?=some (.cells #[fv] 294)/\V.heap[w.heap.size+1]?=some (.cells #[.int .u64 (((pre.map val).sum:Nat):Int)] 64)/\Fx g w V/\w2.heap.size<=V.heap.size/\I V)
  (fun _ _ _=>False)
  ?sI (fun _ _ _ _ h _=>h) ⟨h1,h2,Fx.of hg2,Nat.le_refl _,hI _ _ h0 (Fr.of_gr hg2)⟩ ?rnd ?done (fun _ _ _ _ _ _ h _=>h.elim))
 case sI=>exact fun s A A' h f=>⟨f.same _ _ h.1 (.inl (by omega)),f.same _ _ h.2.1 (.inl (by omega)),Fx.below h.2.2.1 (f.below (n:=w.heap.size) (Fx.size h.2.2.1) (fun k o hk=>.inl (by omega))),Nat.le_trans h.2.2.2.1 f.size,hI _ _ h.2.2.2.2 (f.mono fun k o _ hk=>.inl (by omega))⟩
 case done =>
  rintro D V hD ⟨k1,k2,hg,hsz,hi⟩ hK;have c2:=(qc k2).1;go_wp2_with fail;refine ⟨by simp,.inl ⟨_,_,rfl,run_takeDeferred hK,?_⟩⟩;refine ⟨_,results_tmp rfl _ _ _,rfl,Fx.below hg (belowK_b (w:=w2) (n₀:=w.heap.size) (by omega) _ D _ _ hD hK rfl rfl),hI _ _ hi (Fr.of_below (n:=w.heap.size) (belowK_b (w:=w2) (n₀:=w.heap.size) (by omega) _ D _ _ hD hK rfl rfl) fun k _ _ hk=>hk)⟩
 case rnd =>
  rintro l1 pre ⟨fr,tt,u⟩ V hbl hx ⟨k1,k2,hg,hsz,hi⟩ hl;have hl':l1<V.heap.size:=hl.elim fun r hr=>(Array.getElem?_eq_some_iff.1 hr).1
  simp only [encM,mvV];gi_wp2;refine ⟨(Fr.refl _ _).alloc _,?_⟩;intro V2 f2 hI2 hl2;clear hi;obtain ⟨k1,k2,hg,hsz,hi⟩:=hI2;have kx:V2.heap[V.heap.size]?=some (.cells #[.int .i64 (fr:Int),.int .i64 (tt:Int),.int .u8 (u.toNat:Int)] 94):=f2.same _ _ (World.alloc_heap_new V _) (by omega);generalize V.heap.size=Bx at kx ⊢;have hmem:(fr,tt,u)∈xs:=hx.subset (by simp);have hpl:=sum_pre (f:=val) hx;obtain ⟨sv,hsv'⟩:∃ n,Hid (n=(pre.map val).sum):=⟨_,hide rfl⟩;obtain ⟨xv,hxv'⟩:∃ n,Hid (n=val (fr,tt,u)):=⟨_,hide rfl⟩;have hsn:Hid ((((pre++[((fr,tt,u):Mv)]).map val).sum:Nat)=sv+xv):=hide (by rw [qa hsv',qa hxv'];simp);have hcall:=hide (hw fr tt u hmem);rw [<-qa hsv'] at k2 hpl;rw [<-qa hxv'] at hpl hcall;clear hsv' hxv';have hwr:IntKind.u64.wrap ((sv:Int)+(xv:Int))=(sv:Int)+(xv:Int):=by rw [IntKind.wrap_u64];omega
  have d1:V2.drew.cell? ⟨w.heap.size,0,none⟩=some fv:=(qc k1).1;rw [hfv] at d1;have d2:V2.drew.cell? ⟨w.heap.size+1,0,none⟩=some (.int .u64 (sv:Int)):=(qc k2).1;have d3:V2.drew.frozen? ⟨w.heap.size+1,0,none⟩=false:=(qc k2).2;obtain ⟨x0,x1,x2⟩:=qj (show V2.drew.heap[Bx]?=_ from kx);have hid:I V2.drew:=hI _ _ hi ((Fr.refl _ _).drew)
  have aft:∀ W',Fx g V2.drew W'->(W'.cell? ⟨w.heap.size,0,none⟩=some (.func (.func 216) #[] #[.pointer (some ⟨b1,0,none⟩),.pointer (some ⟨b2,0,none⟩),.pointer (some ⟨b3,0,none⟩)])/\W'.cell? ⟨w.heap.size+1,0,none⟩=some (.int .u64 (sv:Int))/\W'.frozen? ⟨w.heap.size+1,0,none⟩=false):=fun W' hgw=>by
   have e1:=hgw.at (show V2.drew.heap[w.heap.size]?=_ from k1) (by omega);have e2:=hgw.at (show V2.drew.heap[w.heap.size+1]?=_ from k2) (by omega);exact ⟨by rw [<-hfv];exact (qc e1).1,(qc e2).1,(qc e2).2⟩
  have aft':=hide aft;clear aft
  have fin:Hid (∀ W',Fx g V2.drew W'->I W'->Fr (Rnd1 w2.heap.size (fun _=>False) C) V2 (W'.setCell ⟨w.heap.size+1,0,none⟩ (.int .u64 ((sv:Int)+(xv:Int))))/\(W'.setCell ⟨w.heap.size+1,0,none⟩ (.int .u64 ((sv:Int)+(xv:Int)))).heap[w.heap.size]?=some (.cells #[fv] 294)/\(W'.setCell ⟨w.heap.size+1,0,none⟩ (.int .u64 ((sv:Int)+(xv:Int)))).heap[w.heap.size+1]?=some (.cells #[.int .u64 ((((pre++[((fr,tt,u):Mv)]).map val).sum:Nat):Int)] 64)/\Fx g w (W'.setCell ⟨w.heap.size+1,0,none⟩ (.int .u64 ((sv:Int)+(xv:Int))))/\w2.heap.size<=(W'.setCell ⟨w.heap.size+1,0,none⟩ (.int .u64 ((sv:Int)+(xv:Int)))).heap.size/\I (W'.setCell ⟨w.heap.size+1,0,none⟩ (.int .u64 ((sv:Int)+(xv:Int))))):=hide (fun W' hgw hiw=>by
   have hg3:Fx g V2 W':=Fx.trans (Fx.of (Gr.refl V2).drew) hgw;have e1:=hg3.at k1 (by omega);have e2:=hg3.at k2 (by omega);have fs:Fr (fun k _=>k≠w.heap.size+1) W' (W'.setCell ⟨w.heap.size+1,0,none⟩ (.int .u64 ((sv:Int)+(xv:Int)))):=(Fr.refl _ _).setCell _ (fun o _ q=>q rfl);refine ⟨Fr.trans (Fr.mono hg3 fun k o _ q=>?_) (fs.mono fun k o _ q=>?_),fs.same _ _ e1 (by omega),?_,Fr.setNew (Fx.trans hg hg3) _ (show w.heap.size<=w.heap.size+1 by omega),?_,hI _ _ hiw (fs.mono fun k o _ q=>by omega)⟩
   ·rintro rfl;rcases q with q|q
    ·exact hgC q
    ·omega
   ·rintro rfl;rcases q with q|q
    ·have:=hCb _ q;omega
    ·omega
   ·have:=xh (v:=.int .u64 ((sv:Int)+(xv:Int))) e2;rw [this,qa hsn];simp
   ·have:=Fx.size hg3;simp [World.setCell];omega)
  gi_wp2;gi_region_with (refine ⟨trivial,?_⟩;gi_at_call 216;refine ((callsIn_wide.2 (qa hcall _ (by with_reducible exact hid))).inRound l1).mono ?_;rintro e wc ⟨rfl,hgc,hic⟩;obtain ⟨a1,a2,a3⟩:=qa aft' wc hgc)
  all_goals
   gi_wp2;exact qa fin _ hgc hic
end Go.Proofs.YtnfakamfmkhlbaaGreatDoor.C
namespace Go.Proofs.YtnfakamfmkhlbaaGreatDoor.C
open Go.ChangeShapes Go.WideShapes Go.ChangeAt Go.RowKit Go.Shelf
open Go.Proofs.YtnfakamfmkhlbaaGreatDoor.P
structure Away (g:Nat):Prop where
 t1:g≠2
 t2:g≠3
 t3:g≠1
 t4:g≠0
structure Wt (w:World):Prop where
 tab:TabIn w
 cas:CasTab w
 st:StTab w
 hom:Homes w
theorem Homes.fr {Q:Nat->Obj->Prop} {w w':World} (h:Homes w) (f:Fr Q w w') (hq:∀ o,Q 0 o):Homes w' :=
 ⟨fun j v hv=>f.cell (h.1 j v hv) (fun o _=>hq o),Nat.lt_of_lt_of_le h.2 f.size⟩
theorem Wt.gr {w w':World} (h:Wt w) (g:Gr w w'):Wt w':=⟨h.tab.gr g,h.cas.gr g,h.st.gr g,h.hom.gr g⟩
theorem Wt.fx {g:Nat} {w w':World} (h:Wt w) (a:Away g) (f:Fx g w w'):Wt w':=⟨h.tab.fr f (fun _=>a.t1.symm),h.cas.fr f (fun _=>a.t2.symm),h.st.fr f (fun _=>a.t3.symm),h.hom.fr f (fun _=>a.t4.symm)⟩
theorem Wt.lt {w:World} (h:Wt w) {n:Nat} (hn:w.heap.size<=n):Away n:=by
 have a:=h.tab.2;have b:=h.cas.2;have c:=h.st.2;have d:=h.hom.2;exact ⟨by omega,by omega,by omega,by omega⟩
theorem Wt.low {w1 w w':World} (h:Wt w) (h1:Wt w1) (f:Fr (fun k _=>k<w1.heap.size) w w'):Wt w':=⟨⟨fun j hj=>f.cell (h.tab.1 j hj) (fun _ _=>h1.tab.2),Nat.lt_of_lt_of_le h.tab.2 f.size⟩,⟨fun j v hv=>f.cell (h.cas.1 j v hv) (fun _ _=>h1.cas.2),Nat.lt_of_lt_of_le h.cas.2 f.size⟩,⟨fun j v hv=>f.cell (h.st.1 j v hv) (fun _ _=>h1.st.2),Nat.lt_of_lt_of_le h.st.2 f.size⟩,⟨fun j v hv=>f.cell (h.hom.1 j v hv) (fun _ _=>h1.hom.2),Nat.lt_of_lt_of_le h.hom.2 f.size⟩⟩
def NoSlot (C:Nat->Prop) (w:World):Prop:=∀ k,C k->k<w.heap.size/\((k=2\/k=3\/k=1)\/∃ c ty fr,ty≠291/\w.heap[k]?=some (.cells c ty fr))
theorem NoSlot.not {C:Nat->Prop} {w:World} (h:NoSlot C w) {g:Nat} (a:Away g) {S:Array Value} {fr:Nat × Nat} (hg:w.heap[g]?=some (.cells S 291 fr)):¬ C g:=fun hc=>by
 rcases (h g hc).2 with (e|e|e)|⟨c,ty,f2,hn,e⟩
 ·exact a.t1 e
 ·exact a.t2 e
 ·exact a.t3 e
 ·rw [hg] at e;injection e with e;injection e with _ e _;exact hn e.symm
structure MkJt (gm gi:Nat) (PA:Array Value) (xs:List Mv) (w:World):Prop where
 em:∀ args w,(callFunc gm args).run Tryz.prog w=.ok (.enter gm args) w
 ei:∀ args w,(callFunc gi args).run Tryz.prog w=.ok (.enter gi args) w
 go:Calls Tryz.prog gm #[.agg PA] w fun e w'=>∃ lb C,e=.returned (.func (.func gi) #[] lb)/\Gr w w'/\NoSlot C w'/\It Tryz.prog gi lb encM (fun _=>False) C xs w'
variable {z:Nat->UInt8} {wh:Bool} {fc:Nat->Bool} {b h g:Int} {PA:Array Value}
theorem mkSj (r:Row z wh fc b h g PA) (o:Ok z wh fc b h g) (w:World) (ht:Wt w):MkJt 105 171 PA (movS z wh fc b) w where
 em:=enters_of Tryz.func105 (by kernel_rfl) rfl
 ei:=enters_of Tryz.func171 (by kernel_rfl) rfl
 go:=by
  refine (zg PA w).mono ?_;rintro e w' ⟨rfl,hp,hg2⟩;refine ⟨_,_,rfl,hg2,?_,qjg r o.lay o.b0 o.b1 w.heap.size _ (fun _ h=>h.elim) w' hp (ht.tab.gr hg2) (ht.cas.gr hg2)⟩;rintro k (rfl|rfl|rfl)
  ·exact ⟨(Array.getElem?_eq_some_iff.1 hp).1,.inr ⟨_,_,_,by decide,hp⟩⟩
  ·exact ⟨(ht.tab.gr hg2).2,.inl (by simp)⟩
  ·exact ⟨(ht.cas.gr hg2).2,.inl (by simp)⟩
theorem mkLj (r:Row z wh fc b h g PA) (o:Ok z wh fc b h g) (w:World) (ht:Wt w):MkJt 98 235 PA (letL z wh fc b) w where
 em:=enters_of Tryz.func98 (by kernel_rfl) rfl
 ei:=enters_of Tryz.func235 (by kernel_rfl) rfl
 go:=by
  have hok:=zx o.good o.b0 o.b1;have hTm:OnlyMv (fun _=>False):=fun _ h=>h.elim
  refine (zo PA w).mono ?_;rintro e w' ⟨B1,Bt,Bf,rfl,hp,h1,ht1,hf,hg2⟩;have hS':=ht.st.gr hg2;have hps:=Ps.of r hp;have hit:=qjr hok.home B1 w.heap.size _ hTm w' (qc h1).1 hps hS';refine ⟨_,_,rfl,hg2,?_,qzx hit (enters_of Tryz.func236 (by kernel_rfl) rfl) (enters_of Tryz.func165 (by kernel_rfl) rfl) (OnlyMv.cells hTm) (fun c fr h=>h) ?_ Bt Bf (letP z wh b) ht1 hf ?_⟩
  ·rintro k ((rfl|rfl|rfl)|rfl|rfl)
   ·exact ⟨(Array.getElem?_eq_some_iff.1 h1).1,.inr ⟨_,_,_,by decide,h1⟩⟩
   ·exact ⟨(Array.getElem?_eq_some_iff.1 hp).1,.inr ⟨_,_,_,by decide,hp⟩⟩
   ·exact ⟨hS'.2,.inl (by simp)⟩
   ·exact ⟨(Array.getElem?_eq_some_iff.1 ht1).1,.inr ⟨_,_,_,by decide,ht1⟩⟩
   ·exact ⟨(Array.getElem?_eq_some_iff.1 hf).1,.inr ⟨_,_,_,by decide,hf⟩⟩
  ·rintro k (rfl|rfl|rfl)
   ·exact (Array.getElem?_eq_some_iff.1 h1).1
   ·exact (Array.getElem?_eq_some_iff.1 hp).1
   ·exact hS'.2
  ·rintro ⟨f,t,u⟩ hx V fV;obtain ⟨y,hy,hky⟩:=hok.kg _ hx;have hm:=alU_ok hok.home hx;have:=judge_any r f t u hm.1 hm.2 (hok.k1 f t u hx) (hok.k2 f t u hx) y hy hky w.heap.size V (fV.same _ _ hp (.inr (.inl rfl))) (hS'.fr fV (fun _=>.inr (.inr rfl)));have e:letP z wh b (f,t,u)=!(attLB (plZ z b (f,t,u)) y (!wh)):=by unfold letP;rw [hky];rfl
   rw [e];exact this
structure WayN (n:Int) (ga gm gi:Nat):Prop where
 is:(n=1/\ga=97/\gm=98/\gi=235)\/(n=2/\ga=104/\gm=105/\gi=171)
theorem WayN.mk' {n:Int} {ga gm gi:Nat} (a:WayN n ga gm gi) (r:Row z wh fc b h g PA) (o:Ok z wh fc b h g) (w:World) (ht:Wt w):∃ xs:List Mv,xs.Perm (movS z wh fc b)/\MkJt gm gi PA xs w:=by
 rcases a.is with ⟨_,_,rfl,rfl⟩|⟨_,_,rfl,rfl⟩
 ·exact ⟨_,let_perm o.good o.b0 o.b1,mkLj r o w ht⟩
 ·exact ⟨_,List.Perm.refl _,mkSj r o w ht⟩
theorem WayN.em {n:Int} {ga gm gi:Nat} (a:WayN n ga gm gi):∀ args w,(callFunc gm args).run Tryz.prog w=.ok (.enter gm args) w:=by
 rcases a.is with ⟨_,_,rfl,rfl⟩|⟨_,_,rfl,rfl⟩
 ·exact enters_of Tryz.func98 (by kernel_rfl) rfl
 ·exact enters_of Tryz.func105 (by kernel_rfl) rfl
theorem WayN.list {n:Int} {ga gm gi:Nat} (a:WayN n ga gm gi) (r:Row z wh fc b h g PA) (o:Ok z wh fc b h g) (w:World) (ht:Wt w):∃ xs:List Mv,sortM xs=sortM (movS z wh fc b)/\MkIt gm gi PA xs w:=by
 rcases a.is with ⟨_,_,rfl,rfl⟩|⟨_,_,rfl,rfl⟩
 ·exact ⟨_,(twin o.good o.b0 o.b1).1,mkL r (zx o.good o.b0 o.b1) w ht.st⟩
 ·exact ⟨_,rfl,mkS r o.lay o.b0 o.b1 w ht.tab ht.cas⟩
end Go.Proofs.YtnfakamfmkhlbaaGreatDoor.C
namespace Go.Proofs.YtnfakamfmkhlbaaGreatDoor.C
open Go.ChangeShapes Go.WideShapes Go.ChangeAt Go.RowKit Go.Shelf
open Go.Proofs.YtnfakamfmkhlbaaGreatDoor.P
attribute [local go_sem] qb qd Oper.semAt_some
theorem builtQ (parts:List (Nat × Value)):Tryz.prog.built 202 parts=Instr.fill (fun i=>(#[(0,72),(72,1),(73,1)]:Array (Nat × Nat))[i]?) Tryz.zeroCells202 parts:=by kernel_rfl
theorem zeroQ:Tryz.zeroCells202.size=74:=by kernel_rfl
theorem infoQ:(Tryz.prog.info? 202).map (·.size)=some 74:=by kernel_rfl
def qA (A:Array Value) (d n:Int):Array Value:=A++#[.int .i64 d,.int .i64 n]
theorem zi {A:Array Value} (h:A.size=72) (d n:Int):(qA A d n).size=74:=by unfold qA;simp [h]
theorem qzt {A:Array Value} (h:A.all (·.oneCell')=true) (d n:Int):(qA A d n).all (·.oneCell')=true:=by
 unfold qA;rw [Array.all_append,h];simp [Value.oneCell']
theorem built_q (A:Array Value) (hA:A.size=72) (d n:Int):Tryz.prog.built 202 [(0,.agg A),(1,.int .i64 d),(2,.int .i64 n)]=some (qA A d n):=by
 rw [builtQ];have p0:=xl 0 A Tryz.zeroCells202;have p1:=xl 72 #[.int .i64 d] (put 0 A Tryz.zeroCells202);have p2:=xl 73 #[.int .i64 n] (put 72 #[.int .i64 d] (put 0 A Tryz.zeroCells202));have z:=zeroQ
 rw [qr _ _ 0 0 72 _ _ rfl (by simpa [Value.cells] using hA) (by omega),
  qr _ _ 1 72 1 _ _ rfl rfl (by simp only [Value.cells];omega),qr _ _ 2 73 1 _ _ rfl rfl (by simp only [Value.cells];omega)]
 simp only [Instr.fill,Value.cells,Option.some.injEq];apply Array.ext_getElem?;intro i;rw [p2.2 i (by simp;omega),p1.2 i (by simp;omega),p0.2 i (by omega)];unfold qA;rw [Array.getElem?_append,hA];by_cases h0:i<72
 ·rw [if_neg (by simp;omega),if_neg (by simp;omega),if_pos ⟨by omega,by omega⟩,if_pos h0];simp
 ·by_cases h8:i<74
  ·have:i=72\/i=73:=by omega
   rcases this with rfl|rfl<;>simp
  ·rw [if_neg (by simp;omega),if_neg (by simp;omega),if_neg (by omega),if_neg h0,Array.getElem?_eq_none (by omega),Array.getElem?_eq_none (by simp;omega)]
theorem row_clk0 {z:Nat->UInt8} {wh:Bool} {fc:Nat->Bool} {b h g:Int} {PA:Array Value} (r:Row z wh fc b h g PA):Row z wh fc b 0 0 ((PA.setIfInBounds 70 (.int .i64 0)).setIfInBounds 71 (.int .i64 0)):=by
 have hs:=r.size
 have at':∀ i,i≠70->i≠71->((PA.setIfInBounds 70 (.int .i64 0)).setIfInBounds 71 (.int .i64 0))[i]?=PA[i]?:=fun i h0 h1=>by
  rw [Array.getElem?_setIfInBounds_ne (by omega),Array.getElem?_setIfInBounds_ne (by omega)]
 exact ⟨by simp [hs],fun i hi=>by rw [at' i (by omega) (by omega)];exact r.sq i hi,by rw [at' 64 (by omega) (by omega)];exact r.wh,fun i hi=>by rw [at' _ (by omega) (by omega)];exact r.c i hi,by rw [at' 69 (by omega) (by omega)];exact r.b,
  by rw [Array.getElem?_setIfInBounds_ne (by omega),Array.getElem?_setIfInBounds_self_of_lt (by omega)],by rw [Array.getElem?_setIfInBounds_self_of_lt (by simp;omega)]⟩
theorem ask_any {z:Nat->UInt8} {wh:Bool} {fc:Nat->Bool} {b h g:Int} {PA:Array Value} (r:Row z wh fc b h g PA) (d n:Int) (w:World) :
  Calls Tryz.prog 129 #[.agg PA,.int .i64 d,.int .i64 n] w fun e w'=>∃ QA,e=.returned (.agg (qA QA d n))/\Row z wh fc b 0 0 QA/\Gr w w':=by
 obtain ⟨x1,x2⟩:=heapTwo w (.cells PA 25) (.cells Tryz.zeroCells202 202);have hg0:Gr w ((w.alloc (.cells PA 25)).alloc (.cells Tryz.zeroCells202 202)):=((Gr.refl w).alloc _ _).alloc _ _;have hr':=hide r;have hz:=r.size;clear r;go_enter Tryz.func129,Tryz.ntmps129;go_upto_region 1 with fail;generalize ((w.alloc (.cells PA 25)).alloc (.cells Tryz.zeroCells202 202))=w0 at x1 x2 hg0 ⊢;have c70:w0.cell? ⟨w.heap.size,70,none⟩=some (.int .i64 h):=by rw [qf x1];exact (qa hr').h
 have c71:w0.cell? ⟨w.heap.size,71,none⟩=some (.int .i64 g):=by rw [qf x1];exact (qa hr').g
 have f70:w0.frozen? ⟨w.heap.size,70,none⟩=false:=qz x1;have f71:w0.frozen? ⟨w.heap.size,71,none⟩=false:=qz x1;have hg2:Gr w ((w0.setCell ⟨w.heap.size,70,none⟩ (.int .i64 0)).setCell ⟨w.heap.size,71,none⟩ (.int .i64 0)):=Below.setCell (Below.setCell hg0 (Nat.le_refl _) _) (Nat.le_refl _) _;have y1:((w0.setCell ⟨w.heap.size,70,none⟩ (.int .i64 0)).setCell ⟨w.heap.size,71,none⟩ (.int .i64 0)).heap[w.heap.size]?=some (.cells ((PA.setIfInBounds 70 (.int .i64 0)).setIfInBounds 71 (.int .i64 0)) 25):=qn (qn x1)
 have y2:((w0.setCell ⟨w.heap.size,70,none⟩ (.int .i64 0)).setCell ⟨w.heap.size,71,none⟩ (.int .i64 0)).heap[w.heap.size+1]?=some (.cells Tryz.zeroCells202 202):=by
  rw [Below.heap_setCell _ _ _ _ (by simp),Below.heap_setCell _ _ _ _ (by simp)];exact x2
 go_upto_region 2 with fail;generalize ((w0.setCell ⟨w.heap.size,70,none⟩ (.int .i64 0)).setCell ⟨w.heap.size,71,none⟩ (.int .i64 0))=w2 at y1 y2 hg2 ⊢;have hr2:Hid (Row z wh fc b 0 0 ((PA.setIfInBounds 70 (.int .i64 0)).setIfInBounds 71 (.int .i64 0))):=hide (row_clk0 (qa hr'));generalize (PA.setIfInBounds 70 (.int .i64 0)).setIfInBounds 71 (.int .i64 0)=QA at y1 hr2;have hq:=(qa hr2).size;have ho:=hide (xi (qa hr2));clear c70 c71 f70 f71 x1 x2 hg0 hr' hz
 go_wp2_with (first
  | (refine wpList_load_row rfl 25 _ rfl w.heap.size rfl 25 QA (0,0) _ (by with_reducible exact y1) Tryz.underlying25 rfl (by rw [hq];exact infoP) ?_)
  | (refine jf rfl 202 #[(0,.tmp 9),(1,.tmp 10),(2,.tmp 11)] rfl (qA QA d n) ?_ ?_;focus (first|(go_simp;exact built_q QA hq d n)|(simp;exact built_q QA hq d n)))
  | (refine wpList_store_row rfl 202 _ _ rfl (w.heap.size+1) (qA QA d n) rfl rfl 202 Tryz.zeroCells202 (by with_reducible exact y2) (by rw [zi hq];exact infoQ) (by rw [zi hq];exact zeroQ) (qzt (qa ho) d n) ?_))
 exact bodyPost_ret (v:=.agg (qA QA d n)) (results_cell_row Tryz.results129 _ _ (w.heap.size+1) 202 _ (0,0) _ rfl (setRow_heap _ _ _ _ _ _ y2) Tryz.underlying202 rfl (by rw [zi hq];exact infoQ)) rfl ⟨QA,rfl,qa hr2,hg2.setRow _ (by omega) _⟩
def svN (g n:Nat):Value:=.slice (some ⟨g,0,none⟩) n n
structure MemI (g n:Nat) (I:World->Prop):Prop where
 st:∀ A A',I A->Fr (fun k _=>k=g) A A'->I A'
 ob:∀ A,I A->∃ S fr,A.heap[g]?=some (.cells S 291 fr)
 rc:∀ {z:Nat->UInt8} {wh:Bool} {fc:Nat->Bool} {b h gg:Int} {QA:Array Value},Ok z wh fc b h gg->Row z wh fc b 0 0 QA->∀ d:Nat,1<=d->d<=3->∀ (way:Int) (W:World),I W →
  Calls Tryz.prog 130 #[.agg #[svN g n],.agg (qA QA (d:Int) way)] W fun e w'=>(e=.returned (.tuple #[.int .u64 0,.bool false])\/e=.returned (.tuple #[.int .u64 ((pathsN d z wh fc b:Nat):Int),.bool true]))/\Gr W w'
 rm:∀ {z:Nat->UInt8} {wh:Bool} {fc:Nat->Bool} {b h gg:Int} {QA:Array Value},Ok z wh fc b h gg->Row z wh fc b 0 0 QA->∀ d:Nat,1<=d->d<=3->∀ (way:Int) (W:World),I W →
  Calls Tryz.prog 132 #[.agg #[svN g n],.agg (qA QA (d:Int) way),.int .u64 ((pathsN d z wh fc b:Nat):Int)] W fun e w'=>(∃ v,e=.returned v)/\Fx g W w'/\I w'
theorem recall0_any (g:Nat) (Q:Array Value) (w:World):Calls Tryz.prog 130 #[.agg #[svN g 0],.agg Q] w fun e w'=>e=.returned (.tuple #[.int .u64 0,.bool false])/\Gr w w':=by
 unfold svN;go_enter Tryz.func130,Tryz.ntmps130;go_wp2_with fail;go_ret2;exact ⟨rfl,((Gr.refl w).alloc _ _).alloc _ _⟩
theorem qzs (g:Nat) (Q:Array Value) (v:Int) (w:World):Calls Tryz.prog 132 #[.agg #[svN g 0],.agg Q,.int .u64 v] w fun e w'=>(∃ v,e=.returned v)/\Gr w w':=by
 unfold svN;go_enter Tryz.func132,Tryz.ntmps132;go_wp2_with fail;go_end0;exact ⟨⟨_,rfl⟩,((Gr.refl w).alloc _ _).alloc _ _⟩
theorem mem0 (g:Nat):MemI g 0 (fun A=>∃ S fr,A.heap[g]?=some (.cells S 291 fr)) where
 st:=fun A A' h f=>by obtain ⟨S,fr,h⟩:=h;exact ⟨S,fr,f.same _ _ h rfl⟩
 ob:=fun A h=>h
 rc:=by
  intro z wh fc b h gg QA o r d h1 h2 way W hW;exact (recall0_any g _ W).mono fun e w' h=>⟨.inl h.1,h.2⟩
 rm:=by
  intro z wh fc b h gg QA o r d h1 h2 way W hW;obtain ⟨S,fr,hS⟩:=hW;exact (qzs g _ _ W).mono fun e w' k=>⟨k.1,Fx.of k.2,S,fr,(Below.block k.2 _ (Array.getElem?_eq_some_iff.1 hS).1).trans hS⟩
end Go.Proofs.YtnfakamfmkhlbaaGreatDoor.C
