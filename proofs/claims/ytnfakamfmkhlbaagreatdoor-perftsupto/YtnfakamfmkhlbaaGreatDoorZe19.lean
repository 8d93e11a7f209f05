import Derived.Test.YtnfakamfmkhlbaaGreatDoorZe18
import Derived.Test.YtnfakamfmkhlbaaGreatDoorZe17
import Derived.Test.YtnfakamfmkhlbaaGreatDoorZe15
import Derived.Test.YtnfakamfmkhlbaaGreatDoorKz2
set_option maxRecDepth 100000
set_option maxHeartbeats 4000000
set_option linter.unusedSimpArgs false
namespace Go.Proofs.YtnfakamfmkhlbaaGreatDoor.C
open Go.ChangeShapes Go.WideShapes Go.ChangeAt Go.RowKit Go.Shelf
open Go.Proofs.YtnfakamfmkhlbaaGreatDoor.P
attribute [local go_sem] qd qi Oper.semAt_some
def txts (xs:List Mv):List ByteArray:=xs.map fun x=>str (txt x)
theorem row_form {w:World} {base n:Nat} {v:Value} {ys:List Mv} (h:w.ownsRow base 94 3 v n (rowM ys)):∃ p cap,v=.slice p n cap/\n<=cap/\∀ i,i<n->∀ (hy:i<ys.length),∃ g,p=some ⟨g,0,none⟩/\w.cell? ⟨g,i*3,none⟩=some (.int .i64 (ys[i].1:Int))/\w.cell? ⟨g,i*3+1,none⟩=some (.int .i64 (ys[i].2.1:Int))/\w.cell? ⟨g,i*3+2,none⟩=some (.int .u8 (ys[i].2.2.toNat:Int)):=by
 rcases h.2 with ⟨rfl,rfl⟩|⟨g,cap,cur,rfl,hb,hg,hn,hm,hcs,htk⟩
 ·exact ⟨none,0,rfl,Nat.le_refl _,fun i hi=>absurd hi (Nat.not_lt_zero i)⟩
 ·refine ⟨_,_,rfl,hn,fun i hi hy=>⟨g,rfl,?_⟩⟩
  have hj:∀ c,c<3->w.cell? ⟨g,i*3+c,none⟩=(mvC ys[i]).toList[c]?:=fun c hc=>by
   have h1:i*3+c<n*3:=by omega
   simp only [World.cell?];rw [hg];show cur[i*3+c]?=_;rw [<-Array.getElem?_toList,<-List.getElem?_take_of_lt h1,htk,flat_get,show (i*3+c)/3=i by omega,show (i*3+c)%3=c by omega,List.getElem?_eq_getElem hy];rfl
  exact ⟨hj 0 (by decide),hj 1 (by decide),hj 2 (by decide)⟩
theorem qxb {ga gm gi:Nat} {PA:Array Value} {xs:List Mv} {w:World} (hsz:PA.size=72) (m:MkIt gm gi PA xs w) :
  Calls Tryz.prog 45 #[.agg (wayA ga gm),.agg PA] w fun e w'=>∃ v,e=.returned v/\Strs w.heap.size v (txts (sortM xs)) w'/\Gr w w':=by
 obtain ⟨i0,hi,hz0,hz1,hz2⟩:=info_parts infoS;have hi':=hide hi;clear hi;have hm:=hide m;clear m
 have hA0:Ig w gm PA ((w.alloc (.cells (wayA ga gm) 84)).alloc (.cells PA 25)):=by
  obtain ⟨e1,e2⟩:=heapTwo w (.cells (wayA ga gm) 84) (.cells PA 25);exact ⟨by rw [cell_of_row _ _ _ _ _ _ e1];rfl,e2,((Gr.refl w).alloc _ _).alloc _ _⟩
 have hc0:((w.alloc (.cells (wayA ga gm) 84)).alloc (.cells PA 25)).cell? ⟨w.heap.size,0,none⟩=some (.func (.func ga) #[] #[]):=by
  obtain ⟨e1,e2⟩:=heapTwo w (.cells (wayA ga gm) 84) (.cells PA 25);rw [cell_of_row _ _ _ _ _ _ e1];rfl
 simp only [wayA] at ⊢;go_enter Tryz.func45,Tryz.ntmps45;go_upto_region 1 with fail;show Code.wp _ _ _ _ ((w.alloc (.cells (wayA ga gm) 84)).alloc (.cells PA 25));generalize ((w.alloc (.cells (wayA ga gm) 84)).alloc (.cells PA 25))=wA at hA0 hc0 ⊢;have c1:=hA0.q;have kpa:=hA0.pa;have hgA:=hide hA0.gr;have hgm:Hid (Calls Tryz.prog 99 #[.agg #[.func (.func ga) #[] #[],.func (.func gm) #[] #[]],.agg PA] wA fun e w'=>∃ v,e=.returned v/\w'.ownsRow wA.heap.size 94 3 v xs.length (rowM (sortM xs))/\Gr wA w'):=hide (qxc hsz ((qa hm).gr hA0.gr));have hok:∀ x∈sortM xs,okM x:=fun x hx=>(qa hm).ok x ((xp xs).mem_iff.1 hx)
 have hys:(sortM xs).length=xs.length:=qqd xs;have hlen:=(qa hm).len;obtain ⟨ys,hYS⟩:∃ ys,Hid (ys=sortM xs):=⟨_,hide rfl⟩;rw [<-qa hYS] at hgm hok hys;clear hA0 hm
 go_wp2_with (first
  | (refine wpList_load_row rfl 25 _ rfl (w.heap.size+1) rfl 25 PA (0,0) _ kpa Tryz.underlying25 rfl (by rw [hsz];exact infoP) ?_)
  | (go_at_call 99;refine (qa hgm).mono ?_;rintro e w1 ⟨v,rfl,hv,hg1⟩;obtain ⟨p,cap,rfl,hcap,hel⟩:=row_form hv))
 have hgw:=hide (Gr.trans (qa hgA) hg1);have hel':=hide hel;clear hgm hv hg1 hgA kpa c1 hc0 hel;go_loopg [5,7,12] xs.length (fun g v _ i wr=>∃ k:Nat,k+g=xs.length/\i=.int .i64 (k:Int)/\Strs w1.heap.size v (txts (ys.take k)) wr/\Gr w1 wr)
 case atStart=>exact ⟨0,by omega,rfl,⟨rfl,.inl ⟨rfl,rfl⟩⟩,Gr.refl _⟩
 case round =>
  obtain ⟨k,k1,rfl,hst,hgr⟩:=hrel;by_cases hlt:k<xs.length
  ·obtain ⟨g,rfl,x0,x1,x2⟩:=qa hel' k hlt (by omega);have hblt:g<w1.heap.size:=World.block_lt_of_cell? _ _ x0;have x0:=(Below.cell hgr hblt).trans x0;have x1:=(Below.cell hgr hblt).trans x1;have x2:=(Below.cell hgr hblt).trans x2;have hyk:okM ys[k]:=hok _ (List.getElem_mem _);have htk:Hid (ys.take (k+1)=ys.take k++[ys[k]]):=hide (List.take_succ_eq_append_getElem (by omega));generalize ys[k]=y at x0 x1 x2 hyk htk;obtain ⟨f,t,u⟩:=y;have hst':=hide hst;have hgr':=hide hgr;have hwz:=Below.size hgr;obtain ⟨S,hS⟩:∃ S,Hid (S=str (txt (f,t,u))):=⟨_,hide rfl⟩;have hN:Hid (∀ W,Calls Tryz.prog 100 #[.agg #[.int .i64 (f:Int),.int .i64 (t:Int),.int .u8 (u.toNat:Int)]] W fun e w'=>e=.returned (.string S)/\Gr W w'):=hide (fun W=>by rw [qa hS];exact moveP_any f t hyk.1 hyk.2 u W);have hga:Hid (Gr wr (wr.alloc (.cells #[.int .i64 (f:Int),.int .i64 (t:Int),.int .u8 (u.toNat:Int)] 94))):=hide ((Gr.refl _).alloc _ _);clear hst hgr hok hyk;go_upto_region 5 with fail;have hx:=World.alloc_heap_new wr (.cells #[.int .i64 (f:Int),.int .i64 (t:Int),.int .u8 (u.toNat:Int)] 94);generalize (wr.alloc (.cells #[.int .i64 (f:Int),.int .i64 (t:Int),.int .u8 (u.toNat:Int)] 94))=wb at hga hx ⊢;obtain ⟨y0,y1,y2⟩:=qu hx;clear hx x0 x1 x2
   go_upto_region 6 with (first
    | (go_at_call 100;refine (qa hN _).mono ?_;rintro e w2 ⟨rfl,hg2⟩;have hg3:=Gr.trans (qa hgr') (Gr.trans (qa hga) hg2);have hs3:=Below.size hg3;have hst2:=hide (qjq (qa hst') (Gr.trans (qa hga) hg2)))
    | (at_builtin;refine wpList_append_own _ rfl (.tmp 16) (.tmp 19) 37 rfl w1.heap.size 9 i0 (.string ⟨#[]⟩) 1 16 Tryz.underlying37 (qa hi') hz0 hz1 hz2 rfl (by decide) u5 (txts (ys.take k)).length ((txts (ys.take k)).map Value.string) rfl ((qa hst2).alloc _) ⟨w2.heap.size,0,none⟩ 1 1 [.string S] rfl rfl (cell_one_new _ _ _) (by simp [Value.oneCell']) (by unfold maxLen;rw [txts,List.length_map,List.length_take];omega) (by rw [txts,List.length_map,List.length_take];omega) (by simp;omega) ?_;intro v' w3 hown' hgrow hnil))
   go_wp2_with fail;go_roundg (gk-1)
   case measure=>omega
   case rel =>
    refine ⟨k+1,by omega,by go_num,?_,?_⟩
    ·unfold Strs;rw [qa htk,txts,List.map_append,List.map_append,List.length_append];rw [qa hS] at hown';exact hown'
    ·exact (hg3.alloc _ _).grown hgrow (by simp;omega) (qxp (qa hst2))
  ·have ek:k=xs.length:=by omega
   rw [ek,<-hys,List.take_length,qa hYS] at hst;have hst':=hide hst;have hgr':=hide hgr;clear hst hgr hok hel';subst ek;go_wp2_with fail;go_ret;exact ⟨_,rfl,jx (qa hst') (Below.size (qa hgw)),Gr.trans (qa hgw) (qa hgr')⟩
theorem js {α β:Type} {l:List α} {f:α->List β} {n k:Nat} (hl:l.length<=n) (h:∀ x∈l,(f x).length<=k):(l.flatMap f).length<=n*k:=by
 have h1:∀ l:List α,(∀ x∈l,(f x).length<=k)->(l.flatMap f).length<=l.length*k:=by
  intro l;induction l with
  | nil=>intro _;simp
  | cons a r ih =>
   intro h;rw [List.flatMap_cons,List.length_append,List.length_cons,Nat.add_mul,Nat.one_mul];have:=ih (fun x hx=>h x (List.mem_cons_of_mem _ hx));have:=h a (List.mem_cons_self ..);omega
 exact Nat.le_trans (h1 l h) (Nat.mul_le_mul_right k hl)
theorem turns_len (p:Bool) (f t:Nat):(turnsB p f t).length<=4:=by unfold turnsB;split<;>simp
theorem turns_ok {p:Bool} {f t:Nat} {x:Mv} (hf:f<64) (ht:t<64) (h:x∈turnsB p f t):okM x:=by
 unfold turnsB at h;split at h
 ·simp only [List.mem_cons,List.not_mem_nil,or_false] at h;rcases h with rfl|rfl|rfl|rfl<;>exact ⟨hf,ht⟩
 ·rw [List.mem_singleton.1 h];exact ⟨hf,ht⟩
theorem qxv (z:Nat->UInt8) (wh:Bool) (fc:Nat->Bool) (b:Int):∀ x∈movS z wh fc b,okM x:=by
 intro x hx;unfold movS uptoS placeS fromS toS at hx;simp only [List.mem_flatMap] at hx;obtain ⟨k,_,f,hf,t,ht,h⟩:=hx;split at h
 ·exact turns_ok (sqs_lt hf) (sqs_lt ht) h
 ·cases h
theorem qqp (z:Nat->UInt8) (wh:Bool) (fc:Nat->Bool) (b:Int):(movS z wh fc b).length<=1000000:=by
 have h:(movS z wh fc b).length<=6*(64*(64*4)):=by
  unfold movS uptoS;refine js (by simp) fun k _=>?_
  refine js (sqs_len _) fun f _=>?_
  refine js (sqs_len _) fun t _=>?_
  unfold toS;split
  ·exact turns_len _ _ _
  ·simp
 omega
theorem mkS {z:Nat->UInt8} {wh:Bool} {fc:Nat->Bool} {b h g:Int} {PA:Array Value} (r:Row z wh fc b h g PA) (hok:layOk z=true) (hb0:-1<=b) (hb1:b<=63) (w:World) (hT:TabIn w) (hC:CasTab w) :
  MkIt 105 171 PA (movS z wh fc b) w where
 em:=enters_of Tryz.func105 (by kernel_rfl) rfl
 ei:=enters_of Tryz.func171 (by kernel_rfl) rfl
 ok:=qxv z wh fc b
 len:=qqp z wh fc b
 go:=by
  intro T hTm W hg;refine (qx3 PA W).mono ?_;rintro e w' ⟨rfl,hp,hg2⟩;have hgw:=Gr.trans hg hg2;refine ⟨_,_,rfl,hg2,?_,movesS_it r hok hb0 hb1 W.heap.size T hTm w' hp (hT.gr hgw) (hC.gr hgw)⟩;rintro k (rfl|rfl|rfl)
  ·exact (Array.getElem?_eq_some_iff.1 hp).1
  ·exact (hT.gr hgw).2
  ·exact (hC.gr hgw).2
end Go.Proofs.YtnfakamfmkhlbaaGreatDoor.C
namespace Go.Proofs.YtnfakamfmkhlbaaGreatDoor.C
open Go.ChangeShapes Go.WideShapes Go.ChangeAt Go.RowKit
attribute [local go_sem] qd qi
theorem passing_any {z:Nat->UInt8} {wh:Bool} {fc:Nat->Bool} {b h g:Int} {PA:Array Value} (r:Row z wh fc b h g PA) (f t:Nat) (hf:f<64) (ht:t<64) (u:UInt8) (w:World):Calls Tryz.prog 195 #[.agg PA,.agg #[.int .i64 (f:Int),.int .i64 (t:Int),.int .u8 (u.toNat:Int)]] w fun e w'=>e=.returned (.bool (decide (kdc (z f)=0)&&decide ((t:Int)=b)&&decide (f%8≠t%8)))/\Gr w w':=by
 have hsq:=r.sq f hf;have hb:=r.b;have ef:(f:Int).tmod 8=((f%8:Nat):Int):=by rw [Int.tmod_eq_emod_of_nonneg (by omega)];omega
 have et:(t:Int).tmod 8=((t%8:Nat):Int):=by rw [Int.tmod_eq_emod_of_nonneg (by omega)];omega
 have hk:=hide (fun W=>qqr (z f) W);have hg2:Hid (∀ o:Array Value,Gr w ((w.alloc (.cells PA 25)).alloc (.cells o 171))):=hide (fun o=>((Gr.refl w).alloc _ _).alloc _ _);generalize kdc (z f)=kd at hk ⊢
 have hne:Hid (((((f%8:Nat):Int) != ((t%8:Nat):Int)))=decide (f%8≠t%8)):=hide (by
  by_cases e:f%8=t%8
  ·simp [e]
  ·have:((f%8:Nat):Int)≠((t%8:Nat):Int):=by omega
   simp only [bne_iff_ne,ne_eq,this,e,not_false_eq_true,decide_true])
 obtain ⟨q,hq⟩:∃ q,Hid (decide (f%8≠t%8)=q):=⟨_,hide rfl⟩;rw [qa hq];have hne':=qa hne;rw [qa hq] at hne';clear hq hne;generalize f%8=fm at ef hne';generalize t%8=tm at et hne';by_cases k0:kd=0
 ·have k1:(kd==0)=true:=by simp [k0]
  rw [decide_eq_true k0];clear k0;by_cases t0:(t:Int)=b
  ·have t1:((t:Int)==b)=true:=by simp [t0]
   rw [decide_eq_true t0];clear t0;go_enter Tryz.func195,Tryz.ntmps195;go_wp2_with (go_at_call 86;refine (qa hk _).mono ?_;rintro e w' ⟨rfl,rfl⟩);go_ret;exact ⟨rfl,qa hg2 _⟩
  ·have t1:((t:Int)==b)=false:=by rw [beq_eq_false_iff_ne];exact t0
   rw [decide_eq_false t0];clear t0;go_enter Tryz.func195,Tryz.ntmps195;go_wp2_with (go_at_call 86;refine (qa hk _).mono ?_;rintro e w' ⟨rfl,rfl⟩);go_ret;exact ⟨rfl,qa hg2 _⟩
 ·have k1:(kd==0)=false:=by rw [beq_eq_false_iff_ne];exact k0
  rw [decide_eq_false k0];clear k0;go_enter Tryz.func195,Tryz.ntmps195;go_wp2_with (go_at_call 86;refine (qa hk _).mono ?_;rintro e w' ⟨rfl,rfl⟩);go_ret;exact ⟨rfl,qa hg2 _⟩
def casB (wh:Bool) (fc:Nat->Bool) (f t:Nat) (u:UInt8) (i:Nat):Bool:=fc i&&(sdb (decide (i<2))==sdb wh)&&((f:Int)==homeK i)&&((t:Int)==homeT i)&&((u.toNat:Int)==0)
def casF2 (p:Nat->Bool):Nat->Nat->Int
 | 0,_=>-1
 | n+1,i=>if p i then (i:Int) else casF2 p n (i+1)
def casR (wh:Bool) (fc:Nat->Bool) (f t:Nat) (u:UInt8):Int:=casF2 (casB wh fc f t u) 4 0
theorem blk_old (W:World) (o:Obj) (j:Nat) (h:j<W.heap.size):(W.alloc o).heap[j]?=W.heap[j]?:=Below.block ((Below.refl W.heap.size W).alloc (Nat.le_refl _) o) j h
theorem row_at {w w':World} {PA o:Array Value} {ty ty2:TypeId} (g:Gr ((w.alloc (.cells PA ty)).alloc (.cells o ty2)) w'):w'.heap[w.heap.size]?=some (.cells PA ty (0,0))/\w'.heap[w.heap.size+1]?=some (.cells o ty2 (0,0)):=by
 constructor
 ·refine (Below.block g _ (by rw [World.size_alloc,World.size_alloc];omega)).trans ?_;rw [blk_old _ _ _ (by rw [World.size_alloc];omega)];exact World.alloc_heap_new w _
 ·refine (Below.block g _ (by rw [World.size_alloc,World.size_alloc];omega)).trans ?_;have:=World.alloc_heap_new (w.alloc (.cells PA ty)) (.cells o ty2)
  rwa [World.size_alloc] at this
theorem qm {W:World} {b:Nat} {A:Array Value} {ty:TypeId} (h:W.heap[b]?=some (.cells A ty (0,0))) (i:Nat):W.cell? ⟨b,i,none⟩=A[i]?:=by
 simp only [World.cell?];rw [h];rfl
theorem rowOf {W:World} {b:Nat} {A:Array Value} {ty:TypeId} (h:W.heap[b]?=some (.cells A ty (0,0))):RowAt b A W :=
 ⟨(Array.getElem?_eq_some_iff.1 h).1,fun j v hv=>by rw [Nat.zero_add,qm h,<-Array.getElem?_toList];exact hv⟩
theorem qj3 {z:Nat->UInt8} {wh:Bool} {fc:Nat->Bool} {b h g:Int} {PA:Array Value} (r:Row z wh fc b h g PA) (f t:Nat) (u:UInt8) (w:World):Calls Tryz.prog 196 #[.agg PA,.agg #[.int .i64 (f:Int),.int .i64 (t:Int),.int .u8 (u.toNat:Int)]] w fun e w'=>e=.returned (.int .i64 (casR wh fc f t u))/\Gr w w':=by
 have hz:=r.size;have hca:=hide r.c;have htu:=hide (fun W=>qqo r W);have hho:=hide (fun i hi W=>zi i hi W);have hg2:Hid (∀ o:Array Value,Gr w ((w.alloc (.cells PA 25)).alloc (.cells o 171))):=hide (fun o=>((Gr.refl w).alloc _ _).alloc _ _);have hin:Hid (∀ w',Gr ((w.alloc (.cells PA 25)).alloc (.cells #[.int .i64 (f:Int),.int .i64 (t:Int),.int .u8 (u.toNat:Int)] 171)) w'->_):=hide (fun w' g=>row_at g);unfold casR;go_enter Tryz.func196,Tryz.ntmps196;go_wp2_with fail;have hgw:=hide (qa hg2 #[.int .i64 (f:Int),.int .i64 (t:Int),.int .u8 (u.toNat:Int)]);generalize ((w.alloc (.cells PA 25)).alloc (.cells #[.int .i64 (f:Int),.int .i64 (t:Int),.int .u8 (u.toNat:Int)] 171))=w2 at hin hgw ⊢;clear hg2;go_loopg [5] 4 (fun gm i wr=>∃ d:Nat,d+gm=4/\i=.int .i64 (d:Int)/\Gr w2 wr/\casF2 (casB wh fc f t u) gm d=casF2 (casB wh fc f t u) 4 0)
 case atStart=>exact ⟨0,by omega,rfl,Gr.refl _,rfl⟩
 case round =>
  obtain ⟨d,d1,rfl,hG,hcf⟩:=hrel;have hG':=hide hG;have hcf':=hide hcf;clear hG hcf;by_cases hd:d<4
  ·obtain ⟨hP,hm⟩:=qa hin _ (qa hG');have hrow:=hide (rowOf hP);have hcd:wr.cell? ⟨w.heap.size,65+d,none⟩=some (.bool (fc d)):=by rw [qm hP];exact qa hca d hd
   have m0:wr.cell? ⟨w.heap.size+1,0,none⟩=some (.int .i64 (f:Int)):=by rw [qm hm];rfl
   have m1:wr.cell? ⟨w.heap.size+1,1,none⟩=some (.int .i64 (t:Int)):=by rw [qm hm];rfl
   have m2:wr.cell? ⟨w.heap.size+1,2,none⟩=some (.int .u8 (u.toNat:Int)):=by rw [qm hm];rfl
   clear hP hm
   have hmv:Hid (∀ w',Gr w2 w'->w'.cell? ⟨w.heap.size+1,0,none⟩=some (.int .i64 (f:Int))/\w'.cell? ⟨w.heap.size+1,1,none⟩=some (.int .i64 (t:Int))/\w'.cell? ⟨w.heap.size+1,2,none⟩=some (.int .u8 (u.toNat:Int))):=hide (fun w' g=>by
    have hm:=(qa hin w' g).2;exact ⟨by rw [qm hm];rfl,by rw [qm hm];rfl,by rw [qm hm];rfl⟩)
   obtain ⟨gg,rfl⟩:∃ gg,gk=gg+1:=⟨gk-1,by omega⟩;have hst:Hid (casF2 (casB wh fc f t u) (gg+1) d=if fc d&&(sdb (decide (d<2))==sdb wh)&&((f:Int)==homeK d)&&((t:Int)==homeT d)&&((u.toNat:Int)==0) then (d:Int) else casF2 (casB wh fc f t u) gg (d+1)):=hide rfl;obtain ⟨x1,e1⟩:∃ x,(sdb (decide (d<2))==sdb wh)=x:=⟨_,rfl⟩;obtain ⟨x2,e2⟩:∃ x,((f:Int)==homeK d)=x:=⟨_,rfl⟩;obtain ⟨x3,e3⟩:∃ x,((t:Int)==homeT d)=x:=⟨_,rfl⟩;obtain ⟨x4,e4⟩:∃ x,((u.toNat:Int)==0)=x:=⟨_,rfl⟩;generalize fc d=x0 at hcd hst;rw [e1,e2,e3,e4] at hst;have hcf2:=hide ((qa hst).symm.trans (qa hcf'));clear hst hcf' hin hca m0 m1 m2;cases x0
   ·clear e1 e2 e3 e4
    go_wp2_with (first
     | (go_at_call 88;refine (qa hho d hd _).mono ?_;rintro e w' ⟨rfl,hww⟩;have hww':=hww.symm;subst hww';clear hww)
     | (go_at_call 90;refine (qa htu _).mono ?_;rintro e w6 ⟨rfl,hg6⟩;obtain ⟨m0,m1,m2⟩:=qa hmv _ (Gr.trans (qa hG') hg6);have hG6:=hide (Gr.trans (qa hG') hg6);clear hg6)
     | (refine ql (by rfl) _ rfl w.heap.size rfl hz (qa hrow) ?_))
    go_roundg gg
    case measure=>omega
    case rel=>exact ⟨d+1,by omega,rfl,qa hG',qa hcf2⟩
   ·cases x1
    ·skip
     go_wp2_with (first
      | (go_at_call 88;refine (qa hho d hd _).mono ?_;rintro e w' ⟨rfl,hww⟩;have hww':=hww.symm;subst hww';clear hww)
      | (go_at_call 90;refine (qa htu _).mono ?_;rintro e w6 ⟨rfl,hg6⟩;obtain ⟨m0,m1,m2⟩:=qa hmv _ (Gr.trans (qa hG') hg6);have hG6:=hide (Gr.trans (qa hG') hg6);clear hg6)
      | (refine ql (by rfl) _ rfl w.heap.size rfl hz (qa hrow) ?_))
     go_roundg gg
     case measure=>omega
     case rel=>exact ⟨d+1,by omega,rfl,qa hG6,qa hcf2⟩
    ·cases x2
     ·skip
      go_wp2_with (first
       | (go_at_call 88;refine (qa hho d hd _).mono ?_;rintro e w' ⟨rfl,hww⟩;have hww':=hww.symm;subst hww';clear hww)
       | (go_at_call 90;refine (qa htu _).mono ?_;rintro e w6 ⟨rfl,hg6⟩;obtain ⟨m0,m1,m2⟩:=qa hmv _ (Gr.trans (qa hG') hg6);have hG6:=hide (Gr.trans (qa hG') hg6);clear hg6)
       | (refine ql (by rfl) _ rfl w.heap.size rfl hz (qa hrow) ?_))
      go_roundg gg
      case measure=>omega
      case rel=>exact ⟨d+1,by omega,rfl,qa hG6,qa hcf2⟩
     ·cases x3
      ·skip
       go_wp2_with (first
        | (go_at_call 88;refine (qa hho d hd _).mono ?_;rintro e w' ⟨rfl,hww⟩;have hww':=hww.symm;subst hww';clear hww)
        | (go_at_call 90;refine (qa htu _).mono ?_;rintro e w6 ⟨rfl,hg6⟩;obtain ⟨m0,m1,m2⟩:=qa hmv _ (Gr.trans (qa hG') hg6);have hG6:=hide (Gr.trans (qa hG') hg6);clear hg6)
        | (refine ql (by rfl) _ rfl w.heap.size rfl hz (qa hrow) ?_))
       go_roundg gg
       case measure=>omega
       case rel=>exact ⟨d+1,by omega,rfl,qa hG6,qa hcf2⟩
      ·cases x4
       ·skip
        go_wp2_with (first
         | (go_at_call 88;refine (qa hho d hd _).mono ?_;rintro e w' ⟨rfl,hww⟩;have hww':=hww.symm;subst hww';clear hww)
         | (go_at_call 90;refine (qa htu _).mono ?_;rintro e w6 ⟨rfl,hg6⟩;obtain ⟨m0,m1,m2⟩:=qa hmv _ (Gr.trans (qa hG') hg6);have hG6:=hide (Gr.trans (qa hG') hg6);clear hg6)
         | (refine ql (by rfl) _ rfl w.heap.size rfl hz (qa hrow) ?_))
        go_roundg gg
        case measure=>omega
        case rel=>exact ⟨d+1,by omega,rfl,qa hG6,qa hcf2⟩
       ·skip
        go_wp2_with (first
         | (go_at_call 88;refine (qa hho d hd _).mono ?_;rintro e w' ⟨rfl,hww⟩;have hww':=hww.symm;subst hww';clear hww)
         | (go_at_call 90;refine (qa htu _).mono ?_;rintro e w6 ⟨rfl,hg6⟩;obtain ⟨m0,m1,m2⟩:=qa hmv _ (Gr.trans (qa hG') hg6);have hG6:=hide (Gr.trans (qa hG') hg6);clear hg6)
         | (refine ql (by rfl) _ rfl w.heap.size rfl hz (qa hrow) ?_))
        go_ret;exact ⟨by rw [<-qa hcf2];rfl,Gr.trans (qa hgw) (qa hG6)⟩
  ·have ed:d=4:=by omega
   subst ed;obtain rfl:gk=0:=by omega
   clear hin hca;go_wp2_with fail;go_ret;exact ⟨by rw [<-qa hcf'];rfl,Gr.trans (qa hgw) (qa hG')⟩
def wayP (i:Nat) (j:Nat):Int:=if i%2=0 then homeK i+j else homeK i-j
def wayL (i:Nat):Nat:=if i%2=0 then 3 else 4
def clrH (z:Nat->UInt8) (i:Nat):Bool:=P.freeI (fun n=>((z n).toNat:Int)) (wayP i) (wayL i)
theorem clearH_any (z:Nat->UInt8) (A:Array Value) (hA:∀ i,i<64->A[i]?=some (.int .u8 ((z i).toNat:Int))) (i:Nat) (hi:i<4) (w:World):Calls Tryz.prog 230 #[.agg A,.int .i64 (homeK i),.int .i64 (homeR i)] w fun e w'=>e=.returned (.bool (clrH z i))/\Gr w w':=by
 have hc:i=0\/i=1\/i=2\/i=3:=by omega
 refine jz A (fun n=>((z n).toNat:Int)) hA (homeK i) (homeR i) ?_ ?_ ?_ ?_ (wayP i) (wayL i) ?_ ?_ ?_ ?_ ?_ ?_ w
 ·rcases hc with rfl|rfl|rfl|rfl<;>decide
 ·rcases hc with rfl|rfl|rfl|rfl<;>decide
 ·rcases hc with rfl|rfl|rfl|rfl<;>decide
 ·rcases hc with rfl|rfl|rfl|rfl<;>decide
 ·rcases hc with rfl|rfl|rfl|rfl<;>decide
 ·rcases hc with rfl|rfl|rfl|rfl<;>decide
 ·intro j;rcases hc with rfl|rfl|rfl|rfl
  ·show (4:Int)+((j+1:Nat):Int)=4+(j:Int)+8*0+1;omega
  ·show (4:Int)-((j+1:Nat):Int)=4-(j:Int)+8*0+(-1);omega
  ·show (60:Int)+((j+1:Nat):Int)=60+(j:Int)+8*0+1;omega
  ·show (60:Int)-((j+1:Nat):Int)=60-(j:Int)+8*0+(-1);omega
 ·rcases hc with rfl|rfl|rfl|rfl<;>decide
 ·intro j hj;rcases hc with rfl|rfl|rfl|rfl
  ·have:j<=3:=hj;show 0<=(4:Int)+(j:Int)/\(4:Int)+(j:Int)<=63;omega
  ·have:j<=4:=hj;show 0<=(4:Int)-(j:Int)/\(4:Int)-(j:Int)<=63;omega
  ·have:j<=3:=hj;show 0<=(60:Int)+(j:Int)/\(60:Int)+(j:Int)<=63;omega
  ·have:j<=4:=hj;show 0<=(60:Int)-(j:Int)/\(60:Int)-(j:Int)<=63;omega
 ·intro j h1 hj;rcases hc with rfl|rfl|rfl|rfl
  ·have:j<3:=hj;show (4:Int)+(j:Int)≠7;omega
  ·have:j<4:=hj;show (4:Int)-(j:Int)≠0;omega
  ·have:j<3:=hj;show (60:Int)+(j:Int)≠63;omega
  ·have:j<4:=hj;show (60:Int)-(j:Int)≠56;omega
theorem homes_in (i:Nat) (hi:i<4):0<=homeK i/\homeK i<=63/\0<=homeT i/\homeT i<=63/\IntKind.i64.wrap (homeK i+homeT i)=homeK i+homeT i/\0<=(homeK i+homeT i).tdiv 2/\(homeK i+homeT i).tdiv 2<=63/\IntKind.i64.wrap (-(sdb (decide (i<2))))=sdb (!decide (i<2)):=by
 have hc:i=0\/i=1\/i=2\/i=3:=by omega
 rcases hc with rfl|rfl|rfl|rfl<;>decide +kernel
def freeC (z:Nat->UInt8) (i:Nat):Bool:=clrH z i&&!(attR z (homeK i) (!decide (i<2)))&&!(attR z ((homeK i+homeT i).tdiv 2) (!decide (i<2)))&&!(attR z (homeT i) (!decide (i<2)))
theorem mid_at {W:World} {b:Nat} {A:Array Value} (h:RowAt b A W):W.rangeAt b 0 (A.toList.take 64):=fun j v hv=>h.2 j v (by
 rw [List.getElem?_take] at hv;split at hv
 ·exact hv
 ·cases hv)
theorem free_any {z:Nat->UInt8} {wh:Bool} {fc:Nat->Bool} {b h g:Int} {PA:Array Value} (r:Row z wh fc b h g PA) (i:Nat) (hi:i<4) (w:World):Calls Tryz.prog 278 #[.agg PA,.int .i64 (i:Int)] w fun e w'=>e=.returned (.bool (freeC z i))/\Gr w w':=by
 have hho:=hide (fun W=>zi i hi W);obtain ⟨bs,bA⟩:=qjd r;obtain ⟨k0,k1,t0,t1,kt,q0,q1,hs⟩:=homes_in i hi;have hclr:=hide (fun W=>clearH_any z _ bA i hi W);have hatt:=hide (fun y y0 y1 W=>qqb z _ bs bA y y0 y1 (!decide (i<2)) W);have hmid:=hide (fun W (h:RowAt w.heap.size PA W)=>mid_at h);have hrow:Hid (∀ W,Gr (w.alloc (.cells PA 25)) W->RowAt w.heap.size PA W):=hide (fun W g=>rowOf ((Below.block g _ (by rw [World.size_alloc];omega)).trans (World.alloc_heap_new w _)));have hg0:=hide ((Gr.refl w).alloc PA 25);have hi64:(Tryz.prog.info? 22).map (·.size)=some (PA.toList.take 64).length:=by rw [info64];simp [r.size]
 have hi64':=hide hi64;have hfr:Hid (freeC z i=(clrH z i&&!(attR z (homeK i) (!decide (i<2)))&&!(attR z ((homeK i+homeT i).tdiv 2) (!decide (i<2)))&&!(attR z (homeT i) (!decide (i<2))))):=hide rfl;generalize freeC z i=F at hfr ⊢;generalize (PA.toList.take 64)=L at hclr hatt hmid hi64';clear bs bA hi64;generalize homeK i=K at *;generalize homeT i=T at *;generalize homeR i=R at *;generalize sdb (decide (i<2))=sd at *;go_enter Tryz.func278,Tryz.ntmps278;go_upto_region 2 with (go_at_call 88;refine (qa hho _).mono ?_;rintro e w' ⟨rfl,hww⟩;have hww':=hww.symm;subst hww';clear hww);have hga:=hide (Gr.refl (w.alloc (.cells PA 25)));generalize w.alloc (.cells PA 25)=wa at hga hrow hg0 ⊢
 go_upto_region 3 with (first
  | (go_at_call 230;refine (qa hclr _).mono ?_;rintro e w3 ⟨rfl,hg3⟩)
  | (refine wpList_load_mid rfl 22 _ rfl w.heap.size 0 rfl L _ (qa hmid _ (qa hrow _ (qa hga))) Tryz.underlying22 rfl (qa hi64') ?_))
 have hgb:=hide (Gr.trans (qa hga) hg3);clear hga hg3 hclr
 go_upto_region 4 with (first
  | (go_at_call 91;refine (qa hatt _ k0 k1 _).mono ?_;rintro e w4 ⟨rfl,hg4⟩)
  | (refine wpList_load_mid rfl 22 _ rfl w.heap.size 0 rfl L _ (qa hmid _ (qa hrow _ (qa hgb))) Tryz.underlying22 rfl (qa hi64') ?_))
 have hgc:=hide (Gr.trans (qa hgb) hg4);clear hgb hg4;have kt':IntKind.i64.wrap ((K+T).tdiv 2)=(K+T).tdiv 2:=by rw [IntKind.wrap_i64];omega
 go_upto_region 5 with (first
  | (go_at_call 91;refine (qa hatt _ q0 q1 _).mono ?_;rintro e w5 ⟨rfl,hg5⟩)
  | (refine wpList_load_mid rfl 22 _ rfl w.heap.size 0 rfl L _ (qa hmid _ (qa hrow _ (qa hgc))) Tryz.underlying22 rfl (qa hi64') ?_))
 have hgd:=hide (Gr.trans (qa hgc) hg5);clear hgc hg5 kt' kt;generalize (K+T).tdiv 2=M at q0 q1 hfr ⊢
 go_upto_region 6 with (first
  | (go_at_call 91;refine (qa hatt _ t0 t1 _).mono ?_;rintro e w6 ⟨rfl,hg6⟩)
  | (refine wpList_load_mid rfl 22 _ rfl w.heap.size 0 rfl L _ (qa hmid _ (qa hrow _ (qa hgd))) Tryz.underlying22 rfl (qa hi64') ?_))
 have hge:=hide (Gr.trans (qa hg0) (Gr.trans (qa hgd) hg6));clear hgd hg6 hatt hmid hrow hg0 hi64' hho;generalize attR z K (!decide (i<2))=a1 at hfr ⊢;generalize attR z M (!decide (i<2))=a2 at hfr ⊢;generalize attR z T (!decide (i<2))=a3 at hfr ⊢;generalize clrH z i=c1 at hfr ⊢;cases c1<;>cases a1<;>cases a2<;>cases a3
 all_goals
  go_wp2_with fail;go_ret;exact ⟨by rw [qa hfr];rfl,qa hge⟩
end Go.Proofs.YtnfakamfmkhlbaaGreatDoor.C
