import Derived.Test.YtnfakamfmkhlbaaGreatDoorZf17
import Derived.Test.YtnfakamfmkhlbaaGreatDoorSf
import Derived.Sort.Walk0
import Derived.Test.YtnfakamfmkhlbaaGreatDoorZf6
import Derived.Deep.QuietTactic
import Derived.BigQuiet
import Derived.Test.YtnfakamfmkhlbaaGreatDoorZf16
import Derived.Deep.RegionHeld3
import Derived.Test.YtnfakamfmkhlbaaGreatDoorZf9
import Derived.Test.YtnfakamfmkhlbaaGreatDoorKz2
set_option maxRecDepth 100000
set_option maxHeartbeats 4000000
set_option linter.unusedSimpArgs false
namespace Go.Proofs.YtnfakamfmkhlbaaGreatDoor.C
open Go.ChangeShapes Go.WideShapes Go.ChangeAt Go.RowKit Go.Shelf Go.Sort
open Go.Proofs.YtnfakamfmkhlbaaGreatDoor.P
attribute [local go_sem] qb qd Oper.semAt_some
def txt (x:Mv):List UInt8:=mvS x.1 x.2.1 x.2.2
def okM (x:Mv):Prop:=x.1<64/\x.2.1<64
abbrev Mo:={x:Mv // okM x}
instance:Inhabited Mo:=⟨⟨(0,0,0),by decide,by decide⟩⟩
def encO (x:Mo):List Value:=(mvC x.1).toList
def cfO (x y:Mo):Int:=cmpB (str (txt x.1)) (str (txt y.1))
def ltM (x y:Mv):Bool:=decide (txt x<txt y)
theorem str_list (l:List UInt8):(str l).toList=l:=by rw [Lib.toList_data];rfl
theorem qqq (x y:Mo):ltOf cfO x y=ltM x.1 y.1:=by
 unfold ltOf cfO cmpB ltM;rw [str_list,str_list,bytesLess_eq];by_cases h:txt x.1<txt y.1
 ·simp [h]
 ·by_cases h2:txt x.1=txt y.1
  ·have h':=h;rw [h2] at h';rw [h2];simp [h']
  ·simp [h,h2]
theorem swoO:SWO (ltOf cfO) where
 irrefl x:=by rw [qqq];simp [ltM]
 trans x y z h1 h2:=by
  rw [qqq] at *;simp only [ltM,decide_eq_true_eq] at *;exact List.lt_trans h1 h2
 ntrans x y z h1 h2:=by
  rw [qqq] at *;simp only [ltM,decide_eq_false_iff_not] at *;exact fun h=>h2 (List.lt_of_le_of_lt (List.not_lt.1 h1) h)
theorem name_inj {a b:Nat} (ha:a<64) (hb:b<64) (h:nameS a=nameS b):a=b:=by
 unfold nameS at h;simp only [List.cons.injEq,and_true] at h;have h1:=congrArg UInt8.toNat h.1;have h2:=congrArg UInt8.toNat h.2;simp at h1 h2;omega
theorem txt_inj {x y:Mv} (hx:okM x) (hy:okM y) (h:txt x=txt y):x=y:=by
 obtain ⟨f,t,u⟩:=x;obtain ⟨f',t',u'⟩:=y;unfold txt mvS at h;simp only [List.append_assoc] at h;have h1:=List.append_inj h rfl;have h2:=List.append_inj h1.2 rfl;have e1:=name_inj hx.1 hy.1 h1.1;have e2:=name_inj hx.2 hy.2 h2.1
 have e3:u=u':=by
  have:=h2.2;by_cases hu:u=0<;>by_cases hv:u'=0<;>simp [hu,hv] at this<;>simp_all
 simp only at e1 e2;rw [e1,e2,e3]
theorem totO (x y:Mo) (h1:ltOf cfO x y=false) (h2:ltOf cfO y x=false):x=y:=by
 rw [qqq] at h1 h2;simp only [ltM,decide_eq_false_iff_not] at h1 h2;exact Subtype.ext (txt_inj x.2 y.2 (List.le_antisymm (List.not_lt.1 h2) (List.not_lt.1 h1)))
def sortM (xs:List Mv):List Mv:=xs.mergeSort fun x y=>!ltM y x
theorem xn (xs:List Mv):(sortM xs).Perm xs:=List.mergeSort_perm _ _
theorem jn (xs:List Mv):(sortM xs).length=xs.length:=List.length_mergeSort _
theorem flat_get (xs:List Mv):∀ j:Nat,(rowM xs)[j]?=(xs[j/3]?).bind fun x=>(mvC x).toList[j%3]?:=by
 induction xs with
 | nil=>intro j;simp [rowM]
 | cons x r ih =>
  intro j;have e:rowM (x :: r)=(mvC x).toList++rowM r:=by simp [rowM]
  have hl:(mvC x).toList.length=3:=rfl;rw [e];by_cases h:j<3
  ·rw [List.getElem?_append_left (by omega),Nat.div_eq_of_lt h,Nat.mod_eq_of_lt h];rfl
  ·obtain ⟨k,rfl⟩:∃ k,j=k+3:=⟨j-3,by omega⟩;rw [List.getElem?_append_right (by omega),hl,Nat.add_sub_cancel,ih k,Nat.add_div_right k (by decide),Nat.add_mod_right];rfl
theorem flat_row (d:Array Mo) (j:Nat) (h:j<d.size*3):(rowM (d.toList.map (·.1)))[j]?=some ((flatK encO 3 d)[j]!):=by
 have h1:j/3<d.size:=Nat.div_lt_of_lt_mul (by omega);have h2:j%3<3:=Nat.mod_lt _ (by decide);rw [flat_get,get_flatK encO 3 d j h,List.getElem?_map,Array.getElem?_toList,Array.getElem?_eq_getElem h1,getElem!_pos d (j/3) h1];show (encO d[j/3])[j%3]?=_;rw [getElem!_pos (encO d[j/3]) (j%3) (show j%3<3 from h2)];exact List.getElem?_eq_getElem _
theorem isAggMv:∀ w,(isAgg 94).run Tryz.prog w=.ok true w:=Tryz.isAgg94
theorem sizeMv:∀ w,(Go.sizeOf 94).run Tryz.prog w=.ok 3 w:=Tryz.sizeOf94
theorem eg1:∀ args w,(callFunc 241 args).run Tryz.prog w=.ok (.enter 241 args) w:=enters_of Tryz.func241 (by kernel_rfl) rfl
theorem cmpLaysO (B blk off n:Nat) (w:World) (hB:w.cell? ⟨B,0,none⟩=some keyV) (hne:B≠blk):CmpLays Tryz.prog 241 #[.pointer (some ⟨B,0,none⟩)] encO 3 cfO blk off n w:=by
 intro m os dk _ x y;have hb:B<w.heap.size:=World.block_lt_of_cell? _ _ hB;have hB':(sortWorldK encO 3 w blk off m dk os).cell? ⟨B,0,none⟩=some keyV:=(cell?_sortWorldK_other encO 3 w blk off m dk os ⟨B,0,none⟩ hne hb).trans hB;obtain ⟨⟨f,t,u⟩,hx⟩:=x;obtain ⟨⟨f',t',u'⟩,hy⟩:=y;refine (inOrder1_any f t u f' t' u' hx.1 hx.2 hy.1 hy.2 B _ hB').mono ?_;rintro e w' ⟨rfl,hg⟩;exact ⟨rfl,hg.grown⟩
theorem sort_row {w:World} {g n:Nat} {cur:Array Value} {d d':Array Mo} {e:TypeId} {os:Array Obj} (hg:w.heap[g]?=some (.cells cur e (0,0))) (hd:d'.size=d.size) (hc:d.size*3<=cur.size) :
  ∃ cur':Array Value,(sortWorldK encO 3 w g 0 n d' os).heap[g]?=some (.cells cur' e (0,0))/\cur'.size=cur.size/\cur'.toList.take (d.size*3)=rowM (d'.toList.map (·.1)):=by
 have hlt:g<w.heap.size:=(Array.getElem?_eq_some_iff.1 hg).1;refine ⟨putCells id 0 (flatK encO 3 d') cur,?_,by simp [putCells],?_⟩
 ·unfold sortWorldK putRowK putRow mapBlock grow;show ((w.heap.modify g _)++os)[g]?=_;rw [Array.getElem?_append_left (by simpa using hlt),Array.getElem?_modify,if_pos rfl,hg];rfl
 ·apply List.ext_getElem?;intro j;by_cases hj:j<d.size*3
  ·rw [List.getElem?_take_of_lt hj,flat_row d' j (by omega),Array.getElem?_toList];unfold putCells;rw [Array.getElem?_mapIdx,Array.getElem?_eq_getElem (by omega)];show some (if 0<=j/\j<0+(flatK encO 3 d').size then _ else _)=_;rw [if_pos (by simp;omega)];rfl
  ·rw [List.getElem?_eq_none (by rw [List.length_take];omega),List.getElem?_eq_none];rw [rowM_len];simp;omega
theorem sort_below {w:World} {g n base:Nat} {d':Array Mo} {os:Array Obj} (hb:base<=g) (hlt:g<w.heap.size):Below base w (sortWorldK encO 3 w g 0 n d' os):=by
 refine ⟨rfl,rfl,rfl,?_,fun k hk=>?_⟩
 ·exact size_sortWorldK_c _ _ _ _ _ _ _ _
 ·unfold sortWorldK putRowK putRow mapBlock grow;show ((w.heap.modify g _)++os)[k]?=_;rw [Array.getElem?_append_left (by simp;omega),Array.getElem?_modify,if_neg (by omega)]
theorem sortFunc_any {w:World} {base B:Nat} {v:Value} {xs:List Mv} (hx:∀ x∈xs,okM x) (hl:xs.length<=1000000) (ho:w.ownsRow base 94 3 v xs.length (rowM xs)) (hB:w.cell? ⟨B,0,none⟩=some keyV) (hBb:B<base) :
  Calls Tryz.prog 288 #[v,.func (.func 241) #[] #[.pointer (some ⟨B,0,none⟩)]] w fun e w'=>e=.returned (.tuple #[])/\w'.ownsRow base 94 3 v xs.length (rowM (sortM xs))/\Below base w w':=by
 rcases ho.2 with ⟨rfl,h0⟩|⟨g,cap,cur,rfl,hb,hg,hn,hm,hcs,htk⟩
 ·have e0:xs=[]:=List.eq_nil_of_length_eq_zero h0;subst e0;refine Calls.mono (AnyF.slices_SortFunc_none { Tryz.sortL with } none 0 _ w) ?_;rintro e w' ⟨rfl,rfl⟩;exact ⟨rfl,by rw [show sortM []=[] by simp [sortM]];exact ho,Below.refl _ _⟩
 ·have hlt:g<w.heap.size:=(Array.getElem?_eq_some_iff.1 hg).1;obtain ⟨d,hd⟩:∃ d:Array Mo,d.toList.map (·.1)=xs:=⟨(xs.attach.map fun x=>(⟨x.1,hx x.1 x.2⟩:Mo)).toArray,by simp only [List.map_map,Function.comp_def];exact List.attach_map_subtype_val xs⟩;have hds:d.size=xs.length:=by rw [<-hd];simp
  have hH:HoldsK encO 3 w g 0 d:=by
   intro j hj;have hj':j<d.size*3:=by simpa using hj
   have hj2:j<xs.length*3:=by omega
   have hjc:j<cur.size:=by have:=Nat.mul_le_mul_right 3 hn;omega
   have hcell:cur[j]?=some ((flatK encO 3 d)[j]!):=by
    rw [<-flat_row d j hj',hd,<-htk,List.getElem?_take_of_lt hj2,Array.getElem?_toList]
   constructor
   ·simp only [World.cell?,Nat.zero_add];rw [hg];exact hcell
   ·simp only [World.frozen?,Nat.zero_add];rw [hg];simp
  have hS:=AnyQ.slices_SortFunc_total Tryz.sortL 3 isAggMv sizeMv encO (fun _=>rfl) (fun x v hv=>by
   simp [encO,mvC] at hv;rcases hv with rfl|rfl|rfl<;>rfl) cfO swoO 241 #[.pointer (some ⟨B,0,none⟩)] g 0 cap d w eg1 (cmpLaysO B g 0 d.size w hB (by omega)) hH hlt (by omega) totO
  rw [hds] at hS;refine Calls.mono hS ?_;rintro e w' ⟨rfl,n,os,rfl⟩;have hms:((d.toList.mergeSort fun x y=>!(ltOf cfO) y x).toArray).size=d.size:=by simp [List.length_mergeSort]
  obtain ⟨cur',k1,k2,k3⟩:=sort_row (n:=n) (os:=os) (d:=d) (d':=(d.toList.mergeSort fun x y=>!(ltOf cfO) y x).toArray) hg hms (by rw [hds,hcs];exact Nat.mul_le_mul_right 3 hn)
  have hmap:(((d.toList.mergeSort fun x y=>!(ltOf cfO) y x).toArray).toList.map (·.1))=sortM xs:=by
   rw [<-hd];exact List.map_mergeSort (fun a _ b _=>by rw [qqq])
  rw [hmap] at k3;refine ⟨rfl,⟨by rw [rowM_len,jn],.inr ⟨g,cap,cur',rfl,hb,k1,hn,hm,by omega,by rw [<-hds];exact k3⟩⟩,sort_below hb hlt⟩
end Go.Proofs.YtnfakamfmkhlbaaGreatDoor.C
namespace Go.Proofs.YtnfakamfmkhlbaaGreatDoor.C
open Go.ChangeShapes Go.WideShapes Go.ChangeAt Go.RowKit Go.Shelf
open Go.Proofs.YtnfakamfmkhlbaaGreatDoor.P
attribute [local go_sem] qb qd Oper.semAt_some
theorem It.gr {α:Type} {P:Program} {g:Nat} {lb:Array Value} {encs:α->Array Value} {T:Obj->Prop} {C:Nat->Prop} {xs:List α} {w w':World} (h:It P g lb encs T C xs w) (k:Gr w w'):It P g lb encs T C xs w' :=
 fun l B J Jx W f=>h l B J Jx W ((Fr.of_gr k).trans f)
theorem zl {w:World} {base base' n s:Nat} {e:TypeId} {v:Value} {xs:List Value} (h:w.ownsRow base e s v n xs) (hb:base'<=base):w.ownsRow base' e s v n xs:=by
 refine ⟨h.1,?_⟩;rcases h.2 with h2|⟨g,cap,cur,hv,h3,rest⟩
 ·exact .inl h2
 ·exact .inr ⟨g,cap,cur,hv,Nat.le_trans hb h3,rest⟩
theorem owns_gr {w w':World} {base n s:Nat} {e:TypeId} {v:Value} {xs:List Value} (h:w.ownsRow base e s v n xs) (g:Gr w w'):w'.ownsRow base e s v n xs:=by
 refine ⟨h.1,?_⟩;rcases h.2 with h2|⟨k,cap,cur,hv,h3,hk,rest⟩
 ·exact .inl h2
 ·exact .inr ⟨k,cap,cur,hv,h3,(Below.block g _ (Array.getElem?_eq_some_iff.1 hk).1).trans hk,rest⟩
theorem qjt {g:Nat} {lb:Array Value} {C:Nat->Prop} {xs:List Mv} {w:World} (hit:It Tryz.prog g lb encM TM C xs w) (heg:∀ args w,(callFunc g args).run Tryz.prog w=.ok (.enter g args) w) (hCb:∀ k,C k->k<w.heap.size) (hx:∀ x∈xs,okM x) (hlen:xs.length<=1000000) (B:Nat) (hB:w.cell? ⟨B,0,none⟩=some keyV) :
  Calls Tryz.prog 240 #[.func (.func g) #[] lb,.func (.func 241) #[] #[.pointer (some ⟨B,0,none⟩)]] w fun e w'=>∃ v,e=.returned v/\w'.ownsRow w.heap.size 94 3 v xs.length (rowM (sortM xs))/\Gr w w':=by
 have hc:=hide (collect_any hit heg hCb hlen);have hb:B<w.heap.size:=World.block_lt_of_cell? _ _ hB;have hs:Hid (∀ v W,W.ownsRow w.heap.size 94 3 v xs.length (rowM xs)->Gr w W->Calls Tryz.prog 288 #[v,.func (.func 241) #[] #[.pointer (some ⟨B,0,none⟩)]] W fun e w'=>e=.returned (.tuple #[])/\w'.ownsRow w.heap.size 94 3 v xs.length (rowM (sortM xs))/\Below w.heap.size W w'):=hide (fun v W ho hg=>sortFunc_any hx hlen ho ((Below.cell hg hb).trans hB) hb);clear hit heg hCb hx hlen hB;go_enter Tryz.func240,Tryz.ntmps240;go_wp2_with (first|(go_at_call 287;refine (qa hc).mono ?_;rintro e w' ⟨v,rfl,hv,hg⟩)|(go_at_call 288;refine (qa hs _ _ hv hg).mono ?_;rintro e w2 ⟨rfl,hv2,hg2⟩));go_ret;exact ⟨v,rfl,hv2,Below.trans hg hg2⟩
theorem inOrder_any {g:Nat} {lb:Array Value} {C:Nat->Prop} {xs:List Mv} {w:World} (hit:It Tryz.prog g lb encM TM C xs w) (heg:∀ args w,(callFunc g args).run Tryz.prog w=.ok (.enter g args) w) (hCb:∀ k,C k->k<w.heap.size) (hx:∀ x∈xs,okM x) (hlen:xs.length<=1000000) :
  Calls Tryz.prog 167 #[.func (.func g) #[] lb,.func (.func 100) #[] #[]] w fun e w'=>∃ v,e=.returned v/\w'.ownsRow w.heap.size 94 3 v xs.length (rowM (sortM xs))/\Gr w w':=by
 have hmf:∀ (fn:Fn) (first cap:Array Value) (w:World),(Instr.makeFunc fn first cap).run Tryz.prog w=.ok (.func fn first cap) w:=fun _ _ _ _=>rfl
 have hg1:∀ t,Gr w (w.alloc (.cells #[.func (.func 100) #[] #[]] t)):=fun t=>(Gr.refl w).alloc _ _
 have hs:Hid (∀ t,Calls Tryz.prog 240 #[.func (.func g) #[] lb,.func (.func 241) #[] #[.pointer (some ⟨w.heap.size,0,none⟩)]] (w.alloc (.cells #[.func (.func 100) #[] #[]] t)) fun e w'=>∃ v,e=.returned v/\w'.ownsRow w.heap.size 94 3 v xs.length (rowM (sortM xs))/\Gr w w'):=hide (fun t=>by
  refine (qjt (hit.gr (hg1 t)) heg (fun k hk=>by have:=hCb k hk;rw [World.size_alloc];omega) hx hlen w.heap.size (by rw [World.cell?_alloc_at _ _ _ _ rfl];rfl)).mono ?_;rintro e w' ⟨v,rfl,h1,h2⟩;exact ⟨v,rfl,zl h1 (by rw [World.size_alloc];omega),Gr.trans (hg1 t) h2⟩)
 clear hit heg hCb hx hlen;go_enter Tryz.func167,Tryz.ntmps167;go_wp2_with (go_at_call 240;refine (qa hs _).mono ?_;rintro e w' ⟨v,rfl,hv,hg⟩);go_ret;exact ⟨v,rfl,hv,hg⟩
structure MkIt (gm gi:Nat) (PA:Array Value) (xs:List Mv) (w:World):Prop where
 em:∀ args w,(callFunc gm args).run Tryz.prog w=.ok (.enter gm args) w
 ei:∀ args w,(callFunc gi args).run Tryz.prog w=.ok (.enter gi args) w
 go:∀ T:Obj->Prop,(∀ o,T o->∃ c fr,o=.cells c 94 fr)->∀ W,Gr w W->Calls Tryz.prog gm #[.agg PA] W fun e w'=>∃ lb C,e=.returned (.func (.func gi) #[] lb)/\Gr W w'/\(∀ k,C k->k<w'.heap.size)/\It Tryz.prog gi lb encM T C xs w'
 ok:∀ x∈xs,okM x
 len:xs.length<=1000000
theorem MkIt.gr {gm gi:Nat} {PA:Array Value} {xs:List Mv} {w w':World} (h:MkIt gm gi PA xs w) (g:Gr w w'):MkIt gm gi PA xs w' :=
 ⟨h.em,h.ei,fun T hT W hW=>h.go T hT W (Gr.trans g hW),h.ok,h.len⟩
structure Ig (w:World) (gm:Nat) (PA:Array Value) (W:World):Prop where
 q:W.cell? ⟨w.heap.size,1,none⟩=some (.func (.func gm) #[] #[])
 pa:W.heap[w.heap.size+1]?=some (.cells PA 25)
 gr:Gr w W
theorem Ig.next {w W W':World} {gm:Nat} {PA:Array Value} (h:Ig w gm PA W) (g:Gr W W'):Ig w gm PA W' :=
 ⟨(Below.cell g (World.block_lt_of_cell? W _ h.q)).trans h.q,(Below.block g _ (Array.getElem?_eq_some_iff.1 h.pa).1).trans h.pa,Gr.trans h.gr g⟩
def wayA (ga gm:Nat):Array Value:=#[.func (.func ga) #[] #[],.func (.func gm) #[] #[]]
theorem qqv {ga gm gi:Nat} {PA:Array Value} {xs:List Mv} {w:World} (hsz:PA.size=72) (m:MkIt gm gi PA xs w) :
  Calls Tryz.prog 99 #[.agg (wayA ga gm),.agg PA] w fun e w'=>∃ v,e=.returned v/\w'.ownsRow w.heap.size 94 3 v xs.length (rowM (sortM xs))/\Gr w w':=by
 have hi72:(Tryz.prog.info? 25).map (·.size)=some PA.toList.length:=by rw [Array.length_toList,hsz];exact infoP72
 have hm:=hide m;have em:=m.em;clear m;simp only [wayA] at ⊢
 have hA0:Ig w gm PA ((w.alloc (.cells (wayA ga gm) 84)).alloc (.cells PA 25)):=by
  obtain ⟨e1,e2⟩:=heapTwo w (.cells (wayA ga gm) 84) (.cells PA 25);exact ⟨by rw [cell_of_row _ _ _ _ _ _ e1];rfl,e2,((Gr.refl w).alloc _ _).alloc _ _⟩
 go_enter Tryz.func99,Tryz.ntmps99;go_upto_region 1 with fail;show Code.wp _ _ _ _ ((w.alloc (.cells (wayA ga gm) 84)).alloc (.cells PA 25));generalize ((w.alloc (.cells (wayA ga gm) 84)).alloc (.cells PA 25))=wA at hA0 ⊢;have c1:=hA0.q;have kpa:=hA0.pa;have hgA:=hide hA0.gr;have hgo:Hid (Calls Tryz.prog gm #[.agg PA] wA fun e w'=>∃ lb C,e=.returned (.func (.func gi) #[] lb)/\Gr wA w'/\(∀ k,C k->k<w'.heap.size)/\It Tryz.prog gi lb encM TM C xs w'):=hide ((qa hm).go TM (fun _ h=>h) wA hA0.gr);have hio:Hid (∀ lb C W,(∀ k,C k->k<W.heap.size)->It Tryz.prog gi lb encM TM C xs W->Calls Tryz.prog 167 #[.func (.func gi) #[] lb,.func (.func 100) #[] #[]] W fun e w'=>∃ v,e=.returned v/\w'.ownsRow W.heap.size 94 3 v xs.length (rowM (sortM xs))/\Gr W w'):=hide (fun lb C W h1 h2=>inOrder_any h2 (qa hm).ei h1 (qa hm).ok (qa hm).len);clear hA0 hm
 go_wp2_with (first
  | (refine wpList_load_row rfl 25 _ rfl (w.heap.size+1) rfl 25 PA (0,0) _ kpa Tryz.underlying25 rfl (by rw [hsz];exact infoP) ?_)
  | (go_at_fn gm;refine (qa hgo).mono ?_;rintro e w' ⟨lb,C,rfl,hga,hCb,hit⟩)
  | (go_at_call 167;refine (qa hio _ _ _ hCb hit).mono ?_;rintro e w2 ⟨v,rfl,hv,hg2⟩))
 go_ret;exact ⟨v,rfl,zl hv (Nat.le_trans (Below.size (qa hgA)) (Below.size hga)),Gr.trans (qa hgA) (Gr.trans hga hg2)⟩
def txts (xs:List Mv):List ByteArray:=xs.map fun x=>str (txt x)
theorem row_form {w:World} {base n:Nat} {v:Value} {ys:List Mv} (h:w.ownsRow base 94 3 v n (rowM ys)):∃ p cap,v=.slice p n cap/\n<=cap/\∀ i,i<n->∀ (hy:i<ys.length),∃ g,p=some ⟨g,0,none⟩/\w.cell? ⟨g,i*3,none⟩=some (.int .i64 (ys[i].1:Int))/\w.cell? ⟨g,i*3+1,none⟩=some (.int .i64 (ys[i].2.1:Int))/\w.cell? ⟨g,i*3+2,none⟩=some (.int .u8 (ys[i].2.2.toNat:Int)):=by
 rcases h.2 with ⟨rfl,rfl⟩|⟨g,cap,cur,rfl,hb,hg,hn,hm,hcs,htk⟩
 ·exact ⟨none,0,rfl,Nat.le_refl _,fun i hi=>absurd hi (Nat.not_lt_zero i)⟩
 ·refine ⟨_,_,rfl,hn,fun i hi hy=>⟨g,rfl,?_⟩⟩
  have hj:∀ c,c<3->w.cell? ⟨g,i*3+c,none⟩=(mvC ys[i]).toList[c]?:=fun c hc=>by
   have h1:i*3+c<n*3:=by omega
   simp only [World.cell?];rw [hg];show cur[i*3+c]?=_;rw [<-Array.getElem?_toList,<-List.getElem?_take_of_lt h1,htk,flat_get,show (i*3+c)/3=i by omega,show (i*3+c)%3=c by omega,List.getElem?_eq_getElem hy];rfl
  exact ⟨hj 0 (by decide),hj 1 (by decide),hj 2 (by decide)⟩
theorem qqu {ga gm gi:Nat} {PA:Array Value} {xs:List Mv} {w:World} (hsz:PA.size=72) (m:MkIt gm gi PA xs w) :
  Calls Tryz.prog 45 #[.agg (wayA ga gm),.agg PA] w fun e w'=>∃ v,e=.returned v/\Strs w.heap.size v (txts (sortM xs)) w'/\Gr w w':=by
 obtain ⟨i0,hi,hz0,hz1,hz2⟩:=info_parts infoS;have hi':=hide hi;clear hi;have hm:=hide m;clear m
 have hA0:Ig w gm PA ((w.alloc (.cells (wayA ga gm) 84)).alloc (.cells PA 25)):=by
  obtain ⟨e1,e2⟩:=heapTwo w (.cells (wayA ga gm) 84) (.cells PA 25);exact ⟨by rw [cell_of_row _ _ _ _ _ _ e1];rfl,e2,((Gr.refl w).alloc _ _).alloc _ _⟩
 have hc0:((w.alloc (.cells (wayA ga gm) 84)).alloc (.cells PA 25)).cell? ⟨w.heap.size,0,none⟩=some (.func (.func ga) #[] #[]):=by
  obtain ⟨e1,e2⟩:=heapTwo w (.cells (wayA ga gm) 84) (.cells PA 25);rw [cell_of_row _ _ _ _ _ _ e1];rfl
 simp only [wayA] at ⊢;go_enter Tryz.func45,Tryz.ntmps45;go_upto_region 1 with fail;show Code.wp _ _ _ _ ((w.alloc (.cells (wayA ga gm) 84)).alloc (.cells PA 25));generalize ((w.alloc (.cells (wayA ga gm) 84)).alloc (.cells PA 25))=wA at hA0 hc0 ⊢;have c1:=hA0.q;have kpa:=hA0.pa;have hgA:=hide hA0.gr;have hgm:Hid (Calls Tryz.prog 99 #[.agg #[.func (.func ga) #[] #[],.func (.func gm) #[] #[]],.agg PA] wA fun e w'=>∃ v,e=.returned v/\w'.ownsRow wA.heap.size 94 3 v xs.length (rowM (sortM xs))/\Gr wA w'):=hide (qqv hsz ((qa hm).gr hA0.gr));have hok:∀ x∈sortM xs,okM x:=fun x hx=>(qa hm).ok x ((xn xs).mem_iff.1 hx)
 have hys:(sortM xs).length=xs.length:=jn xs;have hlen:=(qa hm).len;obtain ⟨ys,hYS⟩:∃ ys,Hid (ys=sortM xs):=⟨_,hide rfl⟩;rw [<-qa hYS] at hgm hok hys;clear hA0 hm
 go_wp2_with (first
  | (refine wpList_load_row rfl 25 _ rfl (w.heap.size+1) rfl 25 PA (0,0) _ kpa Tryz.underlying25 rfl (by rw [hsz];exact infoP) ?_)
  | (go_at_call 99;refine (qa hgm).mono ?_;rintro e w1 ⟨v,rfl,hv,hg1⟩;obtain ⟨p,cap,rfl,hcap,hel⟩:=row_form hv))
 have hgw:=hide (Gr.trans (qa hgA) hg1);have hel':=hide hel;clear hgm hv hg1 hgA kpa c1 hc0 hel;go_loopg [5,7,12] xs.length (fun g v _ i wr=>∃ k:Nat,k+g=xs.length/\i=.int .i64 (k:Int)/\Strs w1.heap.size v (txts (ys.take k)) wr/\Gr w1 wr)
 case atStart=>exact ⟨0,by omega,rfl,⟨rfl,.inl ⟨rfl,rfl⟩⟩,Gr.refl _⟩
 case round =>
  obtain ⟨k,k1,rfl,hst,hgr⟩:=hrel;by_cases hlt:k<xs.length
  ·obtain ⟨g,rfl,x0,x1,x2⟩:=qa hel' k hlt (by omega);have hblt:g<w1.heap.size:=World.block_lt_of_cell? _ _ x0;have x0:=(Below.cell hgr hblt).trans x0;have x1:=(Below.cell hgr hblt).trans x1;have x2:=(Below.cell hgr hblt).trans x2;have hyk:okM ys[k]:=hok _ (List.getElem_mem _);have htk:Hid (ys.take (k+1)=ys.take k++[ys[k]]):=hide (List.take_succ_eq_append_getElem (by omega));generalize ys[k]=y at x0 x1 x2 hyk htk;obtain ⟨f,t,u⟩:=y;have hst':=hide hst;have hgr':=hide hgr;have hwz:=Below.size hgr;obtain ⟨S,hS⟩:∃ S,Hid (S=str (txt (f,t,u))):=⟨_,hide rfl⟩;have hN:Hid (∀ W,Calls Tryz.prog 100 #[.agg #[.int .i64 (f:Int),.int .i64 (t:Int),.int .u8 (u.toNat:Int)]] W fun e w'=>e=.returned (.string S)/\Gr W w'):=hide (fun W=>by rw [qa hS];exact moveP_any f t hyk.1 hyk.2 u W);have hga:Hid (Gr wr (wr.alloc (.cells #[.int .i64 (f:Int),.int .i64 (t:Int),.int .u8 (u.toNat:Int)] 94))):=hide ((Gr.refl _).alloc _ _);clear hst hgr hok hyk;go_upto_region 5 with fail;have hx:=World.alloc_heap_new wr (.cells #[.int .i64 (f:Int),.int .i64 (t:Int),.int .u8 (u.toNat:Int)] 94);generalize (wr.alloc (.cells #[.int .i64 (f:Int),.int .i64 (t:Int),.int .u8 (u.toNat:Int)] 94))=wb at hga hx ⊢;obtain ⟨y0,y1,y2⟩:=qj hx;clear hx x0 x1 x2
   go_upto_region 6 with (first
    | (go_at_call 100;refine (qa hN _).mono ?_;rintro e w2 ⟨rfl,hg2⟩;have hg3:=Gr.trans (qa hgr') (Gr.trans (qa hga) hg2);have hs3:=Below.size hg3;have hst2:=hide (owns_gr (qa hst') (Gr.trans (qa hga) hg2)))
    | (at_builtin;refine wpList_append_own _ rfl (.tmp 16) (.tmp 19) 37 rfl w1.heap.size 9 i0 (.string ⟨#[]⟩) 1 16 Tryz.underlying37 (qa hi') hz0 hz1 hz2 rfl (by decide) u5 (txts (ys.take k)).length ((txts (ys.take k)).map Value.string) rfl ((qa hst2).alloc _) ⟨w2.heap.size,0,none⟩ 1 1 [.string S] rfl rfl (cell_one_new _ _ _) (by simp [Value.oneCell']) (by unfold maxLen;rw [txts,List.length_map,List.length_take];omega) (by rw [txts,List.length_map,List.length_take];omega) (by simp;omega) ?_;intro v' w3 hown' hgrow hnil))
   go_wp2_with fail;go_roundg (gk-1)
   case measure=>omega
   case rel =>
    refine ⟨k+1,by omega,by go_num,?_,?_⟩
    ·unfold Strs;rw [qa htk,txts,List.map_append,List.map_append,List.length_append];rw [qa hS] at hown';exact hown'
    ·exact (hg3.alloc _ _).grown hgrow (by simp;omega) (strs_block (qa hst2))
  ·have ek:k=xs.length:=by omega
   rw [ek,<-hys,List.take_length,qa hYS] at hst;have hst':=hide hst;have hgr':=hide hgr;clear hst hgr hok hel';subst ek;go_wp2_with fail;go_ret;exact ⟨_,rfl,zl (qa hst') (Below.size (qa hgw)),Gr.trans (qa hgw) (qa hgr')⟩
theorem jc {α β:Type} {l:List α} {f:α->List β} {n k:Nat} (hl:l.length<=n) (h:∀ x∈l,(f x).length<=k):(l.flatMap f).length<=n*k:=by
 have h1:∀ l:List α,(∀ x∈l,(f x).length<=k)->(l.flatMap f).length<=l.length*k:=by
  intro l;induction l with
  | nil=>intro _;simp
  | cons a r ih =>
   intro h;rw [List.flatMap_cons,List.length_append,List.length_cons,Nat.add_mul,Nat.one_mul];have:=ih (fun x hx=>h x (List.mem_cons_of_mem _ hx));have:=h a (List.mem_cons_self ..);omega
 exact Nat.le_trans (h1 l h) (Nat.mul_le_mul_right k hl)
theorem turns_len (p:Bool) (f t:Nat):(turnsB p f t).length<=4:=by unfold turnsB;split<;>simp
theorem turns_ok {p:Bool} {f t:Nat} {x:Mv} (hf:f<64) (ht:t<64) (h:x∈turnsB p f t):okM x:=by
 unfold turnsB at h;split at h
 ·simp only [List.mem_cons,List.not_mem_nil,or_false] at h;rcases h with rfl|rfl|rfl|rfl<;>exact ⟨hf,ht⟩
 ·rw [List.mem_singleton.1 h];exact ⟨hf,ht⟩
theorem zb (z:Nat->UInt8) (wh:Bool) (fc:Nat->Bool) (b:Int):∀ x∈movS z wh fc b,okM x:=by
 intro x hx;unfold movS uptoS placeS fromS toS at hx;simp only [List.mem_flatMap] at hx;obtain ⟨k,_,f,hf,t,ht,h⟩:=hx;split at h
 ·exact turns_ok (sqs_lt hf) (sqs_lt ht) h
 ·cases h
theorem zw (z:Nat->UInt8) (wh:Bool) (fc:Nat->Bool) (b:Int):(movS z wh fc b).length<=1000000:=by
 have h:(movS z wh fc b).length<=6*(64*(64*4)):=by
  unfold movS uptoS;refine jc (by simp) fun k _=>?_
  refine jc (sqs_len _) fun f _=>?_
  refine jc (sqs_len _) fun t _=>?_
  unfold toS;split
  ·exact turns_len _ _ _
  ·simp
 omega
theorem mkS {z:Nat->UInt8} {wh:Bool} {fc:Nat->Bool} {b h g:Int} {PA:Array Value} (r:Row z wh fc b h g PA) (hok:layOk z=true) (hb0:-1<=b) (hb1:b<=63) (w:World) (hT:TabIn w) (hC:CasTab w) :
  MkIt 105 171 PA (movS z wh fc b) w where
 em:=enters_of Tryz.func105 (by kernel_rfl) rfl
 ei:=enters_of Tryz.func171 (by kernel_rfl) rfl
 ok:=zb z wh fc b
 len:=zw z wh fc b
 go:=by
  intro T hTm W hg;refine (zg PA W).mono ?_;rintro e w' ⟨rfl,hp,hg2⟩;have hgw:=Gr.trans hg hg2;refine ⟨_,_,rfl,hg2,?_,qjg r hok hb0 hb1 W.heap.size T hTm w' hp (hT.gr hgw) (hC.gr hgw)⟩;rintro k (rfl|rfl|rfl)
  ·exact (Array.getElem?_eq_some_iff.1 hp).1
  ·exact (hT.gr hgw).2
  ·exact (hC.gr hgw).2
end Go.Proofs.YtnfakamfmkhlbaaGreatDoor.C
namespace Go.Proofs.YtnfakamfmkhlbaaGreatDoor.C
open Go.ChangeShapes Go.WideShapes Go.ChangeAt Go.RowKit
attribute [local go_sem] qb qd
def casB (wh:Bool) (fc:Nat->Bool) (f t:Nat) (u:UInt8) (i:Nat):Bool:=fc i&&(sdb (decide (i<2))==sdb wh)&&((f:Int)==homeK i)&&((t:Int)==homeT i)&&((u.toNat:Int)==0)
def casF2 (p:Nat->Bool):Nat->Nat->Int
 | 0,_=>-1
 | n+1,i=>if p i then (i:Int) else casF2 p n (i+1)
def casR (wh:Bool) (fc:Nat->Bool) (f t:Nat) (u:UInt8):Int:=casF2 (casB wh fc f t u) 4 0
theorem blk_old (W:World) (o:Obj) (j:Nat) (h:j<W.heap.size):(W.alloc o).heap[j]?=W.heap[j]?:=Below.block ((Below.refl W.heap.size W).alloc (Nat.le_refl _) o) j h
theorem row_at {w w':World} {PA o:Array Value} {ty ty2:TypeId} (g:Gr ((w.alloc (.cells PA ty)).alloc (.cells o ty2)) w'):w'.heap[w.heap.size]?=some (.cells PA ty (0,0))/\w'.heap[w.heap.size+1]?=some (.cells o ty2 (0,0)):=by
 constructor
 ·refine (Below.block g _ (by rw [World.size_alloc,World.size_alloc];omega)).trans ?_;rw [blk_old _ _ _ (by rw [World.size_alloc];omega)];exact World.alloc_heap_new w _
 ·refine (Below.block g _ (by rw [World.size_alloc,World.size_alloc];omega)).trans ?_;have:=World.alloc_heap_new (w.alloc (.cells PA ty)) (.cells o ty2)
  rwa [World.size_alloc] at this
theorem qf {W:World} {b:Nat} {A:Array Value} {ty:TypeId} (h:W.heap[b]?=some (.cells A ty (0,0))) (i:Nat):W.cell? ⟨b,i,none⟩=A[i]?:=by
 simp only [World.cell?];rw [h];rfl
theorem rowOf {W:World} {b:Nat} {A:Array Value} {ty:TypeId} (h:W.heap[b]?=some (.cells A ty (0,0))):RowAt b A W :=
 ⟨(Array.getElem?_eq_some_iff.1 h).1,fun j v hv=>by rw [Nat.zero_add,qf h,<-Array.getElem?_toList];exact hv⟩
def wayP (i:Nat) (j:Nat):Int:=if i%2=0 then homeK i+j else homeK i-j
def wayL (i:Nat):Nat:=if i%2=0 then 3 else 4
def clrH (z:Nat->UInt8) (i:Nat):Bool:=P.freeI (fun n=>((z n).toNat:Int)) (wayP i) (wayL i)
def freeC (z:Nat->UInt8) (i:Nat):Bool:=clrH z i&&!(attR z (homeK i) (!decide (i<2)))&&!(attR z ((homeK i+homeT i).tdiv 2) (!decide (i<2)))&&!(attR z (homeT i) (!decide (i<2)))
end Go.Proofs.YtnfakamfmkhlbaaGreatDoor.C
namespace Go.Proofs.YtnfakamfmkhlbaaGreatDoor.C
open Go.ChangeShapes Go.WideShapes Go.ChangeAt Go.RowKit
open Go.Proofs.YtnfakamfmkhlbaaGreatDoor.P
attribute [local go_sem] qb qd
structure Tb (w:World) (b:Nat) (A:Array Value) (cur:World):Prop where
 gr:Gr w cur
 p:cur.heap[b]?=some (.cells A 25)
 lt:b<cur.heap.size
theorem Tb.next {w cur cur':World} {b:Nat} {A:Array Value} (h:Tb w b A cur) (g:Gr cur cur'):Tb w b A cur' :=
 ⟨Gr.trans h.gr g,by rw [Below.block g _ h.lt];exact h.p,Nat.lt_of_lt_of_le h.lt (Below.size g)⟩
end Go.Proofs.YtnfakamfmkhlbaaGreatDoor.C
namespace Go.Proofs.YtnfakamfmkhlbaaGreatDoor.C
open Go.ChangeShapes Go.WideShapes Go.ChangeAt Go.RowKit Go.Shelf
open Go.Proofs.YtnfakamfmkhlbaaGreatDoor.P
attribute [local go_sem] qb qd
abbrev Stp:=Int × Int
def small (s:Stp):Prop:=-2<=s.1/\s.1<=2 ∧ -2<=s.2/\s.2<=2
def szI (s:Stp):Int:=s.1*s.1+s.2*s.2
theorem sq_wrap {a:Int} (h1:-2<=a) (h2:a<=2):wrap64 (a*a)=a*a/\0<=a*a/\a*a<=4:=by
 have:a=-2\/a=-1\/a=0\/a=1\/a=2:=by omega
 rcases this with rfl|rfl|rfl|rfl|rfl<;>(unfold wrap64;omega)
theorem ji {a b:Bool} (h:a=b):Ending.returned (.bool a)=.returned (.bool b):=by rw [h]
theorem ret_ib {k:IntKind} {a b:Int} {x y:Bool} (h:a=b) (g:x=y):Ending.returned (.tuple #[.int k a,.bool x])=.returned (.tuple #[.int k b,.bool y]):=by rw [h,g]
theorem stepSize_any (a b:Int) (h:small (a,b)) (w:World):Calls Tryz.prog 234 #[.agg #[.int .i64 a,.int .i64 b]] w fun e w'=>e=.returned (.int .i64 (szI (a,b)))/\Gr w w':=by
 obtain ⟨h1,h2,h3,h4⟩:=h;simp only at h1 h2 h3 h4;have e1:=sq_wrap h1 h2;have e2:=sq_wrap h3 h4;go_enter Tryz.func234,Tryz.ntmps234;go_wp2;go_ret;refine ⟨qx6 ?_,(Gr.refl w).alloc _ _⟩;rfl
theorem stepBack_any (a b:Int) (h:small (a,b)) (w:World):Calls Tryz.prog 161 #[.agg #[.int .i64 a,.int .i64 b]] w fun e w'=>e=.returned (.agg #[.int .i64 (-a),.int .i64 (-b)])/\Gr w w':=by
 obtain ⟨h1,h2,h3,h4⟩:=h;simp only at h1 h2 h3 h4;have e1:wrap64 (-a)=-a:=by unfold wrap64;omega
 have e2:wrap64 (-b)=-b:=by unfold wrap64;omega
 go_enter Tryz.func161,Tryz.ntmps161;go_wp2;exact bodyPost_ret (v:=.agg #[.int .i64 (-a),.int .i64 (-b)]) (results_cell_row Tryz.results161 _ _ (w.heap.size+1) 240 #[.int .i64 (-a),.int .i64 (-b)] (0,0) _ rfl (by have:=World.alloc_heap_new (w.alloc (.cells #[.int .i64 a,.int .i64 b] 240)) (.cells #[.int .i64 (-a),.int .i64 (-b)] 240);rw [World.size_alloc] at this;exact this) Tryz.underlying240 rfl (by kernel_rfl)) rfl ⟨rfl,((Gr.refl w).alloc _ _).alloc _ _⟩
def manB (c:UInt8) (wh:Bool):Bool:=if wh then decide (65<=c.toNat)&&decide (c.toNat<=90) else decide (97<=c.toNat)&&decide (c.toNat<=122)
theorem qqt (c:UInt8) (wh:Bool) (w:World):Calls Tryz.prog 159 #[.int .u8 (c.toNat:Int),.bool wh] w fun e w'=>e=.returned (.bool (manB c wh))/\w'=w:=by
 cases wh
 all_goals
  go_enter Tryz.func159,Tryz.ntmps159;go_wp2
  all_goals
   go_ret;refine ⟨ji ?_,rfl⟩;rw [Bool.eq_iff_iff];simp only [manB,Bool.and_eq_true,decide_eq_true_eq,Bool.false_eq_true,false_iff,if_true,if_false];omega
def nxt (x:Nat) (s:Stp):Int:=8*((x:Int)/8+s.2)+((x:Int)%8+s.1)
def onB (x:Nat) (s:Stp):Bool:=decide (0<=(x:Int)%8+s.1)&&decide ((x:Int)%8+s.1<8)&&decide (0<=(x:Int)/8+s.2)&&decide ((x:Int)/8+s.2<8)
theorem next_any (x:Nat) (hx:x<64) (a b:Int) (h:small (a,b)) (w:World):Calls Tryz.prog 233 #[.int .i64 (x:Int),.agg #[.int .i64 a,.int .i64 b]] w fun e w'=>e=.returned (.tuple #[.int .i64 (nxt x (a,b)),.bool (onB x (a,b))])/\Gr w w':=by
 obtain ⟨h1,h2,h3,h4⟩:=h;simp only at h1 h2 h3 h4;go_enter Tryz.func233,Tryz.ntmps233;go_upto_region 1 with fail;go_quiet (fail);go_wp2
 all_goals
  go_ret2;refine ⟨ret_ib rfl ?_,((Gr.refl w).alloc _ _).drewN _⟩;rw [Bool.eq_iff_iff];simp only [onB,Bool.and_eq_true,decide_eq_true_eq,Bool.false_eq_true,false_iff];omega
def goesB (c:UInt8) (s:Stp):Bool :=
 if ((c.toNat:Int)==80) then (szI s==2)&&(s.2==1)
 else if ((c.toNat:Int)==112) then (szI s==2)&&(s.2==-1)
 else if ((c.toNat:Int)==78)||((c.toNat:Int)==110) then szI s==5
 else if ((c.toNat:Int)==66)||((c.toNat:Int)==98) then szI s==2
 else if ((c.toNat:Int)==82)||((c.toNat:Int)==114) then szI s==1
 else if ((c.toNat:Int)==81)||((c.toNat:Int)==113)||((c.toNat:Int)==75)||((c.toNat:Int)==107) then decide (szI s<=2)
 else false
theorem two_in {w:World} {a b:Int} {ty:TypeId}:(w.alloc (.cells #[.int .i64 a,.int .i64 b] ty)).cell? ⟨w.heap.size,0,none⟩=some (.int .i64 a)/\(w.alloc (.cells #[.int .i64 a,.int .i64 b] ty)).cell? ⟨w.heap.size,1,none⟩=some (.int .i64 b):=by
 constructor<;>(rw [World.cell?_alloc_at _ _ _ _ rfl];rfl)
theorem goes_any (c:UInt8) (a b:Int) (h:small (a,b)) (w:World):Calls Tryz.prog 160 #[.int .u8 (c.toNat:Int),.agg #[.int .i64 a,.int .i64 b]] w fun e w'=>e=.returned (.bool (goesB c (a,b)))/\Gr w w':=by
 obtain ⟨z,hz⟩:∃ z,Hid (z=szI (a,b)):=⟨_,hide rfl⟩;have hs:Hid (∀ W,Calls Tryz.prog 234 #[.agg #[.int .i64 a,.int .i64 b]] W fun e w'=>e=.returned (.int .i64 z)/\Gr W w'):=hide (fun W=>by rw [qa hz];exact stepSize_any a b h W);go_enter Tryz.func160,Tryz.ntmps160;go_upto_region 1 with fail;obtain ⟨c0,c1⟩:=two_in (w:=w) (a:=a) (b:=b) (ty:=240);have hg0:Hid (Gr w (w.alloc (.cells #[.int .i64 a,.int .i64 b] 240))):=hide ((Gr.refl w).alloc _ _);have hlt:w.heap.size<(w.alloc (.cells #[.int .i64 a,.int .i64 b] 240)).heap.size:=by simp
 generalize w.alloc (.cells #[.int .i64 a,.int .i64 b] 240)=wb at c0 c1 hg0 hlt ⊢;go_wp2_with (go_at_call 234;refine (qa hs _).mono ?_;rintro e w' ⟨rfl,hg⟩;have d1:=(Below.cell hg (p:=⟨w.heap.size,1,none⟩) hlt).trans c1;have hg1:=hide (Gr.trans (qa hg0) hg);clear hg)
 all_goals
  go_ret;refine ⟨ji ?_,by first|exact qa hg1|exact qa hg0⟩;simp only [goesB,<-qa hz];simp [*]
end Go.Proofs.YtnfakamfmkhlbaaGreatDoor.C
