import Derived.Test.YtnfakamfmkhlbabGreatDoorKb20
import Derived.Test.YtnfakamfmkhlbabGreatDoorKb13
import Derived.Test.YtnfakamfmkhlbabGreatDoorKb12
import Derived.Test.YtnfakamfmkhlbabGreatDoorKb4
import Derived.Deep.QuietTactic
import Derived.BigQuiet
import Derived.Deep.RegionHeld3
import Derived.Test.YtnfakamfmkhlbabGreatDoorKb7
import Derived.Test.YtnfakamfmkhlbabGreatDoorKz2
set_option maxRecDepth 100000
set_option maxHeartbeats 4000000
set_option linter.unusedSimpArgs false
namespace Go.Proofs.YtnfakamfmkhlbabGreatDoor.C
open Go.ChangeShapes Go.WideShapes Go.ChangeAt Go.RowKit Go.Shelf
open Go.Proofs.YtnfakamfmkhlbabGreatDoor.P
attribute [local go_sem] setCell_drewN alloc_drewN Oper.semAt_some
def nilW:Array Value:=#[.nilFunc,.nilFunc]
def letA:Array Value:=wayA 64 65
def setA:Array Value:=wayA 60 61
theorem infoW:(Tryz.prog.info? 74).map (·.size)=some 2:=by kernel_rfl
theorem wayA_ones (a b:Nat):(wayA a b).all (·.oneCell')=true:=by simp [wayA,Value.oneCell']
theorem nilW_ones:nilW.all (·.oneCell')=true:=by simp [nilW,Value.oneCell']
theorem quick_any (w:World):Calls Tryz.prog 33 #[] w fun e w'=>e=.returned (.agg setA)/\Gr w w':=by
 go_enter Tryz.func33,Tryz.ntmps33;go_wp2_with (refine wpList_store_row rfl 74 _ _ rfl w.heap.size setA rfl rfl 74 nilW (heap_alloc_new _ _) infoW rfl (wayA_ones _ _) ?_);exact bodyPost_ret (v:=.agg setA) (results_cell_row Tryz.results33 _ _ w.heap.size 74 _ (0,0) _ rfl (setRow_heap _ _ _ _ _ _ (heap_alloc_new w _)) Tryz.underlying74 rfl infoW) rfl ⟨rfl,((Gr.refl w).alloc _ _).setRow _ (Nat.le_refl _) _⟩
def ofV (n:Int):Value:=if n=1 then .tuple #[.agg letA,.bool true] else if n=2 then .tuple #[.agg setA,.bool true] else .tuple #[.agg nilW,.bool false]
theorem of_any (n:Int) (w:World):Calls Tryz.prog 35 #[.int .i64 n] w fun e w'=>e=.returned (ofV n)/\Gr w w':=by
 by_cases h1:n=1
 ·subst h1;go_enter Tryz.func35,Tryz.ntmps35;go_wp2_with (refine wpList_store_row rfl 74 _ _ rfl w.heap.size letA rfl rfl 74 nilW (heap_alloc_new _ _) infoW rfl (wayA_ones _ _) ?_);exact bodyPost_ret (v:=.tuple #[.agg letA,.bool true]) (results_cell_tmp Tryz.results35 _ _ w.heap.size 74 _ (0,0) _ rfl (setRow_heap _ _ _ _ _ _ (heap_alloc_new w _)) Tryz.underlying74 rfl infoW) rfl ⟨rfl,((Gr.refl w).alloc _ _).setRow _ (Nat.le_refl _) _⟩
 ·by_cases h2:n=2
  ·subst h2;have e0:Hid ((w.alloc (.cells nilW 74)).heap[w.heap.size]?=some (.cells nilW 74)):=hide (heap_alloc_new w _);have g0:Hid (Gr w (w.alloc (.cells nilW 74))):=hide ((Gr.refl w).alloc _ _);have l0:Hid (w.heap.size<(w.alloc (.cells nilW 74)).heap.size):=hide (by rw [World.size_alloc];omega);go_enter Tryz.func35,Tryz.ntmps35
   go_wp2_with (first
    | (go_at_call 33;refine (quick_any _).mono ?_;rintro e w2 ⟨rfl,hg2⟩;have e2:=(Below.block hg2 _ (unhide l0)).trans (unhide e0))
    | (refine wpList_store_row rfl 74 _ _ rfl w.heap.size setA rfl rfl 74 nilW e2 infoW rfl (wayA_ones _ _) ?_))
   exact bodyPost_ret (v:=.tuple #[.agg setA,.bool true]) (results_cell_tmp Tryz.results35 _ _ w.heap.size 74 _ (0,0) _ rfl (setRow_heap _ _ _ _ _ _ e2) Tryz.underlying74 rfl infoW) rfl ⟨rfl,(Gr.trans (unhide g0) hg2).setRow _ (Nat.le_refl _) _⟩
  ·have hv:ofV n=.tuple #[.agg nilW,.bool false]:=by unfold ofV;rw [if_neg h1,if_neg h2]
   rw [hv];go_enter Tryz.func35,Tryz.ntmps35;go_wp2_with (refine wpList_store_row rfl 74 _ _ rfl w.heap.size nilW rfl rfl 74 nilW (heap_alloc_new _ _) infoW rfl nilW_ones ?_);exact bodyPost_ret (v:=.tuple #[.agg nilW,.bool false]) (results_cell_tmp Tryz.results35 _ _ w.heap.size 74 _ (0,0) _ rfl (setRow_heap _ _ _ _ _ _ (heap_alloc_new w _)) Tryz.underlying74 rfl infoW) rfl ⟨rfl,((Gr.refl w).alloc _ _).setRow _ (Nat.le_refl _) _⟩
structure Ct (m:Int) (w:World):Prop where
 mx:w.cell? ⟨4,0,none⟩=some (.int .i64 m)
 ml:4<w.heap.size
 tab:TabIn w
 homes:Homes w
theorem Ct.gr {m:Int} {w w':World} (h:Ct m w) (g:Gr w w'):Ct m w' :=
 ⟨(Below.cell g (p:=⟨4,0,none⟩) h.ml).trans h.mx,Nat.lt_of_lt_of_le h.ml (Below.size g),h.tab.gr g,h.homes.gr g⟩
def nilS:Value:=.slice none 0 0
structure Tabs (w:World):Prop where
 cas:CasTab w
 st:StTab w
theorem Tabs.gr {w w':World} (h:Tabs w) (g:Gr w w'):Tabs w':=⟨h.cas.gr g,h.st.gr g⟩
theorem read_beh {s:ByteArray} {p:Pos} (h:readS s=some p):-1<=p.behind/\p.behind<=63:=by
 obtain ⟨B,_,_,_,hb,_⟩:=read_back s p h;omega
def BadK (s:ByteArray) (k:Int):Prop:=(k=1/\readS s=none)\/(k=2/\∃ p,readS s=some p/\posCan p=false)
theorem parse_split (s:ByteArray):(∃ p,readS s=some p/\posCan p=true/\∀ e,ParseEnd s e->e=.returned (.tuple #[.agg (posV p),.int .i64 0]))\/(∃ k,k≠0/\BadK s k/\∀ e,ParseEnd s e->e=.returned (.tuple #[.agg Tryz.zeroCells70,.int .i64 k])):=by
 cases hr:readS s with
 | none =>
  refine .inr ⟨1,by decide,.inl ⟨rfl,hr⟩,fun e h=>?_⟩;rcases h with ⟨q,q1,_,_⟩|⟨q,q1,_,_⟩|⟨_,rfl⟩
  ·rw [hr] at q1;cases q1
  ·rw [hr] at q1;cases q1
  ·rfl
 | some p =>
  cases hc:posCan p with
  | true =>
   refine .inl ⟨p,rfl,hc,fun e h=>?_⟩;rcases h with ⟨q,q1,q2,rfl⟩|⟨q,q1,q2,_⟩|⟨q1,_⟩
   ·rw [hr] at q1;obtain rfl:=Option.some.inj q1;rfl
   ·rw [hr] at q1;obtain rfl:=Option.some.inj q1;rw [hc] at q2;cases q2
   ·rw [hr] at q1;cases q1
  | false =>
   refine .inr ⟨2,by decide,.inr ⟨rfl,p,hr,hc⟩,fun e h=>?_⟩;rcases h with ⟨q,q1,q2,rfl⟩|⟨q,q1,q2,rfl⟩|⟨q1,_⟩
   ·rw [hr] at q1;obtain rfl:=Option.some.inj q1;rw [hc] at q2;cases q2
   ·rfl
   ·rw [hr] at q1;cases q1
end Go.Proofs.YtnfakamfmkhlbabGreatDoor.C
namespace Go.Proofs.YtnfakamfmkhlbabGreatDoor.C
open Go.RowKit
open Go.Proofs.YtnfakamfmkhlbabGreatDoor.P
def ray (s:Stp):Nat->Nat->List Nat
 | 0,_=>[]
 | n+1,x=>if onB x s then nx x s :: ray s n (nx x s) else []
def upT (z:Nat->UInt8):List Nat->List Nat
 | []=>[]
 | y :: r=>y :: (if z y=46 then upT z r else [])
theorem wk_up (z:Nat->UInt8) (s:Stp):∀ n x,wkN z s n x=upT z (ray s n x)
 | 0,_=>rfl
 | n+1,x=>by
   unfold wkN ray;split
   ·unfold upT;rw [wk_up z s n (nx x s)]
   ·rfl
theorem mem_up (z:Nat->UInt8) (y:Nat):∀ l:List Nat,y∈upT z l↔∃ i:Nat,l[i]?=some y/\∀ j,j<i->∀ v,l[j]?=some v->z v=46
 | []=>by simp [upT]
 | a :: r=>by
   unfold upT;rw [List.mem_cons];constructor
   ·rintro (rfl|h)
    ·exact ⟨0,rfl,fun j hj=>absurd hj (Nat.not_lt_zero j)⟩
    ·split at h
     ·rename_i ha;obtain ⟨i,h1,h2⟩:=(mem_up z y r).1 h;refine ⟨i+1,by simpa using h1,fun j hj v hv=>?_⟩;cases j with
      | zero=>simp at hv;rw [<-hv];exact ha
      | succ j=>exact h2 j (by omega) v (by simpa using hv)
     ·cases h
   ·rintro ⟨i,h1,h2⟩;cases i with
    | zero=>simp at h1;exact .inl h1.symm
    | succ i =>
     right;have ha:z a=46:=h2 0 (by omega) a rfl;rw [if_pos ha];exact (mem_up z y r).2 ⟨i,by simpa using h1,fun j hj v hv=>h2 (j+1) (by omega) v (by simpa using hv)⟩
theorem hit_up (z:Nat->UInt8) (bw:Bool) (s:Stp):∀ (l:List Nat) (far:Bool),hitL z bw s far (upT z l)=true↔∃ (i y:Nat),l[i]?=some y/\(∀ j,j<i->∀ v,l[j]?=some v->z v=46)/\hitB z bw s (far||decide (0<i)) y=true
 | [],far=>by simp [upT,hitL]
 | a :: r,far=>by
   unfold upT hitL;rw [Bool.or_eq_true];constructor
   ·rintro (h|h)
    ·exact ⟨0,a,rfl,fun j hj=>absurd hj (Nat.not_lt_zero j),by simpa using h⟩
    ·split at h
     ·rename_i ha;obtain ⟨i,y,h1,h2,h3⟩:=(hit_up z bw s r true).1 h;refine ⟨i+1,y,by simpa using h1,fun j hj v hv=>?_,by simpa using h3⟩;cases j with
      | zero=>simp at hv;rw [<-hv];exact ha
      | succ j=>exact h2 j (by omega) v (by simpa using hv)
     ·simp [hitL] at h
   ·rintro ⟨i,y,h1,h2,h3⟩;cases i with
    | zero=>simp at h1;subst h1;left;simpa using h3
    | succ i =>
     right;have ha:z a=46:=h2 0 (by omega) a rfl;rw [if_pos ha];exact (hit_up z bw s r true).2 ⟨i,y,by simpa using h1,fun j hj v hv=>h2 (j+1) (by omega) v (by simpa using hv),by simpa using h3⟩
def rr (k x:Nat):List Nat:=ray (stN k) 8 x
def rayOk (k x i:Nat):Bool:=match (rr k x)[i]? with
 | none=>true
 | some y=>decide (y<64)&&decide (LI (x:Int) (y:Int)=i+1)&&(if k%2=0 then stI (x:Int) (y:Int) else slI (x:Int) (y:Int))&&(List.range (i+1)).all fun j=>decide ((rr k x)[j]?=some (pI (x:Int) (y:Int) (j+1)).toNat)
theorem ray_ok:∀ k,k<8->∀ x,x<64->∀ i,i<8->rayOk k x i=true:=by decide +kernel
theorem ray_len (s:Stp):∀ n x,(ray s n x).length<=n
 | 0,_=>Nat.le_refl _
 | n+1,x=>by
   unfold ray;split
   ·rw [List.length_cons];have:=ray_len s n (nx x s);omega
   ·simp
theorem on_st:∀ x,x<64->∀ y,y<64->stI ((x:Nat):Int) ((y:Nat):Int)=true->([0,2,4,6].any fun k=>(rr k x).contains y)=true:=by decide +kernel
theorem on_sl:∀ x,x<64->∀ y,y<64->slI ((x:Nat):Int) ((y:Nat):Int)=true->([1,3,5,7].any fun k=>(rr k x).contains y)=true:=by decide +kernel
def letr (p:Nat):UInt8:=lettersL.getD p 0
theorem letr_all:∀ n:Nat,n<256->∀ p:Nat,p<12->ixc (UInt8.ofNat n)=(p:Int)->UInt8.ofNat n=letr p:=by decide +kernel
theorem letr_of {c:UInt8} {p:Nat} (hp:p<12) (h:ixc c=(p:Int)):c=letr p:=by
 have:=letr_all c.toNat c.toNat_lt p hp;rw [UInt8.ofNat_toNat] at this;exact this h
def isFar (i:Nat):Bool:=i==2||i==3||i==4
def neg (s:Stp):Stp:=(-s.1,-s.2)
def par (i k:Nat):Bool:=if k%2=0 then (i==3||i==4) else (i==2||i==4)
theorem far_is:∀ p,p<12->farB (letr p)=isFar (p%6):=by decide +kernel
theorem far_goes:∀ p,p<12->isFar (p%6)=true->∀ k,k<16->goesB (letr p) (stN k)=(decide (k<8)&&par (p%6) k)/\goesB (letr p) (neg (stN k))=(decide (k<8)&&par (p%6) k):=by decide +kernel
def nearI (p:Nat) (x y:Int):Bool:=attI (fun _=>46) (p%6) (if p<6 then 1 else -1) x y
theorem near_1:∀ p,p<12->isFar (p%6)=false->∀ k,k<16->∀ x:Nat,x<64->(goesB (letr p) (stN k)&&onB x (stN k))=true->nearI p (x:Int) (nx x (stN k):Nat)=true:=by decide +kernel
theorem near_3:∀ p,p<12->isFar (p%6)=false->∀ k,k<16->∀ x:Nat,x<64->(goesB (letr p) (neg (stN k))&&onB x (stN k))=true->nearI p (nx x (stN k):Nat) (x:Int)=true:=by decide +kernel
theorem near_2:∀ p,p<12->isFar (p%6)=false->∀ x,x<64->∀ y,y<64->nearI p ((x:Nat):Int) ((y:Nat):Int)=true->((List.range 16).any fun k=>goesB (letr p) (stN k)&&onB x (stN k)&&decide (nx x (stN k)=y))=true:=by decide +kernel
theorem near_4:∀ p,p<12->isFar (p%6)=false->∀ x,x<64->∀ y,y<64->nearI p ((y:Nat):Int) ((x:Nat):Int)=true->((List.range 16).any fun k=>goesB (letr p) (neg (stN k))&&onB x (stN k)&&decide (nx x (stN k)=y))=true:=by decide +kernel
theorem man_all:∀ n,n<256->okY (UInt8.ofNat n)=true->∀ b:Bool,manB (UInt8.ofNat n) b=decide (coc (UInt8.ofNat n)=sdb b):=by decide +kernel
theorem man_co {c:UInt8} (h:okY c=true) (b:Bool):manB c b=decide (coc c=sdb b):=by
 have:=man_all c.toNat c.toNat_lt;rw [UInt8.ofNat_toNat] at this;exact this h b
theorem nx_lt {x:Nat} {s:Stp} (h:onB x s=true):nx x s<64:=(nx_is h).2
theorem ray_lt (s:Stp):∀ n x,∀ y∈ray s n x,y<64
 | 0,_,y,h=>by cases h
 | n+1,x,y,h=>by
   unfold ray at h;split at h
   ·rename_i hon;rcases List.mem_cons.1 h with rfl|h
    ·exact nx_lt hon
    ·exact ray_lt s n _ y h
   ·cases h
theorem rr_0 (k x:Nat):(rr k x)[0]?=if onB x (stN k) then some (nx x (stN k)) else none:=by
 unfold rr ray;split<;>rfl
theorem rr_at {k x i y:Nat} (hk:k<8) (hx:x<64) (h:(rr k x)[i]?=some y):y<64/\LI (x:Int) (y:Int)=i+1/\(if k%2=0 then stI (x:Int) (y:Int) else slI (x:Int) (y:Int))=true/\∀ j,j<=i->(rr k x)[j]?=some (pI (x:Int) (y:Int) (j+1)).toNat:=by
 have hi:i<8:=by
  have h1:=(List.getElem?_eq_some_iff.1 h).1;have h2:=ray_len (stN k) 8 x;unfold rr at h1;omega
 have:=ray_ok k hk x hx i hi;unfold rayOk at this;rw [h] at this;simp only [Bool.and_eq_true,decide_eq_true_eq,List.all_eq_true,List.mem_range] at this;exact ⟨this.1.1.1,this.1.1.2,this.1.2,fun j hj=>this.2 j (by omega)⟩
theorem line_mem {z:Nat->UInt8} {k x y:Nat} (hk:k<8) (hx:x<64):y∈wkL z (stN k) x↔y∈rr k x/\freeI (zI z) (pI (x:Int) (y:Int)) (LI (x:Int) (y:Int))=true:=by
 have e46:∀ v,z v=46↔zI z v=46:=fun v=>by
  unfold zI;constructor
  ·intro h;rw [h];rfl
  ·intro h;apply UInt8.toNat_inj.1;have:(z v).toNat=46:=by omega
   rw [this];rfl
 unfold wkL;rw [wk_up,mem_up];unfold freeI;rw [decide_eq_true_eq];constructor
 ·rintro ⟨i,h1,h2⟩;obtain ⟨a1,a2,a3,a4⟩:=rr_at hk hx h1;refine ⟨List.mem_iff_getElem?.2 ⟨i,h1⟩,fun t ht t1=>?_⟩;have h3:=a4 (t-1) (by omega);rw [show t-1+1=t from by omega] at h3;exact (e46 _).1 (h2 (t-1) (by omega) _ h3)
 ·rintro ⟨h1,h2⟩;obtain ⟨i,h1⟩:=List.mem_iff_getElem?.1 h1;obtain ⟨a1,a2,a3,a4⟩:=rr_at hk hx h1;refine ⟨i,h1,fun j hj v hv=>?_⟩;have h3:=a4 j (by omega);rw [show ray (stN k) 8 x=rr k x from rfl,h3] at hv;rw [<-Option.some.inj hv];exact (e46 _).2 (h2 (j+1) (by omega) (by omega))
theorem far_mem {z:Nat->UInt8} {i x y:Nat} {s:Int} (hi:isFar i=true) (hx:x<64) (hy:y<64):(∃ k,k<8/\par i k=true/\y∈wkL z (stN k) x)↔attI (zI z) i s (x:Int) (y:Int)=true:=by
 have ha:attI (zI z) i s (x:Int) (y:Int)=(((i==3||i==4)&&stI (x:Int) (y:Int)||(i==2||i==4)&&slI (x:Int) (y:Int))&&freeI (zI z) (pI (x:Int) (y:Int)) (LI (x:Int) (y:Int))):=by
  have:i=2\/i=3\/i=4:=by simp [isFar] at hi;omega
  rcases this with rfl|rfl|rfl<;>simp [attI]
 rw [ha,Bool.and_eq_true,Bool.or_eq_true,Bool.and_eq_true,Bool.and_eq_true];constructor
 ·rintro ⟨k,hk,hp,hm⟩;obtain ⟨m1,m2⟩:=(line_mem hk hx).1 hm;obtain ⟨j,hj⟩:=List.mem_iff_getElem?.1 m1;obtain ⟨a1,a2,a3,a4⟩:=rr_at hk hx hj;refine ⟨?_,m2⟩;unfold par at hp;split at hp
  ·rename_i h2;rw [if_pos h2] at a3;exact .inl ⟨hp,a3⟩
  ·rename_i h2;rw [if_neg h2] at a3;exact .inr ⟨hp,a3⟩
 ·rintro ⟨h1,h2⟩;rcases h1 with ⟨p1,p2⟩|⟨p1,p2⟩
  ·obtain ⟨k,hk,hm⟩:=List.any_eq_true.1 (on_st x hx y hy p2);have hk':k<8/\k%2=0:=by simp at hk;omega
   exact ⟨k,hk'.1,by unfold par;rw [if_pos hk'.2];exact p1,(line_mem hk'.1 hx).2 ⟨by simpa using hm,h2⟩⟩
  ·obtain ⟨k,hk,hm⟩:=List.any_eq_true.1 (on_sl x hx y hy p2);have hk':k<8/\¬ (k%2=0):=by simp at hk;omega
   exact ⟨k,hk'.1,by unfold par;rw [if_neg hk'.2];exact p1,(line_mem hk'.1 hx).2 ⟨by simpa using hm,h2⟩⟩
theorem near_att {z:Nat->UInt8} {p:Nat} (hp:p<12) (h:isFar (p%6)=false) (bw:Bool) (hb:p/6=bg bw/6) (x y:Int):nearI p x y=attI (zI z) (p%6) (sdb bw) x y:=by
 have hs:(if p<6 then (1:Int) else -1)=sdb bw:=by
  cases bw
  ·rw [if_neg (by simp [bg] at hb;omega)];rfl
  ·rw [if_pos (by simp [bg] at hb;omega)];rfl
 unfold nearI;rw [hs];have:p%6=0\/p%6=1\/p%6=5:=by simp [isFar] at h;omega
 rcases this with e|e|e<;>(rw [e];simp [attI])
theorem wk_take (z:Nat->UInt8) (s:Stp) (x:Nat):(wkL z s x).take 1=if onB x s then [nx x s] else []:=by
 unfold wkL wkN;split<;>rfl
theorem att_mem {z:Nat->UInt8} {f:Nat} (hf:f<64) {bw:Bool} {i:Nat} (hi:i<6) (hc:ixc (z f)=((bg bw+i:Nat):Int)) {y:Nat} (hy:y<64):y∈attU z f 16↔attI (zI z) i (sdb bw) (f:Int) (y:Int)=true:=by
 have hbg:bg bw=0\/bg bw=6:=by cases bw<;>simp [bg]
 have hp:bg bw+i<12:=by omega
 have hz:=letr_of hp hc;have hm:(bg bw+i)%6=i:=by omega
 have hd:(bg bw+i)/6=bg bw/6:=by omega
 unfold attU;rw [List.mem_flatMap];cases hfar:isFar i with
 | true =>
  rw [<-far_mem (s:=sdb bw) hfar hf hy];have hF:=far_is (bg bw+i) hp;have hG:=far_goes (bg bw+i) hp (by rw [hm];exact hfar);rw [hm] at hF hG;constructor
  ·rintro ⟨k,hk,h⟩;have hk:=List.mem_range.1 hk;unfold attS at h;rw [hz,(hG k hk).1,hF,hfar,if_pos rfl] at h;split at h
   ·rename_i hg;rw [Bool.and_eq_true,decide_eq_true_eq] at hg;exact ⟨k,hg.1,hg.2,h⟩
   ·cases h
  ·rintro ⟨k,hk,h1,h2⟩;refine ⟨k,List.mem_range.2 (by omega),?_⟩;unfold attS;rw [hz,(hG k (by omega)).1,hF,hfar,if_pos (by rw [h1];simp [hk]),if_pos rfl];exact h2
 | false =>
  rw [<-hm,<-near_att hp (by rw [hm];exact hfar) bw hd];have hF:=far_is (bg bw+i) hp;rw [hm] at hF;constructor
  ·rintro ⟨k,hk,h⟩;have hk:=List.mem_range.1 hk;unfold attS at h;rw [hz,hF,hfar,wk_take] at h;split at h
   ·rename_i hg;rw [if_neg (by simp)] at h;split at h
    ·rename_i hon;rw [List.mem_singleton.1 h];exact near_1 _ hp (by rw [hm];exact hfar) k hk f hf (by rw [hg,hon];rfl)
    ·cases h
   ·cases h
  ·intro h;obtain ⟨k,hk,h2⟩:=List.any_eq_true.1 (near_2 _ hp (by rw [hm];exact hfar) f hf y hy h);simp only [Bool.and_eq_true,decide_eq_true_eq] at h2;refine ⟨k,hk,?_⟩;unfold attS;rw [hz,hF,hfar,wk_take,if_pos h2.1.1,if_neg (by simp),if_pos h2.1.2,h2.2];exact List.mem_singleton.2 rfl
theorem attI_sym {z:Nat->UInt8} (hok:layOk z=true) {i:Nat} (hi:i<6) (h0:i≠0) {s t:Int} {x y:Nat} (hx:x<64) (hy:y<64):attI (zI z) i s (x:Int) (y:Int)=attI (zI z) i t (y:Int) (x:Int):=by
 have e1:=sees_back hok true i hi y x hy hx;have e2:=sees_back hok true i hi x y hx hy;have hk:kindN true i=i+2:=by unfold kindN;rw [if_neg h0]
 rw [hk] at e1 e2;rw [attI_side _ i h0 s (sdb true),attI_side _ i h0 t (sdb true),<-e1,<-e2];exact reach_sym (i+2) y x (by omega) (by omega) hy hx _
theorem lay_ok {z:Nat->UInt8} (hok:layOk z=true) {n:Nat} (hn:n<64):okY (z n)=true:=by
 unfold layOk at hok;exact List.all_eq_true.1 hok n (List.mem_range.2 hn)
theorem attL_same {z:Nat->UInt8} (hok:layOk z=true) {x:Nat} (hx:x<64) (bw:Bool):attLB z x bw=attR z (x:Int) bw:=by
 have hbg:bg bw=0\/bg bw=6:=by cases bw<;>simp [bg]
 rw [Bool.eq_iff_iff];unfold attLB attR;rw [List.any_eq_true,List.any_eq_true];constructor
 ·rintro ⟨k,hk,h⟩;have hk:=List.mem_range.1 hk;unfold wkL at h;rw [wk_up] at h;obtain ⟨i,n,h1,h2,h3⟩:=(hit_up z bw (stN k) _ false).1 h;have hn:n<64:=ray_lt (stN k) 8 x n (List.mem_iff_getElem?.2 ⟨i,h1⟩);unfold hitB at h3;rw [Bool.and_eq_true,Bool.and_eq_true,man_co (lay_ok hok hn),decide_eq_true_eq] at h3;obtain ⟨⟨hm,hg⟩,hfr⟩:=h3;refine ⟨n,List.mem_range.2 hn,?_⟩;rw [Bool.and_eq_true,decide_eq_true_eq];refine ⟨hm,?_⟩;obtain ⟨i',hi',e1,e2⟩:=ix_of_co hm;rw [e2];have hp:bg bw+i'<12:=by omega
  have hz:=letr_of hp e1;have hmd:(bg bw+i')%6=i':=by omega
  have hF:=far_is (bg bw+i') hp;rw [hz,show ((-(stN k).1,-(stN k).2):Stp)=neg (stN k) from rfl] at hg;rw [hz] at hfr;cases hfar:isFar i' with
  | true =>
   have hG:=(far_goes (bg bw+i') hp (by rw [hmd];exact hfar) k hk).2;rw [hG,hmd,Bool.and_eq_true,decide_eq_true_eq] at hg
   have hmem:n∈wkL z (stN k) x:=by
    unfold wkL;rw [wk_up];exact (mem_up z n _).2 ⟨i,h1,h2⟩
   rw [attI_sym hok hi' (by simp [isFar] at hfar;omega) (t:=sdb bw) hn hx];exact (far_mem hfar hx hn).1 ⟨k,hg.1,hg.2,hmem⟩
  | false =>
   rw [hF,hmd,hfar] at hfr
   have hi0:i=0:=by
    rcases Nat.eq_zero_or_pos i with e|e
    ·exact e
    ·simp [e] at hfr
   subst hi0;rw [show ray (stN k) 8 x=rr k x from rfl,rr_0] at h1;split at h1
   ·rename_i hon;have hnx:=Option.some.inj h1;have:=near_3 _ hp (by rw [hmd];exact hfar) k hk x hx (by rw [hg,hon];rfl);rw [hnx,near_att (z:=z) hp (by rw [hmd];exact hfar) bw (by omega),hmd] at this;exact this
   ·cases h1
 ·rintro ⟨n,hn,h⟩;have hn:=List.mem_range.1 hn;rw [Bool.and_eq_true,decide_eq_true_eq] at h;obtain ⟨hm,ha⟩:=h;obtain ⟨i',hi',e1,e2⟩:=ix_of_co hm;rw [e2] at ha;have hp:bg bw+i'<12:=by omega
  have hz:=letr_of hp e1;have hmd:(bg bw+i')%6=i':=by omega
  have hF:=far_is (bg bw+i') hp;rw [hmd] at hF;have hman:manB (z n) bw=true:=by rw [man_co (lay_ok hok hn)];exact decide_eq_true hm
  cases hfar:isFar i' with
  | true =>
   rw [attI_sym hok hi' (by simp [isFar] at hfar;omega) (t:=sdb bw) hn hx] at ha;obtain ⟨k,hk,hpr,hmem⟩:=(far_mem hfar hx hn).2 ha;have hG:=(far_goes (bg bw+i') hp (by rw [hmd];exact hfar) k (by omega)).2;refine ⟨k,List.mem_range.2 (by omega),?_⟩;unfold wkL at hmem ⊢;rw [wk_up] at hmem ⊢;obtain ⟨i,h1,h2⟩:=(mem_up z n _).1 hmem;refine (hit_up z bw (stN k) _ false).2 ⟨i,n,h1,h2,?_⟩;unfold hitB;rw [hman,hz,show ((-(stN k).1,-(stN k).2):Stp)=neg (stN k) from rfl,hG,hmd,hpr,hF,hfar];simp [hk]
  | false =>
   rw [<-hmd,<-near_att hp (by rw [hmd];exact hfar) bw (by omega)] at ha;obtain ⟨k,hk,h2⟩:=List.any_eq_true.1 (near_4 _ hp (by rw [hmd];exact hfar) x hx n hn ha);simp only [Bool.and_eq_true,decide_eq_true_eq] at h2;refine ⟨k,hk,?_⟩;unfold wkL;rw [wk_up];refine (hit_up z bw (stN k) _ false).2 ⟨0,n,?_,fun j hj=>absurd hj (Nat.not_lt_zero j),?_⟩
   ·rw [show ray (stN k) 8 x=rr k x from rfl,rr_0,if_pos h2.1.2,h2.2]
   ·unfold hitB;rw [hman,hz,show ((-(stN k).1,-(stN k).2):Stp)=neg (stN k) from rfl,h2.1.1];simp
structure Can (z:Nat->UInt8) (wh:Bool) (fc:Nat->Bool) (b:Int):Prop where
 ok:layOk z=true
 k1:∀ bb,kinR z bb 64=1
 pw:∀ bb:Bool,∀ n,n<64->ixc (z n)=((bg bb:Nat):Int)->¬ (n/8=0\/n/8=7)
 c0:fc 0=true->z 4=75/\z 7=82
 c1:fc 1=true->z 4=75/\z 0=82
 c2:fc 2=true->z 60=107/\z 63=114
 c3:fc 3=true->z 60=107/\z 56=114
 beh:behOk z wh b=true
theorem u8_of {c:UInt8} {n:Int} {d:UInt8} (h:(c.toNat:Int)=n) (hd:(d.toNat:Int)=n):c=d:=UInt8.toNat_inj.1 (by omega)
theorem can_good {z:Nat->UInt8} {wh:Bool} {fc:Nat->Bool} {b h g:Int} (hc:canS z wh fc b h g=true):Can z wh fc b:=by
 unfold canS canM at hc;simp only [Bool.and_eq_true] at hc;obtain ⟨hok,⟨⟨⟨⟨h1,h2⟩,h3⟩,h4⟩,_⟩,_⟩:=hc;have hs:∀ bb,sideOk (layS z 64) bb=true:=fun bb=>by cases bb<;>assumption
 have hca:∀ i,i<4->castN z fc i=true:=fun i hi=>List.all_eq_true.1 h3 i (List.mem_range.2 hi)
 have cc:∀ ks kl rs rl k (a d:UInt8),(a.toNat:Int)=kl->(d.toNat:Int)=rl->castAt z fc ks kl rs rl k=true->fc k=true->z ks=a/\z rs=d:=by
  intro ks kl rs rl k a d ha hd h hf;unfold castAt at h;rw [hf] at h;simp only [Bool.not_true,Bool.false_or,Bool.and_eq_true,decide_eq_true_eq] at h;exact ⟨u8_of h.1 ha,u8_of h.2 hd⟩
 refine ⟨hok,fun bb=>?_,fun bb=>?_,cc _ _ _ _ _ _ _ rfl rfl (hca 0 (by omega)),cc _ _ _ _ _ _ _ rfl rfl (hca 1 (by omega)),cc _ _ _ _ _ _ _ rfl rfl (hca 2 (by omega)),cc _ _ _ _ _ _ _ rfl rfl (hca 3 (by omega)),h4⟩
 ·have:=hs bb;unfold sideOk at this;simp only [Bool.and_eq_true,decide_eq_true_eq] at this;have h:=this.1.1;rw [kings_len] at h;omega
 ·have:=hs bb;unfold sideOk at this;simp only [Bool.and_eq_true,decide_eq_true_eq] at this;exact (pawns_ok z bb).1 this.2
theorem dot_bit {z:Nat->UInt8} (hok:layOk z=true) {n:Nat} (hn:n<64):(takenB (layS z 64)).getLsbD n=!(z n==46):=by
 rw [taken_bit z n hn];have h:=lay_ok hok hn;rw [ok_ix] at h;cases hz:(z n==46) with
 | true =>
  have:z n=46:=by simpa using hz
  rw [this];decide +kernel
 | false=>rw [hz,Bool.false_or] at h;simpa using h
theorem own_oth (m:Nat->BitVec 64) (wh:Bool):sideB m wh ||| sideB m (!wh)=takenB m:=by
 cases wh
 ·exact BitVec.or_comm _ _
 ·rfl
theorem reach_bit {z:Nat->UInt8} (hok:layOk z=true) {wh:Bool} {i:Nat} (hi:i<6) {f t:Nat} (hf:f<64) (ht:t<64):(reachB (kndN wh i) f (takenB (layS z 64))).getLsbD t=attI (zI z) i (sdb wh) (f:Int) (t:Int):=by
 by_cases h:i=0
 ·subst h;cases wh
  ·show (reachB 2 f _).getLsbD t=_;have e1:reachB 2 f (takenB (layS z 64))=bpB f:=rfl;rw [e1,bp_is f hf t ht];rfl
  ·show (reachB 1 f _).getLsbD t=_;have e1:reachB 1 f (takenB (layS z 64))=wpB f:=rfl;rw [e1,wp_is f hf t ht];rfl
 ·have hk:kndN wh i=i+2:=by unfold kndN;rw [if_neg h]
  have e2:=sees_back hok true i hi f t hf ht;have hk2:kindN true i=i+2:=by unfold kindN;rw [if_neg h]
  rw [hk,<-hk2,e2];exact attI_sym hok hi h ht hf
theorem not_bit (s:BitVec 64) {n:Nat} (hn:n<64):(~~~s).getLsbD n=!(s.getLsbD n):=by
 rw [BitVec.getLsbD_not];simp [hn]
theorem man_bit {z:Nat->UInt8} (hok:layOk z=true) (wh:Bool) {n:Nat} (hn:n<64):(sideB (layS z 64) wh).getLsbD n=manB (z n) wh:=by
 rw [side_bit z wh n hn,man_co (lay_ok hok hn)]
theorem pk_all:∀ p,p<12->pawnB (letr p)=decide (p%6=0)/\kingB (letr p)=decide (p%6=5):=by decide +kernel
theorem pk_is {z:Nat->UInt8} {wh:Bool} {i f:Nat} (hi:i<6) (hc:ixc (z f)=((bg wh+i:Nat):Int)):pawnB (z f)=decide (i=0)/\kingB (z f)=decide (i=5):=by
 have hbg:bg wh=0\/bg wh=6:=by cases wh<;>simp [bg]
 rw [letr_of (by omega) hc];have:=pk_all (bg wh+i) (by omega)
 rwa [show (bg wh+i)%6=i from by omega] at this
theorem targ_mid {z:Nat->UInt8} {wh:Bool} {fc:Nat->Bool} {b:Int} (hok:layOk z=true) {i f t:Nat} (h0:i≠0) (h5:i≠5) (hi:i<6) (hf:f<64) (ht:t<64) (hc:ixc (z f)=((bg wh+i:Nat):Int)) :
  t∈tgL z wh fc b f↔(targB (layS z 64) wh (sideB (layS z 64) wh) (sideB (layS z 64) (!wh)) (behB b) fc i (kndN wh i) f).getLsbD t=true:=by
 obtain ⟨hp,hk⟩:=pk_is hi hc;rw [decide_eq_false h0] at hp;rw [decide_eq_false h5] at hk;unfold tgL targB;rw [hp,hk,if_neg h0,if_neg h5,own_oth,BitVec.getLsbD_and,reach_bit hok hi hf ht,not_bit _ ht,man_bit hok wh ht,Bool.and_eq_true,<-att_mem hf hi hc ht];simp only [Bool.false_eq_true,if_false,List.append_nil,List.mem_filter];unfold mayB;rw [hp,if_neg (by simp)]
def fw (wh:Bool) (f k:Nat):Nat:=if wh then f+8*k else f-8*k
def startR (wh:Bool) (f:Nat):Bool:=decide (f/8=(if wh then 1 else 6))
def AhP (z:Nat->UInt8) (wh:Bool) (f t:Nat):Prop:=(t=fw wh f 1/\z (fw wh f 1)=46)\/(startR wh f=true/\t=fw wh f 2/\z (fw wh f 1)=46/\z (fw wh f 2)=46)
theorem ah_on:∀ wh:Bool,∀ f,f<64->(decide (f/8=0)||decide (f/8=7))=false->onB f (0,ahS wh)=true/\nx f (0,ahS wh)=fw wh f 1:=by decide +kernel
theorem ah_on2:∀ wh:Bool,∀ f,f<64->startR wh f=true->onB (fw wh f 1) (0,ahS wh)=true/\nx (fw wh f 1) (0,ahS wh)=fw wh f 2:=by decide +kernel
theorem wk_succ (z:Nat->UInt8) (s:Stp) (n x:Nat):wkN z s (n+1) x=if onB x s then nx x s :: (if z (nx x s)=46 then wkN z s n (nx x s) else []) else []:=rfl
theorem ah_list {z:Nat->UInt8} {wh:Bool} {f t:Nat} (hf:f<64) (hr:¬ (f/8=0\/f/8=7)):t∈ahT z (ahM wh f) (wkL z (0,ahS wh) f)↔AhP z wh f t:=by
 obtain ⟨o1,n1⟩:=ah_on wh f hf (by simpa using hr)
 have e1:wkL z (0,ahS wh) f=fw wh f 1 :: (if z (fw wh f 1)=46 then wkN z (0,ahS wh) 7 (fw wh f 1) else []):=by
  show wkN z (0,ahS wh) (7+1) f=_;rw [wk_succ,if_pos o1,n1]
 unfold ahT AhP;rw [e1];by_cases hz:z (fw wh f 1)=46
 ·rw [if_pos hz];cases hs:startR wh f with
  | false =>
   have hm:ahM wh f=1:=by unfold ahM;unfold startR at hs;rw [if_neg (by simpa using hs)]
   rw [hm];simp [hz]
  | true =>
   have hm:ahM wh f=2:=by unfold ahM;unfold startR at hs;rw [if_pos (by simpa using hs)]
   obtain ⟨o2,n2⟩:=ah_on2 wh f hf hs
   have e2:wkN z (0,ahS wh) 7 (fw wh f 1)=fw wh f 2 :: (if z (fw wh f 2)=46 then wkN z (0,ahS wh) 6 (fw wh f 2) else []):=by
    show wkN z (0,ahS wh) (6+1) (fw wh f 1)=_;rw [wk_succ,if_pos o2,n2]
   rw [hm,e2];by_cases hz2:z (fw wh f 2)=46
   ·simp [hz,hz2]
   ·simp [hz,hz2]
 ·rw [if_neg hz]
  have:((List.take (ahM wh f) [fw wh f 1]).takeWhile fun v=>z v==46)=[]:=by
   cases ahM wh f with
   | zero=>rfl
   | succ n=>simp [hz]
  rw [this];simp [hz]
theorem once_w:∀ f,f<64->∀ t,t<64->(upB (1#64 <<< f) (dirI true)).getLsbD t=decide (t=f+8):=by decide +kernel
theorem once_b:∀ f,f<64->∀ t,t<64->(upB (1#64 <<< f) (dirI false)).getLsbD t=decide (t+8=f):=by decide +kernel
theorem third_w:∀ t,t<64->(thirdB true).getLsbD t=decide (t/8=2):=by decide +kernel
theorem third_b:∀ t,t<64->(thirdB false).getLsbD t=decide (t/8=5):=by decide +kernel
theorem up_bit_w (s:BitVec 64) {t:Nat} (ht:t<64):(upB s (dirI true)).getLsbD t=(!decide (t<8)&&s.getLsbD (t-8)):=by
 show (s <<< 8).getLsbD t=_;rw [BitVec.getLsbD_shiftLeft];simp [ht]
theorem up_bit_b (s:BitVec 64) (t:Nat):(upB s (dirI false)).getLsbD t=s.getLsbD (8+t):=by
 show (s >>> 8).getLsbD t=_;rw [BitVec.getLsbD_ushiftRight]
theorem ah_bits {z:Nat->UInt8} (hok:layOk z=true) {wh:Bool} {f t:Nat} (hf:f<64) (ht:t<64) (hr:¬ (f/8=0\/f/8=7)):(aheadB wh (sideB (layS z 64) wh) (sideB (layS z 64) (!wh)) f).getLsbD t=true↔AhP z wh f t:=by
 unfold aheadB onceB;rw [own_oth]
 have hd:∀ n,n<64->((~~~(takenB (layS z 64))).getLsbD n=true↔z n=46):=fun n hn=>by
  rw [not_bit _ hn,dot_bit hok hn,Bool.not_not,beq_iff_eq]
 unfold AhP;cases wh
 ·rw [BitVec.getLsbD_or,BitVec.getLsbD_and,BitVec.getLsbD_and,once_b f hf t ht,up_bit_b,BitVec.getLsbD_and,BitVec.getLsbD_and];have hs:startR false f=decide (f/8=6):=rfl;have f1:fw false f 1=f-8:=rfl;have f2:fw false f 2=f-16:=rfl;rw [hs,f1,f2];by_cases h8:8+t<64
  ·rw [once_b f hf (8+t) h8,third_b (8+t) h8];simp only [Bool.or_eq_true,Bool.and_eq_true,decide_eq_true_eq,hd t ht,hd (8+t) h8];constructor
   ·rintro (⟨a,b⟩|⟨⟨⟨a,b⟩,c⟩,d⟩)
    ·left;have:f-8=t:=by omega
     rw [this];exact ⟨rfl,b⟩
    ·right;have e1:f-8=8+t:=by omega
     have e2:f-16=t:=by omega
     rw [e1,e2];exact ⟨by omega,rfl,b,d⟩
   ·rintro (⟨a,b⟩|⟨a,b,c,d⟩)
    ·left;rw [<-a] at b;exact ⟨by omega,b⟩
    ·right;have e1:f-8=8+t:=by omega
     have e2:f-16=t:=by omega
     rw [e1] at c;rw [e2] at d;exact ⟨⟨⟨by omega,c⟩,by omega⟩,d⟩
  ·have hz0:(upB (1#64 <<< f) (dirI false)).getLsbD (8+t)=false:=BitVec.getLsbD_of_ge _ _ (by omega);rw [hz0];simp only [Bool.false_and,Bool.or_false,Bool.and_eq_true,decide_eq_true_eq,hd t ht];constructor
   ·rintro ⟨a,b⟩;omega
   ·rintro (⟨a,b⟩|⟨a,b,c,d⟩)<;>omega
 ·rw [BitVec.getLsbD_or,BitVec.getLsbD_and,BitVec.getLsbD_and,once_w f hf t ht,up_bit_w _ ht,BitVec.getLsbD_and,BitVec.getLsbD_and];have hs:startR true f=decide (f/8=1):=rfl;have f1:fw true f 1=f+8:=rfl;have f2:fw true f 2=f+16:=rfl;rw [hs,f1,f2];by_cases h8:t<8
  ·simp only [h8,decide_true,Bool.not_true,Bool.false_and,Bool.or_false,Bool.and_eq_true,decide_eq_true_eq,hd t ht];constructor
   ·rintro ⟨a,b⟩;omega
   ·rintro (⟨a,b⟩|⟨a,b,c,d⟩)<;>omega
  ·rw [once_w f hf (t-8) (by omega),third_w (t-8) (by omega)];simp only [h8,decide_false,Bool.not_false,Bool.true_and,Bool.or_eq_true,Bool.and_eq_true,decide_eq_true_eq,hd t ht,hd (t-8) (by omega)];constructor
   ·rintro (⟨a,b⟩|⟨⟨⟨a,b⟩,c⟩,d⟩)
    ·left;rw [<-a];exact ⟨rfl,b⟩
    ·right;have e1:f+8=t-8:=by omega
     have e2:f+16=t:=by omega
     rw [e1,e2];exact ⟨by omega,rfl,b,d⟩
   ·rintro (⟨a,b⟩|⟨a,b,c,d⟩)
    ·left;rw [<-a] at b;exact ⟨a,b⟩
    ·right;have e1:f+8=t-8:=by omega
     have e2:f+16=t:=by omega
     rw [e1] at c;rw [e2] at d;exact ⟨⟨⟨by omega,c⟩,by omega⟩,d⟩
theorem beh_bit {b:Int} (h0:-1<=b) (h1:b<=63) {t:Nat} (ht:t<64):(behB b).getLsbD t=((t:Int)==b):=by
 unfold behB;split
 ·rw [one_bit b.toNat (by omega) t ht];rw [Bool.eq_iff_iff,decide_eq_true_eq,beq_iff_eq];omega
 ·rw [BitVec.getLsbD_zero];symm;rw [beq_eq_false_iff_ne];omega
theorem targ_pawn {z:Nat->UInt8} {wh:Bool} {fc:Nat->Bool} {b:Int} (hC:Can z wh fc b) (h0:-1<=b) (h1:b<=63) {f t:Nat} (hf:f<64) (ht:t<64) (hc:ixc (z f)=((bg wh:Nat):Int)) :
  t∈tgL z wh fc b f↔(targB (layS z 64) wh (sideB (layS z 64) wh) (sideB (layS z 64) (!wh)) (behB b) fc 0 (kndN wh 0) f).getLsbD t=true:=by
 have hok:=hC.ok;have hr:=hC.pw wh f hf hc;obtain ⟨hp,hk⟩:=pk_is (i:=0) (by omega) hc;rw [decide_eq_true rfl] at hp;unfold tgL targB;rw [hp,if_pos rfl,if_pos rfl,List.mem_append,BitVec.getLsbD_or,Bool.or_eq_true,ah_list hf hr,ah_bits hok hf ht hr,own_oth,BitVec.getLsbD_and,reach_bit hok (by omega) hf ht,BitVec.getLsbD_or,man_bit hok (!wh) ht,beh_bit h0 h1 ht,Bool.and_eq_true,List.mem_filter,<-att_mem hf (i:=0) (by omega) hc ht];unfold mayB;rw [hp,if_pos rfl,Bool.or_comm]
theorem king_one {z:Nat->UInt8} {bb:Bool} (h:kinR z bb 64=1) {f g:Nat} (hf:f<64) (hg:g<64) (ef:ixc (z f)=((bg bb+5:Nat):Int)) (eg:ixc (z g)=((bg bb+5:Nat):Int)):f=g:=by
 obtain ⟨y,hy,hs,_⟩:=one_king h
 have mem:∀ n,n<64->ixc (z n)=((bg bb+5:Nat):Int)->n=y:=fun n hn e=>by
  have:n∈sqs (layS z 64 (bg bb+5)):=by
   unfold sqs;rw [List.mem_filter,List.mem_range,lay64 z _ n hn];exact ⟨hn,decide_eq_true e⟩
  rw [hs] at this;exact List.mem_singleton.1 this
 rw [mem f hf ef,mem g hg eg]
def hK (i:Nat):Nat:=if i<2 then 4 else 60
def hD (i:Nat):Int:=if i%2=0 then 1 else -1
def hN (i:Nat):Nat:=if i%2=0 then 2 else 3
theorem wit_bits:∀ i,i<4->∀ n,n<64->(casW i).getLsbD n=((List.range (hN i)).any fun j=>decide (sqK (hK i) (hD i) (j+1)=n)):=by decide +kernel
theorem wit_lt:∀ i,i<4->∀ j,j<5->(j<hN i+1)->sqK (hK i) (hD i) j<64:=by decide +kernel
theorem x_sqs:∀ i,i<4->∀ y,y<64->(casX i).getLsbD y=((List.range 3).any fun j=>decide (sqK (hK i) (hD i) j=y)):=by decide +kernel
theorem cas_same {z:Nat->UInt8} (hok:layOk z=true) {wh:Bool} {fc:Nat->Bool} {i:Nat} (hi:i<4) (hw:wh=decide (i<2)):casOk (layS z 64) wh (sideB (layS z 64) wh) (sideB (layS z 64) (!wh)) fc i=(fc i&&mcB z wh (hK i) (hD i) (hN i)):=by
 have e1:decide (takenB (layS z 64) &&& casW i=0#64)=mcE z (hK i) (hD i) (hN i):=by
  rw [Bool.eq_iff_iff,decide_eq_true_eq,bv_zero];unfold mcE;rw [List.all_eq_true];constructor
  ·intro h j hj;have hj:=List.mem_range.1 hj;have hN3:hN i<=3:=by unfold hN;split<;>omega
   have hl:=wit_lt i hi (j+1) (by omega) (by omega);have:=h _ hl;rw [BitVec.getLsbD_and,dot_bit hok hl,wit_bits i hi _ hl] at this;have hany:((List.range (hN i)).any fun j'=>decide (sqK (hK i) (hD i) (j'+1)=sqK (hK i) (hD i) (j+1)))=true:=List.any_eq_true.2 ⟨j,List.mem_range.2 hj,by simp⟩;rw [hany,Bool.and_true] at this;simpa using this
  ·intro h n hn;rw [BitVec.getLsbD_and,wit_bits i hi n hn];cases ha:((List.range (hN i)).any fun j=>decide (sqK (hK i) (hD i) (j+1)=n)) with
   | false=>rw [Bool.and_false]
   | true =>
    obtain ⟨j,hj,e⟩:=List.any_eq_true.1 ha;rw [decide_eq_true_eq] at e;have:=h j hj;rw [e] at this;rw [dot_bit hok hn,this];rfl
 have e2:(!(anyB (layS z 64) (casX i) wh))=mcA z wh (hK i) (hD i):=by
  unfold anyB mcA;rw [Bool.eq_iff_iff,Bool.not_eq_true',List.any_eq_false,List.all_eq_true];constructor
  ·intro h j hj;have hj:=List.mem_range.1 hj;have hl:=wit_lt i hi j (by omega) (by unfold hN;split<;>omega)
   have hm:sqK (hK i) (hD i) j∈sqs (casX i):=by
    unfold sqs;rw [List.mem_filter,List.mem_range,x_sqs i hi _ hl];exact ⟨hl,List.any_eq_true.2 ⟨j,List.mem_range.2 hj,by simp⟩⟩
   have:=h _ hm;rw [attacked_same hok _ _ hl,<-attL_same hok hl] at this;simpa using this
  ·intro h y hy;unfold sqs at hy;rw [List.mem_filter,List.mem_range] at hy;rw [x_sqs i hi y hy.1] at hy;obtain ⟨j,hj,e⟩:=List.any_eq_true.1 hy.2;rw [decide_eq_true_eq] at e;have:=h j hj;rw [e] at this;rw [attacked_same hok _ _ hy.1,<-attL_same hok hy.1];simpa using this
 unfold casOk mcB;rw [own_oth,e1,e2,hw];simp [Bool.and_assoc]
theorem casQ_bits (m:Nat->BitVec 64) (wh:Bool) (own oth:BitVec 64) (fc:Nat->Bool) {t:Nat} (ht:t<64):(casQ m wh own oth fc 4).getLsbD t=((List.range 4).any fun i=>casOk m wh own oth fc i&&decide (t=casT i)):=by
 have hT:∀ i,casT i<64:=fun i=>by unfold casT;split<;>(try split)<;>(try split)<;>omega
 have step:∀ k,(casQ m wh own oth fc (k+1)).getLsbD t=((casQ m wh own oth fc k).getLsbD t||(casOk m wh own oth fc k&&decide (t=casT k))):=fun k=>by
  show (if casOk m wh own oth fc k then casQ m wh own oth fc k ||| 1#64 <<< casT k else casQ m wh own oth fc k).getLsbD t=_;cases h:casOk m wh own oth fc k
  ·simp
  ·rw [if_pos rfl,BitVec.getLsbD_or,one_bit _ (hT k) t ht,Bool.true_and]
 rw [step,step,step,step];show ((((0#64).getLsbD t||_)||_)||_||_)=_;rw [BitVec.getLsbD_zero];simp [List.range_succ,Bool.or_assoc]
theorem king_home {z:Nat->UInt8} {wh:Bool} {fc:Nat->Bool} {b:Int} (hC:Can z wh fc b) {f:Nat} (hf:f<64) (hc:ixc (z f)=((bg wh+5:Nat):Int)):(fc (cgF wh)=true->f=hK (cgF wh))/\(fc (cgF wh+1)=true->f=hK (cgF wh+1)):=by
 have k75:ixc 75=((bg true+5:Nat):Int):=by decide +kernel
 have k107:ixc 107=((bg false+5:Nat):Int):=by decide +kernel
 cases wh
 ·exact ⟨fun h=>king_one (hC.k1 false) hf (by decide) hc (by rw [show hK (cgF false)=60 from rfl,(hC.c2 h).1];exact k107),fun h=>king_one (hC.k1 false) hf (by decide) hc (by rw [show hK (cgF false+1)=60 from rfl,(hC.c3 h).1];exact k107)⟩
 ·exact ⟨fun h=>king_one (hC.k1 true) hf (by decide) hc (by rw [show hK (cgF true)=4 from rfl,(hC.c0 h).1];exact k75),fun h=>king_one (hC.k1 true) hf (by decide) hc (by rw [show hK (cgF true+1)=4 from rfl,(hC.c1 h).1];exact k75)⟩
theorem cas_list {z:Nat->UInt8} {wh:Bool} {fc:Nat->Bool} {b:Int} (hC:Can z wh fc b) {f t:Nat} (hf:f<64) (ht:t<64) (hc:ixc (z f)=((bg wh+5:Nat):Int)):t∈cgR z wh fc f++cgM z wh fc f↔(casQ (layS z 64) wh (sideB (layS z 64) wh) (sideB (layS z 64) (!wh)) fc 4).getLsbD t=true:=by
 obtain ⟨h1,h2⟩:=king_home hC hf hc
 have off:∀ i,wh≠decide (i<2)->casOk (layS z 64) wh (sideB (layS z 64) wh) (sideB (layS z 64) (!wh)) fc i=false:=fun i h=>by
  unfold casOk;have:(wh==decide (i<2))=false:=beq_eq_false_iff_ne.2 h;rw [this];simp
 rw [casQ_bits _ _ _ _ _ ht,List.mem_append]
 have hR:t∈cgR z wh fc f↔(fc (cgF wh)&&mcB z wh (hK (cgF wh)) (hD (cgF wh)) (hN (cgF wh)))=true/\t=casT (cgF wh):=by
  unfold cgR;cases hfc:fc (cgF wh) with
  | false=>simp
  | true =>
   have:=h1 hfc;subst this;have e:hK (cgF wh)+2=casT (cgF wh)/\hD (cgF wh)=1/\hN (cgF wh)=2:=by cases wh<;>decide
   rw [e.1,e.2.1,e.2.2];split
   ·rename_i hh;rw [hh];simp
   ·rename_i hh;simp only [Bool.not_eq_true] at hh;rw [hh];simp
 have hM:t∈cgM z wh fc f↔(fc (cgF wh+1)&&mcB z wh (hK (cgF wh+1)) (hD (cgF wh+1)) (hN (cgF wh+1)))=true/\t=casT (cgF wh+1):=by
  unfold cgM;cases hfc:fc (cgF wh+1) with
  | false=>simp
  | true =>
   have:=h2 hfc;subst this;have e:hK (cgF wh+1)-2=casT (cgF wh+1)/\hD (cgF wh+1)=-1/\hN (cgF wh+1)=3:=by cases wh<;>decide
   rw [e.1,e.2.1,e.2.2];split
   ·rename_i hh;rw [hh];simp
   ·rename_i hh;simp only [Bool.not_eq_true] at hh;rw [hh];simp
 rw [hR,hM,<-cas_same hC.ok (by cases wh<;>decide) (by cases wh<;>rfl),<-cas_same hC.ok (by cases wh<;>decide) (by cases wh<;>rfl)]
 rw [List.any_eq_true];constructor
 ·rintro (⟨a,e⟩|⟨a,e⟩)
  ·exact ⟨cgF wh,by cases wh<;>decide,by rw [a,e];simp⟩
  ·exact ⟨cgF wh+1,by cases wh<;>decide,by rw [a,e];simp⟩
 ·rintro ⟨i,hi,h⟩;rw [Bool.and_eq_true,decide_eq_true_eq] at h;have hi:=List.mem_range.1 hi;by_cases hw:wh=decide (i<2)
  ·have:i=cgF wh\/i=cgF wh+1:=by
    cases wh
    ·have:¬ i<2:=by simpa using hw.symm
     show i=2\/i=3;omega
    ·have:i<2:=by simpa using hw.symm
     show i=0\/i=1;omega
   rcases this with e|e
   ·rw [e] at h;exact .inl h
   ·rw [e] at h;exact .inr h
  ·rw [off i hw] at h;exact absurd h.1 (by simp)
theorem targ_king {z:Nat->UInt8} {wh:Bool} {fc:Nat->Bool} {b:Int} (hC:Can z wh fc b) {f t:Nat} (hf:f<64) (ht:t<64) (hc:ixc (z f)=((bg wh+5:Nat):Int)) :
  t∈tgL z wh fc b f↔(targB (layS z 64) wh (sideB (layS z 64) wh) (sideB (layS z 64) (!wh)) (behB b) fc 5 (kndN wh 5) f).getLsbD t=true:=by
 have hok:=hC.ok;obtain ⟨hp,hk⟩:=pk_is (i:=5) (by omega) hc;rw [decide_eq_false (by omega)] at hp;rw [decide_eq_true rfl] at hk;have hcl:=cas_list hC hf ht hc;unfold tgL targB;rw [hp,hk,if_neg (by simp),if_pos rfl,if_neg (by omega),if_pos rfl,List.mem_append,BitVec.getLsbD_or,Bool.or_eq_true,hcl,own_oth,BitVec.getLsbD_and,reach_bit hok (by omega) hf ht,not_bit _ ht,man_bit hok wh ht,Bool.and_eq_true,List.mem_filter,<-att_mem hf (i:=5) (by omega) hc ht];unfold mayB;rw [hp,if_neg (by simp)]
theorem targ_same {z:Nat->UInt8} {wh:Bool} {fc:Nat->Bool} {b:Int} (hC:Can z wh fc b) (h0:-1<=b) (h1:b<=63) {i f t:Nat} (hi:i<6) (hf:f<64) (ht:t<64) (hc:ixc (z f)=((bg wh+i:Nat):Int)) :
  t∈tgL z wh fc b f↔(targB (layS z 64) wh (sideB (layS z 64) wh) (sideB (layS z 64) (!wh)) (behB b) fc i (kndN wh i) f).getLsbD t=true:=by
 by_cases e0:i=0
 ·subst e0;exact targ_pawn hC h0 h1 hf ht hc
 ·by_cases e5:i=5
  ·subst e5;exact targ_king hC hf ht hc
  ·exact targ_mid hC.ok e0 e5 hi hf ht hc
end Go.Proofs.YtnfakamfmkhlbabGreatDoor.C
