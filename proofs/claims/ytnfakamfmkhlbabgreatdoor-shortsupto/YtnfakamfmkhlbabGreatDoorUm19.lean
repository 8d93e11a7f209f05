import Derived.Test.YtnfakamfmkhlbabGreatDoorUm18
import Derived.Test.YtnfakamfmkhlbabGreatDoorUm12
import Derived.Test.YtnfakamfmkhlbabGreatDoorUm11
import Derived.Test.YtnfakamfmkhlbabGreatDoorUm4
import Derived.Deep.QuietTactic
import Derived.BigQuiet
import Derived.Deep.RegionHeld3
import Derived.Test.YtnfakamfmkhlbabGreatDoorUm7
import Derived.Test.YtnfakamfmkhlbabGreatDoorKz2
set_option maxRecDepth 100000
set_option maxHeartbeats 4000000
set_option linter.unusedSimpArgs false
namespace Go.Proofs.YtnfakamfmkhlbabGreatDoor.C
open Go.ChangeShapes Go.WideShapes Go.ChangeAt Go.RowKit Go.Shelf Go.Proofs.YtnfakamfmkhlbabGreatDoor.P
section
attribute [local go_sem] qd qe Oper.semAt_some
def ku:Array Value:=#[.nilFunc,.nilFunc]
def mc:Array Value:=zG 64 65
def jP:Array Value:=zG 60 61
theorem yU:(Tryz.prog.info? 74).map (·.size)=some 2:=by kernel_rfl
theorem qxi(a b:Nat):(zG a b).all (·.oneCell')=true:=by simp[zG,Value.oneCell']
theorem gF:ku.all (·.oneCell')=true:=by simp[ku,Value.oneCell']
theorem qxk(w:World):Calls Tryz.prog 33 #[] w fun e w'=>e=.returned (.agg jP)/\Gr w w':=by
 go_enter Tryz.func33,Tryz.ntmps33;go_wp2_with(refine wpList_store_row rfl 74 _ _ rfl w.heap.size jP rfl rfl 74 ku (heap_alloc_new _ _) yU rfl (qxi _ _) ?_);exact bodyPost_ret (v:=.agg jP) (results_cell_row Tryz.results33 _ _ w.heap.size 74 _ (0,0) _ rfl (setRow_heap _ _ _ _ _ _ (heap_alloc_new w _)) Tryz.underlying74 rfl yU) rfl ⟨rfl,((Gr.refl w).alloc _ _).setRow _ (qL _) _⟩
def FV(n:Int):Value:=if n=1 then .tuple #[.agg mc,.bool true]else if n=2 then .tuple #[.agg jP,.bool true]else .tuple #[.agg ku,.bool false]
theorem sJ(n:Int)(w:World):Calls Tryz.prog 35 #[.int .i64 n] w fun e w'=>e=.returned (FV n)/\Gr w w':=by
 by_cases h1:n=1
 ·subst h1;go_enter Tryz.func35,Tryz.ntmps35;go_wp2_with(refine wpList_store_row rfl 74 _ _ rfl w.heap.size mc rfl rfl 74 ku (heap_alloc_new _ _) yU rfl (qxi _ _) ?_);exact bodyPost_ret (v:=.tuple #[.agg mc,.bool true]) (qj Tryz.results35 _ _ w.heap.size 74 _ (0,0) _ rfl (setRow_heap _ _ _ _ _ _ (heap_alloc_new w _)) Tryz.underlying74 rfl yU) rfl ⟨rfl,((Gr.refl w).alloc _ _).setRow _ (qL _) _⟩
 ·by_cases h2:n=2
  ·subst h2;have e0:Hid ((w.alloc (.cells ku 74)).heap[w.heap.size]?=some (.cells ku 74)):=qC (heap_alloc_new w _);have g0:Hid (Gr w (w.alloc (.cells ku 74))):=qC ((Gr.refl w).alloc _ _);have l0:Hid (w.heap.size<(w.alloc (.cells ku 74)).heap.size):=qC (by rw[World.size_alloc];omega);go_enter Tryz.func35,Tryz.ntmps35
   go_wp2_with(first
    | (go_at_call 33;refine(qxk _).mono ?_;rintro e w2 ⟨rfl,hg2⟩;have e2:=(Below.block hg2 _ (qa l0)).trans (qa e0))
    | (refine wpList_store_row rfl 74 _ _ rfl w.heap.size jP rfl rfl 74 ku e2 yU rfl (qxi _ _) ?_))
   exact bodyPost_ret (v:=.tuple #[.agg jP,.bool true]) (qj Tryz.results35 _ _ w.heap.size 74 _ (0,0) _ rfl (setRow_heap _ _ _ _ _ _ e2) Tryz.underlying74 rfl yU) rfl ⟨rfl,(Gr.trans (qa g0) hg2).setRow _ (qL _) _⟩
  ·have hv:FV n=.tuple #[.agg ku,.bool false]:=by unfold FV;rw[qF h1,qF h2]
   rw[hv];go_enter Tryz.func35,Tryz.ntmps35;go_wp2_with(refine wpList_store_row rfl 74 _ _ rfl w.heap.size ku rfl rfl 74 ku (heap_alloc_new _ _) yU rfl gF ?_);exact bodyPost_ret (v:=.tuple #[.agg ku,.bool false]) (qj Tryz.results35 _ _ w.heap.size 74 _ (0,0) _ rfl (setRow_heap _ _ _ _ _ _ (heap_alloc_new w _)) Tryz.underlying74 rfl yU) rfl ⟨rfl,((Gr.refl w).alloc _ _).setRow _ (qL _) _⟩
structure Ct(m:Int)(w:World):Prop where
 mx:w.cell? ⟨4,0,none⟩=some (.int .i64 m)
 ml:4<w.heap.size
 tab:jF w
 homes:vJ w
theorem Ct.gr{m:Int}{w w':World}(h:Ct m w)(g:Gr w w'):Ct m w' :=
 ⟨(Below.cell g (p:=⟨4,0,none⟩) h.ml).trans h.mx,qN h.ml (Below.size g),h.tab.gr g,h.homes.gr g⟩
def mU:Value:=.slice none 0 0
structure uV(w:World):Prop where
 cas:jQ w
 st:vT w
theorem uV.gr{w w':World}(h:uV w)(g:Gr w w'):uV w':=⟨h.cas.gr g,h.st.gr g⟩
theorem qjv{s:ByteArray}{p:pH}(h:xG s=some p):-1<=p.behind/\p.behind<=63:=by
 obtain⟨B,_,_,_,hb,_⟩:=FM s p h;omega
def iP(s:ByteArray)(k:Int):Prop:=(k=1/\xG s=none)\/(k=2/\∃p,xG s=some p/\xP p=false)
theorem xy(s:ByteArray):(∃p,xG s=some p/\xP p=true/\∀e,zA s e->e=.returned (.tuple #[.agg (jV p),.int .i64 0]))\/(∃k,k≠0/\iP s k/\∀e,zA s e->e=.returned (.tuple #[.agg Tryz.zeroCells70,.int .i64 k])):=by
 cases hr:xG s with
 | none =>
  refine .inr ⟨1,by decide,.inl ⟨rfl,hr⟩,fun e h=>?_⟩;rcases h with⟨q,q1,_,_⟩|⟨q,q1,_,_⟩|⟨_,rfl⟩
  ·rw[hr]at q1;cases q1
  ·rw[hr]at q1;cases q1
  ·rfl
 | some p =>
  cases hc:xP p with
  | true =>
   refine .inl ⟨p,rfl,hc,fun e h=>?_⟩;rcases h with⟨q,q1,q2,rfl⟩|⟨q,q1,q2,_⟩|⟨q1,_⟩
   ·rw[hr]at q1;obtain rfl:=qP q1;rfl
   ·rw[hr]at q1;obtain rfl:=qP q1;rw[hc]at q2;cases q2
   ·rw[hr]at q1;cases q1
  | false =>
   refine .inr ⟨2,by decide,.inr ⟨rfl,p,hr,hc⟩,fun e h=>?_⟩;rcases h with⟨q,q1,q2,rfl⟩|⟨q,q1,q2,rfl⟩|⟨q1,_⟩
   ·rw[hr]at q1;obtain rfl:=qP q1;rw[hc]at q2;cases q2
   ·rfl
   ·rw[hr]at q1;cases q1
end
def nv(s:yZ):Nat->Nat->List Nat
 | 0,_=>[]
 | n+1,x=>if pM x s then nx x s :: nv s n (nx x s)else[]
def nu(z:Nat->UInt8):List Nat->List Nat
 | []=>[]
 | y :: r=>y :: (if z y=46 then nu z r else[])
theorem uH(z:Nat->UInt8)(s:yZ):∀n x,uW z s n x=nu z (nv s n x)
 | 0,_=>rfl
 | n+1,x=>by
   unfold uW nv;split
   ·unfold nu;rw[uH z s n (nx x s)]
   ·rfl
theorem ul(z:Nat->UInt8)(y:Nat):∀l:List Nat,y∈nu z l↔∃i:Nat,l[i]?=some y/\∀j,j<i->∀v,l[j]?=some v->z v=46
 | []=>by simp[nu]
 | a :: r=>by
   unfold nu;rw[List.mem_cons];constructor
   ·rintro(rfl|h)
    ·exact⟨0,rfl,fun j hj=>absurd hj (Nat.not_lt_zero j)⟩
    ·split at h
     ·rename_i ha;obtain⟨i,h1,h2⟩:=(ul z y r).1 h;refine⟨i+1,by simpa using h1,fun j hj v hv=>?_⟩;cases j with
      | zero=>simp at hv;rw[<-hv];exact ha
      | succ j=>exact h2 j (by omega) v (by simpa using hv)
     ·cases h
   ·rintro⟨i,h1,h2⟩;cases i with
    | zero=>simp at h1;exact .inl h1.symm
    | succ i =>
     right;have ha:z a=46:=h2 0 (by omega) a rfl;rw[qI ha];exact(ul z y r).2 ⟨i,by simpa using h1,fun j hj v hv=>h2 (j+1) (by omega) v (by simpa using hv)⟩
theorem uq(z:Nat->UInt8)(bw:Bool)(s:yZ):∀(l:List Nat)(far:Bool),vq z bw s far (nu z l)=true↔∃(i y:Nat),l[i]?=some y/\(∀j,j<i->∀v,l[j]?=some v->z v=46)/\fQ z bw s (far||decide (0<i)) y=true
 | [],far=>by simp[nu,vq]
 | a :: r,far=>by
   unfold nu vq;rw[Bool.or_eq_true];constructor
   ·rintro(h|h)
    ·exact⟨0,a,rfl,fun j hj=>absurd hj (Nat.not_lt_zero j),by simpa using h⟩
    ·split at h
     ·rename_i ha;obtain⟨i,y,h1,h2,h3⟩:=(uq z bw s r true).1 h;refine⟨i+1,y,by simpa using h1,fun j hj v hv=>?_,by simpa using h3⟩;cases j with
      | zero=>simp at hv;rw[<-hv];exact ha
      | succ j=>exact h2 j (by omega) v (by simpa using hv)
     ·simp[vq]at h
   ·rintro⟨i,y,h1,h2,h3⟩;cases i with
    | zero=>simp at h1;subst h1;left;simpa using h3
    | succ i =>
     right;have ha:z a=46:=h2 0 (by omega) a rfl;rw[qI ha];exact(uq z bw s r true).2 ⟨i,y,by simpa using h1,fun j hj v hv=>h2 (j+1) (by omega) v (by simpa using hv),by simpa using h3⟩
def rr(k x:Nat):List Nat:=nv (jU k) 8 x
def C6(k x i:Nat):Bool:=match (rr k x)[i]? with
 | none=>true
 | some y=>decide (y<64)&&decide (LI (x:Int) (y:Int)=i+1)&&(if k%2=0 then yd (x:Int) (y:Int)else yg (x:Int) (y:Int))&&(List.range (i+1)).all fun j=>decide ((rr k x)[j]?=some (pI (x:Int) (y:Int) (j+1)).toNat)
theorem Dm:∀k,k<8->∀x,x<64->∀i,i<8->C6 k x i=true:=by decide +kernel
theorem il(s:yZ):∀n x,(nv s n x).length<=n
 | 0,_=>qL _
 | n+1,x=>by
   unfold nv;split
   ·rw[List.length_cons];have:=il s n (nx x s);omega
   ·simp
theorem GA:∀x,x<64->∀y,y<64->yd ((x:Nat):Int) ((y:Nat):Int)=true->([0,2,4,6].any fun k=>(rr k x).contains y)=true:=by decide +kernel
theorem GB:∀x,x<64->∀y,y<64->yg ((x:Nat):Int) ((y:Nat):Int)=true->([1,3,5,7].any fun k=>(rr k x).contains y)=true:=by decide +kernel
def yQ(p:Nat):UInt8:=xU.getD p 0
theorem sW:∀n:Nat,n<256->∀p:Nat,p<12->jB (UInt8.ofNat n)=(p:Int)->UInt8.ofNat n=yQ p:=by decide +kernel
theorem jn{c:UInt8}{p:Nat}(hp:p<12)(h:jB c=(p:Int)):c=yQ p:=by
 have:=sW c.toNat c.toNat_lt p hp;rw[UInt8.ofNat_toNat]at this;exact this h
def vx(i:Nat):Bool:=i==2||i==3||i==4
def pN(s:yZ):yZ:=(-s.1,-s.2)
def FU(i k:Nat):Bool:=if k%2=0 then(i==3||i==4)else(i==2||i==4)
theorem uv:∀p,p<12->dx (yQ p)=vx (p%6):=by decide +kernel
theorem qjz:∀p,p<12->vx (p%6)=true->∀k,k<16->ki (yQ p) (jU k)=(decide (k<8)&&FU (p%6) k)/\ki (yQ p) (pN (jU k))=(decide (k<8)&&FU (p%6) k):=by decide +kernel
def gG(p:Nat)(x y:Int):Bool:=xS (fun _=>46) (p%6) (if p<6 then 1 else -1) x y
theorem D4:∀p,p<12->vx (p%6)=false->∀k,k<16->∀x:Nat,x<64->(ki (yQ p) (jU k)&&pM x (jU k))=true->gG p (x:Int) (nx x (jU k):Nat)=true:=by decide +kernel
theorem D1:∀p,p<12->vx (p%6)=false->∀k,k<16->∀x:Nat,x<64->(ki (yQ p) (pN (jU k))&&pM x (jU k))=true->gG p (nx x (jU k):Nat) (x:Int)=true:=by decide +kernel
theorem D3:∀p,p<12->vx (p%6)=false->∀x,x<64->∀y,y<64->gG p ((x:Nat):Int) ((y:Nat):Int)=true->((List.range 16).any fun k=>ki (yQ p) (jU k)&&pM x (jU k)&&decide (nx x (jU k)=y))=true:=by decide +kernel
theorem D0:∀p,p<12->vx (p%6)=false->∀x,x<64->∀y,y<64->gG p ((y:Nat):Int) ((x:Nat):Int)=true->((List.range 16).any fun k=>ki (yQ p) (pN (jU k))&&pM x (jU k)&&decide (nx x (jU k)=y))=true:=by decide +kernel
theorem BU:∀n,n<256->ew (UInt8.ofNat n)=true->∀b:Bool,kw (UInt8.ofNat n) b=decide (vB (UInt8.ofNat n)=xK b):=by decide +kernel
theorem rt{c:UInt8}(h:ew c=true)(b:Bool):kw c b=decide (vB c=xK b):=by
 have:=BU c.toNat c.toNat_lt;rw[UInt8.ofNat_toNat]at this;exact this h b
theorem GC{x:Nat}{s:yZ}(h:pM x s=true):nx x s<64:=(sK h).2
theorem re(s:yZ):∀n x,∀y∈nv s n x,y<64
 | 0,_,y,h=>by cases h
 | n+1,x,y,h=>by
   unfold nv at h;split at h
   ·rename_i hon;rcases List.mem_cons.1 h with rfl|h
    ·exact GC hon
    ·exact re s n _ y h
   ·cases h
theorem Fh(k x:Nat):(rr k x)[0]?=if pM x (jU k)then some (nx x (jU k))else none:=by
 unfold rr nv;split<;>rfl
theorem rH{k x i y:Nat}(hk:k<8)(hx:x<64)(h:(rr k x)[i]?=some y):y<64/\LI (x:Int) (y:Int)=i+1/\(if k%2=0 then yd (x:Int) (y:Int)else yg (x:Int) (y:Int))=true/\∀j,j<=i->(rr k x)[j]?=some (pI (x:Int) (y:Int) (j+1)).toNat:=by
 have hi:i<8:=by
  have h1:=(List.getElem?_eq_some_iff.1 h).1;have h2:=il (jU k) 8 x;unfold rr at h1;omega
 have:=Dm k hk x hx i hi;unfold C6 at this;rw[h]at this;simp only[qH,qG,qW,qK]at this;exact⟨this.1.1.1,this.1.1.2,this.1.2,fun j hj=>this.2 j (by omega)⟩
theorem qkk{z:Nat->UInt8}{k x y:Nat}(hk:k<8)(hx:x<64):y∈kq z (jU k) x↔y∈rr k x/\freeI (zI z) (pI (x:Int) (y:Int)) (LI (x:Int) (y:Int))=true:=by
 have e46:∀v,z v=46↔zI z v=46:=fun v=>by
  unfold zI;constructor
  ·intro h;rw[h];rfl
  ·intro h;apply q6.1;have:(z v).toNat=46:=by omega
   rw[this];rfl
 unfold kq;rw[uH,ul];unfold freeI;rw[qG];constructor
 ·rintro⟨i,h1,h2⟩;obtain⟨a1,a2,a3,a4⟩:=rH hk hx h1;refine⟨List.mem_iff_getElem?.2 ⟨i,h1⟩,fun t ht t1=>?_⟩;have h3:=a4 (t-1) (by omega);rw[show t-1+1=t from by omega]at h3;exact(e46 _).1 (h2 (t-1) (by omega) _ h3)
 ·rintro⟨h1,h2⟩;obtain⟨i,h1⟩:=List.mem_iff_getElem?.1 h1;obtain⟨a1,a2,a3,a4⟩:=rH hk hx h1;refine⟨i,h1,fun j hj v hv=>?_⟩;have h3:=a4 j (by omega);rw[show nv (jU k) 8 x=rr k x from rfl,h3]at hv;rw[<-qP hv];exact(e46 _).2 (h2 (j+1) (by omega) (by omega))
theorem dw{z:Nat->UInt8}{i x y:Nat}{s:Int}(hi:vx i=true)(hx:x<64)(hy:y<64):(∃k,k<8/\FU i k=true/\y∈kq z (jU k) x)↔xS (zI z) i s (x:Int) (y:Int)=true:=by
 have ha:xS (zI z) i s (x:Int) (y:Int)=(((i==3||i==4)&&yd (x:Int) (y:Int)||(i==2||i==4)&&yg (x:Int) (y:Int))&&freeI (zI z) (pI (x:Int) (y:Int)) (LI (x:Int) (y:Int))):=by
  have:i=2\/i=3\/i=4:=by simp[vx]at hi;omega
  rcases this with rfl|rfl|rfl<;>simp[xS]
 rw[ha,qH,Bool.or_eq_true,qH,qH];constructor
 ·rintro⟨k,hk,hp,hm⟩;obtain⟨m1,m2⟩:=(qkk hk hx).1 hm;obtain⟨j,hj⟩:=List.mem_iff_getElem?.1 m1;obtain⟨a1,a2,a3,a4⟩:=rH hk hx hj;refine⟨?_,m2⟩;unfold FU at hp;split at hp
  ·rename_i h2;rw[qI h2]at a3;exact .inl ⟨hp,a3⟩
  ·rename_i h2;rw[qF h2]at a3;exact .inr ⟨hp,a3⟩
 ·rintro⟨h1,h2⟩;rcases h1 with⟨p1,p2⟩|⟨p1,p2⟩
  ·obtain⟨k,hk,hm⟩:=qY.1 (GA x hx y hy p2);have hk':k<8/\k%2=0:=by simp at hk;omega
   exact⟨k,hk'.1,by unfold FU;rw[qI hk'.2];exact p1,(qkk hk'.1 hx).2 ⟨by simpa using hm,h2⟩⟩
  ·obtain⟨k,hk,hm⟩:=qY.1 (GB x hx y hy p2);have hk':k<8/\¬ (k%2=0):=by simp at hk;omega
   exact⟨k,hk'.1,by unfold FU;rw[qF hk'.2];exact p1,(qkk hk'.1 hx).2 ⟨by simpa using hm,h2⟩⟩
theorem qki{z:Nat->UInt8}{p:Nat}(hp:p<12)(h:vx (p%6)=false)(bw:Bool)(hb:p/6=bg bw/6)(x y:Int):gG p x y=xS (zI z) (p%6) (xK bw) x y:=by
 have hs:(if p<6 then(1:Int)else -1)=xK bw:=by
  cases bw
  ·rw[qF (by simp[bg]at hb;omega)];rfl
  ·rw[qI (by simp[bg]at hb;omega)];rfl
 unfold gG;rw[hs];have:p%6=0\/p%6=1\/p%6=5:=by simp[vx]at h;omega
 rcases this with e|e|e<;>(rw[e];simp[xS])
theorem gy(z:Nat->UInt8)(s:yZ)(x:Nat):(kq z s x).take 1=if pM x s then[nx x s]else[]:=by
 unfold kq uW;split<;>rfl
theorem Dq{z:Nat->UInt8}{f:Nat}(hf:f<64){bw:Bool}{i:Nat}(hi:i<6)(hc:jB (z f)=((bg bw+i:Nat):Int)){y:Nat}(hy:y<64):y∈zU z f 16↔xS (zI z) i (xK bw) (f:Int) (y:Int)=true:=by
 have hbg:bg bw=0\/bg bw=6:=by cases bw<;>simp[bg]
 have hp:bg bw+i<12:=by omega
 have hz:=jn hp hc;have hm:(bg bw+i)%6=i:=by omega
 have hd:(bg bw+i)/6=bg bw/6:=by omega
 unfold zU;rw[List.mem_flatMap];cases hfar:vx i with
 | true =>
  rw[<-dw (s:=xK bw) hfar hf hy];have hF:=uv (bg bw+i) hp;have hG:=qjz (bg bw+i) hp (by rw[hm];exact hfar);rw[hm]at hF hG;constructor
  ·rintro⟨k,hk,h⟩;have hk:=qK.1 hk;unfold yj at h;rw[hz,(hG k hk).1,hF,hfar,qI rfl]at h;split at h
   ·rename_i hg;rw[qH,qG]at hg;exact⟨k,hg.1,hg.2,h⟩
   ·cases h
  ·rintro⟨k,hk,h1,h2⟩;refine⟨k,qK.2 (by omega),?_⟩;unfold yj;rw[hz,(hG k (by omega)).1,hF,hfar,qI (by rw[h1];simp[hk]),qI rfl];exact h2
 | false =>
  rw[<-hm,<-qki hp (by rw[hm];exact hfar) bw hd];have hF:=uv (bg bw+i) hp;rw[hm]at hF;constructor
  ·rintro⟨k,hk,h⟩;have hk:=qK.1 hk;unfold yj at h;rw[hz,hF,hfar,gy]at h;split at h
   ·rename_i hg;rw[qF (by simp)]at h;split at h
    ·rename_i hon;rw[qT.1 h];exact D4 _ hp (by rw[hm];exact hfar) k hk f hf (by rw[hg,hon];rfl)
    ·cases h
   ·cases h
  ·intro h;obtain⟨k,hk,h2⟩:=qY.1 (D3 _ hp (by rw[hm];exact hfar) f hf y hy h);simp only[qH,qG]at h2;refine⟨k,hk,?_⟩;unfold yj;rw[hz,hF,hfar,gy,qI h2.1.1,qF (by simp),qI h2.1.2,h2.2];exact qT.2 rfl
theorem qkz{z:Nat->UInt8}(hok:xO z=true){i:Nat}(hi:i<6)(h0:i≠0){s t:Int}{x y:Nat}(hx:x<64)(hy:y<64):xS (zI z) i s (x:Int) (y:Int)=xS (zI z) i t (y:Int) (x:Int):=by
 have e1:=F3 hok true i hi y x hy hx;have e2:=F3 hok true i hi x y hx hy;have hk:kh true i=i+2:=by unfold kh;rw[qF h0]
 rw[hk]at e1 e2;rw[FI _ i h0 s (xK true),FI _ i h0 t (xK true),<-e1,<-e2];exact px (i+2) y x (by omega) (by omega) hy hx _
theorem ji{z:Nat->UInt8}(hok:xO z=true){n:Nat}(hn:n<64):ew (z n)=true:=by
 unfold xO at hok;exact qW.1 hok n (qK.2 hn)
theorem jk{z:Nat->UInt8}(hok:xO z=true){x:Nat}(hx:x<64)(bw:Bool):vL z x bw=zM z (x:Int) bw:=by
 have hbg:bg bw=0\/bg bw=6:=by cases bw<;>simp[bg]
 rw[Bool.eq_iff_iff];unfold vL zM;rw[qY,qY];constructor
 ·rintro⟨k,hk,h⟩;have hk:=qK.1 hk;unfold kq at h;rw[uH]at h;obtain⟨i,n,h1,h2,h3⟩:=(uq z bw (jU k) _ false).1 h;have hn:n<64:=re (jU k) 8 x n (List.mem_iff_getElem?.2 ⟨i,h1⟩);unfold fQ at h3;rw[qH,qH,rt (ji hok hn),qG]at h3;obtain⟨⟨hm,hg⟩,hfr⟩:=h3;refine⟨n,qK.2 hn,?_⟩;rw[qH,qG];refine⟨hm,?_⟩;obtain⟨i',hi',e1,e2⟩:=zq hm;rw[e2];have hp:bg bw+i'<12:=by omega
  have hz:=jn hp e1;have hmd:(bg bw+i')%6=i':=by omega
  have hF:=uv (bg bw+i') hp;rw[hz,show((-(jU k).1,-(jU k).2):yZ)=pN (jU k)from rfl]at hg;rw[hz]at hfr;cases hfar:vx i' with
  | true =>
   have hG:=(qjz (bg bw+i') hp (by rw[hmd];exact hfar) k hk).2;rw[hG,hmd,qH,qG]at hg
   have hmem:n∈kq z (jU k) x:=by
    unfold kq;rw[uH];exact(ul z n _).2 ⟨i,h1,h2⟩
   rw[qkz hok hi' (by simp[vx]at hfar;omega) (t:=xK bw) hn hx];exact(dw hfar hx hn).1 ⟨k,hg.1,hg.2,hmem⟩
  | false =>
   rw[hF,hmd,hfar]at hfr
   have hi0:i=0:=by
    rcases Nat.eq_zero_or_pos i with e|e
    ·exact e
    ·simp[e]at hfr
   subst hi0;rw[show nv (jU k) 8 x=rr k x from rfl,Fh]at h1;split at h1
   ·rename_i hon;have hnx:=qP h1;have:=D1 _ hp (by rw[hmd];exact hfar) k hk x hx (by rw[hg,hon];rfl);rw[hnx,qki (z:=z) hp (by rw[hmd];exact hfar) bw (by omega),hmd]at this;exact this
   ·cases h1
 ·rintro⟨n,hn,h⟩;have hn:=qK.1 hn;rw[qH,qG]at h;obtain⟨hm,ha⟩:=h;obtain⟨i',hi',e1,e2⟩:=zq hm;rw[e2]at ha;have hp:bg bw+i'<12:=by omega
  have hz:=jn hp e1;have hmd:(bg bw+i')%6=i':=by omega
  have hF:=uv (bg bw+i') hp;rw[hmd]at hF;have hman:kw (z n) bw=true:=by rw[rt (ji hok hn)];exact qJ hm
  cases hfar:vx i' with
  | true =>
   rw[qkz hok hi' (by simp[vx]at hfar;omega) (t:=xK bw) hn hx]at ha;obtain⟨k,hk,hpr,hmem⟩:=(dw hfar hx hn).2 ha;have hG:=(qjz (bg bw+i') hp (by rw[hmd];exact hfar) k (by omega)).2;refine⟨k,qK.2 (by omega),?_⟩;unfold kq at hmem ⊢;rw[uH]at hmem ⊢;obtain⟨i,h1,h2⟩:=(ul z n _).1 hmem;refine(uq z bw (jU k) _ false).2 ⟨i,n,h1,h2,?_⟩;unfold fQ;rw[hman,hz,show((-(jU k).1,-(jU k).2):yZ)=pN (jU k)from rfl,hG,hmd,hpr,hF,hfar];simp[hk]
  | false =>
   rw[<-hmd,<-qki hp (by rw[hmd];exact hfar) bw (by omega)]at ha;obtain⟨k,hk,h2⟩:=qY.1 (D0 _ hp (by rw[hmd];exact hfar) x hx n hn ha);simp only[qH,qG]at h2;refine⟨k,hk,?_⟩;unfold kq;rw[uH];refine(uq z bw (jU k) _ false).2 ⟨0,n,?_,fun j hj=>absurd hj (Nat.not_lt_zero j),?_⟩
   ·rw[show nv (jU k) 8 x=rr k x from rfl,Fh,qI h2.1.2,h2.2]
   ·unfold fQ;rw[hman,hz,show((-(jU k).1,-(jU k).2):yZ)=pN (jU k)from rfl,h2.1.1];simp
structure kJ(z:Nat->UInt8)(wh:Bool)(fc:Nat->Bool)(b:Int):Prop where
 ok:xO z=true
 k1:∀bb,vZ z bb 64=1
 pw:∀bb:Bool,∀n,n<64->jB (z n)=((bg bb:Nat):Int)->¬ (n/8=0\/n/8=7)
 c0:fc 0=true->z 4=75/\z 7=82
 c1:fc 1=true->z 4=75/\z 0=82
 c2:fc 2=true->z 60=107/\z 63=114
 c3:fc 3=true->z 60=107/\z 56=114
 beh:xX z wh b=true
theorem uc{c:UInt8}{n:Int}{d:UInt8}(h:(c.toNat:Int)=n)(hd:(d.toNat:Int)=n):c=d:=q6.1 (by omega)
theorem qkv{z:Nat->UInt8}{wh:Bool}{fc:Nat->Bool}{b h g:Int}(hc:k6 z wh fc b h g=true):kJ z wh fc b:=by
 unfold k6 cK at hc;simp only[qH]at hc;obtain⟨hok,⟨⟨⟨⟨h1,h2⟩,h3⟩,h4⟩,_⟩,_⟩:=hc;have hs:∀bb,vM (xD z 64) bb=true:=fun bb=>by cases bb<;>assumption
 have hca:∀i,i<4->zX z fc i=true:=fun i hi=>qW.1 h3 i (qK.2 hi)
 have cc:∀ks kl rs rl k (a d:UInt8),(a.toNat:Int)=kl->(d.toNat:Int)=rl->xN z fc ks kl rs rl k=true->fc k=true->z ks=a/\z rs=d:=by
  intro ks kl rs rl k a d ha hd h hf;unfold xN at h;rw[hf]at h;simp only[Bool.not_true,Bool.false_or,qH,qG]at h;exact⟨uc h.1 ha,uc h.2 hd⟩
 refine⟨hok,fun bb=>?_,fun bb=>?_,cc _ _ _ _ _ _ _ rfl rfl (hca 0 (by omega)),cc _ _ _ _ _ _ _ rfl rfl (hca 1 (by omega)),cc _ _ _ _ _ _ _ rfl rfl (hca 2 (by omega)),cc _ _ _ _ _ _ _ rfl rfl (hca 3 (by omega)),h4⟩
 ·have:=hs bb;unfold vM at this;simp only[qH,qG]at this;have h:=this.1.1;rw[qxu]at h;omega
 ·have:=hs bb;unfold vM at this;simp only[qH,qG]at this;exact(Ft z bb).1 this.2
theorem d7{z:Nat->UInt8}(hok:xO z=true){n:Nat}(hn:n<64):(j0 (xD z 64)).getLsbD n=!(z n==46):=by
 rw[pi z n hn];have h:=ji hok hn;rw[bf]at h;cases hz:(z n==46)with
 | true =>
  have:z n=46:=by simpa using hz
  rw[this];decide +kernel
 | false=>rw[hz,Bool.false_or]at h;simpa using h
theorem Dr(m:Nat->BitVec 64)(wh:Bool):xZ m wh ||| xZ m (!wh)=j0 m:=by
 cases wh
 ·exact BitVec.or_comm _ _
 ·rfl
theorem qzb{z:Nat->UInt8}(hok:xO z=true){wh:Bool}{i:Nat}(hi:i<6){f t:Nat}(hf:f<64)(ht:t<64):(jW (v7 wh i) f (j0 (xD z 64))).getLsbD t=xS (zI z) i (xK wh) (f:Int) (t:Int):=by
 by_cases h:i=0
 ·subst h;cases wh
  ·show(jW 2 f _).getLsbD t=_;have e1:jW 2 f (j0 (xD z 64))=FX f:=rfl;rw[e1,wE f hf t ht];rfl
  ·show(jW 1 f _).getLsbD t=_;have e1:jW 1 f (j0 (xD z 64))=E4 f:=rfl;rw[e1,oL f hf t ht];rfl
 ·have hk:v7 wh i=i+2:=by unfold v7;rw[qF h]
  have e2:=F3 hok true i hi f t hf ht;have hk2:kh true i=i+2:=by unfold kh;rw[qF h]
  rw[hk,<-hk2,e2];exact qkz hok hi h ht hf
theorem qkh(s:BitVec 64){n:Nat}(hn:n<64):(~~~s).getLsbD n=!(s.getLsbD n):=by
 rw[BitVec.getLsbD_not];simp[hn]
theorem dZ{z:Nat->UInt8}(hok:xO z=true)(wh:Bool){n:Nat}(hn:n<64):(xZ (xD z 64) wh).getLsbD n=kw (z n) wh:=by
 rw[qjt z wh n hn,rt (ji hok hn)]
theorem Dz:∀p,p<12->jD (yQ p)=decide (p%6=0)/\jA (yQ p)=decide (p%6=5):=by decide +kernel
theorem zj{z:Nat->UInt8}{wh:Bool}{i f:Nat}(hi:i<6)(hc:jB (z f)=((bg wh+i:Nat):Int)):jD (z f)=decide (i=0)/\jA (z f)=decide (i=5):=by
 have hbg:bg wh=0\/bg wh=6:=by cases wh<;>simp[bg]
 rw[jn (by omega) hc];have:=Dz (bg wh+i) (by omega)
 rwa[show(bg wh+i)%6=i from by omega]at this
theorem oe{z:Nat->UInt8}{wh:Bool}{fc:Nat->Bool}{b:Int}(hok:xO z=true){i f t:Nat}(h0:i≠0)(h5:i≠5)(hi:i<6)(hf:f<64)(ht:t<64)(hc:jB (z f)=((bg wh+i:Nat):Int)) :
  t∈yF z wh fc b f↔(kN (xD z 64) wh (xZ (xD z 64) wh) (xZ (xD z 64) (!wh)) (vV b) fc i (v7 wh i) f).getLsbD t=true:=by
 obtain⟨hp,hk⟩:=zj hi hc;rw[qE h0]at hp;rw[qE h5]at hk;unfold yF kN;rw[hp,hk,qF h0,qF h5,Dr,BitVec.getLsbD_and,qzb hok hi hf ht,qkh _ ht,dZ hok wh ht,qH,<-Dq hf hi hc ht];simp only[qR,if_false,List.append_nil,qV];unfold yG;rw[hp,qF (by simp)]
def fw(wh:Bool)(f k:Nat):Nat:=if wh then f+8*k else f-8*k
def vQ(wh:Bool)(f:Nat):Bool:=decide (f/8=(if wh then 1 else 6))
def oB(z:Nat->UInt8)(wh:Bool)(f t:Nat):Prop:=(t=fw wh f 1/\z (fw wh f 1)=46)\/(vQ wh f=true/\t=fw wh f 2/\z (fw wh f 1)=46/\z (fw wh f 2)=46)
theorem HC:∀wh:Bool,∀f,f<64->(decide (f/8=0)||decide (f/8=7))=false->pM f (0,uM wh)=true/\nx f (0,uM wh)=fw wh f 1:=by decide +kernel
theorem Ex:∀wh:Bool,∀f,f<64->vQ wh f=true->pM (fw wh f 1) (0,uM wh)=true/\nx (fw wh f 1) (0,uM wh)=fw wh f 2:=by decide +kernel
theorem iS(z:Nat->UInt8)(s:yZ)(n x:Nat):uW z s (n+1) x=if pM x s then nx x s :: (if z (nx x s)=46 then uW z s n (nx x s)else[])else[]:=rfl
theorem Fq{z:Nat->UInt8}{wh:Bool}{f t:Nat}(hf:f<64)(hr:¬ (f/8=0\/f/8=7)):t∈cW z (yx wh f) (kq z (0,uM wh) f)↔oB z wh f t:=by
 obtain⟨o1,n1⟩:=HC wh f hf (by simpa using hr)
 have e1:kq z (0,uM wh) f=fw wh f 1 :: (if z (fw wh f 1)=46 then uW z (0,uM wh) 7 (fw wh f 1)else[]):=by
  show uW z (0,uM wh) (7+1) f=_;rw[iS,qI o1,n1]
 unfold cW oB;rw[e1];by_cases hz:z (fw wh f 1)=46
 ·rw[qI hz];cases hs:vQ wh f with
  | false =>
   have hm:yx wh f=1:=by unfold yx;unfold vQ at hs;rw[qF (by simpa using hs)]
   rw[hm];simp[hz]
  | true =>
   have hm:yx wh f=2:=by unfold yx;unfold vQ at hs;rw[qI (by simpa using hs)]
   obtain⟨o2,n2⟩:=Ex wh f hf hs
   have e2:uW z (0,uM wh) 7 (fw wh f 1)=fw wh f 2 :: (if z (fw wh f 2)=46 then uW z (0,uM wh) 6 (fw wh f 2)else[]):=by
    show uW z (0,uM wh) (6+1) (fw wh f 1)=_;rw[iS,qI o2,n2]
   rw[hm,e2];by_cases hz2:z (fw wh f 2)=46
   ·simp[hz,hz2]
   ·simp[hz,hz2]
 ·rw[qF hz]
  have:((List.take (yx wh f) [fw wh f 1]).takeWhile fun v=>z v==46)=[]:=by
   cases yx wh f with
   | zero=>rfl
   | succ n=>simp[hz]
  rw[this];simp[hz]
theorem sF:∀f,f<64->∀t,t<64->(pK (1#64 <<< f) (yV true)).getLsbD t=decide (t=f+8):=by decide +kernel
theorem sG:∀f,f<64->∀t,t<64->(pK (1#64 <<< f) (yV false)).getLsbD t=decide (t+8=f):=by decide +kernel
theorem AY:∀t,t<64->(uB true).getLsbD t=decide (t/8=2):=by decide +kernel
theorem AZ:∀t,t<64->(uB false).getLsbD t=decide (t/8=5):=by decide +kernel
theorem oT(s:BitVec 64){t:Nat}(ht:t<64):(pK s (yV true)).getLsbD t=(!decide (t<8)&&s.getLsbD (t-8)):=by
 show(s <<< 8).getLsbD t=_;rw[BitVec.getLsbD_shiftLeft];simp[ht]
theorem oU(s:BitVec 64)(t:Nat):(pK s (yV false)).getLsbD t=s.getLsbD (8+t):=by
 show(s >>> 8).getLsbD t=_;rw[BitVec.getLsbD_ushiftRight]
theorem Cr{z:Nat->UInt8}(hok:xO z=true){wh:Bool}{f t:Nat}(hf:f<64)(ht:t<64)(hr:¬ (f/8=0\/f/8=7)):(k7 wh (xZ (xD z 64) wh) (xZ (xD z 64) (!wh)) f).getLsbD t=true↔oB z wh f t:=by
 unfold k7 iv;rw[Dr]
 have hd:∀n,n<64->((~~~(j0 (xD z 64))).getLsbD n=true↔z n=46):=fun n hn=>by
  rw[qkh _ hn,d7 hok hn,Bool.not_not,beq_iff_eq]
 unfold oB;cases wh
 ·rw[BitVec.getLsbD_or,BitVec.getLsbD_and,BitVec.getLsbD_and,sG f hf t ht,oU,BitVec.getLsbD_and,BitVec.getLsbD_and];have hs:vQ false f=decide (f/8=6):=rfl;have f1:fw false f 1=f-8:=rfl;have f2:fw false f 2=f-16:=rfl;rw[hs,f1,f2];by_cases h8:8+t<64
  ·rw[sG f hf (8+t) h8,AZ (8+t) h8];simp only[Bool.or_eq_true,qH,qG,hd t ht,hd (8+t) h8];constructor
   ·rintro(⟨a,b⟩|⟨⟨⟨a,b⟩,c⟩,d⟩)
    ·left;have:f-8=t:=by omega
     rw[this];exact⟨rfl,b⟩
    ·right;have e1:f-8=8+t:=by omega
     have e2:f-16=t:=by omega
     rw[e1,e2];exact⟨by omega,rfl,b,d⟩
   ·rintro(⟨a,b⟩|⟨a,b,c,d⟩)
    ·left;rw[<-a]at b;exact⟨by omega,b⟩
    ·right;have e1:f-8=8+t:=by omega
     have e2:f-16=t:=by omega
     rw[e1]at c;rw[e2]at d;exact⟨⟨⟨by omega,c⟩,by omega⟩,d⟩
  ·have hz0:(pK (1#64 <<< f) (yV false)).getLsbD (8+t)=false:=BitVec.getLsbD_of_ge _ _ (by omega);rw[hz0];simp only[Bool.false_and,Bool.or_false,qH,qG,hd t ht];constructor
   ·rintro⟨a,b⟩;omega
   ·rintro(⟨a,b⟩|⟨a,b,c,d⟩)<;>omega
 ·rw[BitVec.getLsbD_or,BitVec.getLsbD_and,BitVec.getLsbD_and,sF f hf t ht,oT _ ht,BitVec.getLsbD_and,BitVec.getLsbD_and];have hs:vQ true f=decide (f/8=1):=rfl;have f1:fw true f 1=f+8:=rfl;have f2:fw true f 2=f+16:=rfl;rw[hs,f1,f2];by_cases h8:t<8
  ·simp only[h8,decide_true,Bool.not_true,Bool.false_and,Bool.or_false,qH,qG,hd t ht];constructor
   ·rintro⟨a,b⟩;omega
   ·rintro(⟨a,b⟩|⟨a,b,c,d⟩)<;>omega
  ·rw[sF f hf (t-8) (by omega),AY (t-8) (by omega)];simp only[h8,decide_false,Bool.not_false,Bool.true_and,Bool.or_eq_true,qH,qG,hd t ht,hd (t-8) (by omega)];constructor
   ·rintro(⟨a,b⟩|⟨⟨⟨a,b⟩,c⟩,d⟩)
    ·left;rw[<-a];exact⟨rfl,b⟩
    ·right;have e1:f+8=t-8:=by omega
     have e2:f+16=t:=by omega
     rw[e1,e2];exact⟨by omega,rfl,b,d⟩
   ·rintro(⟨a,b⟩|⟨a,b,c,d⟩)
    ·left;rw[<-a]at b;exact⟨a,b⟩
    ·right;have e1:f+8=t-8:=by omega
     have e2:f+16=t:=by omega
     rw[e1]at c;rw[e2]at d;exact⟨⟨⟨by omega,c⟩,by omega⟩,d⟩
theorem lU{b:Int}(h0:-1<=b)(h1:b<=63){t:Nat}(ht:t<64):(vV b).getLsbD t=((t:Int)==b):=by
 unfold vV;split
 ·rw[ze b.toNat (by omega) t ht];rw[Bool.eq_iff_iff,qG,beq_iff_eq];omega
 ·rw[BitVec.getLsbD_zero];symm;rw[qM];omega
theorem lw{z:Nat->UInt8}{wh:Bool}{fc:Nat->Bool}{b:Int}(hC:kJ z wh fc b)(h0:-1<=b)(h1:b<=63){f t:Nat}(hf:f<64)(ht:t<64)(hc:jB (z f)=((bg wh:Nat):Int)) :
  t∈yF z wh fc b f↔(kN (xD z 64) wh (xZ (xD z 64) wh) (xZ (xD z 64) (!wh)) (vV b) fc 0 (v7 wh 0) f).getLsbD t=true:=by
 have hok:=hC.ok;have hr:=hC.pw wh f hf hc;obtain⟨hp,hk⟩:=zj (i:=0) (by omega) hc;rw[qJ rfl]at hp;unfold yF kN;rw[hp,qI rfl,qI rfl,List.mem_append,BitVec.getLsbD_or,Bool.or_eq_true,Fq hf hr,Cr hok hf ht hr,Dr,BitVec.getLsbD_and,qzb hok (by omega) hf ht,BitVec.getLsbD_or,dZ hok (!wh) ht,lU h0 h1 ht,qH,qV,<-Dq hf (i:=0) (by omega) hc ht];unfold yG;rw[hp,qI rfl,Bool.or_comm]
theorem FO{z:Nat->UInt8}{bb:Bool}(h:vZ z bb 64=1){f g:Nat}(hf:f<64)(hg:g<64)(ef:jB (z f)=((bg bb+5:Nat):Int))(eg:jB (z g)=((bg bb+5:Nat):Int)):f=g:=by
 obtain⟨y,hy,hs,_⟩:=js h
 have mem:∀n,n<64->jB (z n)=((bg bb+5:Nat):Int)->n=y:=fun n hn e=>by
  have:n∈vD (xD z 64 (bg bb+5)):=by
   unfold vD;rw[qV,qK,vH z _ n hn];exact⟨hn,qJ e⟩
  rw[hs]at this;exact qT.1 this
 rw[mem f hf ef,mem g hg eg]
def hK(i:Nat):Nat:=if i<2 then 4 else 60
def hD(i:Nat):Int:=if i%2=0 then 1 else -1
def hN(i:Nat):Nat:=if i%2=0 then 2 else 3
theorem co:∀i,i<4->∀n,n<64->(yX i).getLsbD n=((List.range (hN i)).any fun j=>decide (kC (hK i) (hD i) (j+1)=n)):=by decide +kernel
theorem eD:∀i,i<4->∀j,j<5->(j<hN i+1)->kC (hK i) (hD i) j<64:=by decide +kernel
theorem Cz:∀i,i<4->∀y,y<64->(yW i).getLsbD y=((List.range 3).any fun j=>decide (kC (hK i) (hD i) j=y)):=by decide +kernel
theorem aV{z:Nat->UInt8}(hok:xO z=true){wh:Bool}{fc:Nat->Bool}{i:Nat}(hi:i<4)(hw:wh=decide (i<2)):yD (xD z 64) wh (xZ (xD z 64) wh) (xZ (xD z 64) (!wh)) fc i=(fc i&&az z wh (hK i) (hD i) (hN i)):=by
 have e1:decide (j0 (xD z 64) &&& yX i=0#64)=wn z (hK i) (hD i) (hN i):=by
  rw[Bool.eq_iff_iff,qG,qkw];unfold wn;rw[qW];constructor
  ·intro h j hj;have hj:=qK.1 hj;have hN3:hN i<=3:=by unfold hN;split<;>omega
   have hl:=eD i hi (j+1) (by omega) (by omega);have:=h _ hl;rw[BitVec.getLsbD_and,d7 hok hl,co i hi _ hl]at this;have hany:((List.range (hN i)).any fun j'=>decide (kC (hK i) (hD i) (j'+1)=kC (hK i) (hD i) (j+1)))=true:=qY.2 ⟨j,qK.2 hj,by simp⟩;rw[hany,Bool.and_true]at this;simpa using this
  ·intro h n hn;rw[BitVec.getLsbD_and,co i hi n hn];cases ha:((List.range (hN i)).any fun j=>decide (kC (hK i) (hD i) (j+1)=n))with
   | false=>rw[Bool.and_false]
   | true =>
    obtain⟨j,hj,e⟩:=qY.1 ha;rw[qG]at e;have:=h j hj;rw[e]at this;rw[d7 hok hn,this];rfl
 have e2:(!(uG (xD z 64) (yW i) wh))=DD z wh (hK i) (hD i):=by
  unfold uG DD;rw[Bool.eq_iff_iff,Bool.not_eq_true',List.any_eq_false,qW];constructor
  ·intro h j hj;have hj:=qK.1 hj;have hl:=eD i hi j (by omega) (by unfold hN;split<;>omega)
   have hm:kC (hK i) (hD i) j∈vD (yW i):=by
    unfold vD;rw[qV,qK,Cz i hi _ hl];exact⟨hl,qY.2 ⟨j,qK.2 hj,by simp⟩⟩
   have:=h _ hm;rw[xu hok _ _ hl,<-jk hok hl]at this;simpa using this
  ·intro h y hy;unfold vD at hy;rw[qV,qK]at hy;rw[Cz i hi y hy.1]at hy;obtain⟨j,hj,e⟩:=qY.1 hy.2;rw[qG]at e;have:=h j hj;rw[e]at this;rw[xu hok _ _ hy.1,<-jk hok hy.1];simpa using this
 unfold yD az;rw[Dr,e1,e2,hw];simp[Bool.and_assoc]
theorem nF(m:Nat->BitVec 64)(wh:Bool)(own oth:BitVec 64)(fc:Nat->Bool){t:Nat}(ht:t<64):(kp m wh own oth fc 4).getLsbD t=((List.range 4).any fun i=>yD m wh own oth fc i&&decide (t=xE i)):=by
 have hT:∀i,xE i<64:=fun i=>by unfold xE;split<;>(try split)<;>(try split)<;>omega
 have step:∀k,(kp m wh own oth fc (k+1)).getLsbD t=((kp m wh own oth fc k).getLsbD t||(yD m wh own oth fc k&&decide (t=xE k))):=fun k=>by
  show(if yD m wh own oth fc k then kp m wh own oth fc k ||| 1#64 <<< xE k else kp m wh own oth fc k).getLsbD t=_;cases h:yD m wh own oth fc k
  ·simp
  ·rw[qI rfl,BitVec.getLsbD_or,ze _ (hT k) t ht,Bool.true_and]
 rw[step,step,step,step];show((((0#64).getLsbD t||_)||_)||_||_)=_;rw[BitVec.getLsbD_zero];simp[List.range_succ,Bool.or_assoc]
theorem FK{z:Nat->UInt8}{wh:Bool}{fc:Nat->Bool}{b:Int}(hC:kJ z wh fc b){f:Nat}(hf:f<64)(hc:jB (z f)=((bg wh+5:Nat):Int)):(fc (jC wh)=true->f=hK (jC wh))/\(fc (jC wh+1)=true->f=hK (jC wh+1)):=by
 have k75:jB 75=((bg true+5:Nat):Int):=by decide +kernel
 have k107:jB 107=((bg false+5:Nat):Int):=by decide +kernel
 cases wh
 ·exact⟨fun h=>FO (hC.k1 false) hf (by decide) hc (by rw[show hK (jC false)=60 from rfl,(hC.c2 h).1];exact k107),fun h=>FO (hC.k1 false) hf (by decide) hc (by rw[show hK (jC false+1)=60 from rfl,(hC.c3 h).1];exact k107)⟩
 ·exact⟨fun h=>FO (hC.k1 true) hf (by decide) hc (by rw[show hK (jC true)=4 from rfl,(hC.c0 h).1];exact k75),fun h=>FO (hC.k1 true) hf (by decide) hc (by rw[show hK (jC true+1)=4 from rfl,(hC.c1 h).1];exact k75)⟩
theorem tp{z:Nat->UInt8}{wh:Bool}{fc:Nat->Bool}{b:Int}(hC:kJ z wh fc b){f t:Nat}(hf:f<64)(ht:t<64)(hc:jB (z f)=((bg wh+5:Nat):Int)):t∈uz z wh fc f++pA z wh fc f↔(kp (xD z 64) wh (xZ (xD z 64) wh) (xZ (xD z 64) (!wh)) fc 4).getLsbD t=true:=by
 obtain⟨h1,h2⟩:=FK hC hf hc
 have off:∀i,wh≠decide (i<2)->yD (xD z 64) wh (xZ (xD z 64) wh) (xZ (xD z 64) (!wh)) fc i=false:=fun i h=>by
  unfold yD;have:(wh==decide (i<2))=false:=qM.2 h;rw[this];simp
 rw[nF _ _ _ _ _ ht,List.mem_append]
 have hR:t∈uz z wh fc f↔(fc (jC wh)&&az z wh (hK (jC wh)) (hD (jC wh)) (hN (jC wh)))=true/\t=xE (jC wh):=by
  unfold uz;cases hfc:fc (jC wh)with
  | false=>simp
  | true =>
   have:=h1 hfc;subst this;have e:hK (jC wh)+2=xE (jC wh)/\hD (jC wh)=1/\hN (jC wh)=2:=by cases wh<;>decide
   rw[e.1,e.2.1,e.2.2];split
   ·rename_i hh;rw[hh];simp
   ·rename_i hh;simp only[Bool.not_eq_true]at hh;rw[hh];simp
 have hM:t∈pA z wh fc f↔(fc (jC wh+1)&&az z wh (hK (jC wh+1)) (hD (jC wh+1)) (hN (jC wh+1)))=true/\t=xE (jC wh+1):=by
  unfold pA;cases hfc:fc (jC wh+1)with
  | false=>simp
  | true =>
   have:=h2 hfc;subst this;have e:hK (jC wh+1)-2=xE (jC wh+1)/\hD (jC wh+1)=-1/\hN (jC wh+1)=3:=by cases wh<;>decide
   rw[e.1,e.2.1,e.2.2];split
   ·rename_i hh;rw[hh];simp
   ·rename_i hh;simp only[Bool.not_eq_true]at hh;rw[hh];simp
 rw[hR,hM,<-aV hC.ok (by cases wh<;>decide) (by cases wh<;>rfl),<-aV hC.ok (by cases wh<;>decide) (by cases wh<;>rfl)]
 rw[qY];constructor
 ·rintro(⟨a,e⟩|⟨a,e⟩)
  ·exact⟨jC wh,by cases wh<;>decide,by rw[a,e];simp⟩
  ·exact⟨jC wh+1,by cases wh<;>decide,by rw[a,e];simp⟩
 ·rintro⟨i,hi,h⟩;rw[qH,qG]at h;have hi:=qK.1 hi;by_cases hw:wh=decide (i<2)
  ·have:i=jC wh\/i=jC wh+1:=by
    cases wh
    ·have:¬ i<2:=by simpa using hw.symm
     show i=2\/i=3;omega
    ·have:i<2:=by simpa using hw.symm
     show i=0\/i=1;omega
   rcases this with e|e
   ·rw[e]at h;exact .inl h
   ·rw[e]at h;exact .inr h
  ·rw[off i hw]at h;exact absurd h.1 (by simp)
theorem lz{z:Nat->UInt8}{wh:Bool}{fc:Nat->Bool}{b:Int}(hC:kJ z wh fc b){f t:Nat}(hf:f<64)(ht:t<64)(hc:jB (z f)=((bg wh+5:Nat):Int)) :
  t∈yF z wh fc b f↔(kN (xD z 64) wh (xZ (xD z 64) wh) (xZ (xD z 64) (!wh)) (vV b) fc 5 (v7 wh 5) f).getLsbD t=true:=by
 have hok:=hC.ok;obtain⟨hp,hk⟩:=zj (i:=5) (by omega) hc;rw[qE (by omega)]at hp;rw[qJ rfl]at hk;have hcl:=tp hC hf ht hc;unfold yF kN;rw[hp,hk,qF (by simp),qI rfl,qF (by omega),qI rfl,List.mem_append,BitVec.getLsbD_or,Bool.or_eq_true,hcl,Dr,BitVec.getLsbD_and,qzb hok (by omega) hf ht,qkh _ ht,dZ hok wh ht,qH,qV,<-Dq hf (i:=5) (by omega) hc ht];unfold yG;rw[hp,qF (by simp)]
theorem ph{z:Nat->UInt8}{wh:Bool}{fc:Nat->Bool}{b:Int}(hC:kJ z wh fc b)(h0:-1<=b)(h1:b<=63){i f t:Nat}(hi:i<6)(hf:f<64)(ht:t<64)(hc:jB (z f)=((bg wh+i:Nat):Int)) :
  t∈yF z wh fc b f↔(kN (xD z 64) wh (xZ (xD z 64) wh) (xZ (xD z 64) (!wh)) (vV b) fc i (v7 wh i) f).getLsbD t=true:=by
 by_cases e0:i=0
 ·subst e0;exact lw hC h0 h1 hf ht hc
 ·by_cases e5:i=5
  ·subst e5;exact lz hC hf ht hc
  ·exact oe hC.ok e0 e5 hi hf ht hc
end Go.Proofs.YtnfakamfmkhlbabGreatDoor.C
