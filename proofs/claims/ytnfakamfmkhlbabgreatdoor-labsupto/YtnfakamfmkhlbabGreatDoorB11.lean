import Derived.Test.YtnfakamfmkhlbabGreatDoorB10
set_option maxRecDepth 100000
set_option maxHeartbeats 4000000
set_option linter.all false
open Go.Value renaming int->I,bool->Za,string->Zb,agg->Zc,tuple->Ze,slice->Zq
open Go.IntKind renaming i64->L,u8->Zg,u64->Zh
open Go.Obj renaming cells->Z
open Go.Ending renaming returned->Zd
open Or renaming inl->Zi,inr->Zj
open Option renaming some->S,none->N
open Bool renaming true->Zk,false->Zl
open Decidable renaming decide->Zm
open Go.RowKit renaming Hid->Y
open Go renaming World->I6,Value->I7
namespace Go.Proofs.YtnfakamfmkhlbabGreatDoor.C
open Go.ChangeShapes Go.WideShapes Go.ChangeAt Go.RowKit Go.Shelf Go.Proofs.YtnfakamfmkhlbabGreatDoor.P Tryz
attribute [local go_sem] qd qe Oper.semAt_some
variable {z:I2}{wh:Bool}{b h m:Int}{PA A M:I0}{fc:I5}{w W a w' w1 V:I6}{f n i k g base d e l j x B Bp:Nat}{v:I7}{u:UInt8}{Q:Nat->Obj->Prop}{rs:I3}{y:I1}
def ku:I0:=#[.nilFunc,.nilFunc]
def mc:I0:=zG 64 65
def jP:I0:=zG 60 61
theorem yU:(prog.info? 74).map (·.size)=S 2:=WR
theorem qxi(a b:Nat):(zG a b).all (·.oneCell')=Zk:=by simp[zG,Value.oneCell']
theorem gF:ku.all (·.oneCell')=Zk:=by simp[ku,Value.oneCell']
theorem qxk(w:I6):ZL 33 #[] w (Zc jP):=by go_enter func33,ntmps33;go_wp2_with(refine ZU R 74 _ _ R w.heap.size jP R R 74 ku Zv yU R (qxi _ _) ?_);exact ZS (v:=Zc jP) (Yp results33 _ _ w.heap.size 74 _ (0,0) _ R (Zt (Z7 w _)) underlying74 rfl yU) R ⟨R,ZN.setRow _ Zy _⟩
def FV(n:Int):I7:=if n=1 then Ze #[Zc mc,Za Zk]else if n=2 then Ze #[Zc jP,Za Zk]else Ze #[Zc ku,Za Zl]
theorem sJ(n:Int)(w:I6):ZL 35 #[I L n] w (FV n):=by
 by_cases d:n=1
 .subst d;go_enter func35,ntmps35;go_wp2_with(refine ZU R 74 _ _ R w.heap.size mc R R 74 ku Zv yU R (qxi _ _) ?_);exact ZS (v:=Ze #[Zc mc,Za Zk]) (qj results35 _ _ w.heap.size 74 _ (0,0) _ R (Zt (Z7 w _)) underlying74 rfl yU) R ⟨R,ZN.setRow _ Zy _⟩
 .by_cases f:n=2
  .subst f;have g:Y ((w.alloc (Z ku 74)).heap[w.heap.size]?=S (Z ku 74)):=X (Z7 w _);have h:Y (Gr w (w.alloc (Z ku 74))):=X ZN;have j:Y (w.heap.size<(w.alloc (Z ku 74)).heap.size):=X Vj;go_enter func35,ntmps35;go_wp2_with(first
    | (go_at_call 33;refine Z0 (qxk _) λk a=>?_;have b:=(Zz a j.a).trans g.a)
    | (refine ZU R 74 _ _ R w.heap.size jP R R 74 ku b yU R (qxi _ _) ?_))
   exact ZS (v:=Ze #[Zc jP,Za Zk]) (qj results35 _ _ w.heap.size 74 _ (0,0) _ R (Zt b) underlying74 rfl yU) R ⟨R,(Gr.trans h.a a).setRow _ Zy _⟩
  .have i:FV n=Ze #[Zc ku,Za Zl]:=by unfold FV;rw[qF d,qF f]
   rw[i];go_enter func35,ntmps35;go_wp2_with(refine ZU R 74 _ _ R w.heap.size ku R R 74 ku Zv yU R gF ?_);exact ZS (v:=Ze #[Zc ku,Za Zl]) (qj results35 _ _ w.heap.size 74 _ (0,0) _ R (Zt (Z7 w _)) underlying74 rfl yU) R ⟨R,ZN.setRow _ Zy _⟩
structure Ct(m:Int)(w:I6):Prop where
 mx:w.cell? ⟨4,0,N⟩=S (I L m)
 ml:4<w.heap.size
 tab:jF w
 homes:vJ w
theorem Ct.gr(h:Ct m w)(g:Gr w w'):Ct m w' :=
 ⟨(ZW g (p:=⟨4,0,N⟩) h.ml).trans h.mx,qN h.ml (ZR g),h.tab.gr g,h.homes.gr g⟩
def mU:I7:=Zq N 0 0
structure uV(w:I6):Prop where
 cas:jQ w
 st:vT w
theorem uV.gr(h:uV w)(g:Gr w w'):uV w':=⟨h.cas.gr g,h.st.gr g⟩
theorem qjv{s:I4}{p:pH}(h:xG s=S p):-1<=p.behind/\p.behind<=63:=by obtain⟨B,_,_,_,a,_⟩:=FM s p h;omega
def iP(s:I4)(k:Int):Prop:=(k=1/\xG s=N)\/(k=2/\∃p,xG s=S p/\xP p=Zl)
theorem xy(s:I4):(∃p,xG s=S p/\xP p=Zk/\∀e,zA s e->e=Zd (Ze #[Zc (jV p),I L 0]))\/(∃k,k≠0/\iP s k/\∀e,zA s e->e=Zd (Ze #[Zc zeroCells70,I L k])):=by
 cases b:xG s with
 | none =>
  refine Zj ⟨1,WW,Zi ⟨R,b⟩,λe h=>?_⟩;obtain⟨q,a,_,_⟩|⟨q,a,_,_⟩|⟨_,rfl⟩:=h
  .rw[b]at a;cases a
  .rw[b]at a;cases a
  .rfl
 | some p =>
  cases f:xP p with
  | true =>
   refine Zi ⟨p,R,f,λe h=>?_⟩;obtain⟨q,a,d,rfl⟩|⟨q,a,d,_⟩|⟨a,_⟩:=h
   .rw[b]at a;obtain rfl:=qP a;rfl
   .rw[b]at a;obtain rfl:=qP a;rw[f]at d;cases d
   .rw[b]at a;cases a
  | false =>
   refine Zj ⟨2,WW,Zj ⟨R,p,b,f⟩,λe h=>?_⟩;obtain⟨q,a,d,rfl⟩|⟨q,a,d,rfl⟩|⟨a,_⟩:=h
   .rw[b]at a;obtain rfl:=qP a;rw[f]at d;cases d
   .rfl
   .rw[b]at a;cases a
def nv(s:yZ):Nat->Nat->List Nat
 | 0,_=>[]
 | n+1,x=>if pM x s then nx x s :: nv s n (nx x s)else[]
def nu(z:Nat->UInt8):List Nat->List Nat
 | []=>[]
 | y :: r=>y :: (if z y=46 then nu z r else[])
theorem uH(z:Nat->UInt8)(s:yZ):∀n x,uW z s n x=nu z (nv s n x)
 | 0,_=>rfl
 | n+1,x=>by
  unfold uW nv;split
  .unfold nu;rw[uH z s n (nx x s)]
  .rfl
theorem ul(z:Nat->UInt8)(y:Nat):∀l:List Nat,y∈nu z l↔∃i:Nat,l[i]?=S y/\∀j,j<i->∀v,l[j]?=S v->z v=46
 | []=>by simp[nu]
 | a :: r=>by
  unfold nu;rw[Yj];constructor
  .rintro(rfl|h)
   .exact⟨0,R,λj g=>absurd g (Yy j)⟩
   .split at h
    .rename_i f;obtain⟨i,b,e⟩:=(ul z y r).1 h;refine⟨i+1,VE,λj g v d=>?_⟩;cases j with
     | zero=>simp at d;rw[<-d];exact f
     | succ j=>exact e j O v VG
    .cases h
  .rintro⟨i,b,e⟩;cases i with
   | zero=>simp at b;exact Zi b.symm
   | succ i =>
    right;have f:z a=46:=e 0 O a R;rw[qI f];exact(ul z y r).2 ⟨i,VE,λj g v d=>e (j+1) O v VG⟩
theorem uq(z:Nat->UInt8)(e:Bool)(s:yZ):∀(l:List Nat)(far:Bool),vq z e s far (nu z l)=Zk↔∃(i y:Nat),l[i]?=S y/\(∀j,j<i->∀v,l[j]?=S v->z v=46)/\fQ z e s (far||decide (0<i)) y=Zk
 | [],far=>by simp[nu,vq]
 | a :: r,far=>by
  unfold nu vq;rw[Ym];constructor
  .rintro(h|h)
   .exact⟨0,a,R,λj m=>absurd m (Yy j),Vq⟩
   .split at h
    .rename_i k;obtain⟨i,y,b,f,g⟩:=(uq z e s r Zk).1 h;refine⟨i+1,y,VE,λj m v d=>?_,by simpa using g⟩;cases j with
     | zero=>simp at d;rw[<-d];exact k
     | succ j=>exact f j O v VG
    .simp[vq]at h
  .rintro⟨i,y,b,f,g⟩;cases i with
   | zero=>simp at b;subst b;left;simpa using g
   | succ i =>
    right;have k:z a=46:=f 0 O a R;rw[qI k];exact(uq z e s r Zk).2 ⟨i,y,VE,λj m v d=>f (j+1) O v VG,by simpa using g⟩
def rr(k x:Nat):List Nat:=nv (jU k) 8 x
def C6(k x i:Nat):Bool:=match (rr k x)[i]? with
 | none=>Zk
 | some y=>Zm (y<64)&&Zm (LI (x:Int) (y:Int)=i+1)&&(if k%2=0 then yd (x:Int) (y:Int)else yg (x:Int) (y:Int))&&(List.range (i+1)).all λj=>Zm ((rr k x)[j]?=S (pI (x:Int) (y:Int) (j+1)).toNat)
theorem Dm:∀k,k<8->∀x,x<64->∀i,i<8->C6 k x i=Zk:=WS
theorem il(s:yZ):∀n x,(nv s n x).length<=n
 | 0,_=>Zy
 | n+1,x=>by
  unfold nv;split
  .rw[Yq];have:=il s n (nx x s);omega
  .simp
theorem GA:∀x,x<64->∀y,y<64->yd ((x:Nat):Int) ((y:Nat):Int)=Zk->([0,2,4,6].any λk=>(rr k x).contains y)=Zk:=WS
theorem GB:∀x,x<64->∀y,y<64->yg ((x:Nat):Int) ((y:Nat):Int)=Zk->([1,3,5,7].any λk=>(rr k x).contains y)=Zk:=WS
def yQ(p:Nat):UInt8:=xU.getD p 0
theorem sW:∀n:Nat,n<256->∀p:Nat,p<12->jB (UInt8.ofNat n)=(p:Int)->UInt8.ofNat n=yQ p:=WS
theorem jn{c:UInt8}{p:Nat}(a:p<12)(h:jB c=(p:Int)):c=yQ p:=by have:=sW c.toNat c.toNat_lt p a;exact IE
def vx(i:Nat):Bool:=i==2||i==3||i==4
def pN(s:yZ):yZ:=(-s.1,-s.2)
def FU(i k:Nat):Bool:=if k%2=0 then(i==3||i==4)else(i==2||i==4)
theorem uv:∀p,p<12->dx (yQ p)=vx (p%6):=WS
theorem qjz:∀p,p<12->vx (p%6)=Zk->∀k,k<16->ki (yQ p) (jU k)=(Zm (k<8)&&FU (p%6) k)/\ki (yQ p) (pN (jU k))=(Zm (k<8)&&FU (p%6) k):=WS
def gG(p:Nat)(x y:Int):Bool:=xS (λ_=>46) (p%6) (if p<6 then 1 else -1) x y
theorem D4:∀p,p<12->vx (p%6)=Zl->∀k,k<16->∀x:Nat,x<64->(ki (yQ p) (jU k)&&pM x (jU k))=Zk->gG p (x:Int) (nx x (jU k):Nat)=Zk:=WS
theorem D1:∀p,p<12->vx (p%6)=Zl->∀k,k<16->∀x:Nat,x<64->(ki (yQ p) (pN (jU k))&&pM x (jU k))=Zk->gG p (nx x (jU k):Nat) (x:Int)=Zk:=WS
theorem D3:∀p,p<12->vx (p%6)=Zl->∀x,x<64->∀y,y<64->gG p ((x:Nat):Int) ((y:Nat):Int)=Zk->((List.range 16).any λk=>ki (yQ p) (jU k)&&pM x (jU k)&&Zm (nx x (jU k)=y))=Zk:=WS
theorem D0:∀p,p<12->vx (p%6)=Zl->∀x,x<64->∀y,y<64->gG p ((y:Nat):Int) ((x:Nat):Int)=Zk->((List.range 16).any λk=>ki (yQ p) (pN (jU k))&&pM x (jU k)&&Zm (nx x (jU k)=y))=Zk:=WS
theorem BU:∀n,n<256->ew (UInt8.ofNat n)=Zk->∀b:Bool,kw (UInt8.ofNat n) b=Zm (vB (UInt8.ofNat n)=xK b):=WS
theorem rt{c:UInt8}(h:ew c=Zk)(b:Bool):kw c b=Zm (vB c=xK b):=by have:=BU c.toNat c.toNat_lt;rw[UInt8.ofNat_toNat]at this;exact this h b
theorem GC{s:yZ}(h:pM x s=Zk):nx x s<64:=(sK h).2
theorem re(s:yZ):∀n x,∀y∈nv s n x,y<64
 | 0,_,y,h=>by cases h
 | n+1,x,y,h=>by
  unfold nv at h;split at h
  .rename_i a;obtain rfl|h:=Yj.1 h
   .exact GC a
   .exact re s n _ y h
  .cases h
theorem Fh(k x:Nat):(rr k x)[0]?=if pM x (jU k)then S (nx x (jU k))else N:=by unfold rr nv;split<;>rfl
theorem rH{y:Nat}(d:k<8)(e:x<64)(h:(rr k x)[i]?=S y):y<64/\LI (x:Int) (y:Int)=i+1/\(if k%2=0 then yd (x:Int) (y:Int)else yg (x:Int) (y:Int))=Zk/\∀j,j<=i->(rr k x)[j]?=S (pI (x:Int) (y:Int) (j+1)).toNat:=by
 have b:i<8:=by have a:=(Z5.1 h).1;have f:=il (jU k) 8 x;unfold rr at a;omega
 have:=Dm k d x e i b;unfold C6 at this;rw[h]at this;simp only[qH,qG,qW,qK]at this;exact⟨this.1.1.1,this.1.1.2,this.1.2,λj g=>this.2 j O⟩
theorem qkk{y:Nat}(g:k<8)(m:x<64):y∈kq z (jU k) x↔y∈rr k x/\freeI (zI z) (pI (x:Int) (y:Int)) (LI (x:Int) (y:Int))=Zk:=by
 have b:∀v,z v=46↔zI z v=46:=λv=>by
  unfold zI;constructor
  .intro h;rw[h];rfl
  .intro h;apply q6.1;have:(z v).toNat=46:=O;rw[this];rfl
 unfold kq;rw[uH,ul];unfold freeI;rw[qG];constructor
 .rintro⟨i,a,f⟩;obtain⟨n,o,p,e⟩:=rH g m a;refine⟨List.mem_iff_getElem?.2 ⟨i,a⟩,λt r u=>?_⟩;have d:=e (t-1) O;rw[show t-1+1=t from O]at d;exact(b _).1 (f (t-1) O _ d)
 .rintro⟨a,f⟩;obtain⟨i,a⟩:=List.mem_iff_getElem?.1 a;obtain⟨n,o,p,e⟩:=rH g m a;refine⟨i,a,λj q v l=>?_⟩;have d:=e j O;rw[show nv (jU k) 8 x=rr k x from R,d]at l;rw[<-qP l];exact(b _).2 (f (j+1) O O)
theorem dw{y:Nat}{s:Int}(o:vx i=Zk)(e:x<64)(l:y<64):(∃k,k<8/\FU i k=Zk/\y∈kq z (jU k) x)↔xS (zI z) i s (x:Int) (y:Int)=Zk:=by
 have n:xS (zI z) i s (x:Int) (y:Int)=(((i==3||i==4)&&yd (x:Int) (y:Int)||(i==2||i==4)&&yg (x:Int) (y:Int))&&freeI (zI z) (pI (x:Int) (y:Int)) (LI (x:Int) (y:Int))):=by
  have:i=2\/i=3\/i=4:=by simp[vx]at o;omega
  rcases this with rfl|rfl|rfl<;>simp[xS]
 rw[n,qH,Ym,qH,qH];constructor
 .rintro⟨k,d,h,f⟩;obtain⟨q,r⟩:=(qkk d e).1 f;obtain⟨j,p⟩:=List.mem_iff_getElem?.1 q;obtain⟨u,v,g,w⟩:=rH d e p;refine⟨?_,r⟩;unfold FU at h;split at h
  .rename_i b;rw[qI b]at g;exact Zi ⟨h,g⟩
  .rename_i b;rw[qF b]at g;exact Zj ⟨h,g⟩
 .rintro⟨m,b⟩;obtain⟨p1,p2⟩|⟨p1,p2⟩:=m
  .obtain⟨k,d,f⟩:=qY.1 (GA x e y l p2);have a:k<8/\k%2=0:=U2;exact⟨k,a.1,by unfold FU;rw[qI a.2];exact p1,(qkk a.1 e).2 ⟨Uq,b⟩⟩
  .obtain⟨k,d,f⟩:=qY.1 (GB x e y l p2);have a:k<8/\¬ (k%2=0):=U2;exact⟨k,a.1,by unfold FU;rw[qF a.2];exact p1,(qkk a.1 e).2 ⟨Uq,b⟩⟩
theorem qki{p:Nat}(f:p<12)(h:vx (p%6)=Zl)(a:Bool)(b:p/6=bg a/6)(x y:Int):gG p x y=xS (zI z) (p%6) (xK a) x y:=by
 have d:(if p<6 then(1:Int)else -1)=xK a:=by
  cases a
  .rw[qF (by simp[bg]at b;omega)];rfl
  .rw[qI (by simp[bg]at b;omega)];rfl
 unfold gG;rw[d];have:p%6=0\/p%6=1\/p%6=5:=by simp[vx]at h;omega
 rcases this with e|e|e<;>(rw[e];simp[xS])
theorem gy(z:I2)(s:yZ)(x:Nat):(kq z s x).take 1=if pM x s then[nx x s]else[]:=by unfold kq uW;split<;>rfl
theorem Dq(p:f<64){b:Bool}(A:i<6)(w:jB (z f)=((bg b+i:Nat):Int)){y:Nat}(r:y<64):y∈zU z f 16↔xS (zI z) i (xK b) (f:Int) (y:Int)=Zk:=by
 have v:bg b=0\/bg b=6:=Tw;have j:bg b+i<12:=O;have n:=jn j w;have g:(bg b+i)%6=i:=O;have x:(bg b+i)/6=bg b/6:=O;unfold zU;rw[YX];cases a:vx i with
 | true =>
  rw[<-dw (s:=xK b) a p r];have e:=uv (bg b+i) j;have o:=qjz (bg b+i) j Oh;rw[g]at e o;constructor
  .rintro⟨k,d,h⟩;have d:=qK.1 d;unfold yj at h;rw[n,(o k d).1,e,a,qI R]at h;split at h
   .rename_i m;rw[qH,qG]at m;exact⟨k,m.1,m.2,h⟩
   .cases h
  .rintro⟨k,d,u,l⟩;refine⟨k,qK.2 O,?_⟩;unfold yj;rw[n,(o k O).1,e,a,qI (by rw[u];simp[d]),qI R];exact l
 | false =>
  rw[<-g,<-qki j Oh b x];have e:=uv (bg b+i) j;rw[g]at e;constructor
  .rintro⟨k,d,h⟩;have d:=qK.1 d;unfold yj at h;rw[n,e,a,gy]at h;split at h
   .rename_i m;rw[qF WU]at h;split at h
    .rename_i q;rw[qT.1 h];exact D4 _ j Oh k d f p (by rw[m,q];rfl)
    .cases h
   .cases h
  .intro h;obtain⟨k,d,l⟩:=qY.1 (D3 _ j Oh f p y r h);simp only[qH,qG]at l;refine⟨k,d,?_⟩;unfold yj;rw[n,e,a,gy,qI l.1.1,qF WU,qI l.1.2,l.2];exact qT.2 R
theorem qkz(a:xO z=Zk)(h:i<6)(b:i≠0){s t:Int}{y:Nat}(d:x<64)(e:y<64):xS (zI z) i s (x:Int) (y:Int)=xS (zI z) i t (y:Int) (x:Int):=by
 have f:=F3 a Zk i h y x e d;have g:=F3 a Zk i h x y d e;have j:kh Zk i=i+2:=by unfold kh;rw[qF b]
 rw[j]at f g;rw[FI _ i b s (xK Zk),FI _ i b t (xK Zk),<-f,<-g];exact px (i+2) y x O O e d _
theorem ji(a:xO z=Zk)(b:n<64):ew (z n)=Zk:=by unfold xO at a;exact qW.1 a n (qK.2 b)
theorem jk(o:xO z=Zk)(y:x<64)(d:Bool):vL z x d=zM z (x:Int) d:=by
 have V:bg d=0\/bg d=6:=by cases d<;>simp[bg]
 rw[YW];unfold vL zM;rw[qY,qY];constructor
 .rintro⟨k,r,h⟩;have r:=qK.1 r;unfold kq at h;rw[uH]at h;obtain⟨i,n,p,q,H⟩:=(uq z d (jU k) _ Zl).1 h;have l:n<64:=re (jU k) 8 x n (List.mem_iff_getElem?.2 ⟨i,p⟩);unfold fQ at H;rw[qH,qH,rt (ji o l),qG]at H;obtain⟨⟨C,B⟩,v⟩:=H;refine⟨n,qK.2 l,?_⟩;rw[qH,qG];refine⟨C,?_⟩;obtain⟨g,w,F,G⟩:=zq C;rw[G];have m:bg d+g<12:=O;have D:=jn m F;have b:(bg d+g)%6=g:=O;have E:=uv (bg d+g) m;rw[D,show((-(jU k).1,-(jU k).2):yZ)=pN (jU k)from R]at B;rw[D]at v;cases a:vx g with
  | true =>
   have P:=(qjz (bg d+g) m Uf k r).2;rw[P,b,qH,qG]at B;have f:n∈kq z (jU k) x:=by unfold kq;rw[uH];exact(ul z n _).2 ⟨i,p,q⟩
   rw[qkz o w (by simp[vx]at a;omega) (t:=xK d) l y];exact(dw a y l).1 ⟨k,B.1,B.2,f⟩
  | false =>
   rw[E,b,a]at v
   have J:i=0:=by
    obtain e|e:=Nat.eq_zero_or_pos i
    .exact e
    .simp[e]at v
   subst J;rw[show nv (jU k) 8 x=rr k x from R,Fh]at p;split at p
   .rename_i T;have K:=qP p;have:=D1 _ m Uf k r x y (by rw[B,T];rfl);rw[K,qki (z:=z) m Uf d O,b]at this;exact this
   .cases p
 .rintro⟨n,l,h⟩;have l:=qK.1 l;rw[qH,qG]at h;obtain⟨C,A⟩:=h;obtain⟨g,w,F,G⟩:=zq C;rw[G]at A;have m:bg d+g<12:=O;have D:=jn m F;have b:(bg d+g)%6=g:=O;have E:=uv (bg d+g) m;rw[b]at E;have u:kw (z n) d=Zk:=by rw[rt (ji o l)];exact qJ C
  cases a:vx g with
  | true =>
   rw[qkz o w (by simp[vx]at a;omega) (t:=xK d) l y]at A;obtain⟨k,r,M,f⟩:=(dw a y l).2 A;have P:=(qjz (bg d+g) m Uf k O).2;refine⟨k,qK.2 O,?_⟩;unfold kq at f |-;rw[uH]at f |-;obtain⟨i,p,q⟩:=(ul z n _).1 f;refine(uq z d (jU k) _ Zl).2 ⟨i,n,p,q,?_⟩;unfold fQ;rw[u,D,show((-(jU k).1,-(jU k).2):yZ)=pN (jU k)from R,P,b,M,E,a];simp[r]
  | false =>
   rw[<-b,<-qki m Uf d O]at A;obtain⟨k,r,q⟩:=qY.1 (D0 _ m Uf x y n l A);simp only[qH,qG]at q;refine⟨k,r,?_⟩;unfold kq;rw[uH];refine(uq z d (jU k) _ Zl).2 ⟨0,n,?_,λj Q=>absurd Q (Yy j),?_⟩
   .rw[show nv (jU k) 8 x=rr k x from R,Fh,qI q.1.2,q.2]
   .unfold fQ;rw[u,D,show((-(jU k).1,-(jU k).2):yZ)=pN (jU k)from R,q.1.1];simp
structure kJ(z:I2)(wh:Bool)(fc:I5)(b:Int):Prop where
 ok:xO z=Zk
 k1:∀bb,vZ z bb 64=1
 pw:∀bb:Bool,∀n,n<64->jB (z n)=((bg bb:Nat):Int)->¬ (n/8=0\/n/8=7)
 c0:fc 0=Zk->z 4=75/\z 7=82
 c1:fc 1=Zk->z 4=75/\z 0=82
 c2:fc 2=Zk->z 60=107/\z 63=114
 c3:fc 3=Zk->z 60=107/\z 56=114
 beh:xX z wh b=Zk
theorem uc{c:UInt8}{n:Int}{d:UInt8}(h:(c.toNat:Int)=n)(a:(d.toNat:Int)=n):c=d:=q6.1 O
theorem qkv{g:Int}(l:k6 z wh fc b h g=Zk):kJ z wh fc b:=by
 unfold k6 cK at l;simp only[qH]at l;obtain⟨m,⟨⟨⟨⟨A,B⟩,r⟩,u⟩,_⟩,_⟩:=l;have q:∀f,vM (xD z 64) f=Zk:=λf=>by cases f<;>assumption
 have e:∀i,i<4->zX z fc i=Zk:=λi y=>qW.1 r i (qK.2 y);have j:∀o n rs p k (a d:UInt8),(a.toNat:Int)=n->(d.toNat:Int)=p->xN z fc o n rs p k=Zk->fc k=Zk->z o=a/\z rs=d:=by intro o n rs p k a d v w h x;unfold xN at h;rw[x]at h;simp only[Bool.not_true,Xo,qH,qG]at h;exact⟨uc h.1 v,uc h.2 w⟩
 refine⟨m,λf=>?_,λf=>?_,j _ _ _ _ _ _ _ R R (e 0 O),j _ _ _ _ _ _ _ R R (e 1 O),j _ _ _ _ _ _ _ R R (e 2 O),j _ _ _ _ _ _ _ R R (e 3 O),u⟩
 .have:=q f;unfold vM at this;simp only[qH,qG]at this;have h:=this.1.1;rw[qxu]at h;omega
 .have:=q f;unfold vM at this;simp only[qH,qG]at this;exact(Ft z f).1 this.2
theorem d7(a:xO z=Zk)(b:n<64):(j0 (xD z 64)).getLsbD n=!(z n==46):=by
 rw[pi z n b];have h:=ji a b;rw[bf]at h;cases d:(z n==46)with
 | true =>
  have:z n=46:=VG
  rw[this];decide +kernel
 | false=>rw[d,Xo]at h;simpa using h
theorem Dr(m:I8)(wh:Bool):xZ m wh ||| xZ m (!wh)=j0 m:=by
 cases wh
 .exact BitVec.or_comm _ _
 .rfl
theorem qzb(a:xO z=Zk)(j:i<6){t:Nat}(b:f<64)(d:t<64):(jW (v7 wh i) f (j0 (xD z 64))).getLsbD t=xS (zI z) i (xK wh) (f:Int) (t:Int):=by
 by_cases h:i=0
 .subst h;cases wh
  .show(jW 2 f _).getLsbD t=_;have e:jW 2 f (j0 (xD z 64))=FX f:=R;rw[e,wE f b t d];rfl
  .show(jW 1 f _).getLsbD t=_;have e:jW 1 f (j0 (xD z 64))=E4 f:=R;rw[e,oL f b t d];rfl
 .have l:v7 wh i=i+2:=by unfold v7;rw[qF h]
  have k:=F3 a Zk i j f t b d;have g:kh Zk i=i+2:=by unfold kh;rw[qF h]
  rw[l,<-g,k];exact qkz a j h d b
theorem qkh(s:BitVec 64)(a:n<64):(~~~s).getLsbD n=!(s.getLsbD n):=by rw[BitVec.getLsbD_not];simp[a]
theorem dZ(a:xO z=Zk)(wh:Bool)(b:n<64):(xZ (xD z 64) wh).getLsbD n=kw (z n) wh:=by rw[qjt z wh n b,rt (ji a b)]
theorem Dz:∀p,p<12->jD (yQ p)=Zm (p%6=0)/\jA (yQ p)=Zm (p%6=5):=WS
theorem zj(d:i<6)(b:jB (z f)=((bg wh+i:Nat):Int)):jD (z f)=Zm (i=0)/\jA (z f)=Zm (i=5):=by have a:bg wh=0\/bg wh=6:=UM;rw[jn O b];have:=Dz (bg wh+i) O;rwa[show(bg wh+i)%6=i from O]at this
theorem oe(a:xO z=Zk){t:Nat}(h:i≠0)(j:i≠5)(e:i<6)(l:f<64)(d:t<64)(k:jB (z f)=((bg wh+i:Nat):Int)) :
 t∈yF z wh fc b f↔(kN (xD z 64) wh (xZ (xD z 64) wh) (xZ (xD z 64) (!wh)) (vV b) fc i (v7 wh i) f).getLsbD t=Zk:=by obtain⟨g,m⟩:=zj e k;rw[qE h]at g;rw[qE j]at m;unfold yF kN;rw[g,m,qF h,qF j,Dr,Yl,qzb a e l d,qkh _ d,dZ a wh d,qH,<-Dq l e k d];simp only[qR,YH,Yh,qV];unfold yG;rw[g,qF WU]
def fw(wh:Bool)(f k:Nat):Nat:=if wh then f+8*k else f-8*k
def vQ(wh:Bool)(f:Nat):Bool:=Zm (f/8=(if wh then 1 else 6))
def oB(z:I2)(wh:Bool)(f t:Nat):Prop:=(t=fw wh f 1/\z (fw wh f 1)=46)\/(vQ wh f=Zk/\t=fw wh f 2/\z (fw wh f 1)=46/\z (fw wh f 2)=46)
theorem HC:∀wh:Bool,∀f,f<64->(Zm (f/8=0)||decide (f/8=7))=Zl->pM f (0,uM wh)=Zk/\nx f (0,uM wh)=fw wh f 1:=WS
theorem Ex:∀wh:Bool,∀f,f<64->vQ wh f=Zk->pM (fw wh f 1) (0,uM wh)=Zk/\nx (fw wh f 1) (0,uM wh)=fw wh f 2:=WS
theorem iS(z:I2)(s:yZ)(n x:Nat):uW z s (n+1) x=if pM x s then nx x s :: (if z (nx x s)=46 then uW z s n (nx x s)else[])else[]:=R
theorem Fq{t:Nat}(g:f<64)(j:¬ (f/8=0\/f/8=7)):t∈cW z (yx wh f) (kq z (0,uM wh) f)↔oB z wh f t:=by
 obtain⟨m,k⟩:=HC wh f g (by simpa using j);have h:kq z (0,uM wh) f=fw wh f 1 :: (if z (fw wh f 1)=46 then uW z (0,uM wh) 7 (fw wh f 1)else[]):=by show uW z (0,uM wh) (7+1) f=_;rw[iS,qI m,k]
 unfold cW oB;rw[h];by_cases a:z (fw wh f 1)=46
 .rw[qI a];cases b:vQ wh f with
  | false =>
   have e:yx wh f=1:=by unfold yx;unfold vQ at b;rw[qF VE]
   rw[e];simp[a]
  | true =>
   have e:yx wh f=2:=by unfold yx;unfold vQ at b;rw[qI VE]
   obtain⟨o,l⟩:=Ex wh f g b;have i:uW z (0,uM wh) 7 (fw wh f 1)=fw wh f 2 :: (if z (fw wh f 2)=46 then uW z (0,uM wh) 6 (fw wh f 2)else[]):=by show uW z (0,uM wh) (6+1) (fw wh f 1)=_;rw[iS,qI o,l]
   rw[e,i];by_cases d:z (fw wh f 2)=46
   .simp[a,d]
   .simp[a,d]
 .rw[qF a];have:((List.take (yx wh f) [fw wh f 1]).takeWhile λv=>z v==46)=[]:=by
   cases yx wh f with
   | zero=>rfl
   | succ n=>simp[a]
  rw[this];simp[a]
theorem sF:∀f,f<64->∀t,t<64->(pK (1#64 <<< f) (yV Zk)).getLsbD t=Zm (t=f+8):=WS
theorem sG:∀f,f<64->∀t,t<64->(pK (1#64 <<< f) (yV Zl)).getLsbD t=Zm (t+8=f):=WS
theorem AY:∀t,t<64->(uB Zk).getLsbD t=Zm (t/8=2):=WS
theorem AZ:∀t,t<64->(uB Zl).getLsbD t=Zm (t/8=5):=WS
theorem oT(s:BitVec 64){t:Nat}(a:t<64):(pK s (yV Zk)).getLsbD t=(!decide (t<8)&&s.getLsbD (t-8)):=by show(s <<< 8).getLsbD t=_;rw[BitVec.getLsbD_shiftLeft];simp[a]
theorem oU(s:BitVec 64)(t:Nat):(pK s (yV Zl)).getLsbD t=s.getLsbD (8+t):=by show(s >>> 8).getLsbD t=_;rw[BitVec.getLsbD_ushiftRight]
theorem Cr(o:xO z=Zk){t:Nat}(k:f<64)(h:t<64)(u:¬ (f/8=0\/f/8=7)):(k7 wh (xZ (xD z 64) wh) (xZ (xD z 64) (!wh)) f).getLsbD t=Zk↔oB z wh f t:=by
 unfold k7 iv;rw[Dr];have j:∀n,n<64->((~~~(j0 (xD z 64))).getLsbD n=Zk↔z n=46):=λn r=>by rw[qkh _ r,d7 o r,Bool.not_not,YF]
 unfold oB;cases wh
 .rw[Yx,Yl,Yl,sG f k t h,oU,Yl,Yl];have p:vQ Zl f=Zm (f/8=6):=R;have l:fw Zl f 1=f-8:=R;have m:fw Zl f 2=f-16:=R;rw[p,l,m];by_cases i:8+t<64
  .rw[sG f k (8+t) i,AZ (8+t) i];simp only[Ym,qH,qG,j t h,j (8+t) i];constructor
   .rintro(⟨a,b⟩|⟨⟨⟨a,b⟩,c⟩,d⟩)
    .left;have:f-8=t:=O;rw[this];exact⟨R,b⟩
    .right;have e:f-8=8+t:=O;have g:f-16=t:=O;rw[e,g];exact⟨O,R,b,d⟩
   .rintro(⟨a,b⟩|⟨a,b,c,d⟩)
    .left;rw[<-a]at b;exact⟨O,b⟩
    .right;have e:f-8=8+t:=O;have g:f-16=t:=O;rw[e]at c;rw[g]at d;exact⟨⟨⟨O,c⟩,O⟩,d⟩
  .have q:(pK (1#64 <<< f) (yV Zl)).getLsbD (8+t)=Zl:=BitVec.getLsbD_of_ge _ _ O;rw[q];simp only[XK,Bool.or_false,qH,qG,j t h];exact ID
 .rw[Yx,Yl,Yl,sF f k t h,oT _ h,Yl,Yl];have p:vQ Zk f=Zm (f/8=1):=R;have l:fw Zk f 1=f+8:=R;have m:fw Zk f 2=f+16:=R;rw[p,l,m];by_cases i:t<8
  .simp only[i,decide_true,Bool.not_true,XK,Bool.or_false,qH,qG,j t h];exact ID
  .rw[sF f k (t-8) O,AY (t-8) O];simp only[i,decide_false,X3,Xc,Ym,qH,qG,j t h,j (t-8) O];constructor
   .rintro(⟨a,b⟩|⟨⟨⟨a,b⟩,c⟩,d⟩)
    .left;rw[<-a];exact⟨R,b⟩
    .right;have e:f+8=t-8:=O;have g:f+16=t:=O;rw[e,g];exact⟨O,R,b,d⟩
   .rintro(⟨a,b⟩|⟨a,b,c,d⟩)
    .left;rw[<-a]at b;exact⟨a,b⟩
    .right;have e:f+8=t-8:=O;have g:f+16=t:=O;rw[e]at c;rw[g]at d;exact⟨⟨⟨O,c⟩,O⟩,d⟩
theorem lU(d:-1<=b)(e:b<=63){t:Nat}(a:t<64):(vV b).getLsbD t=((t:Int)==b):=by
 unfold vV;split
 .rw[ze b.toNat O t a];rw[YW,qG,YF];omega
 .rw[XM];symm;rw[qM];omega
theorem lw(j:kJ z wh fc b)(l:-1<=b)(m:b<=63){t:Nat}(d:f<64)(e:t<64)(g:jB (z f)=((bg wh:Nat):Int)) :
 t∈yF z wh fc b f↔(kN (xD z 64) wh (xZ (xD z 64) wh) (xZ (xD z 64) (!wh)) (vV b) fc 0 (v7 wh 0) f).getLsbD t=Zk:=by have a:=j.ok;have k:=j.pw wh f d g;obtain⟨h,n⟩:=zj (i:=0) O g;rw[qJ R]at h;unfold yF kN;rw[h,qI R,qI R,Yi,Yx,Ym,Fq d k,Cr a d e k,Dr,Yl,qzb a O d e,Yx,dZ a (!wh) e,lU l m e,qH,qV,<-Dq d (i:=0) O g e];unfold yG;rw[h,qI R,Bool.or_comm]
theorem FO{a:Bool}(h:vZ z a 64=1)(k:f<64)(l:g<64)(i:jB (z f)=((bg a+5:Nat):Int))(j:jB (z g)=((bg a+5:Nat):Int)):f=g:=by
 obtain⟨y,o,m,_⟩:=js h;have b:∀n,n<64->jB (z n)=((bg a+5:Nat):Int)->n=y:=λn d e=>by
  have:n∈vD (xD z 64 (bg a+5)):=by unfold vD;rw[qV,qK,vH z _ n d];exact⟨d,qJ e⟩
  rw[m]at this;exact qT.1 this
 rw[b f k i,b g l j]
def hK(i:Nat):Nat:=if i<2 then 4 else 60
def hD(i:Nat):Int:=if i%2=0 then 1 else -1
def hN(i:Nat):Nat:=if i%2=0 then 2 else 3
theorem co:∀i,i<4->∀n,n<64->(yX i).getLsbD n=((List.range (hN i)).any λj=>Zm (kC (hK i) (hD i) (j+1)=n)):=WS
theorem eD:∀i,i<4->∀j,j<5->(j<hN i+1)->kC (hK i) (hD i) j<64:=WS
theorem Cz:∀i,i<4->∀y,y<64->(yW i).getLsbD y=((List.range 3).any λj=>Zm (kC (hK i) (hD i) j=y)):=WS
theorem aV(a:xO z=Zk)(g:i<4)(u:wh=Zm (i<2)):yD (xD z 64) wh (xZ (xD z 64) wh) (xZ (xD z 64) (!wh)) fc i=(fc i&&az z wh (hK i) (hD i) (hN i)):=by
 have m:Zm (j0 (xD z 64) &&& yX i=0#64)=wn z (hK i) (hD i) (hN i):=by
  rw[YW,qG,qkw];unfold wn;rw[qW];constructor
  .intro h j b;have b:=qK.1 b;have p:hN i<=3:=Ob;have d:=eD i g (j+1) O O;have:=h _ d;rw[Yl,d7 a d,co i g _ d]at this;have k:((List.range (hN i)).any λv=>Zm (kC (hK i) (hD i) (v+1)=kC (hK i) (hD i) (j+1)))=Zk:=qY.2 ⟨j,qK.2 b,WU⟩;rw[k,Wl]at this;exact OY
  .intro h n l;rw[Yl,co i g n l];cases q:((List.range (hN i)).any λj=>Zm (kC (hK i) (hD i) (j+1)=n))with
   | false=>rw[XU]
   | true =>
    obtain⟨j,b,e⟩:=qY.1 q;rw[qG]at e;have:=h j b;rw[e]at this;rw[d7 a l,this];rfl
 have o:(!(uG (xD z 64) (yW i) wh))=DD z wh (hK i) (hD i):=by
  unfold uG DD;rw[YW,YK,XD,qW];constructor
  .intro h j b;have b:=qK.1 b;have d:=eD i g j O Ob;have r:kC (hK i) (hD i) j∈vD (yW i):=by unfold vD;rw[qV,qK,Cz i g _ d];exact⟨d,qY.2 ⟨j,qK.2 b,WU⟩⟩
   have:=h _ r;rw[xu a _ _ d,<-jk a d]at this;exact OY
  .intro h y f;unfold vD at f;rw[qV,qK]at f;rw[Cz i g y f.1]at f;obtain⟨j,b,e⟩:=qY.1 f.2;rw[qG]at e;have:=h j b;rw[e]at this;rw[xu a _ _ f.1,<-jk a f.1];exact OY
 unfold yD az;rw[Dr,m,o,u];simp[Bool.and_assoc]
theorem nF(m:I8)(wh:Bool)(own a:BitVec 64)(fc:I5){t:Nat}(d:t<64):(kp m wh own a fc 4).getLsbD t=((List.range 4).any λi=>yD m wh own a fc i&&Zm (t=xE i)):=by
 have b:∀i,xE i<64:=λi=>Oa;have step:∀k,(kp m wh own a fc (k+1)).getLsbD t=((kp m wh own a fc k).getLsbD t||(yD m wh own a fc k&&Zm (t=xE k))):=λk=>by
  show(if yD m wh own a fc k then kp m wh own a fc k ||| 1#64 <<< xE k else kp m wh own a fc k).getLsbD t=_;cases h:yD m wh own a fc k
  .simp
  .rw[qI R,Yx,ze _ (b k) t d,Xc]
 rw[step,step,step,step];show((((0#64).getLsbD t||_)||_)||_||_)=_;rw[XM];simp[YI,Bool.or_assoc]
theorem FK(a:kJ z wh fc b)(i:f<64)(g:jB (z f)=((bg wh+5:Nat):Int)):(fc (jC wh)=Zk->f=hK (jC wh))/\(fc (jC wh+1)=Zk->f=hK (jC wh+1)):=by
 have e:jB 75=((bg Zk+5:Nat):Int):=WS;have d:jB 107=((bg Zl+5:Nat):Int):=WS;cases wh
 .exact⟨λh=>FO (a.k1 Zl) i WW g (by rw[show hK (jC Zl)=60 from R,(a.c2 h).1];exact d),λh=>FO (a.k1 Zl) i WW g (by rw[show hK (jC Zl+1)=60 from R,(a.c3 h).1];exact d)⟩
 .exact⟨λh=>FO (a.k1 Zk) i WW g (by rw[show hK (jC Zk)=4 from R,(a.c0 h).1];exact e),λh=>FO (a.k1 Zk) i WW g (by rw[show hK (jC Zk+1)=4 from R,(a.c1 h).1];exact e)⟩
theorem tp(j:kJ z wh fc b){t:Nat}(r:f<64)(u:t<64)(q:jB (z f)=((bg wh+5:Nat):Int)):t∈uz z wh fc f++pA z wh fc f↔(kp (xD z 64) wh (xZ (xD z 64) wh) (xZ (xD z 64) (!wh)) fc 4).getLsbD t=Zk:=by
 obtain⟨n,o⟩:=FK j r q;have l:∀i,wh≠Zm (i<2)->yD (xD z 64) wh (xZ (xD z 64) wh) (xZ (xD z 64) (!wh)) fc i=Zl:=λi h=>by unfold yD;have:(wh==Zm (i<2))=Zl:=qM.2 h;rw[this];simp
 rw[nF _ _ _ _ _ u,Yi];have hR:t∈uz z wh fc f↔(fc (jC wh)&&az z wh (hK (jC wh)) (hD (jC wh)) (hN (jC wh)))=Zk/\t=xE (jC wh):=by
  unfold uz;cases g:fc (jC wh)with
  | false=>simp
  | true =>
   have:=n g;subst this;have e:hK (jC wh)+2=xE (jC wh)/\hD (jC wh)=1/\hN (jC wh)=2:=Vn
   rw[e.1,e.2.1,e.2.2];split
   .rename_i d;rw[d];simp
   .rename_i d;simp only[XH]at d;rw[d];simp
 have p:t∈pA z wh fc f↔(fc (jC wh+1)&&az z wh (hK (jC wh+1)) (hD (jC wh+1)) (hN (jC wh+1)))=Zk/\t=xE (jC wh+1):=by
  unfold pA;cases g:fc (jC wh+1)with
  | false=>simp
  | true =>
   have:=o g;subst this;have e:hK (jC wh+1)-2=xE (jC wh+1)/\hD (jC wh+1)=-1/\hN (jC wh+1)=3:=Vn
   rw[e.1,e.2.1,e.2.2];split
   .rename_i d;rw[d];simp
   .rename_i d;simp only[XH]at d;rw[d];simp
 rw[hR,p,<-aV j.ok Vn RA,<-aV j.ok Vn RA];rw[qY];constructor
 .rintro(⟨a,e⟩|⟨a,e⟩)
  .exact⟨jC wh,Vn,by rw[a,e];simp⟩
  .exact⟨jC wh+1,Vn,by rw[a,e];simp⟩
 .rintro⟨i,m,h⟩;rw[qH,qG]at h;have m:=qK.1 m;by_cases k:wh=Zm (i<2)
  .have:i=jC wh\/i=jC wh+1:=by
    cases wh
    .have:¬ i<2:=by simpa using k.symm
     show i=2\/i=3;omega
    .have:i<2:=by simpa using k.symm
     show i=0\/i=1;omega
   obtain e|e:=this
   .rw[e]at h;exact Zi h
   .rw[e]at h;exact Zj h
  .rw[l i k]at h;exact absurd h.1 WU
theorem lz(k:kJ z wh fc b){t:Nat}(h:f<64)(d:t<64)(e:jB (z f)=((bg wh+5:Nat):Int)) :
 t∈yF z wh fc b f↔(kN (xD z 64) wh (xZ (xD z 64) wh) (xZ (xD z 64) (!wh)) (vV b) fc 5 (v7 wh 5) f).getLsbD t=Zk:=by have a:=k.ok;obtain⟨j,l⟩:=zj (i:=5) O e;rw[qE O]at j;rw[qJ R]at l;have g:=tp k h d e;unfold yF kN;rw[j,l,qF WU,qI R,qF O,qI R,Yi,Yx,Ym,g,Dr,Yl,qzb a O h d,qkh _ d,dZ a wh d,qH,qV,<-Dq h (i:=5) O e d];unfold yG;rw[j,qF WU]
theorem ph(a:kJ z wh fc b)(k:-1<=b)(l:b<=63){t:Nat}(m:i<6)(e:f<64)(g:t<64)(d:jB (z f)=((bg wh+i:Nat):Int)) :
 t∈yF z wh fc b f↔(kN (xD z 64) wh (xZ (xD z 64) wh) (xZ (xD z 64) (!wh)) (vV b) fc i (v7 wh i) f).getLsbD t=Zk:=by
 by_cases h:i=0
 .subst h;exact lw a k l e g d
 .by_cases j:i=5
  .subst j;exact lz a e g d
  .exact oe a.ok h j m e g d
structure jY(z:I2)(wh:Bool)(b:Int)(i f t:Nat)(u:UInt8)(cs:Nat):Prop where
 hi:i<6
 hf:f<64
 ht:t<64
 hc:jB (z f)=((bg wh+i:Nat):Int)
 no:vB (z t)≠xK wh
 nep:¬ (i=0/\(t:Int)=b)->cs=t
 ep:i=0->(t:Int)=b->z t=46/\cs<64/\cs=f/8*8+t%8/\(if wh then cs+8=t else cs=t+8)/\jB (z cs)=((bg (!wh):Nat):Int)
 tr:∃q,q<6/\jB (yH (z f) u)=((bg wh+q:Nat):Int)/\(q=5↔i=5)
theorem mM(wh:Bool):(bg wh=0/\bg (!wh)=6)\/(bg wh=6/\bg (!wh)=0):=UM
theorem ja{c:UInt8}{q:Nat}(a:q<6)(h:jB c=((bg wh+q:Nat):Int)):vB c=xK wh:=(qkr a h).1
theorem BC(wh:Bool):xK wh≠xK (!wh):=Vn
theorem xp:jB 46=-1:=uo
def DS(z:I2)(f t:Nat)(u:UInt8)(cs:Nat)(Z:I2):Prop:=∀n,Z n=if n=t then yH (z f) u else if n=f then 46 else if n=cs then 46 else z n
theorem iq{t cs:Nat}(h:jY z wh b i f t u cs)(l:i=5->t≠f+2/\t+2≠f):DS z f t u cs (zE z b (f,t,u)):=by
 intro n;obtain⟨q,p⟩:=zj h.hi h.hc;unfold zE;simp only;rw[q,p];by_cases a:i=0/\(t:Int)=b
 .obtain⟨j,k⟩:=a;obtain⟨x,d,m,o,w⟩:=h.ep j k;have g:cs≠t:=by cases wh<;>simp at o<;>omega
  rw[qI (by simp[j,k]),<-m];unfold vW;by_cases c1:n=t
  .subst c1;rw[qF (λe=>g e.symm),qI R,qI R]
  .rw[qF c1,qF c1];by_cases c2:n=cs
   .rw[qI c2];by_cases c3:n=f
    .rw[qI c3]
    .rw[qF c3,qI c2]
   .rw[qF c2];by_cases c3:n=f
    .rw[qI c3,qI c3]
    .rw[qF c3,qF c3,qF c2]
 .have d:=h.nep a;rw[qF VS];have r:(Zm (i=5)&&(t==f+2))=Zl:=by
   by_cases e:i=5
   .simp[(l e).1]
   .simp[e]
  have v:(Zm (i=5)&&(t+2==f))=Zl:=by
   by_cases e:i=5
   .simp[(l e).2]
   .simp[e]
  rw[r,v,qF WU,qF WU];unfold vW;rw[d];by_cases c1:n=t
  .rw[qI c1,qI c1]
  .rw[qF c1,qF c1,qF c1]
theorem wG(d:-1<=b)(e:b<=63){t:Nat}(a:t<64):1#64 <<< t=vV b↔(t:Int)=b:=by
 constructor
 .intro h;have:=lU d e a;rw[<-h,ze t a t a]at this;simpa using this.symm
 .intro h;unfold vV;rw[qI O];congr 1;omega
theorem tD{t cs:Nat}(h:jY z wh b i f t u cs)(j:-1<=b)(l:b<=63)(m:n<64):(uL wh (vV b) i t).getLsbD n=Zm (n=cs):=by
 have d:=wG j l h.ht;unfold uL;by_cases a:i=0/\(t:Int)=b
 .rw[qI ⟨a.1,d.2 a.2⟩];obtain⟨r,o,p,g,q⟩:=h.ep a.1 a.2;rw[<-(wG j l h.ht).2 a.2];cases wh
  .show((1#64 <<< t) <<< 8).getLsbD n=_;simp at g;rw[BitVec.getLsbD_shiftLeft];by_cases e:n<8
   .simp[e];omega
   .rw[ze t h.ht (n-8) O];rw[YW];simp[m,e];omega
  .show((1#64 <<< t) >>> 8).getLsbD n=_;simp at g;rw[BitVec.getLsbD_ushiftRight];by_cases e:8+n<64
   .rw[ze t h.ht (8+n) e,YW,qG,qG];omega
   .rw[BitVec.getLsbD_of_ge _ _ O];symm;rw[qX];have:=h.ht;omega
 .rw[qF (λk=>a ⟨k.1,d.1 k.2⟩),ze t h.ht n m,h.nep a]
theorem jq{t cs:Nat}(h:jY z wh b i f t u cs)(g:-1<=b)(j:b<=63)(p:Nat)(a:n<64) :
 (zV (xD z 64) wh (vV b) i f t p).getLsbD n=if p=bg wh+i then(Zm (jB (z n)=(p:Int)) ^^ (Zm (n=f)||decide (n=t)))else if bg (!wh)<=p/\p<bg (!wh)+6 then Zm (jB (z n)=(p:Int))&&!decide (n=cs)else Zm (jB (z n)=(p:Int)):=by
 have k:=mM wh;have l:=h.hi;unfold zV zS;by_cases e:p=bg wh+i
 .rw[qI e,qI e,qF O,BitVec.getLsbD_xor,Yx,ze f h.hf n a,ze t h.ht n a,vH z p n a]
 .rw[qF e,qF e];by_cases d:bg (!wh)<=p/\p<bg (!wh)+6
  .rw[qI d,qI d,Yl,qkh _ a,tD h g j a,vH z p n a]
  .rw[qF d,qF d,vH z p n a]
theorem jY.ft{t cs:Nat}(h:jY z wh b i f t u cs):f≠t:=by rintro rfl;exact h.no (ja h.hi h.hc)
section
variable {z:I2}{wh:Bool}{b:Int}{i f t cs:Nat}{u:UInt8}{Z:I2}
theorem jY.cf(h:jY z wh b i f t u cs):cs≠f:=by
 rintro rfl;by_cases a:i=0/\(t:Int)=b
 .obtain⟨m,d,e,g,j⟩:=h.ep a.1 a.2;have:=h.hc;have k:=mM wh;have l:=h.hi;omega
 .exact h.ft (h.nep a)
theorem jY.cz(h:jY z wh b i f t u cs)(d:cs≠t):jB (z cs)=((bg (!wh):Nat):Int)/\z t=46:=by
 by_cases a:i=0/\(t:Int)=b
 .obtain⟨j,g,k,l,e⟩:=h.ep a.1 a.2;exact⟨e,j⟩
 .exact absurd (h.nep a) d
theorem qzh(h:jY z wh b i f t u cs)(m:DS z f t u cs Z)(k:-1<=b)(l:b<=63)(v:j<6):zV (xD z 64) wh (vV b) i f t (bg (!wh)+j)=xD Z 64 (bg (!wh)+j):=by
 have p:=mM wh;have r:=h.hi;obtain⟨q,w,d,_⟩:=h.tr;have o:=h.hc;apply XF;intro n e;rw[jq h k l _ e,qF O,qI O,vH _ _ n e,m n];by_cases c1:n=t
 .subst c1;rw[qI R,d];have g:Zm (((bg wh+q:Nat):Int)=((bg (!wh)+j:Nat):Int))=Zl:=qE O;rw[g];by_cases a:cs=n
  .simp[a]
  .have:=(h.cz a).2;rw[this,xp,qE O];rfl
 .rw[qF c1];by_cases c2:n=f
  .subst c2;rw[qI R,xp,o,qE O,XK];symm;exact qE O
  .rw[qF c2];by_cases c3:n=cs
   .rw[qI c3,xp,qJ c3,Bool.not_true,XU];symm;exact qE O
   .rw[qF c3,qE c3];simp
theorem zd(m:Nat->BitVec 64)(base:Nat)(n:Nat):∀k,(wZ m base k).getLsbD n=(List.range k).any λj=>(m (base+j)).getLsbD n
 | 0=>by show(0#64).getLsbD n=_;rw[XM];rfl
 | k+1=>by
  show(wZ m base k ||| m (base+k)).getLsbD n=_;rw[Yx,zd m base n k,YI,List.any_append];simp
theorem okZ(h:jY z wh b i f t u cs)(e:DS z f t u cs Z)(a:xO z=Zk):xO Z=Zk:=by
 obtain⟨q,j,d,_⟩:=h.tr;refine Fy λn g=>?_;rw[e n];split
 .rw[bf,d,Ym];right;exact qJ O
 .split
  .rfl
  .split
   .rfl
   .exact ji a g
theorem bH(h:jY z wh b i f t u cs)(m:DS z f t u cs Z)(k:-1<=b)(l:b<=63):j0 (zV (xD z 64) wh (vV b) i f t)=j0 (xD Z 64):=by
 have C:=mM wh;have v:=h.hi;have A:=h.hc;obtain⟨q,B,r,_⟩:=h.tr;rw[<-Dr _ wh,<-Dr _ wh];have x:xZ (zV (xD z 64) wh (vV b) i f t) (!wh)=xZ (xD Z 64) (!wh):=by
  unfold xZ;apply XF;intro n g;rw[zd,zd,YW,qY,qY];constructor<;>rintro⟨j,d,a⟩<;>refine⟨j,d,?_⟩
  .rw[<-qzh h m k l (qK.1 d)];exact a
  .rw[qzh h m k l (qK.1 d)];exact a
 have w:xZ (zV (xD z 64) wh (vV b) i f t) wh=xZ (xD Z 64) wh:=by
  unfold xZ;apply XF;intro n g;rw[zd,zd,YW,qY,qY];by_cases c1:n=t
  .subst c1;constructor
   .rintro _;refine⟨q,qK.2 B,?_⟩;rw[vH _ _ n g,m n,qI R,r];simp
   .rintro _;refine⟨i,qK.2 v,?_⟩;rw[jq h k l _ g,qI R];have:jB (z n)≠((bg wh+i:Nat):Int):=λe=>h.no (ja v e);rw[qE this];simp
  .by_cases c2:n=f
   .subst c2;constructor
    .rintro⟨j,d,a⟩;have d:=qK.1 d;rw[jq h k l _ g,A]at a;by_cases o:j=i
     .subst o;simp at a
     .rw[qF O,qF O,qG]at a;omega
    .rintro⟨j,d,a⟩;rw[vH _ _ n g,m n,qF c1,qI R,xp,qG]at a;omega
   .constructor
    .rintro⟨j,d,a⟩;have p:=qK.1 d;refine⟨j,d,?_⟩;rw[jq h k l _ g]at a;have y:jB (z n)=((bg wh+j:Nat):Int):=by
      by_cases o:j=i
      .subst o;rw[qI R]at a;simpa[c1,c2]using a
      .rw[qF O,qF O,qG]at a;exact a
     have c3:n≠cs:=by rintro rfl;have:=(h.cz c1).1;omega
     rw[vH _ _ n g,m n,qF c1,qF c2,qF c3];exact qJ y
    .rintro⟨j,d,a⟩;have p:=qK.1 d;refine⟨j,d,?_⟩;rw[vH _ _ n g,m n,qF c1,qF c2]at a;by_cases c3:n=cs
     .rw[qI c3,xp,qG]at a;omega
     .rw[qF c3,qG]at a;rw[jq h k l _ g,a];by_cases o:j=i
      .subst o;rw[qI R];simp[c1,c2]
      .rw[qF O,qF O];simp
 rw[w,x]
theorem qz3{m m':I8}{a:Bool}(f:j0 m=j0 m')(d:∀j,j<6->m (bg a+j)=m' (bg a+j))(y:Int):xV m y a=xV m' y a:=by grind[xV,qY,uk,qK]
theorem qvs(h:jY z wh b i f t u cs)(v:DS z f t u cs Z)(p:-1<=b)(r:b<=63):zV (xD z 64) wh (vV b) i f t (bg wh+5)=xD Z 64 (bg wh+5):=by
 have y:=mM wh;have A:=h.hi;have w:=h.hc;obtain⟨q,B,g,a⟩:=h.tr;apply XF;intro n l;rw[jq h p r _ l,vH _ _ n l,v n];by_cases c1:n=t
 .subst c1;have d:∀j,j<6->jB (z n)≠((bg wh+j:Nat):Int):=λj x e=>h.no (ja x e);rw[qI R,g,qE (d 5 O)];by_cases e:i=5
  .rw[qI O,a.2 e];simp
  .rw[qF O,qF O];symm;exact qE (by have:q≠5:=λk=>e (a.1 k);omega)
 .rw[qF c1];by_cases c2:n=f
  .subst c2;rw[qI R,xp,w];by_cases e:i=5
   .rw[qI O,e];simp;omega
   .rw[qF O,qF O,qE O];symm;exact qE O
  .rw[qF c2];have m:(Zm (n=f)||decide (n=t))=Zl:=by simp[c1,c2]
   rw[m,Bool.xor_false,qF (c:=bg (!wh)<=bg wh+5/\bg wh+5<bg (!wh)+6) O];have o:(if bg wh+5=bg wh+i then Zm (jB (z n)=((bg wh+5:Nat):Int))else Zm (jB (z n)=((bg wh+5:Nat):Int)))=Zm (jB (z n)=((bg wh+5:Nat):Int)):=by split<;>rfl
   rw[o];by_cases c3:n=cs
   .subst c3;rw[qI R,xp,(h.cz c1).1,qE O];symm;exact qE O
   .rw[qF c3]
theorem gR(h:jY z wh b i f t u cs)(r:DS z f t u cs Z)(x:vZ z wh 64=1)(l:-1<=b)(m:b<=63):vZ Z wh 64=1:=by
 have D:=mM wh;have E:=h.hi;have v:=h.hc;rw[<-qxu,<-qvs h r l m];obtain⟨y,C,A,hR⟩:=js x;have d:∀n,n<64->(jB (z n)=((bg wh+5:Nat):Int)↔n=y):=λn a=>by
  have:n∈vD (xD z 64 (bg wh+5))↔n=y:=by rw[A];simp
  unfold vD at this;rw[qV,qK,vH z _ n a,qG]at this;constructor
  .intro e;exact this.1 ⟨a,e⟩
  .intro e;exact(this.2 e).2
 have one:∀w:Nat,w<64->((List.range 64).filter λn=>Zm (n=w))=[w]:=WS;have p:∃w,w<64/\∀n,n<64->(zV (xD z 64) wh (vV b) i f t (bg wh+5)).getLsbD n=Zm (n=w):=by
  by_cases e:i=5
  .refine⟨t,h.ht,λn a=>?_⟩;subst e;have o:=(d f h.hf).1 v;rw[jq h l m _ a,qI R];have q:Zm (jB (z n)=((bg wh+5:Nat):Int))=Zm (n=f):=by rw[YW,qG,qG,d n a,o]
   rw[q];have j:=h.ft;by_cases c1:n=f
   .have:n≠t:=λk=>j (c1.symm.trans k);simp[c1,j]
   .simp[c1]
  .refine⟨y,C,λn a=>?_⟩;rw[jq h l m _ a,qF O,qF O,YW,qG,qG];exact d n a
 obtain⟨w,B,g⟩:=p;have:vD (zV (xD z 64) wh (vV b) i f t (bg wh+5))=[w]:=by unfold vD;rw[qxd _ (λn a=>g n (qK.1 a)),one w B]
 rw[this];rfl
theorem b9(h:jY z wh b i f t u cs)(d:DS z f t u cs Z)(l:xO z=Zk)(o:vZ z wh 64=1)(g:-1<=b)(k:b<=63):xO Z=Zk/\∃y:Nat,y<64/\xR Z wh=(y:Int)/\kE (xD z 64) wh (vV b) i f t=!(vL Z y (!wh)):=by
 have a:=okZ h d l;obtain⟨y,m,p,hR⟩:=js (gR h d o g k);refine⟨a,y,m,hR,?_⟩;unfold kE uG;rw[qvs h d g k,p];have e:xV (zV (xD z 64) wh (vV b) i f t) (y:Int) (!wh)=vL Z y (!wh):=by rw[qz3 (bH h d g k) (λj n=>qzh h d g k n),xu a _ _ m,jk a m]
 simp[e]
theorem b8(h:jY z wh b i f t u cs)(l:i=5->t≠f+2/\t+2≠f)(a:xO z=Zk)(j:vZ z wh 64=1)(d:-1<=b)(g:b<=63):(∃y:Nat,y<64/\xR (zE z b (f,t,u)) wh=(y:Int))/\kE (xD z 64) wh (vV b) i f t=uS z wh b (f,t,u):=by obtain⟨_,y,k,hR,e⟩:=b9 h (iq h l) a j d g;refine⟨⟨y,k,hR⟩,?_⟩;rw[e];unfold uS;rw[hR];rfl
end
def uO(i n:Nat):Bool:=if i%2=0 then Zm (n<hK i)else Zm (hK i<n)
theorem sH:∀i,i<4->∀n,n<64->n/8≠xE i/8->(yd ((n:Nat):Int) ((xE i:Nat):Int)||yg ((n:Nat):Int) ((xE i:Nat):Int))=Zk->((List.range (LI ((n:Nat):Int) ((xE i:Nat):Int))).all λj=>Zm (j=0)||decide ((pI ((n:Nat):Int) ((xE i:Nat):Int) j).toNat/8≠xE i/8)&&Zm ((pI ((n:Nat):Int) ((xE i:Nat):Int) j).toNat<64))=Zk:=WS
theorem BN:∀i,i<4->∀n,n<64->n/8=xE i/8->uO i n=Zk->(yd ((n:Nat):Int) ((hK i:Nat):Int)&&Zm (LI ((n:Nat):Int) ((hK i:Nat):Int)<=LI ((n:Nat):Int) ((xE i:Nat):Int))&&(List.range (LI ((n:Nat):Int) ((hK i:Nat):Int))).all λj=>Zm (j=0)||decide (pI ((n:Nat):Int) ((xE i:Nat):Int) j=pI ((n:Nat):Int) ((hK i:Nat):Int) j)&&uO i (pI ((n:Nat):Int) ((hK i:Nat):Int) j).toNat&&Zm ((pI ((n:Nat):Int) ((hK i:Nat):Int) j).toNat/8=xE i/8)&&Zm ((pI ((n:Nat):Int) ((hK i:Nat):Int) j).toNat<64))=Zk:=WS
theorem BO:∀i,i<4->∀n,n<64->n/8=xE i/8->uO i n=Zk->∀a:Bool,(xS (λ_=>46) 0 (xK a) ((n:Nat):Int) ((xE i:Nat):Int)||xS (λ_=>46) 1 (xK a) ((n:Nat):Int) ((xE i:Nat):Int)||xS (λ_=>46) 2 (xK a) ((n:Nat):Int) ((xE i:Nat):Int)||xS (λ_=>46) 5 (xK a) ((n:Nat):Int) ((xE i:Nat):Int))=Zl:=WS
theorem qx8{f:Nat->Int}{s x y:Int}(h:xS f k s x y=Zk):xS (λ_=>46) k s x y=Zk/\((k=2\/k=3\/k=4)->(yd x y||yg x y)=Zk/\freeI f (pI x y) (LI x y)=Zk):=by
 have a:freeI (λ_=>46) (pI x y) (LI x y)=Zk:=by unfold freeI;exact qJ λ_ _ _=>R
 unfold xS at h |-;by_cases b:k=0
 .simp only[b,YS]at h |-;exact⟨h,O⟩
 .by_cases d:k=1
  .subst d;simp only[b,YH,YS]at h |-;exact⟨h,O⟩
  .by_cases e:k=2
   .subst e;simp only[b,d,YH,YS,qH]at h |-;exact⟨⟨h.1,a⟩,λ_=>⟨by rw[h.1];simp,h.2⟩⟩
   .by_cases g:k=3
    .subst g;simp only[b,d,e,YH,YS,qH]at h |-;exact⟨⟨h.1,a⟩,λ_=>⟨by rw[h.1];simp,h.2⟩⟩
    .by_cases i:k=4
     .subst i;simp only[b,d,e,g,YH,YS,qH]at h |-;exact⟨⟨h.1,a⟩,λ_=>⟨h.1,h.2⟩⟩
     .refine⟨?_,λj=>O⟩;simp only[b,d,e,g,i,YH]at h |-;exact h
theorem wK{f:Nat->Int}{s x y:Int}(h:xS (λ_=>46) k s x y=Zk)(e:(k=2\/k=3\/k=4)->freeI f (pI x y) (LI x y)=Zk):xS f k s x y=Zk:=by
 unfold xS at h |-;by_cases a:k=0
 .simp only[a,YS]at h |-;exact h
 .by_cases b:k=1
  .subst b;simp only[a,YH,YS]at h |-;exact h
  .by_cases d:k=2
   .subst d;simp only[a,b,YH,YS,qH]at h |-;exact⟨h.1,e O⟩
   .by_cases g:k=3
    .subst g;simp only[a,b,d,YH,YS,qH]at h |-;exact⟨h.1,e O⟩
    .by_cases i:k=4
     .subst i;simp only[a,b,d,g,YH,YS,qH]at h |-;exact⟨h.1,e O⟩
     .simp only[a,b,d,g,i,YH]at h |-;exact h
theorem aW{l:Nat->UInt8}(x:xO z=Zk)(G:i<4)(C:DD z wh (hK i) (hD i)=Zk)
 (A:∀n,n<64->n/8≠xE i/8->l n=z n) (J:∀n,n<64->n/8=xE i/8->uO i n=Zk->l n=z n)
 (a0:∀n,n<64->n/8=xE i/8->uO i n=Zl->vB (l n)≠xK (!wh)):zM l ((xE i:Nat):Int) (!wh)=Zl:=by
 have m:hK i<64/\xE i<64/\kC (hK i) (hD i) 0=hK i/\kC (hK i) (hD i) 2=xE i:=by have:i=0\/i=1\/i=2\/i=3:=O;rcases this with rfl|rfl|rfl|rfl<;>decide
 unfold DD at C;rw[qW]at C;have V:=C 0 WW;have M:=C 2 WW;rw[m.2.2.1,jk x m.1,YK]at V;rw[m.2.2.2,jk x m.2.1,YK]at M;cases K:zM l ((xE i:Nat):Int) (!wh)with
 | false=>rfl
 | true =>
  exfalso;unfold zM at K;obtain⟨n,o,h⟩:=qY.1 K;have o:=qK.1 o;rw[qH,qG]at h;obtain⟨w,E⟩:=h;obtain⟨d,u⟩:=qx8 E
  have v:∀y:Nat,zM z (y:Int) (!wh)=Zl->l n=z n->xS (zI z) (vE (l n)).toNat (xK (!wh)) (n:Int) (y:Int)=Zk->False:=λy Q e A=>by
   have:zM z (y:Int) (!wh)=Zk:=by unfold zM;refine qY.2 ⟨n,qK.2 o,?_⟩;rw[qH,qG];exact⟨by rw[<-e];exact w,by rw[<-e];exact A⟩
   rw[Q]at this;cases this
  by_cases g:n/8=xE i/8
  .cases D:uO i n with
   | false=>exact a0 n o g D w
   | true =>
    have e:=J n o g D;have b:=BO i G n o g D (!wh);have f:=BN i G n o g D;simp only[qH,qW,Ym,qG,qK]at f;simp only[Bool.or_eq_false_iff]at b
    have Z:(vE (l n)).toNat=3\/(vE (l n)).toNat=4:=by
     generalize (vE (l n)).toNat=k at d;have H:k=0\/k=1\/k=2\/k=3\/k=4\/5<=k:=O
     obtain rfl|rfl|rfl|rfl|rfl|a1:=H
     .rw[b.1.1.1]at d;cases d
     .rw[b.1.1.2]at d;cases d
     .rw[b.1.2]at d;cases d
     .exact Zi R
     .exact Zj R
     .have:xS (λ_=>46) k (xK (!wh)) (n:Int) ((xE i:Nat):Int)=xS (λ_=>46) 5 (xK (!wh)) (n:Int) ((xE i:Nat):Int):=by unfold xS;simp only[show ¬ k=0 from O,show ¬ k=1 from O,show ¬ k=2 from O,show ¬ k=3 from O,show ¬ k=4 from O,YH];rfl
      rw[this,b.2]at d;cases d
    obtain⟨_,a⟩:=u O;refine v (hK i) V e ?_
    have F:freeI (zI z) (pI (n:Int) ((hK i:Nat):Int)) (LI (n:Int) ((hK i:Nat):Int))=Zk:=by
     unfold freeI at a |-;rw[qG]at a |-;intro j B T;obtain q|q:=f.2 j B
     .omega
     .have r:=a j (by have:=f.1.2;omega) T;rw[q.1.1.1]at r;unfold zI at r |-;rw[<-J _ q.2 q.1.2 q.1.1.2];exact r
    rcases Z with k|k<;>(rw[k];simp[xS,f.1.1,F])
  .have e:=A n o g;refine v (xE i) M e (wK d λW=>?_);obtain⟨P,a⟩:=u W;have p:=sH i G n o g P;simp only[qW,Ym,qH,qG,qK]at p;unfold freeI at a |-;rw[qG]at a |-;intro j B T;obtain q|q:=p j B
   .omega
   .have r:=a j B T;unfold zI at r |-;rw[<-A _ q.2 q.1];exact r
def hR(i:Nat):Nat:=if i=0 then 7 else if i=1 then 0 else if i=2 then 63 else 56
def rN(i:Nat):Nat:=if i=0 then 5 else if i=1 then 3 else if i=2 then 61 else 59
theorem FB(f:i<4)(d:jD (z (hK i))=Zl)(a:jA (z (hK i))=Zk)(n:Nat):zE z b (hK i,xE i,0) n=if n=hR i then 46 else if n=rN i then z (hR i)else if n=xE i then z (hK i)else if n=hK i then 46 else z n:=by
 have e:yH (z (hK i)) 0=z (hK i):=by unfold yH;rw[qI R]
 have:i=0\/i=1\/i=2\/i=3:=O;unfold zE;simp only;rw[d,a,e,XK,qF WU];obtain rfl|rfl|rfl|rfl:=this
 .rw[qI WW];rfl
 .rw[qF WW,qI WW];rfl
 .rw[qI WW];rfl
 .rw[qF WW,qI WW];rfl
theorem zi:∀i,i<4->hK i<64/\xE i<64/\hR i<64/\rN i<64/\xE i/8=hK i/8/\uO i (hK i)=Zl/\uO i (xE i)=Zl/\uO i (hR i)=Zl/\uO i (rN i)=Zl/\hR i/8=hK i/8/\rN i/8=hK i/8/\xE i≠hK i/\hR i≠hK i/\rN i≠hK i/\hR i≠xE i/\rN i≠xE i/\rN i≠hR i:=WS
theorem ts:∀i,i<4->∀n,n<64->n/8=xE i/8->uO i n=Zl->(Zm (n=hK i)||decide (n=hR i)||(List.range (hN i)).any λj=>Zm (kC (hK i) (hD i) (j+1)=n))=Zk:=WS
theorem pB:∀i,i<4->((List.range (hN i)).any λj=>Zm (kC (hK i) (hD i) (j+1)=xE i))=Zk/\((List.range (hN i)).any λj=>Zm (kC (hK i) (hD i) (j+1)=rN i))=Zk:=WS
structure wU(z:I2)(wh:Bool)(i:Nat):Prop where
 hi:i<4
 w:wh=Zm (i<2)
 k:jB (z (hK i))=((bg wh+5:Nat):Int)
 r:jB (z (hR i))=((bg wh+3:Nat):Int)
 e:wn z (hK i) (hD i) (hN i)=Zk
 a:DD z wh (hK i) (hD i)=Zk
theorem cJ(d:kJ z wh fc b)(k:i<4)(l:wh=Zm (i<2))(e:fc i=Zk)(a:az z wh (hK i) (hD i) (hN i)=Zk):wU z wh i:=by
 unfold az at a;rw[qH]at a;have h:jB 75=((bg Zk+5:Nat):Int):=WS;have f:jB 107=((bg Zl+5:Nat):Int):=WS;have j:jB 82=((bg Zk+3:Nat):Int):=WS;have g:jB 114=((bg Zl+3:Nat):Int):=WS;have:i=0\/i=1\/i=2\/i=3:=O;subst l;obtain rfl|rfl|rfl|rfl:=this
 .exact⟨k,R,by rw[show z (hK 0)=75 from(d.c0 e).1];exact h,by rw[show z (hR 0)=82 from(d.c0 e).2];exact j,a.1,a.2⟩
 .exact⟨k,R,by rw[show z (hK 1)=75 from(d.c1 e).1];exact h,by rw[show z (hR 1)=82 from(d.c1 e).2];exact j,a.1,a.2⟩
 .exact⟨k,R,by rw[show z (hK 2)=107 from(d.c2 e).1];exact f,by rw[show z (hR 2)=114 from(d.c2 e).2];exact g,a.1,a.2⟩
 .exact⟨k,R,by rw[show z (hK 3)=107 from(d.c3 e).1];exact f,by rw[show z (hR 3)=114 from(d.c3 e).2];exact g,a.1,a.2⟩
theorem wU.dot(h:wU z wh i)(b:((List.range (hN i)).any λj=>Zm (kC (hK i) (hD i) (j+1)=n))=Zk):z n=46:=by obtain⟨j,a,e⟩:=qY.1 b;rw[qG]at e;have:=h.e;unfold wn at this;have:=qW.1 this j a;rw[e]at this;exact OY
theorem rq(b:Bool):vB 46≠xK b:=by have:vB 46=0:=WS;rw[this];cases b<;>decide
theorem wU.none(h:wU z wh i)(a:n<64)(d:n/8=xE i/8)(b:uO i n=Zl):vB (z n)≠xK (!wh):=by
 have:=ts i h.hi n a d b;rw[Ym,Ym,qG,qG]at this;obtain(rfl|rfl)|e:=this
 .rw[ja O h.k];exact BC wh
 .rw[ja O h.r];exact BC wh
 .rw[h.dot e];exact rq _
theorem tn(l:kJ z wh fc b)(r:-1<=b)(u:b<=63)(h:wU z wh i):kE (xD z 64) wh (vV b) 5 (hK i) (xE i)=Zk:=by
 obtain⟨x,j,P,Q,W,J,K,a0,a2,A,B,C,D,E,F,G,H⟩:=zi i h.hi;have V:z (xE i)=46:=h.dot (pB i h.hi).1;have g:yH (z (hK i)) 0=z (hK i):=by unfold yH;rw[qI R]
 have v:jY z wh b 5 (hK i) (xE i) 0 (xE i):=⟨O,x,j,h.k,by rw[V];exact rq _,λ_=>R,λe=>O,⟨5,O,by rw[g];exact h.k,Iff.rfl⟩⟩;let Z:I2:=λn=>if n=xE i then z (hK i)else if n=hK i then 46 else z n;have w:DS z (hK i) (xE i) 0 (xE i) Z:=λn=>by
  show(if n=xE i then z (hK i)else if n=hK i then 46 else z n)=_;rw[g];by_cases c:n=xE i
  .rw[qI c,qI c]
  .rw[qF c,qF c,qF c]
 obtain⟨p,y,T,hR,e⟩:=b9 v w l.ok (l.k1 wh) r u;have m:=gR v w (l.k1 wh) r u;obtain⟨y',a3,M,a1⟩:=js m;have q:y=xE i:=by
  have:xE i∈vD (xD Z 64 (bg wh+5)):=by unfold vD;rw[qV,qK,vH _ _ _ j];refine⟨j,qJ ?_⟩;show jB (if xE i=xE i then z (hK i)else _)=_;rw[qI R];exact h.k
  rw[M,qT]at this;omega
 rw[e,q,jk p j];have:zM Z ((xE i:Nat):Int) (!wh)=Zl:=by
  refine aW l.ok h.hi h.a (λn o f=>?_) (λn o f d=>?_) (λn o f d=>?_)
  .show(if n=xE i then z (hK i)else if n=hK i then 46 else z n)=_;rw[qF (λe=>f (by rw[e])),qF (λe=>f (by rw[e,W]))]
  .show(if n=xE i then z (hK i)else if n=hK i then 46 else z n)=_;rw[qF (λe=>by rw[e,K]at d;cases d),qF (λe=>by rw[e,J]at d;cases d)]
  .show vB (if n=xE i then z (hK i)else if n=hK i then 46 else z n)≠_;split
   .rw[ja O h.k];exact BC wh
   .split
    .exact rq _
    .exact h.none o f d
 rw[this];rfl
theorem aX(o:kJ z wh fc b)(h:wU z wh i):xR (zE z b (hK i,xE i,0)) wh=((xE i:Nat):Int)/\uS z wh b (hK i,xE i,0)=Zk:=by
 obtain⟨B,C,a1,a4,x,M,a2,W,P,q,u,H,a3,J,v,w,K⟩:=zi i h.hi;obtain⟨d,y⟩:=zj (i:=5) O h.k;have d:jD (z (hK i))=Zl:=by rw[d];rfl
 have y:jA (z (hK i))=Zk:=by rw[y];rfl
 have f:=FB (b:=b) h.hi d y;have V:z (xE i)=46:=h.dot (pB i h.hi).1;generalize a0:zE z b (hK i,xE i,0)=Z at f;have Q:Z (xE i)=z (hK i):=by rw[f,qF (λe=>v e.symm),qF (λe=>w e.symm),qI R]
 have g:∀n,n≠hR i->n≠rN i->n≠xE i->n≠hK i->Z n=z n:=λn D E F G=>by rw[f,qF D,qF E,qF F,qF G]
 have A:xO Z=Zk:=by
  refine Fy λn p=>?_;rw[f];split
  .rfl
  .split
   .exact ji o.ok a1
   .split
    .exact ji o.ok B
    .split
     .rfl
     .exact ji o.ok p
 have hR:xR Z wh=((xE i:Nat):Int):=by
  refine qkm (λj T=>?_) ?_ C
  .rw[di,qX,f];split
   .rw[xp];omega
   .split
    .rw[h.r];omega
    .split
     .omega
     .split
      .rw[xp];omega
      .rename_i e;intro k;exact e (FO (o.k1 wh) O B k h.k)
  .rw[di,Q,h.k];simp
 have m:zM Z ((xE i:Nat):Int) (!wh)=Zl:=by
  refine aW o.ok h.hi h.a (λn p l=>?_) (λn p l d=>?_) (λn p l d=>?_)
  .exact g n (λe=>l (by rw[e,q,x])) (λe=>l (by rw[e,u,x])) (λe=>l (by rw[e])) (λe=>l (by rw[e,x]))
  .exact g n (λe=>by rw[e,W]at d;cases d) (λe=>by rw[e,P]at d;cases d) (λe=>by rw[e,a2]at d;cases d) (λe=>by rw[e,M]at d;cases d)
  .rw[f];split
   .exact rq _
   .split
    .rw[ja O h.r];exact BC wh
    .split
     .rw[ja O h.k];exact BC wh
     .split
      .exact rq _
      .exact h.none p l d
 refine⟨hR,?_⟩;unfold uS;rw[a0,hR];show(!(vL Z (xE i) (!wh)))=Zk;rw[jk A C,m];rfl
theorem ug:∀wh:Bool,∀u∈[(0,0),(113,4),(114,3),(98,2),(110,1)],jB (yH (yQ (bg wh)) (UInt8.ofNat u.1))=((bg wh+u.2:Nat):Int):=WS
theorem qxv:∀f,f<64->∀t,t<64->xS (λ_=>46) 5 1 ((f:Nat):Int) ((t:Nat):Int)=Zk->t≠f+2/\t+2≠f:=WS
theorem gE{f:Nat->Int}{s x y:Int}(h:xS f 0 s x y=Zk):y/8-x/8=s:=by unfold xS at h;rw[qI R,qH,YF,YF]at h;exact h.2
theorem wX{p:Bool}{t:Nat}{x:Mv}(h:x∈xT p f t):∃u,x=(f,t,u)/\(p=Zl->u=0)/\(u=0\/u=113\/u=114\/u=98\/u=110):=by
 unfold xT at h;split at h
 .rename_i a;rw[qH]at a;simp only[Yj,XC,or_false]at h;obtain rfl|rfl|rfl|rfl:=h
  .exact⟨113,R,(λe=>Tl),WU⟩
  .exact⟨114,R,(λe=>Tl),WU⟩
  .exact⟨98,R,(λe=>Tl),WU⟩
  .exact⟨110,R,(λe=>Tl),WU⟩
 .rw[qT.1 h];exact⟨0,R,λ_=>R,Zi R⟩
theorem Fe(d:i<6)(a:jB (z f)=((bg wh+i:Nat):Int))(b:i≠0->u=0)(g:u=0\/u=113\/u=114\/u=98\/u=110):∃q,q<6/\jB (yH (z f) u)=((bg wh+q:Nat):Int)/\(q=5↔i=5):=by
 by_cases e:i=0
 .subst e;have h:=jn Vn a;rw[h,Nat.add_zero];obtain rfl|rfl|rfl|rfl|rfl:=g
  .exact⟨0,O,ug wh (0,0) WU,O⟩
  .exact⟨4,O,ug wh (113,4) WU,O⟩
  .exact⟨3,O,ug wh (114,3) WU,O⟩
  .exact⟨2,O,ug wh (98,2) WU,O⟩
  .exact⟨1,O,ug wh (110,1) WU,O⟩
 .rw[b e];exact⟨i,d,by unfold yH;rw[qI R];exact a,Iff.rfl⟩
theorem lT(h:xX z wh b=Zk){t:Nat}(e:(t:Int)=b):z t=46/\(if wh then 40<=t/\t<48/\z (t-8)=112 else 16<=t/\t<24/\z (t+8)=80):=by
 unfold xX at h;rw[Ym,qG]at h;obtain h|h:=h
 .omega
 .cases wh
  .simp only[qR,YH,qH,qG]at h |-;obtain⟨⟨⟨⟨a,f⟩,c⟩,_⟩,d⟩:=h;subst e;rw[YE]at c;rw[show((t:Int)+8).toNat=t+8 from O]at d;exact⟨uc c R,O,O,uc d R⟩
  .simp only[YS,qH,qG]at h |-;obtain⟨⟨⟨⟨a,f⟩,c⟩,_⟩,d⟩:=h;subst e;rw[YE]at c;rw[show((t:Int)-8).toNat=t-8 from O]at d;exact⟨uc c R,O,O,uc d R⟩
theorem qkf:jB 112=((bg Zl:Nat):Int)/\jB 80=((bg Zk:Nat):Int):=WS
theorem Ey(h:xX z wh b=Zk){t:Nat}(j:f<64)(g:jB (z f)=((bg wh:Nat):Int))(i:oB z wh f t)(k:¬ (f/8=0\/f/8=7)):(t:Int)≠b:=by
 intro l;obtain⟨_,a⟩:=lT h l;cases wh
 .simp only[qR,YH]at a;obtain⟨e,_⟩|⟨d,e,_⟩:=i
  .have e:t=f-8:=e;have:t+8=f:=O;rw[this]at a;rw[a.2.2,qkf.2]at g;exact absurd g WW
  .have e:t=f-16:=e;have d:f/8=6:=by simpa[vQ]using d
   omega
 .simp only[YS]at a;obtain⟨e,_⟩|⟨d,e,_⟩:=i
  .have e:t=f+8:=e;have:t-8=f:=O;rw[this]at a;rw[a.2.2,qkf.1]at g;exact absurd g WW
  .have e:t=f+16:=e;have d:f/8=1:=by simpa[vQ]using d
   omega
def wu(wh:Bool)(b:Int)(i t:Nat):Nat:=if i=0/\(t:Int)=b then(if wh then t-8 else t+8)else t
theorem ko(n:kJ z wh fc b){t:Nat}(v:i<6)(p:f<64)(w:t<64)(o:jB (z f)=((bg wh+i:Nat):Int))(a:t∈yF z wh fc b f)(Q:(f,t,u)∈xT (Zm (i=0)) f t) :
 (jY z wh b i f t u (wu wh b i t)/\(i=5->t≠f+2/\t+2≠f))\/(∃B,wU z wh B/\f=hK B/\t=xE B/\u=0/\i=5):=by
 obtain⟨a1,e,u0,u1⟩:=wX Q;have:u=a1:=Vo;subst this;have x:=Fe v o (λh=>u0 (qE h)) u1;obtain⟨V,P⟩:=zj v o;have q:=ji n.ok w;have A:¬ (i=0/\(t:Int)=b)->wu wh b i t=t:=λh=>by unfold wu;rw[qF h]
 have E:(t:Int)/8-f/8=xK wh->i=0->(t:Int)=b->z t=46/\wu wh b i t<64/\wu wh b i t=f/8*8+t%8/\(if wh then wu wh b i t+8=t else wu wh b i t=t+8)/\jB (z (wu wh b i t))=((bg (!wh):Nat):Int):=λK F j=>by
  obtain⟨W,r⟩:=lT n.beh j;unfold wu;rw[qI ⟨F,j⟩];cases wh
  .simp only[qR,YH,xK]at r K |-;exact⟨W,O,O,trivial,by rw[r.2.2];exact qkf.2⟩
  .simp only[YS,xK]at r K |-;exact⟨W,O,O,O,by rw[r.2.2];exact qkf.1⟩
 unfold yF at a;rw[Yi,qV]at a;obtain⟨a,d⟩|a:=a
 .left;rw[Dq p v o w]at a;have H:vB (z t)≠xK wh:=by
   unfold yG at d;rw[V]at d;by_cases m:i=0
   .rw[qJ m,qI R,Ym,YF]at d;obtain j|j:=d
    .rw[(lT n.beh j).1];exact rq _
    .rw[rt q,qG]at j;rw[j];exact λk=>BC wh k.symm
   .rw[qE m,qF WU,YK,rt q,qX]at d;exact d
  refine⟨⟨v,p,w,o,H,A,λF j=>?_,x⟩,λJ=>?_⟩
  .subst F;exact E (gE a) R j
  .subst J;have:=(qx8 a).1;rw[FI _ 5 O _ 1]at this;exact qxv f p t w this
 .rw[V,P]at a;by_cases m:i=0
  .left;have M:=n.pw wh f p (by rw[o,m];rfl);rw[qJ m,qI R,Fq p M]at a;have G:=Ey n.beh p (by rw[o,m];rfl) a M;have a0:z t=46:=by
    obtain⟨C,D⟩|⟨_,C,_,D⟩:=a
    .rw[C];exact D
    .rw[C];exact D
   exact⟨⟨v,p,w,o,by rw[a0];exact rq _,A,λ_ j=>absurd j G,x⟩,λJ=>O⟩
  .rw[qE m,qF WU]at a;by_cases T:i=5
   .right;subst T;rw[qJ R,qI R]at a;obtain⟨Z,r⟩:=FK n p o;have y:=u0 (qE m);obtain a|a:=Yi.1 a
    .unfold uz at a;split at a
     .rename_i l;rw[qH]at l;have g:=Z l.1;have e:hK (jC wh)+2=xE (jC wh)/\hD (jC wh)=1/\hN (jC wh)=2:=Vn;refine⟨jC wh,cJ n Vn RA l.1 ?_,g,?_,y,R⟩
      .rw[e.2.1,e.2.2,<-g];exact l.2
      .rw[qT.1 a,<-e.1,<-g]
     .cases a
    .unfold pA at a;split at a
     .rename_i l;rw[qH]at l;have g:=r l.1;have e:hK (jC wh+1)-2=xE (jC wh+1)/\hD (jC wh+1)=-1/\hN (jC wh+1)=3:=Vn;refine⟨jC wh+1,cJ n Vn RA l.1 ?_,g,?_,y,R⟩
      .rw[e.2.1,e.2.2,<-g];exact l.2
      .rw[qT.1 a,<-e.1,<-g]
     .cases a
   .rw[qE T,qF WU]at a;cases a
theorem Dt{s:BitVec 64}:n∈vD s↔n<64/\s.getLsbD n=Zk:=by unfold vD;rw[qV,qK]
theorem Ay(k:kJ z wh fc b){x:Mv}:x∈ye z wh fc b 64↔∃i f t u,x=(f,t,u)/\i<6/\f<64/\t<64/\jB (z f)=((bg wh+i:Nat):Int)/\t∈yF z wh fc b f/\(f,t,u)∈xT (Zm (i=0)) f t:=by
 unfold ye nh;rw[YX];constructor
 .rintro⟨f,e,h⟩;have e:=qK.1 e;split at h
  .rename_i n;rw[rt (ji k.ok e),qG]at n;obtain⟨i,j,g,_⟩:=zq n;obtain⟨t,d,h⟩:=YX.1 h;unfold AB at h;rw[(zj j g).1]at h;obtain⟨u,rfl,_,_⟩:=wX h;have l:t<64:=by
    unfold yF at d;rw[Yi,qV]at d;obtain⟨a,_⟩|d:=d
    .exact cP e a
    .obtain⟨w,v⟩:=zj j g;rw[w,v]at d;by_cases m:i=0
     .rw[qJ m,qI R,Fq e (k.pw wh f e (by rw[g,m];rfl))]at d;have B:=k.pw wh f e (by rw[g,m];rfl);obtain⟨a,_⟩|⟨a,c,_⟩:=d
      .rw[a];unfold fw;split<;>omega
      .rw[c];unfold vQ at a;unfold fw;cases wh<;>simp at a<;>simp<;>omega
     .rw[qE m,qF WU]at d;by_cases o:i=5
      .subst o;rw[qJ R,qI R]at d;obtain⟨r,A⟩:=FK k e g;obtain d|d:=Yi.1 d
       .unfold uz at d;split at d
        .rename_i q;rw[qH]at q;rw[qT.1 d,r q.1];cases wh<;>decide
        .cases d
       .unfold pA at d;split at d
        .rw[qT.1 d];omega
        .cases d
      .rw[qE o,qF WU]at d;cases d
   exact⟨i,f,t,u,R,j,e,l,g,d,h⟩
  .cases h
 .rintro⟨i,f,t,u,rfl,j,e,d,p,n,y⟩;refine⟨f,qK.2 e,?_⟩;rw[qI (by rw[rt (ji k.ok e)];exact qJ (ja j p))];refine YX.2 ⟨t,n,?_⟩;unfold AB;rw[(zj j p).1];exact y
theorem jy(a:kJ z wh fc b)(e:-1<=b)(g:b<=63){t:Nat}(w:i<6)(v:f<64)(h:t<64)(r:jB (z f)=((bg wh+i:Nat):Int))(x:t∈yF z wh fc b f)(A:(f,t,u)∈xT (Zm (i=0)) f t) :
 (∃y:Nat,y<64/\xR (zE z b (f,t,u)) wh=(y:Int))/\kE (xD z 64) wh (vV b) i f t=uS z wh b (f,t,u):=by
 obtain⟨q,B⟩|⟨l,d,m,n,o,p⟩:=ko a w v h r x A
 .exact b8 q B a.ok (a.k1 wh) e g
 .subst m n o p;obtain⟨j,k⟩:=aX a (b:=b) d;exact⟨⟨xE l,h,j⟩,by rw[k,tn a e g d]⟩
theorem qjw(h:kJ z wh fc b)(A:-1<=b)(p:b<=63):lg z wh fc b:=by
 have king:∀f t u,(f,t,u)∈ye z wh fc b 64->jA (z f)=Zk->(t=f+2\/t+2=f)->f=4\/f=60:=λf t u d a o=>by
  obtain⟨i,y,E,F,e,k,j,q,n,l,r⟩:=(Ay h).1 d;have g:f=y:=by injection e
  have v:t=E:=Vo;have w:u=F:=Vo;subst g v w;obtain⟨H,D⟩|⟨G,C,g,_,_,_⟩:=ko h k j q n l r
  .rw[(zj k n).2,qG]at a;have:=D a;omega
  .rw[g];unfold hK;split<;>omega
 refine⟨λf j l a m=>?_,λf t u d a o=>?_,λf t u d a o=>?_,λx d=>?_⟩
 .rw[rt (ji h.ok j),qG]at l;obtain⟨i,k,g,_⟩:=zq l;rw[(zj k g).2,qG]at a;subst a;obtain⟨p,B⟩:=FK h j g;rw[Ym]at m;obtain e|e:=m
  .rw[p e];cases wh<;>decide
  .rw[B e];cases wh<;>decide
 .have:=king f t u d a (Zi o);omega
 .have:=king f t u d a (Zj o);omega
 .obtain⟨i,f,t,u,rfl,k,j,q,n,l,r⟩:=(Ay h).1 d;exact(jy h A p k j q n l r).1
theorem je(h:kJ z wh fc b)(l:-1<=b)(m:b<=63)(x:Mv):x∈yo z wh fc b↔x∈xC z wh fc b:=by
 have r:=mM wh;unfold yo xC zH yN kF bE;rw[qV,Ay h];simp only[YX,qK,Dt];constructor
 .rintro⟨⟨i,f,t,u,rfl,e,a,g,n,j,q⟩,o⟩;refine⟨i,e,f,⟨a,by rw[vH z _ f a];exact qJ n⟩,t,⟨g,(ph h l m e a g n).1 j⟩,?_⟩;rw[(jy h l m e a g n j q).2,qI o];exact q
 .rintro⟨i,e,f,⟨a,d⟩,t,⟨g,p⟩,k⟩;rw[vH z _ f a,qG]at d;have j:=(ph h l m e a g d).2 p;split at k
  .rename_i o;obtain⟨u,rfl,_,_⟩:=wX k;refine⟨⟨i,f,t,u,R,e,a,g,d,j,k⟩,?_⟩;rw[<-(jy h l m e a g d j k).2];exact o
  .cases k
end Go.Proofs.YtnfakamfmkhlbabGreatDoor.C
