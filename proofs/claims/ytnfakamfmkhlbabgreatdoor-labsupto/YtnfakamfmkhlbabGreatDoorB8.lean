import Derived.Test.YtnfakamfmkhlbabGreatDoorB7
set_option maxRecDepth 100000
set_option maxHeartbeats 4000000
set_option linter.all false
open Go.Value renaming int->I,bool->Za,string->Zb,agg->Zc,tuple->Ze,slice->Zq
open Go.IntKind renaming i64->L,u8->Zg,u64->Zh
open Go.Obj renaming cells->Z
open Go.Ending renaming returned->Zd
open Or renaming inl->Zi,inr->Zj
open Option renaming some->S,none->N
open Bool renaming true->Zk,false->Zl
open Decidable renaming decide->Zm
open Go.RowKit renaming Hid->Y
open Go renaming World->I6,Value->I7
namespace Go.Proofs.YtnfakamfmkhlbabGreatDoor.C
open Go.ChangeShapes Go.WideShapes Go.ChangeAt Go.RowKit Go.Shelf Go.Proofs.YtnfakamfmkhlbabGreatDoor.P Tryz
attribute [local go_sem] qd qe Oper.semAt_some
variable {z:I2}{wh:Bool}{b h m:Int}{PA A M:I0}{fc:I5}{w W a w' w1 V:I6}{f n i k g base d e l j x B Bp:Nat}{v:I7}{u:UInt8}{Q:Nat->Obj->Prop}{rs:I3}{y:I1}
def jZ(wh:Bool)(fc:I5)(f t:Nat)(u:UInt8)(i:Nat):Bool:=fc i&&(xK (Zm (i<2))==xK wh)&&((f:Int)==xY i)&&((t:Int)==vN i)&&((u.toNat:Int)==0)
def gh(p:Nat->Bool):Nat->Nat->Int
 | 0,_=>-1
 | n+1,i=>if p i then(i:Int)else gh p n (i+1)
def zK(wh:Bool)(fc:I5)(f t:Nat)(u:UInt8):Int:=gh (jZ wh fc f t u) 4 0
theorem Cc(W:I6)(o:Obj)(j:Nat)(h:j<W.heap.size):(W.alloc o).heap[j]?=W.heap[j]?:=YG ((XL W.heap.size W).alloc Zy o) j h
theorem eQ{o:I0}{ty ty2:TypeId}(g:Gr ((w.alloc (Z PA ty)).alloc (Z o ty2)) w'):w'.heap[w.heap.size]?=S (Z PA ty (0,0))/\w'.heap[w.heap.size+1]?=S (Z o ty2 (0,0)):=by
 constructor
 .refine(Zz g UA).trans ?_;rw[Cc _ _ _ Vj];exact ZQ w _
 .refine(Zz g UA).trans ?_;have:=ZQ (w.alloc (Z PA ty)) (Z o ty2);rwa[Z3]at this
theorem qn{b:Nat}{ty:TypeId}(h:W.heap[b]?=S (Z A ty (0,0)))(i:Nat):W.cell? ⟨b,i,N⟩=A[i]?:=by simp only[World.cell?];rw[h];rfl
theorem vF{b:Nat}{ty:TypeId}(h:W.heap[b]?=S (Z A ty (0,0))):zJ b A W :=
 ⟨(qB.1 h).1,λj v a=>by rw[Z2,qn h,<-qO];exact a⟩
def ll(i:Nat)(j:Nat):Int:=if i%2=0 then xY i+j else xY i-j
def AR(i:Nat):Nat:=if i%2=0 then 3 else 4
def nB(z:I2)(i:Nat):Bool:=P.freeI (λn=>((z n).toNat:Int)) (ll i) (AR i)
def km(z:I2)(i:Nat):Bool:=nB z i&&!(zM z (xY i) (!decide (i<2)))&&!(zM z ((xY i+vN i).tdiv 2) (!decide (i<2)))&&!(zM z (vN i) (!decide (i<2)))
abbrev yZ:=Int × Int
def small(s:yZ):Prop:=-2<=s.1/\s.1<=2 ∧ -2<=s.2/\s.2<=2
def C4(s:yZ):Int:=s.1*s.1+s.2*s.2
theorem iX{a:Int}(b:-2<=a)(d:a<=2):wrap64 (a*a)=a*a/\0<=a*a/\a*a<=4:=by have:a=-2\/a=-1\/a=0\/a=1\/a=2:=O;rcases this with rfl|rfl|rfl|rfl|rfl<;>(unfold wrap64;omega)
theorem zl{a b:Bool}(h:a=b):Ending.returned (Za a)=Zd (Za b):=by rw[h]
theorem Dk{k:IntKind}{a:Int}{x y:Bool}(h:a=b)(g:x=y):Ending.returned (Ze #[I k a,Za x])=Zd (Ze #[I k b,Za y]):=by rw[h,g]
theorem dG(a b:Int)(h:small (a,b))(w:I6):ZL 222 #[Zc #[I L a,I L b]] w (I L (C4 (a,b))):=by obtain⟨d,f,g,i⟩:=h;simp only at d f g i;have j:=iX d f;have k:=iX g i;go_enter func222,ntmps222;go_wp2;go_ret;refine⟨xo ?_,ZN⟩;rfl
theorem dH(a b:Int)(h:small (a,b))(w:I6):ZL 150 #[Zc #[I L a,I L b]] w (Zc #[I L (-a),I L (-b)]):=by obtain⟨d,f,g,i⟩:=h;simp only at d f g i;have j:wrap64 (-a)=-a:=Ti;have k:wrap64 (-b)=-b:=Ti;go_enter func150,ntmps150;go_wp2;exact ZS (v:=Zc #[I L (-a),I L (-b)]) (Yp results150 _ _ (w.heap.size+1) 221 #[I L (-a),I L (-b)] (0,0) _ R (by have:=ZQ (w.alloc (Z #[I L a,I L b] 221)) (Z #[I L (-a),I L (-b)] 221);rw[Z3]at this;exact this) underlying221 rfl WR) R ⟨R,ZN.al⟩
def kw(c:UInt8)(wh:Bool):Bool:=if wh then Zm (65<=c.toNat)&&Zm (c.toNat<=90)else Zm (97<=c.toNat)&&Zm (c.toNat<=122)
theorem qxy(c:UInt8)(wh:Bool)(w:I6):Calls prog 148 #[I Zg c.toNat,Za wh] w λe w'=>e=Zd (Za (kw c wh))/\w'=w:=by
 cases wh;all_goals
  go_enter func148,ntmps148;go_wp2
  all_goals
   go_ret;refine⟨zl ?_,R⟩;rw[YW];simp only[kw,qH,qG,qR,false_iff,YS,YH];omega
def FW(x:Nat)(s:yZ):Int:=8*((x:Int)/8+s.2)+((x:Int)%8+s.1)
def pM(x:Nat)(s:yZ):Bool:=Zm (0<=(x:Int)%8+s.1)&&Zm ((x:Int)%8+s.1<8)&&Zm (0<=(x:Int)/8+s.2)&&Zm ((x:Int)/8+s.2<8)
theorem sL(x:Nat)(j:x<64)(a b:Int)(h:small (a,b))(w:I6):ZL 221 #[I L x,Zc #[I L a,I L b]] w (Ze #[I L (FW x (a,b)),Za (pM x (a,b))]):=by
 obtain⟨d,f,g,i⟩:=h;simp only at d f g i;go_enter func221,ntmps221;go_upto_region 1 with fail;go_quiet(fail);go_wp2;all_goals
  go_ret2;refine⟨Dk R ?_,ZN.drewN _⟩;rw[YW];simp only[pM,qH,qG,qR,false_iff];omega
def ki(c:UInt8)(s:yZ):Bool :=
 if((c.toNat:Int)==80)then(C4 s==2)&&(s.2==1)
 else if((c.toNat:Int)==112)then(C4 s==2)&&(s.2==-1)
 else if((c.toNat:Int)==78)||((c.toNat:Int)==110)then C4 s==5
 else if((c.toNat:Int)==66)||((c.toNat:Int)==98)then C4 s==2
 else if((c.toNat:Int)==82)||((c.toNat:Int)==114)then C4 s==1
 else if((c.toNat:Int)==81)||((c.toNat:Int)==113)||((c.toNat:Int)==75)||((c.toNat:Int)==107)then Zm (C4 s<=2)
 else Zl
theorem DX{a:Int}{ty:TypeId}:(w.alloc (Z #[I L a,I L b] ty)).cell? ⟨w.heap.size,0,N⟩=S (I L a)/\(w.alloc (Z #[I L a,I L b] ty)).cell? ⟨w.heap.size,1,N⟩=S (I L b):=by constructor<;>(rw[Z8 _ _ _ _ R];rfl)
theorem aG(c:UInt8)(a b:Int)(h:small (a,b))(w:I6):ZL 149 #[I Zg c.toNat,Zc #[I L a,I L b]] w (Za (ki c (a,b))):=by
 obtain⟨z,j⟩:∃z,Y (z=C4 (a,b)):=⟨_,X R⟩;have k:Y (∀W,ZL 222 #[Zc #[I L a,I L b]] W (I L z)):=X (λW=>by rw[j.a];exact dG a b h W);go_enter func149,ntmps149;go_upto_region 1 with fail;obtain⟨c0,c1⟩:=DX (w:=w) (a:=a) (b:=b) (ty:=221);have d:Y (Gr w (w.alloc (Z #[I L a,I L b] 221))):=X ZN;have f:w.heap.size<(w.alloc (Z #[I L a,I L b] 221)).heap.size:=WU;generalize w.alloc (Z #[I L a,I L b] 221)=m at c0 c1 d f |-;go_wp2_with(go_at_call 222;refine Z0 (k.a _) λw' g=>?_;have l:=(ZW g (p:=⟨w.heap.size,1,N⟩) f).trans c1;have i:=X (Gr.trans d.a g);clear g);all_goals
  go_ret;refine⟨zl ?_,by first|exact i.a|exact d.a⟩;simp only[ki,<-j.a];simp[*]
def uh:List yZ:=[(0,1),(1,1),(1,0),(1,-1),(0,-1),(-1,-1),(-1,0),(-1,1),(1,2),(2,1),(2,-1),(1,-2),(-1,-2),(-2,-1),(-2,1),(-1,2)]
def nx(x:Nat)(s:yZ):Nat:=(FW x s).toNat
def uW(z:Nat->UInt8)(s:yZ):Nat->Nat->List Nat
 | 0,_=>[]
 | n+1,x=>if pM x s then nx x s :: (if z (nx x s)=46 then uW z s n (nx x s)else[])else[]
def Ej(x:Nat)(s:yZ):Nat:=if 0<s.1 then 7-x%8 else if s.1<0 then x%8 else if 0<s.2 then 7-x/8 else x/8
theorem sK{s:yZ}(h:pM x s=Zk):FW x s=(nx x s:Nat)/\nx x s<64:=by simp only[pM,qH,qG]at h;unfold nx FW;omega
theorem tQ{s:yZ}(b:x<64)(a:s.1≠0\/s.2≠0)(h:pM x s=Zk):Ej (nx x s) s<Ej x s:=by
 simp only[pM,qH,qG]at h;unfold Ej nx FW;split
 .omega
 .exact Iu
def kq(z:I2)(s:yZ)(x:Nat):List Nat:=uW z s 8 x
theorem G9(x:Nat)(a:x<64)(s:yZ):Ej x s<=7:=by
 unfold Ej;split
 .omega
 .exact Iu
def yh(x:Nat):I0:=#[I L x]
def uE:I7->Bool
 | Za Zk=>Zk
 | _=>Zl
def Bz(z:I2)(a:Nat)(w:I6):Prop:=∀i,i<64->w.cell? ⟨a,i,N⟩=S (I Zg (z i).toNat)
theorem Bz.fr{a:Nat}(h:Bz z a w)(f:Fr Q w w')(d:∀o,Q a o):Bz z a w':=λi b=>f.cell (h i b) (λo _=>d o)
structure Wk(z:I2)(x:Nat)(s:yZ)(Bf Bs Bq a:Nat)(w:I6):Prop where
 fr:w.cell? ⟨Bf,0,N⟩=S (I L x)
 s0:w.cell? ⟨Bs,0,N⟩=S (I L s.1)
 s1:w.cell? ⟨Bs,1,N⟩=S (I L s.2)
 qq:w.cell? ⟨Bq,0,N⟩=S (ZI a)
 bd:Bz z a w
theorem Wk.fr'{s:yZ}{Bf Bq a:Nat}(h:Wk z x s Bf d Bq a w)(f:Fr Q w w')(b:∀k o,(k=Bf\/k=d\/k=Bq\/k=a)->Q k o):Wk z x s Bf d Bq a w' :=
 ⟨f.cell h.fr (λo _=>b _ o (Zi R)),f.cell h.s0 (λo _=>b _ o (Zj (Zi R))),f.cell h.s1 (λo _=>b _ o (Zj (Zi R))),f.cell h.qq (λo _=>b _ o (Zj (Zj (Zi R)))),h.bd.fr f (λo=>b _ o (Zj (Zj (Zj R))))⟩
theorem dC(z:I2)(x:Nat)(R:x<64)(a b:Int)(hs:small (a,b))(hn:a≠0\/b≠0)(Bf Q Bq A:Nat)(T:Obj->Prop)(w:I6)(hw:Wk z x (a,b) Bf Q Bq A w) :
 It prog 220 #[ZI Bf,ZI Q,ZI Bq] yh T (λk=>k=Bf\/k=Q\/k=Bq\/k=A) (kq z (a,b) x) w:=by
 intro l B J Jx W f0 hB hJ a4 hY h0;have K:=hw.fr' f0 (λk o h=>h);clear f0 hw;have a6:=X (λ(x:Nat)(R:x<64) W=>sL x R a b hs W);refine(ZY (n:=1)).1 ?_;refine callsIn_of_wp func220 rfl trivial ?_ rfl;simp only[ntmps220,Nat.reduceAdd,Nat.reduceSub,Zr];have c1:=K.fr;have c2:=K.s0;have c3:=K.s1;gi_wp2_with (refine⟨trivial,?_⟩;gi_at_call 221;refine(ZY.2 (a6.a x R _)).mono ?_;rintro e w' ⟨rfl,C⟩);have F:=hJ _ _ _ h0 (Fr.of_gr C);have a8:=K.fr' (Q:=λ_ _=>True) (Fr.of_gr C) (λ_ _ _=>trivial);clear c1 c2 c3 C h0 K;gi_loopw [5,6] (λsq ok wr=>∃(f:List Nat)(y n:Nat),y<64/\Ej y (a,b)<n/\sq=I L (FW y (a,b))/\ok=Za (pM y (a,b))/\kq z (a,b) x=f++uW z (a,b) n y/\Wk z x (a,b) Bf Q Bq A wr/\J f wr) (λsq ok _=>if uE ok then Ej (intOf sq).toNat (a,b)+1 else 0)
 case atStart=>exact⟨[],x,8,R,by have:=G9 x R (a,b);omega,rfl,rfl,rfl,a8,F⟩
 case round=>
  obtain⟨f,y,n,hy,hd,rfl,rfl,V,b0,H⟩:=hrel;clear F a8;have p:=X V;have u:=X b0;clear V b0;cases j:pM y (a,b)
  .have a9:kq z (a,b) x=f:=by
    rw[p.a];cases n with
    | zero=>simp[uW]
    | succ n=>simp[uW,j]
   have a1:=X a9;clear a9;gi_wp2;go_end0;exact⟨⟨_,rfl⟩,Zi (by rw[a1.a];exact H)⟩
  .obtain⟨n,rfl⟩:∃n',n=n'+1:=⟨n-1,O⟩;obtain⟨e1,E⟩:=sK j;have b2:=tQ hy hn j;rw[e1];have v:uW z (a,b) (n+1) y=nx y (a,b) :: (if z (nx y (a,b))=46 then uW z (a,b) n (nx y (a,b))else[]):=by simp[uW,j]
   have g:=p.a;rw[v]at g;generalize nx y (a,b)=m at E b2 v g |-;have d:=X g;have P:f++[m] <+: kq z (a,b) x:=⟨_,by rw[d.a,qS];rfl⟩;obtain⟨fn,tmps,q,D,a7,hR⟩:=hY f m wr P H;have a2:(Instr.yield l #[I L m]).run prog wr=.ok (.round l fn tmps q D) wr:=a7;clear p v g a7 e1 j;have a5:0<=(m:Int):=O;have a3:(m:Int)<64:=O;gi_wp2;refine hR.mono ?_;rintro e W3 ⟨f3,⟨rfl,G⟩|⟨rfl,b1⟩⟩
   .have i:=u.a.fr' f3 (λk o h=>Zi h);have d1:=i.qq;have d2:=i.bd m E;have d3:=i.s0;have d4:=i.s1;have M:=X i;clear i u hR a2;by_cases r:z m=46
    .rw[qI r]at d;have hz:((z m).toNat:Int)=46:=by rw[r];rfl
     rw[hz]at d2;gi_wp2_with (refine⟨trivial,?_⟩;gi_at_call 221;refine(ZY.2 (a6.a m E _)).mono ?_;rintro e w' ⟨rfl,C⟩);go_roundw
     case rel=>exact⟨f++[m],m,n,E,O,rfl,rfl,by rw[d.a,qS];rfl,M.a.fr' (Q:=λ_ _=>True) (Fr.of_gr C) (λ_ _ _=>trivial),hJ _ _ _ G (Fr.of_gr C)⟩
     case measure=>
      simp only[intOf,uE,YS,YE];cases a0:pM m (a,b)
      .simp[uE]
      .have:=tQ E hn a0;simp only[uE,YS];unfold nx at this;omega
    .rw[qF r]at d;have hz:(((z m).toNat:Int) != 46)=Zk:=by simp only[qU];intro h;apply r;apply q6.1;have:(z m).toNat=46:=O;rw[this];rfl
     gi_wp2;refine ZS (XS rfl _ _ _) rfl ?_;exact⟨⟨_,rfl⟩,Zi (by rw[d.a];exact G)⟩
   .gi_wp2;refine ZS (XS rfl _ _ _) rfl ?_;exact⟨⟨_,rfl⟩,Zj ⟨f++[m],P,b1⟩⟩
def dx(c:UInt8):Bool:=Zm (0<=Lib.indexByte [66,82,81,98,114,113] c)
theorem qzt(c:UInt8)(w:I6):Calls prog 151 #[I Zg c.toNat] w λe w'=>e=Zd (Za (dx c))/\w'=w:=by have f:((c.toNat:Nat):Int).toNat.toUInt8=c:=WU;obtain⟨d,b⟩:=Zo (Lib.indexByte [66,82,81,98,114,113] c);have a:Y (dx c=Zm (0<=d)):=X (by unfold dx;rw[b]);go_enter func151,ntmps151;go_wp2_with(go_at_call 200;refine Z1 (Tryz.strings_IndexByte _ _ _) ?_);go_ret;refine⟨zl ?_,R⟩;rw[a.a]
theorem jG(w:I6)(a b d:Obj):(((w.alloc a).alloc b).alloc d).heap[w.heap.size]?=S a/\(((w.alloc a).alloc b).alloc d).heap[w.heap.size+1]?=S b/\(((w.alloc a).alloc b).alloc d).heap[w.heap.size+2]?=S d/\(((w.alloc a).alloc b).alloc d).heap.size=w.heap.size+3:=by
 obtain⟨e,f⟩:=x6 w a b;refine⟨?_,?_,?_,WU⟩
 .rw[YP _ _ _ WX];exact e
 .rw[YP _ _ _ WU];exact f
 .have:=ZQ ((w.alloc a).alloc b) d;rwa[Z3,Z3]at this
structure ap(A x:Nat)(a b:Int)(Bq:Nat)(w:I6):Prop where
 b0:w.heap[Bq]?=S (Z #[ZI A] 224)
 b1:w.heap[Bq+1]?=S (Z #[I L x] 3)
 b2:w.heap[Bq+2]?=S (Z #[I L a,I L b] 221)
def wkA(Bq:Nat):I0:=#[ZI (Bq+1),ZI (Bq+2),ZI Bq]
theorem xg{b:Nat}{x y:I7}{t:TypeId}{fr:Nat × Nat}(h:V.heap[b]?=S (Z #[x,y] t fr)):V.cell? ⟨b,0,N⟩=S x/\V.cell? ⟨b,1,N⟩=S y:=by refine⟨?_,?_⟩<;>simp[World.cell?,h]
theorem ap.wk{A:Nat}{a:Int}{Bq:Nat}(h:ap A x a b Bq w)(d:Bz z A w):Wk z x (a,b) (Bq+1) (Bq+2) Bq A w :=
 ⟨(qi h.b1).1,(xg h.b2).1,(xg h.b2).2,(qi h.b0).1,d⟩
theorem dB(A x:Nat)(a b:Int)(w:I6):Calls prog 147 #[ZI A,I L x,Zc #[I L a,I L b]] w λe w'=>e=Zd (.func (.func 220) #[] (wkA w.heap.size))/\ap A x a b w.heap.size w'/\Gr w w'/\w'.heap.size=w.heap.size+3:=by have j:∀(d:Fn)(first cap:I0)(w:I6),(Instr.makeFunc d first cap).run prog w=.ok (.func d first cap) w:=λ_ _ _ _=>R;obtain⟨f,g,h,i⟩:=jG w (Z #[ZI A] 224) (Z #[I L x] 3) (Z #[I L a,I L b] 221);go_enter func147,ntmps147;go_wp2;go_ret;exact⟨R,⟨f,g,h⟩,ZN.al.al,i⟩
def jO:List I7:=uh.flatMap λs=>[I L s.1,I L s.2]
def vT(w:I6):Prop:=w.rangeAt 0 0 jO/\0<w.heap.size
theorem vT.gr(h:vT w)(g:Gr w w'):vT w' :=
 ⟨λj v a=>(ZW g (p:=⟨_,0+j,N⟩) h.2).trans (h.1 j v a),qN h.2 (ZR g)⟩
theorem vT.fr(h:vT w)(f:Fr Q w w')(a:∀o,Q 0 o):vT w' :=
 ⟨λj v b=>f.cell (h.1 j v b) (λo _=>a o),qN h.2 f.size⟩
theorem lJ:(prog.info? 222).map (·.size)=S jO.length:=WR
def jU(k:Nat):yZ:=uh.getD k (0,1)
theorem pk(k:Nat):small (jU k)/\((jU k).1≠0\/(jU k).2≠0):=by
 have h:∀s∈uh,small s/\(s.1≠0\/s.2≠0):=by unfold uh small;decide
 unfold jU;rw[YR];cases e:uh[k]? with
 | none=>exact⟨by unfold small;decide,WW⟩
 | some s=>exact h s (Wm e)
theorem Gf(w:I6):(Instr.index 222 (Zc jO.toArray) (I L 0)).run prog w=.ok (Zc #[I L (jU 0).1,I L (jU 0).2]) w:=WR
theorem Ge(w:I6):(Instr.index 222 (Zc jO.toArray) (I L 1)).run prog w=.ok (Zc #[I L (jU 1).1,I L (jU 1).2]) w:=WR
theorem Gc(w:I6):(Instr.index 222 (Zc jO.toArray) (I L 2)).run prog w=.ok (Zc #[I L (jU 2).1,I L (jU 2).2]) w:=WR
theorem Gb(w:I6):(Instr.index 222 (Zc jO.toArray) (I L 3)).run prog w=.ok (Zc #[I L (jU 3).1,I L (jU 3).2]) w:=WR
theorem Ga(w:I6):(Instr.index 222 (Zc jO.toArray) (I L 4)).run prog w=.ok (Zc #[I L (jU 4).1,I L (jU 4).2]) w:=WR
theorem GZ(w:I6):(Instr.index 222 (Zc jO.toArray) (I L 5)).run prog w=.ok (Zc #[I L (jU 5).1,I L (jU 5).2]) w:=WR
theorem GY(w:I6):(Instr.index 222 (Zc jO.toArray) (I L 6)).run prog w=.ok (Zc #[I L (jU 6).1,I L (jU 6).2]) w:=WR
theorem GX(w:I6):(Instr.index 222 (Zc jO.toArray) (I L 7)).run prog w=.ok (Zc #[I L (jU 7).1,I L (jU 7).2]) w:=WR
theorem GW(w:I6):(Instr.index 222 (Zc jO.toArray) (I L 8)).run prog w=.ok (Zc #[I L (jU 8).1,I L (jU 8).2]) w:=WR
theorem GV(w:I6):(Instr.index 222 (Zc jO.toArray) (I L 9)).run prog w=.ok (Zc #[I L (jU 9).1,I L (jU 9).2]) w:=WR
theorem EU(w:I6):(Instr.index 222 (Zc jO.toArray) (I L 10)).run prog w=.ok (Zc #[I L (jU 10).1,I L (jU 10).2]) w:=WR
theorem ET(w:I6):(Instr.index 222 (Zc jO.toArray) (I L 11)).run prog w=.ok (Zc #[I L (jU 11).1,I L (jU 11).2]) w:=WR
theorem ES(w:I6):(Instr.index 222 (Zc jO.toArray) (I L 12)).run prog w=.ok (Zc #[I L (jU 12).1,I L (jU 12).2]) w:=WR
theorem ER(w:I6):(Instr.index 222 (Zc jO.toArray) (I L 13)).run prog w=.ok (Zc #[I L (jU 13).1,I L (jU 13).2]) w:=WR
theorem EQ(w:I6):(Instr.index 222 (Zc jO.toArray) (I L 14)).run prog w=.ok (Zc #[I L (jU 14).1,I L (jU 14).2]) w:=WR
theorem EP(w:I6):(Instr.index 222 (Zc jO.toArray) (I L 15)).run prog w=.ok (Zc #[I L (jU 15).1,I L (jU 15).2]) w:=WR
theorem Gg(k:Nat)(a:k<16)(w:I6):(Instr.index 222 (Zc jO.toArray) (I L k)).run prog w=.ok (Zc #[I L (jU k).1,I L (jU k).2]) w:=by
 have:k=0\/k=1\/k=2\/k=3\/k=4\/k=5\/k=6\/k=7\/k=8\/k=9\/k=10\/k=11\/k=12\/k=13\/k=14\/k=15:=O;obtain rfl|rfl|rfl|rfl|rfl|rfl|rfl|rfl|rfl|rfl|rfl|rfl|rfl|rfl|rfl|rfl:=this
 .exact Gf w
 .exact Ge w
 .exact Gc w
 .exact Gb w
 .exact Ga w
 .exact GZ w
 .exact GY w
 .exact GX w
 .exact GW w
 .exact GV w
 .exact EU w
 .exact ET w
 .exact ES w
 .exact ER w
 .exact EQ w
 .exact EP w
def fQ(z:I2)(bw:Bool)(s:yZ)(far:Bool)(y:Nat):Bool:=kw (z y) bw&&ki (z y) (-s.1,-s.2)&&(!far||dx (z y))
def vq(z:Nat->UInt8)(bw:Bool)(s:yZ):Bool->List Nat->Bool
 | _,[]=>Zl
 | far,y :: r=>fQ z bw s far y||vq z bw s Zk r
theorem aF(z:Nat->UInt8)(b:Bool)(s:yZ)(y:Nat):∀(far:Bool)(a:List Nat),vq z b s far (a++[y])=(vq z b s far a||fQ z b s (far||!a.isEmpty) y)
 | far,[]=>by simp[vq]
 | far,x :: r=>by
  have:=aF z b s y Zk r;simp only[YA,vq,this,Bool.true_or,List.isEmpty_cons,X3,Bool.or_true,Bool.or_assoc]
theorem lL(z:Nat->UInt8)(d:Bool)(s:yZ):∀(b e:List Nat)(far:Bool),b <+: e->vq z d s far b=Zk->vq z d s far e=Zk
 | [],_,_,_,h=>by simp[vq]at h
 | x :: r,[],_,h,_=>by simp at h
 | x :: r,y :: q,far,h,a=>by
  obtain⟨rfl,f⟩:=List.cons_prefix_cons.1 h;simp only[vq,Ym]at a |-;obtain a|a:=a
  .exact Zi a
  .exact Zj (lL z d s r q Zk f a)
def vL(z:I2)(x:Nat)(bw:Bool):Bool:=(List.range 16).any λk=>vq z bw (jU k) Zl (kq z (jU k) x)
theorem oM{s:yZ}:∀(n x:Nat),x<64->∀y∈uW z s n x,y<64
 | 0,_,_,y,h=>by simp[uW]at h
 | n+1,x,hx,y,h=>by
  unfold uW at h;split at h
  .rename_i a;have b:=(sK a).2;obtain rfl|h:=Yj.1 h
   .exact b
   .split at h
    .exact oM n _ b y h
    .cases h
  .cases h
theorem ce{s:yZ}{y:Nat}(a:x<64)(h:y∈kq z s x):y<64:=oM 8 x a y h
theorem qzn{i:Func}{tmps:I0}{r:Ending->I6->Prop}:∀(b:List Nat)(w:I6),zY B b w →
 (∀w',Fr (λk o=>k<B\/o.isCells=Zk) w w'->∃v,(results i tmps).run prog w'=.ok v w'/\r (Zd v) w')->LeavesInM Fence.wide n prog i tmps r (b.map uK) .returning w:=by
 intro b;induction b with
 | nil =>
  intro w _ hR;obtain⟨v,l,m⟩:=hR w ZP;exact⟨_,l,m⟩
 | cons D b ih =>
  intro w d hR;obtain⟨p,hD⟩:=d.2 D WU
  have f:Fr (λk o=>k<B\/o.isCells=Zk) w (w.putObj D (.deferred N)):=ZP.putObj _ (λo e q=>by
   rw[hD]at e;cases e;obtain q|q:=q
   .omega
   .cases q)
  refine⟨WU,Zi ⟨D,_,R,YU hD,ih _ ⟨(X6.1 d.1).2,λg a=>⟨(d.2 g (Xg _ a)).1,?_⟩⟩ (λw' j=>hR w' (f.trans j))⟩⟩;have h:g≠D:=λe=>(X6.1 d.1).1 (e▸a);exact(Xw h).trans (d.2 g (Xg _ a)).2
theorem ig(tmps:I0)(w:I6)(b:Nat)(v:I7)(e:tmps.getD 6 undef=ZI b)(d:w.cell? ⟨b,0,N⟩=S v):(results Tryz.f64 tmps).run prog w=.ok v w:=by have a:tmps[6]?.getD undef=ZI b:=VI;simp[results,results64,a,asAddr,go_sem,d]
structure AD(bw:Bool)(A:I0)(w:I6)(Ds:List Nat)(W:I6):Prop where
 sq:W.heap[w.heap.size]?=S (Z A 67)
 bb:W.heap[w.heap.size+1]?=S (Z #[Za bw] 4)
 rs:W.heap[w.heap.size+2]?=S (Z #[Za Zl] 4)
 ms:zY w.heap.size Ds W
 gr:Gr w W
theorem AD.fr{e:Bool}{b:List Nat}{d:I6}(h:AD e A w b W)(f:Fr Q W d)(a:∀k o,(k<=w.heap.size+2\/k∈b)->Q k o):AD e A w b d :=
 ⟨f.same _ _ h.sq (a _ _ (Zi O)),f.same _ _ h.bb (a _ _ (Zi O)),f.same _ _ h.rs (a _ _ (Zi O)),h.ms.fr f (λk o _ _ _ g=>a k o (Zj g)),Below.trans h.gr (f.below (n:=w.heap.size) (ZR h.gr) (λk o g=>a k o (Zi O)))⟩
theorem n6{t:TypeId}(a:∀i,i<64->A[i]?=S (I Zg (z i).toNat))(h:W.heap[B]?=S (Z A t)):Bz z B W:=λi b=>by
 rw[Zs h];exact a i b
def AtI(z:I2)(x:Nat)(bw:Bool)(A:I0)(w:I6)(gk:Nat)(a:Act)(wr:I6):Prop :=
 ∃(k:Nat)(Ds:List Nat)(u4 u7 u8 u9 u10 u11 u14 u15 u16 u17 u18 u19 u20 u21 u22 u23 u24 u25 u26 u27 u28 u29 u30 u31 u32 u33 u34 u35 u36 u37 u38 u39 u40:I7),k+gk=16/\a={ tmps:=#[Zc A,I L x,Za bw,ZI w.heap.size,u4,ZI (w.heap.size+1),ZI (w.heap.size+2),u7,u8,u9,u10,u11,Zc jO.toArray,I L k,u14,u15,u16,u17,u18,u19,u20,u21,u22,u23,u24,u25,u26,u27,u28,u29,u30,u31,u32,u33,u34,u35,u36,u37,u38,u39,u40],defers:=Ds.map uK }/\AD bw A w Ds wr/\∀j,j<k->vq z bw (jU j) Zl (kq z (jU j) x)=Zl
theorem ah(z:I2)(A:I0)(g5:A.size=64)(hA:∀i,i<64->A[i]?=S (I Zg (z i).toNat))(x:Nat)(hx:x<64)(l:Bool)(w:I6)(hS:vT w) :
 ZL 64 #[Zc A,I L x,Za l] w (Za (vL z x l)):=by
 refine(ZY (n:=9)).1 ?_;refine callsIn_of_wp_marks func64 rfl trivial ?_ R;simp only[ntmps64,Nat.reduceAdd,Nat.reduceSub,Zr];refine Z9.2 ?_;obtain⟨x1,x2,x3,x4⟩:=jG w (Z A 67) (Z #[Za l] 4) (Z #[Za Zl] 4);have b2:Gr w (((w.alloc (Z A 67)).alloc (Z #[Za l] 4)).alloc (Z #[Za Zl] 4)):=ZN.al.al;have b6:=hS.gr b2;go_wp2_with(refine Yo R 222 _ R 0 0 R jO _ b6.1 underlying222 rfl lJ ?_);have b1:AD l A w [] (((w.alloc (Z A 67)).alloc (Z #[Za l] 4)).alloc (Z #[Za Zl] 4)):=⟨x1,x2,x3,⟨List.nodup_nil,λD hD=>absurd hD XC⟩,b2⟩;generalize (((w.alloc (Z A 67)).alloc (Z #[Za l] 4)).alloc (Z #[Za Zl] 4))=w3 at b1 |-;clear x1 x2 x3 x4 b2 b6 hS;refine Z9.1 (wpIn_loop_ghost (rm:=9) (AtI z x l A w) 16 ?start ?round)
 case start=>exact⟨0,[],undef,undef,undef,undef,undef,undef,undef,undef,undef,undef,undef,undef,undef,undef,undef,undef,undef,undef,undef,undef,undef,undef,undef,undef,undef,undef,undef,undef,undef,undef,undef,undef,undef,R,R,b1,λj r=>absurd r (Yy j)⟩
 case round=>
  clear b1;rintro gk a wr ⟨k,M,u4,u7,u8,u9,u10,u11,u14,u15,u16,u17,u18,u19,u20,u21,u22,u23,u24,u25,u26,u27,u28,u29,u30,u31,u32,u33,u34,u35,u36,u37,u38,u39,u40,hk,rfl,hM,d1⟩;have K:=X hM;have k5:=X d1;clear hM d1;by_cases c5:k<16
  .have b3:=Gg k c5;obtain⟨a4,b4⟩:=pk k;have a8:Y (vq z l (jU k) Zl (kq z (jU k) x)=Zl->∀j,j<k+1->vq z l (jU j) Zl (kq z (jU j) x)=Zl):=X (λh j r=>by
    by_cases e:j=k
    .subst e;exact h
    .exact k5.a j O)
   have a9:Y (vq z l (jU k) Zl (kq z (jU k) x)=Zk->vL z x l=Zk):=X (λh=>qY.2 ⟨k,qK.2 c5,h⟩);clear k5;generalize jU k=st at b3 a4 b4 a8 a9;obtain⟨a,b⟩:=st;simp only at b3 b4;have g9:0<=(k:Int):=O;have a7:(k:Int)<16:=O;have c6:=X (λW=>dB w.heap.size x a b W);obtain⟨y1,y2⟩:=x6 wr (Z #[I L a,I L b] 221) (Z #[Za Zl] 4);have b7:Gr wr ((wr.alloc (Z #[I L a,I L b] 221)).alloc (Z #[Za Zl] 4)):=ZN.al;have d5:((wr.alloc (Z #[I L a,I L b] 221)).alloc (Z #[Za Zl] 4)).heap.size=wr.heap.size+2:=WU;obtain⟨g3,g4⟩:=xg y1;refine Z9.2 ?_;go_wp2_with(go_at_call 147;refine(c6.a _).mono ?_;rintro e w6 ⟨rfl,b5,a3,d4⟩);rw[d5]at b5 d4;have k0:=(YG a3 wr.heap.size O).trans y1;have k1:=(YG a3 (wr.heap.size+1) O).trans y2;have b0:AD l A w M w6:=K.a.fr (Q:=λ_ _=>True) (Fr.of_gr (Gr.trans b7 a3)) (λ_ _ _=>trivial);have f8:w.heap.size+3<=wr.heap.size:=by have:=(qB.1 K.a.rs).1;omega
   have a1:∀D∈M,D<w6.heap.size:=λD hD=>(qB.1 (b0.ms.2 D hD).2).1;clear b7 d5 y1 y2 g3 g4 a3 b3 K c6;generalize wr.heap.size=B at f8 b5 d4 k0 k1 |-;have f0:=b5.wk (n6 hA b0.sq);have g0:∀{V V':I6},AD l A w M V->Fr (yv w6.heap.size (λ_=>False)) V V'->AD l A w M V':=λh f=>h.fr f (λj o r=>Zi (by
    obtain r|r:=r
    .omega
    .exact a1 _ r))
   refine Z9.1 (xj (n:=9) (gf:=220) (lb:=wkA (B+2)) R (YC func220 WR R)
    (dC z x hx a b a4 b4 (B+2+1) (B+2+2) (B+2) w.heap.size (λ_=>False) w6 f0) (λ_ h=>h.elim) (by rintro j (rfl|rfl|rfl|rfl)<;>omega) ZP (λ_=>R)
    (λd V=>AD l A w M V/\V.heap[B]?=S (Z #[I L a,I L b] 221)/\V.heap[B+1]?=S (Z #[Za (!d.isEmpty)] 4)/\vq z l (a,b) Zl d=Zl/\w6.heap.size<=V.heap.size)
    (λc d V=>c=.ret/\vq z l (a,b) Zl d=Zk/\V.heap[w.heap.size+2]?=S (Z #[Za Zk] 4)/\zY w.heap.size M V/\Gr w V/\w6.heap.size<=V.heap.size)
    ?sI ?sX ⟨b0,k0,k1,R,Zy⟩ ?rnd ?done ?stop)
   case sI=>exact λs V V' h f=>⟨g0 h.1 f,f.same _ _ h.2.1 (Zi O),f.same _ _ h.2.2.1 (Zi O),h.2.2.2.1,q7 h.2.2.2.2 f.size⟩
   case sX=>exact λc s V V' h f=>⟨h.1,h.2.1,f.same _ _ h.2.2.1 (Zi O),h.2.2.2.1.fr f (λj o _ _ _ r=>Zi (a1 _ r)),Below.trans h.2.2.2.2.1 (f.below (n:=w.heap.size) (ZR h.2.2.2.2.1) (λj o r=>Zi O)),q7 h.2.2.2.2.2 f.size⟩
   case done=>
    rintro D V hD ⟨h1,_,_,k3,_⟩ hK;go_wp2_with fail;have Q:zY w.heap.size (D :: M) V:=⟨X6.2 ⟨λh=>by have:=a1 D h;omega,h1.ms.1⟩,λD' J=>by
     obtain rfl|J:=Yj.1 J
     .exact⟨O,hK⟩
     .exact h1.ms.2 D' J⟩
    exact⟨gk-1,O,k+1,D :: M,_,_,_,_,_,_,_,_,_,_,_,_,_,_,_,_,_,_,_,_,_,_,_,_,_,_,_,_,_,_,_,_,_,O,R,⟨h1.sq,h1.bb,h1.rs,Q,h1.gr⟩,a8.a k3⟩
   case stop=>
    rintro D c d V hD d2 ⟨rfl,k3,a0,Q,h8,_⟩ hK;have hv:Y (vL z x l=Zk):=X (a9.a (lL z l (a,b) d _ Zl d2 k3));have d0:zY w.heap.size (D :: M) V:=⟨X6.2 ⟨λh=>by have:=a1 D h;omega,Q.1⟩,λD' J=>by
     obtain rfl|J:=Yj.1 J
     .exact⟨O,hK⟩
     .exact Q.2 D' J⟩
    refine Z9.2 ?_;go_wp2_with fail;refine qzn (D :: M) V d0 (λw' f=>⟨Za Zk,ig _ _ (w.heap.size+2) _ R (qi (f.same _ _ a0 (Zj R))).1,by rw[hv.a],Below.trans h8 (f.below (n:=w.heap.size) (ZR h8) (λj o r=>Zi r))⟩)
   case rnd=>
    intro n d y V g8 f9 hI hl;simp only[yh];gi_wp2;refine⟨ZP,?_⟩;intro V2 f2 f4 h0;obtain⟨a2,s2,p,c4,h7⟩:=f4;have f1:y<64:=ce hx (C9 f9);have h5:0<=(y:Int):=O;have h6:(y:Int)<64:=O;have cy:=n6 hA a2.sq y f1;have cb:=(qi a2.bb).1;obtain⟨g6,g7⟩:=xg s2;have a5:=aF z l (a,b) y Zl d;rw[c4]at a5;have G:=X (λW=>qxy (z y) l W);have H:=X (λW=>dH a b a4 W);have f7:small (-a,-b):=by obtain⟨v,h2,h3,h4⟩:=a4;simp only at v h2 h3 h4;exact⟨UJ,UJ,UJ,UJ⟩
    have F:=X (λW=>aG (z y) (-a) (-b) f7 W);have k4:=X (λW=>qzt (z y) W);have g:=X a2;have f3:=X p;have g2:=X s2;obtain⟨f,hf⟩:=Zn (!d.isEmpty);have f6:Y ((!(d++[y]).isEmpty)=Zk):=X (by cases d<;>rfl);rw[hf.a]at p a5;have cf:=(qi p).1;obtain⟨m1,v⟩:=Zo (kw (z y) l);obtain⟨g1,h2⟩:=Zo (ki (z y) (-a,-b));obtain⟨r1,h3⟩:=Zo (dx (z y));have h9:Y (vq z l (a,b) Zl (d++[y])=(m1&&g1&&(!f||r1))):=X (by rw[a5];simp only[fQ,v,h2,h3,Xo]);rw[v]at G;rw[h2]at F;rw[h3]at k4;have keep:Y (∀u,Gr V2 u->u.cell? ⟨B+1,0,N⟩=S (Za f)/\u.frozen? ⟨B+1,0,N⟩=Zl/\u.cell? ⟨w.heap.size+2,0,N⟩=S (Za Zl)/\u.frozen? ⟨w.heap.size+2,0,N⟩=Zl):=X (λu T=>by have e1:=qi ((ZE T p));have e2:=qi ((ZE T g.a.rs));exact⟨e1.1,e1.2,e2.1,e2.2⟩);have k2:Y (∀u,Gr V2 u->vq z l (a,b) Zl (d++[y])=Zl->Fr (jM w6.heap.size (λ_=>False) (λk=>k=B+2+1\/k=B+2+2\/k=B+2\/k=w.heap.size)) V2 (u.setCell ⟨B+1,0,N⟩ (Za Zk))/\AD l A w M (u.setCell ⟨B+1,0,N⟩ (Za Zk))/\(u.setCell ⟨B+1,0,N⟩ (Za Zk)).heap[B]?=S (Z #[I L a,I L b] 221)/\(u.setCell ⟨B+1,0,N⟩ (Za Zk)).heap[B+1]?=S (Z #[Za (!(d++[y]).isEmpty)] 4)/\vq z l (a,b) Zl (d++[y])=Zl/\w6.heap.size<=(u.setCell ⟨B+1,0,N⟩ (Za Zk)).heap.size):=X (λu T h=>by
     have e1:=(ZE T p);have fs:Fr (λk o=>k≠B+1) V2 (u.setCell ⟨B+1,0,N⟩ (Za Zk)):=(Fr.of_gr T).setCell _ (λo _ q=>q R);refine⟨(Fr.of_gr T).setCell _ ?_,g.a.fr fs (λj o r=>?_),fs.same _ _ g2.a O,?_,h,?_⟩
     .rintro o-(q|q)
      .simp only at q;omega
      .have:=q.1;simp only at this;omega
     .obtain r|r:=r
      .omega
      .intro e;subst e;have P:=(g.a.ms.2 _ r).2;rw[p]at P;cases P
     .rw[f6.a];exact jm e1
     .have:=fs.size;omega)
    have a6:Y (∀u,Gr V2 u->vq z l (a,b) Zl (d++[y])=Zk->Fr (jM w6.heap.size (λ_=>False) (λk=>k=B+2+1\/k=B+2+2\/k=B+2\/k=w.heap.size)) V2 (u.setCell ⟨w.heap.size+2,0,N⟩ (Za Zk))/\vq z l (a,b) Zl (d++[y])=Zk/\(u.setCell ⟨w.heap.size+2,0,N⟩ (Za Zk)).heap[w.heap.size+2]?=S (Z #[Za Zk] 4)/\zY w.heap.size M (u.setCell ⟨w.heap.size+2,0,N⟩ (Za Zk))/\Gr w (u.setCell ⟨w.heap.size+2,0,N⟩ (Za Zk))/\w6.heap.size<=(u.setCell ⟨w.heap.size+2,0,N⟩ (Za Zk)).heap.size):=X (λu T h=>by
     have e1:=(ZE T g.a.rs);have fs:Fr (λk o=>k≠w.heap.size+2) V2 (u.setCell ⟨w.heap.size+2,0,N⟩ (Za Zk)):=(Fr.of_gr T).setCell _ (λo _ q=>q R);refine⟨(Fr.of_gr T).setCell _ ?_,h,jm e1,g.a.ms.fr fs (λj o _ _ f5 r e=>?_),Yr (Gr.trans g.a.gr T) (show w.heap.size<=w.heap.size+2 from O) _,?_⟩
     .rintro o-(q|q)
      .simp only at q;omega
      .have:=q.1;simp only at this;omega
     .subst e;have P:=(g.a.ms.2 _ r).2;rw[g.a.rs]at P;cases P
     .have:=fs.size;omega)
    clear a2 p s2 c4 a5;cases m1
    .gi_wp2_with (first
      | (refine⟨trivial,?_⟩;gi_at_call 148;refine((ZY.2 (G.a _)).inRound n).mono ?_;rintro e wc ⟨rfl,rfl⟩;obtain⟨p1,p2,p3,p4⟩:=keep.a _ ZO)
      | (with_reducible refine YB (zw _) ?_))
     all_goals first
      | exact k2.a _ ZO U6
      | (exfalso;rename_i xx bb v h2;exact absurd v VD)
      | (exfalso;rename_i xx bb v;exact absurd v VD)
    .cases g1
     .gi_wp2_with (first
       | (refine⟨trivial,?_⟩;gi_at_call 148;refine((ZY.2 (G.a _)).inRound n).mono ?_;rintro e wc ⟨rfl,rfl⟩;obtain⟨p1,p2,p3,p4⟩:=keep.a _ ZO)
       | (refine⟨trivial,?_⟩;gi_at_call 150;refine((ZY.2 (H.a _)).inRound n).mono ?_;rintro e wd ⟨rfl,C⟩)
       | (refine⟨trivial,?_⟩;gi_at_call 149;refine((ZY.2 (F.a _)).inRound n).mono ?_;rintro e we ⟨rfl,E⟩;obtain⟨P,q2,q3,q4⟩:=keep.a _ (Gr.trans C E))
       | (with_reducible refine YB (zw _) ?_))
      all_goals first
       | exact k2.a _ (Gr.trans C E) U6
       | (exfalso;rename_i xx bb v h2;exact absurd v VD)
       | (exfalso;rename_i xx bb v;exact absurd v VD)
     .cases f
      .gi_wp2_with (first
        | (refine⟨trivial,?_⟩;gi_at_call 148;refine((ZY.2 (G.a _)).inRound n).mono ?_;rintro e wc ⟨rfl,rfl⟩;obtain⟨p1,p2,p3,p4⟩:=keep.a _ ZO)
        | (refine⟨trivial,?_⟩;gi_at_call 150;refine((ZY.2 (H.a _)).inRound n).mono ?_;rintro e wd ⟨rfl,C⟩)
        | (refine⟨trivial,?_⟩;gi_at_call 149;refine((ZY.2 (F.a _)).inRound n).mono ?_;rintro e we ⟨rfl,E⟩;obtain⟨P,q2,q3,q4⟩:=keep.a _ (Gr.trans C E))
        | (with_reducible refine YB (zw _) ?_))
       all_goals first
        | exact(λt=>⟨t.1,R,t.2⟩) (a6.a _ (Gr.trans C E) U6)
        | (exfalso;rename_i xx bb v h2;exact absurd v VD)
        | (exfalso;rename_i xx bb v;exact absurd v VD)
      .cases r1
       .gi_wp2_with (first
         | (refine⟨trivial,?_⟩;gi_at_call 148;refine((ZY.2 (G.a _)).inRound n).mono ?_;rintro e wc ⟨rfl,rfl⟩;obtain⟨p1,p2,p3,p4⟩:=keep.a _ ZO)
         | (refine⟨trivial,?_⟩;gi_at_call 150;refine((ZY.2 (H.a _)).inRound n).mono ?_;rintro e wd ⟨rfl,C⟩)
         | (refine⟨trivial,?_⟩;gi_at_call 149;refine((ZY.2 (F.a _)).inRound n).mono ?_;rintro e we ⟨rfl,E⟩;obtain⟨P,q2,q3,q4⟩:=keep.a _ (Gr.trans C E))
         | (refine⟨trivial,?_⟩;gi_at_call 151;refine((ZY.2 (k4.a _)).inRound n).mono ?_;rintro e wf ⟨rfl,rfl⟩)
         | (with_reducible refine YB (zw _) ?_))
        all_goals first
         | exact k2.a _ (Gr.trans C E) U6
         | (exfalso;rename_i xx bb v h2;exact absurd v VD)
         | (exfalso;rename_i xx bb v;exact absurd v VD)
       .gi_wp2_with (first
         | (refine⟨trivial,?_⟩;gi_at_call 148;refine((ZY.2 (G.a _)).inRound n).mono ?_;rintro e wc ⟨rfl,rfl⟩;obtain⟨p1,p2,p3,p4⟩:=keep.a _ ZO)
         | (refine⟨trivial,?_⟩;gi_at_call 150;refine((ZY.2 (H.a _)).inRound n).mono ?_;rintro e wd ⟨rfl,C⟩)
         | (refine⟨trivial,?_⟩;gi_at_call 149;refine((ZY.2 (F.a _)).inRound n).mono ?_;rintro e we ⟨rfl,E⟩;obtain⟨P,q2,q3,q4⟩:=keep.a _ (Gr.trans C E))
         | (refine⟨trivial,?_⟩;gi_at_call 151;refine((ZY.2 (k4.a _)).inRound n).mono ?_;rintro e wf ⟨rfl,rfl⟩)
         | (with_reducible refine YB (zw _) ?_))
        all_goals first
         | exact(λt=>⟨t.1,R,t.2⟩) (a6.a _ (Gr.trans C E) U6)
         | (exfalso;rename_i xx bb v h2;exact absurd v VD)
         | (exfalso;rename_i xx bb v;exact absurd v VD)
  .have a7:k=16:=O;subst a7;have hv:Y (vL z x l=Zl):=X (by unfold vL;rw[XD];intro j r;rw[k5.a j (qK.1 r)];decide);have a0:=K.a.rs;obtain⟨c1,c2⟩:=qi a0;refine Z9.2 ?_;go_wp2_with fail;have d3:(wr.setCell ⟨w.heap.size+2,0,N⟩ (Za Zl)).heap[w.heap.size+2]?=S (Z #[Za Zl] 4):=jm a0;have fs:Fr (λk o=>k≠w.heap.size+2) wr (wr.setCell ⟨w.heap.size+2,0,N⟩ (Za Zl)):=ZP.setCell _ (λo _ q=>q R);have h8:Gr w (wr.setCell ⟨w.heap.size+2,0,N⟩ (Za Zl)):=Yr K.a.gr (show w.heap.size<=w.heap.size+2 from O) _;have Q:zY w.heap.size M (wr.setCell ⟨w.heap.size+2,0,N⟩ (Za Zl)):=K.a.ms.fr fs (λj o _ _ f5 r e=>by subst e;have P:=(K.a.ms.2 _ r).2;rw[a0]at P;cases P);refine qzn M _ Q (λw' f=>⟨Za Zl,ig _ _ (w.heap.size+2) _ R (qi (f.same _ _ d3 (Zj R))).1,by rw[hv.a],Below.trans h8 (f.below (n:=w.heap.size) (ZR h8) (λj o r=>Zi r))⟩)
def yj(z:I2)(x k:Nat):List Nat:=if ki (z x) (jU k)then(if dx (z x)then kq z (jU k) x else(kq z (jU k) x).take 1)else[]
def zU(z:I2)(x k:Nat):List Nat:=(List.range k).flatMap (yj z x)
theorem gn(z:I2)(x k:Nat):zU z x (k+1)=zU z x k++yj z x k:=by unfold zU;rw[YI,Xj];simp
theorem wI(z:I2)(x:Nat)(a:k<16):zU z x k++yj z x k <+: zU z x 16:=by rw[<-gn];unfold zU;refine aI _ ?_;refine⟨(List.range 16).drop (k+1),?_⟩;have:k=0\/k=1\/k=2\/k=3\/k=4\/k=5\/k=6\/k=7\/k=8\/k=9\/k=10\/k=11\/k=12\/k=13\/k=14\/k=15:=O;rcases this with rfl|rfl|rfl|rfl|rfl|rfl|rfl|rfl|rfl|rfl|rfl|rfl|rfl|rfl|rfl|rfl<;>decide
def z6(T:Obj->Prop):Prop:=∀o,T o->∃c fr,o=Z c 87 fr
theorem z6.cells{T:Obj->Prop}(h:z6 T):∀o,T o->o.isCells=Zk:=λo a=>by obtain⟨c,fr,rfl⟩:=h o a;rfl
theorem z6.no{T:Obj->Prop}(h:z6 T){c:I0}{ty:TypeId}{fr:Nat × Nat}(a:ty≠87):¬ T (Z c ty fr):=λq=>by
 obtain⟨b,fr',e⟩:=h _ q;cases e;exact a R
def y9(B k:Nat)(V:I6):Prop:=B<=k/\∃c ty fr,ty≠87/\V.heap[k]?=S (Z c ty fr)
theorem eR{b:Nat}{T:Obj->Prop}{C C':Nat->Prop}(f:Fr (jM B T C) V W)(i:z6 T)(j:B<=b)(h:∀k,C' k->C k\/y9 B k V):Fr (jM b T C') V W :=
 f.mono λk o e q=>by
  obtain q|q:=q
  .obtain h|⟨a,c,ty,fr,d,g⟩:=h k q
   .exact Zi h
   .rw[g]at e;cases e;exact Zj ⟨a,i.no d⟩
  .exact Zj ⟨O,q.2⟩
theorem qu{c:I0}{ty:TypeId}(a:B<=k)(b:ty≠87)(h:V.heap[k]?=S (Z c ty)):y9 B k V:=⟨a,c,ty,_,b,h⟩
theorem y9.keep{T:Obj->Prop}{C:Nat->Prop}{o:Obj}(h:y9 B k V)(g:z6 T)(f:Fr (jM B T C) V W)(e:V.heap[k]?=S o):W.heap[k]?=S o:=by obtain⟨a,c,ty,fr,b,d⟩:=h;refine f.same k o e (Zj ⟨a,?_⟩);rw[d]at e;cases e;exact g.no b
structure Ak(z:I2)(x l B Wb Bl Bq Bf A:Nat)(Ds:List Nat)(W:I6):Prop where
 yb:W.heap[Wb]?=S (Z #[.func (.yield l) #[] #[]] 255)
 cl:W.cell? ⟨Bl,0,N⟩=S (I Zg (z x).toNat)
 cq:W.cell? ⟨Bq,0,N⟩=S (ZI A)
 cf:W.cell? ⟨Bf,0,N⟩=S (I L x)
 bd:Bz z A W
 st:vT W
 ms:zY B Ds W
theorem Ak.fr{b Bq Bf A:Nat}{d:List Nat}{m:I6}(h:Ak z x l B g b Bq Bf A d W)(f:Fr Q W m)(a:∀k o,(k=g\/k=b\/k=Bq\/k=Bf\/k=A\/k=0\/k∈d)->W.heap[k]?=S o->Q k o):Ak z x l B g b Bq Bf A d m :=
 ⟨f.same _ _ h.yb (a _ _ WU h.yb),f.cell h.cl (λo e=>a _ o WU e),f.cell h.cq (λo e=>a _ o WU e),f.cell h.cf (λo e=>a _ o WU e),
  λi n=>f.cell (h.bd i n) (λo e=>a _ o WU e),⟨λj v q=>f.cell (h.st.1 j v q) (λo e=>a _ o WU e),qN h.st.2 f.size⟩,h.ms.fr f (λk o _ _ e p=>a k o (by simp[p]) e)⟩
theorem Ak.gr{a Bq Bf A:Nat}{b:List Nat}{d:I6}(h:Ak z x l B e a Bq Bf A b W)(g:Gr W d):Ak z x l B e a Bq Bf A b d:=h.fr (Q:=λ_ _=>True) (Fr.of_gr g) (λ_ _ _ _=>trivial)
theorem Ak.below{Bq Bf A:Nat}{e:List Nat}{m g:I6}{T:Obj->Prop}(a:Ak z x l B i d Bq Bf A e g)(b:g.heap.size<=n)(h:Ak z x l B i d Bq Bf A e W)(f:Fr (yv n T) W m):Ak z x l B i d Bq Bf A e m:=h.fr f (λk o j _=>by
 refine Zi ?_;have lc:∀{p:Addr}{v:I7},g.cell? p=S v->p.block<n:=λq=>qN (Zx q) b;obtain rfl|rfl|rfl|rfl|rfl|rfl|j:=j
 .exact qN (qB.1 a.yb).1 b
 .exact lc a.cl
 .exact lc a.cq
 .exact lc a.cf
 .exact lc (a.bd 0 O)
 .exact qN a.st.2 b
 .exact qN (qB.1 (a.ms.2 k j).2).1 b)
theorem Ak.rnd{Bq Bf A:Nat}{i:List Nat}{j:I6}{T:Obj->Prop}{C:Nat->Prop}(h:Ak z x l B g d Bq Bf A i W)(m:z6 T)(n:B<=g)(b:∀k,(k=d\/k=Bq\/k=Bf\/k=A\/k=0)->C k)(f:Fr (jM B T C) W j):Ak z x l B g d Bq Bf A i j:=h.fr f (λk o a e=>by
 obtain rfl|a|a|a|a|a|a:=a
 .rw[h.yb]at e;cases e;exact Zj ⟨n,m.no WW⟩
 .exact Zi (b _ VM)
 .exact Zi (b _ VM)
 .exact Zi (b _ VM)
 .exact Zi (b _ VM)
 .exact Zi (b _ VM)
 .rw[(h.ms.2 k a).2]at e;cases e;exact Zj ⟨(h.ms.2 k a).1,λq=>by have:=m.cells _ q;cases this⟩)
theorem jx{D:Nat}{b:List Nat}(h:zY B b V)(hD:B<=D)(e:D∉b)(hK:V.heap[D]?=S (.deferred (S []))):zY B (D :: b) V :=
 ⟨X6.2 ⟨e,h.1⟩,λd a=>by
  obtain rfl|a:=Yj.1 a
  .exact⟨hD,hK⟩
  .exact h.2 d a⟩
theorem Ak.cons{b Bq Bf A D:Nat}{a:List Nat}(h:Ak z x l B d b Bq Bf A a W)(hD:B<=D)(e:D∉a)(hK:W.heap[D]?=S (.deferred (S []))):Ak z x l B d b Bq Bf A (D :: a) W :=
 ⟨h.yb,h.cl,h.cq,h.cf,h.bd,h.st,jx h.ms hD e hK⟩
def AkN(z:I2)(x k:Nat)(fa:Bool)(J:List Nat->I6->Prop)(pre:List Nat)(V:I6):Prop:=(fa=Zk\/pre=[])/\J (zU z x k++pre) V
def AkX(z:I2)(x l B Wb Bl Bq Bf A:Nat)(Ds:List Nat)(k:Nat)(fa:Bool)(J Jx:List Nat->I6->Prop)(c:Code)(pre:List Nat)(V:I6):Prop:=(c=.ret/\∃q,q <+: zU z x 16/\Jx q V)\/(c=.exit 2/\Ak z x l B Wb Bl Bq Bf A Ds V/\fa=Zl/\∃y,pre=[y]/\J (zU z x k++[y]) V)
def AkI(z:I2)(x l B Wb Bl Bq Bf A:Nat)(J:List Nat->I6->Prop)(gk:Nat)(a:Act)(wr:I6):Prop :=
 ∃(k:Nat)(Ds:List Nat)(u5 u6 u7 u10 u11 u12 u13 u14 u15 u16 u17 u18 u19 u20 u21 u22 u23 u24 u25 u26 u27 u28:I7),k+gk=16/\a={ tmps:=#[.func (.yield l) #[] #[],ZI Bl,ZI Bq,ZI Bf,ZI Wb,u5,u6,u7,Zc jO.toArray,I L k,u10,u11,u12,u13,u14,u15,u16,u17,u18,u19,u20,u21,u22,u23,u24,u25,u26,u27,u28],defers:=Ds.map uK }/\Ak z x l B Wb Bl Bq Bf A Ds wr/\J (zU z x k) wr
theorem iC(z:I2)(x:Nat)(hx:x<64)(n Bq Bf A:Nat)(T:Obj->Prop)(C:z6 T)(w:I6)(hl:w.cell? ⟨n,0,N⟩=S (I Zg (z x).toNat))(hq:w.cell? ⟨Bq,0,N⟩=S (ZI A))(hf:w.cell? ⟨Bf,0,N⟩=S (I L x))(hb:Bz z A w)(hs:vT w) :
 It prog 313 #[ZI n,ZI Bq,ZI Bf] yh T (λk=>k=n\/k=Bq\/k=Bf\/k=A\/k=0) (zU z x 16) w:=by
 intro l B J Jx W f0 hB hJ d3 hY h0;have M:Ak z x l B W.heap.size n Bq Bf A [] (W.alloc (Z #[.func (.yield l) #[] #[]] 255)):=by have f1:=f0.trans ((Fr.refl (λk _=>k=n\/k=Bq\/k=Bf\/k=A\/k=0) W).alloc (Z #[.func (.yield l) #[] #[]] 255));exact⟨ZQ W _,f1.cell hl (λ_ _=>WU),f1.cell hq (λ_ _=>WU),f1.cell hf (λ_ _=>WU),hb.fr f1 (λ_=>WU),hs.fr f1 (λ_=>WU),⟨List.nodup_nil,λD hD=>absurd hD XC⟩⟩
 have a7:=hJ _ _ _ h0 ((Fr.refl _ W).alloc (Z #[.func (.yield l) #[] #[]] 255));refine(ZY (n:=9)).1 ?_;refine callsIn_of_wp_marks func313 rfl trivial ?_ R;simp only[ntmps313,Nat.reduceAdd,Nat.reduceSub,Zr];refine Z9.2 ?_;clear h0 f0 hl hq hf hb hs;go_wp2_with(refine Yo R 222 _ R 0 0 R jO _ M.st.1 underlying222 rfl lJ ?_);generalize W.alloc (Z #[.func (.yield l) #[] #[]] 255)=w1 at M a7 |-;generalize W.heap.size=Wb at M hB |-;refine Z9.1 (wpIn_loop_ghost (rm:=9) (AkI z x l B Wb n Bq Bf A J) 16 ?start ?round)
 case start=>exact⟨0,[],undef,undef,undef,undef,undef,undef,undef,undef,undef,undef,undef,undef,undef,undef,undef,undef,undef,undef,undef,undef,undef,undef,R,R,M,a7⟩
 case round=>
  clear M a7;rintro gk a wr ⟨k,K,u5,u6,u7,u10,u11,u12,u13,u14,u15,u16,u17,u18,u19,u20,u21,u22,u23,u24,u25,u26,u27,u28,hk,rfl,hM,d2⟩;have m6:=X hM;have n4:=X d2;clear d2;have h5:=hM.cl;have h6:=hM.cq;have h3:=hM.cf;clear hM;by_cases f7:k<16
  .have b5:=Gg k f7;obtain⟨b7,b6⟩:=pk k;have a3:Y (zU z x (k+1)=zU z x k++yj z x k):=X (gn z x k);have g0:Y (zU z x k++yj z x k <+: zU z x 16):=X (wI z x f7);have E:Y (yj z x k=if ki (z x) (jU k)then(if dx (z x)then kq z (jU k) x else(kq z (jU k) x).take 1)else[]):=X R;generalize yj z x k=aS at a3 g0 E;generalize jU k=st at b5 b7 b6 E;obtain⟨a,b⟩:=st;simp only at b5 b6;have l5:0<=(k:Int):=O;have a5:(k:Int)<16:=O;have f8:=X (λW=>dB A x a b W);have a1:=X (λW=>aG (z x) a b b7 W);have P:Gr wr (wr.alloc (Z #[I L a,I L b] 221)):=ZN;obtain⟨g9,h1⟩:=xg (ZQ wr (Z #[I L a,I L b] 221));have n2:=m6.a.gr P;have c1:=n2.cl;have Q:wr.heap.size<(wr.alloc (Z #[I L a,I L b] 221)).heap.size:=WU;obtain⟨g1,k3⟩:=Zo (ki (z x) (a,b));rw[k3]at a1 E;refine Z9.2 ?_;cases g1
   .go_wp2_with(go_at_call 149;refine(a1.a _).mono ?_;rintro e m2 ⟨rfl,i⟩);have f6:=Gr.trans P i;exact⟨gk-1,O,k+1,K,_,_,_,_,_,_,_,_,_,_,_,_,_,_,_,_,_,_,_,_,_,_,O,R,m6.a.gr f6,by rw[a3.a,E.a];simpa using hJ _ _ _ n4.a (Fr.of_gr f6)⟩
   .have g8:Y (∀m2,Gr (wr.alloc (Z #[I L a,I L b] 221)) m2->m2.cell? ⟨Bq,0,N⟩=S (ZI A)/\m2.cell? ⟨Bf,0,N⟩=S (I L x)/\m2.cell? ⟨wr.heap.size,0,N⟩=S (I L a)/\m2.cell? ⟨wr.heap.size,1,N⟩=S (I L b)):=X (λm2 i=>⟨(n2.gr i).cq,(n2.gr i).cf,(ZW i (p:=⟨wr.heap.size,0,N⟩) Q).trans g9,(ZW i (p:=⟨wr.heap.size,1,N⟩) Q).trans h1⟩);go_wp2_with(first
     | (go_at_call 149;refine(a1.a _).mono ?_;rintro e m2 ⟨rfl,i⟩;obtain⟨q1,q2,q3,q4⟩:=g8.a _ i)
     | (go_at_call 147;refine(f8.a _).mono ?_;rintro e w6 ⟨rfl,c4,b3,g4⟩))
    have F:Ak z x l B Wb n Bq Bf A K w6:=m6.a.gr (Gr.trans P (Gr.trans i b3));have h9:=hJ _ _ _ n4.a (Fr.of_gr (Gr.trans P (Gr.trans i b3)));have n1:∀D∈K,D<w6.heap.size:=λD hD=>(qB.1 (F.ms.2 D hD).2).1;have l2:Wb<w6.heap.size:=(qB.1 F.yb).1;have k2:Wb<wr.heap.size:=(qB.1 m6.a.yb).1;have d0:wr.heap.size<m2.heap.size:=by have:=ZR i;omega
    have h2:A<w6.heap.size:=Zx (F.bd 0 O);clear P g9 h1 b3 b5 f8 i a1 g8 q1 q2 q3 q4 c1 n2 Q h5 h6 h3;generalize m2.heap.size=p at d0 c4 g4 |-;generalize wr.heap.size=Bs at d0 k2 |-;have g6:=c4.wk F.bd;obtain⟨fa,f3⟩:=Zo (dx (z x));rw[f3]at E;have b4:=X (λW=>qzt (z x) W);rw[f3]at b4;have n0:B<=w6.heap.size:=O;have m1:p+3<=w6.heap.size:=O;clear g4;refine Z9.1 (xj (n:=9) (gf:=220) (lb:=wkA p) R (YC func220 WR R)
     (dC z x hx a b b7 b6 (p+1) (p+2) p A T w6 g6) C.cells (by rintro j (rfl|rfl|rfl|rfl);exact O;exact O;exact O;exact h2) ZP (λ_=>R)
     (λu V=>Ak z x l B Wb n Bq Bf A K V/\ap A x a b p V/\AkN z x k fa J u V)
     (λc u V=>zY B K V/\AkX z x l B Wb n Bq Bf A K k fa J Jx c u V)
     ?sI ?sX ⟨F,c4,Zj R,by simpa using h9⟩ ?rnd ?done ?stop)
    case sI=>exact λs V V' h f=>⟨F.below Zy h.1 f,⟨f.same _ _ h.2.1.b0 (Zi O),f.same _ _ h.2.1.b1 (Zi O),f.same _ _ h.2.1.b2 (Zi O)⟩,⟨h.2.2.1,qo hJ n0 _ _ _ h.2.2.2 f⟩⟩
    case sX=>exact λc s V V' h f=>⟨h.1.fr f (λj o _ _ _ hj=>Zi (n1 _ hj)),h.2.imp (λh=>⟨h.1,h.2.elim λq hq=>⟨q,hq.1,qo d3 n0 _ _ _ hq.2 f⟩⟩) (λh=>⟨h.1,F.below Zy h.2.1 f,h.2.2.1,h.2.2.2.elim λy hy=>⟨y,hy.1,qo hJ n0 _ _ _ hy.2 f⟩⟩)⟩
    case done=>
     rintro D V hD ⟨a9,_,m,k0⟩ hK;have a2:zU z x (k+1)=zU z x k++kq z (a,b) x:=by
      rw[a3.a,E.a];obtain rfl|m:=m
      .rfl
      .rw[m];cases fa<;>rfl
     have f9:=X a2;clear a2;go_wp2_with fail;exact⟨gk-1,O,k+1,D :: K,_,_,_,_,_,_,_,_,_,_,_,_,_,_,_,_,_,_,_,_,_,_,O,R,a9.cons O (λh=>by have:=n1 D h;omega) hK,by rw[f9.a];exact k0⟩
    case stop=>
     rintro D c u V hD g2 ⟨k4,⟨rfl,q,k5,k8⟩|⟨rfl,a9,f5,y,rfl,k1⟩⟩ hK
     .refine Z9.2 ?_;go_wp2_with fail;exact xc (T:=T) results313 C.cells (D :: K) V (jx k4 O (λh=>by have:=n1 D h;omega) hK) (λv w' f=>⟨⟨v,R⟩,Zj ⟨q,k5,d3 _ _ _ k8 f⟩⟩)
     .have a2:Y (zU z x (k+1)=zU z x k++[y]):=X (by rw[a3.a,E.a,f5];obtain⟨r,hr⟩:=g2;rw[<-hr];rfl);refine Z9.2 ?_;go_wp2_with fail;exact⟨gk-1,O,k+1,D :: K,_,_,_,_,_,_,_,_,_,_,_,_,_,_,_,_,_,_,_,_,_,_,O,R,a9.cons O (λh=>by have:=n1 D h;omega) hK,by rw[a2.a];exact k1⟩
    case rnd=>
     intro l1 u y V l4 c5 hI hl;simp only[yh];gi_wp2;refine⟨ZP,?_⟩;intro V2 f2 h7 m0;obtain⟨a0,a6,m,h8⟩:=h7;have cy:=(qi a0.yb).1;have cl:=a0.cl;have g3:zU z x k++u++[y] <+: zU z x 16:=by
      refine List.IsPrefix.trans ?_ g0.a;rw[qS,E.a];refine(Xq _).2 ?_;obtain m|m:=m
      .rw[m];exact c5
      .rw[m]at c5 |-;obtain⟨r,hr⟩:=c5;cases fa
       .rw[<-hr];exact⟨[],R⟩
       .exact⟨r,hr⟩
     obtain⟨fn,tmps,G,a4,g7,hR⟩:=jb (m':=8) (hY (zU z x k++u) y V2 g3 h8);have l0:(Instr.yield l #[I L y]).run prog V2=.ok (.round l fn tmps G a4) V2:=g7;clear g7;have d4:=X a0;have d:=X a6;clear a0 a6 hI hl f2;gi_wp2;have d5:RoundIn (Fence.wide.inRound l1) 8 prog l fn tmps G a4 V2 (λe W'=>Fr (jM B T (λk=>k=n\/k=Bq\/k=Bf\/k=A\/k=0)) V2 W'/\((e=Zd (Za Zk)/\J (zU z x k++u++[y]) W')\/(e=Zd (Za Zl)/\Jx (zU z x k++u++[y]) W'))):=hR;clear hR;refine d5.mono ?_;clear d5 l0;intro e V4 h4;obtain⟨f4,h4⟩:=h4;have c6:Fr (jM w6.heap.size T (λj=>j=p+1\/j=p+2\/j=p\/j=A)) V2 V4:=eR f4 C n0 (by
      rintro j (rfl|rfl|rfl|rfl)
      .exact Zj (qu O WW d.a.b1)
      .exact Zj (qu O WW d.a.b2)
      .exact Zj (qu O WW d.a.b0)
      .exact Zi WU)
     have a8:Ak z x l B Wb n Bq Bf A K V4:=d4.a.rnd C hB (λj hj=>hj) f4;have l3:=a8.cl;have H:=X a8;have n3:=X c6;clear a8 c6;obtain⟨rfl,d1⟩|⟨rfl,k9⟩:=h4
     .have g5:Y (ap A x a b p V4):=X ⟨(qu O WW d.a.b0).keep C f4 d.a.b0,(qu O WW d.a.b1).keep C f4 d.a.b1,(qu O WW d.a.b2).keep C f4 d.a.b2⟩;cases fa
      .obtain rfl:u=[]:=by
        obtain h|h:=m
        .cases h
        .exact h
       gi_wp2_with (refine⟨trivial,?_⟩;gi_at_call 151;refine((ZY.2 (b4.a _)).inRound l1).mono ?_;rintro e wf ⟨rfl,rfl⟩);exact⟨n3.a,H.a.ms,Zj ⟨R,H.a,R,y,R,by simpa using d1⟩⟩
      .gi_wp2_with (refine⟨trivial,?_⟩;gi_at_call 151;refine((ZY.2 (b4.a _)).inRound l1).mono ?_;rintro e wf ⟨rfl,rfl⟩);exact⟨n3.a,H.a,g5.a,Zi R,by rw[<-qS];exact d1⟩
     .gi_wp2;exact⟨n3.a,H.a.ms,Zi ⟨R,_,g3,k9⟩⟩
  .have a5:k=16:=O;subst a5;refine Z9.2 ?_;go_wp2_with fail;exact xc (T:=T) results313 C.cells K wr m6.a.ms (λv w' f=>⟨⟨v,R⟩,Zi (hJ _ _ _ n4.a f)⟩)
theorem sD{gf:Nat}{lb lf:I0}{T:Obj->Prop}{C:Nat->Prop}{xs:List Nat}(a6:It prog g lb yh T C xs w)(a5:∀args w,(callFunc g args).run prog w=.ok (.enter g args) w)(b7:∀args w,(callFunc gf args).run prog w=.ok (.enter gf args) w)
 (d5:z6 T) (a0:∀k,C k->k<w.heap.size) (r Bf:Nat) (p:I5) (R:w.heap[r]?=S (Z #[.func (.func g) #[] lb] 207)) (F:w.heap[Bf]?=S (Z #[.func (.func gf) #[] lf] 255))
 (P:∀x∈xs,∀W,Fr (λk _=>C k) w W->ZL gf (#[I L x]++lf) W (Za (p x))) :
 It prog 312 #[ZI r,ZI Bf] yh T (λk=>C k\/k=r\/k=Bf) (xs.filter p) w:=by
 intro l B J Jx W f0 hB hJ M hY h0;have E:=d5.cells;have m:=f0.same _ _ R (Zj (Zi rfl));have f3:=f0.same _ _ F (Zj (Zj rfl));have b6:=(qB.1 R).1;have b4:=(qB.1 F).1;refine(ZY (n:=9)).1 ?_;refine callsIn_of_wp_marks func312 rfl trivial ?_ rfl;simp only[ntmps312,Nat.reduceAdd,Nat.reduceSub,Zr];have d3:(W.alloc (Z #[.func (.yield l) #[] #[]] 255)).cell? ⟨r,0,N⟩=S (.func (.func g) #[] lb):=(qi ((YP W _ _ (qB.1 m).1).trans m)).1;gi_wp2;have d1:=ZQ W (Z #[.func (.yield l) #[] #[]] 255);have f1:∀Q:Nat->Obj->Prop,Fr Q W (W.alloc (Z #[.func (.yield l) #[] #[]] 255)):=λQ=>ZP.alloc _;have b0:(W.alloc (Z #[.func (.yield l) #[] #[]] 255)).heap.size=W.heap.size+1:=Z3 _ _;generalize (W.alloc (Z #[.func (.yield l) #[] #[]] 255))=w1 at d3 d1 f1 b0 |-;have a2:=hJ _ _ _ h0 (f1 _);have K:=f0.trans (f1 _);have c6:=f0.size;clear d3 m f3 f1;refine xj (n:=9) (gf:=g) (lb:=lb) rfl a5 (a6.mono (C':=λk=>C k\/k=r\/k=Bf) (λk h=>Zi h)) E (by rintro k (hk|rfl|rfl);exact(by have:=a0 k hk;omega);exact O;exact O) K (λ_=>rfl)
  (λb V=>V.heap[W.heap.size]?=S (Z #[.func (.yield l) #[] #[]] 255)/\J (b.filter p) V/\Fr (λk _=>C k\/k=r\/k=Bf) w V)
  (λc _ V=>c=.ret/\∃q,q <+: xs.filter p/\Jx q V)
  ?sI ?sX ⟨d1,a2,K⟩ ?rnd ?done ?stop
 case sI=>exact λs A A' h f=>⟨f.same _ _ h.1 (Zi O),qo hJ O _ _ _ h.2.1 f,h.2.2.ext f (λk o e _=>Zi UR)⟩
 case sX=>exact λc s A A' h f=>⟨h.1,h.2.elim λq hq=>⟨q,hq.1,qo M O _ _ _ hq.2 f⟩⟩
 case done =>rintro D V hD ⟨_,hj,_⟩ hK;gi_wp2;exact xc (T:=T) results312 E [D] V ⟨WU,λD' i=>VO⟩ (λv w' f=>⟨⟨v,rfl⟩,Zi (hJ _ _ _ hj f)⟩)
 case stop =>rintro D c b V hD _ ⟨rfl,q,a8,a9⟩ hK;gi_wp2;exact xc (T:=T) results312 E [D] V ⟨WU,λD' i=>VO⟩ (λv w' f=>⟨⟨v,rfl⟩,Zj ⟨q,a8,M _ _ _ a9 f⟩⟩)
 case rnd=>
  rintro l1 b y V b5 hx ⟨hy,hj,c4⟩ hl;simp only[yh];gi_wp2;refine⟨ZP,?_⟩;intro n f2 a1 c5;obtain⟨f5,a7,j⟩:=a1;have b2:=j.same _ _ F (Zj (Zj rfl));have b3:=(qi b2).1;have hc:=X (P y (C9 hx) n (j.mono λk _ _ q=>Zi q));have keep:∀a,Gr n a->a.heap[W.heap.size]?=S (Z #[.func (.yield l) #[] #[]] 255)/\J (b.filter p) a/\Fr (λk _=>C k\/k=r\/k=Bf) w a:=λa u=>⟨(ZE u f5),hJ _ _ _ a7 (Fr.of_gr u),j.ext (Fr.of_gr (Q:=λ_ _=>True) u) (λ_ _ _ _=>trivial)⟩;cases G:p y
  .rw[G]at hc;gi_wp2;refine⟨trivial,Xe l1 (ZY.2 (hc.a.mono ?_))⟩;rintro e a ⟨rfl,u⟩;gi_wp2;refine⟨λ_ h=>Ub,?_⟩;gi_wp2;obtain⟨z1,z2,z3⟩:=keep a u;refine⟨Fr.of_gr u,z1,?_,z3⟩;rw[YJ];simpa[G]using z2
  .rw[G]at hc;gi_wp2;refine⟨trivial,Xe l1 (ZY.2 (hc.a.mono ?_))⟩;rintro e a ⟨rfl,u⟩;obtain⟨z1,z2,z3⟩:=keep a u;have c3:=(qi z1).1;obtain⟨fn,tmps,d,z,d2,hR⟩:=jb (m':=8) (hY (b.filter p) y a (qx1 p hx G) z2);have d0:(Instr.yield l #[I L y]).run prog a=.ok (.round l fn tmps d z) a:=d2;clear d2;gi_wp2;have a4:RoundIn (Fence.wide.inRound l1) 8 prog l fn tmps d z a (λe H=>Fr (jM B T (λk=>C k\/k=r\/k=Bf)) a H/\((e=Zd (Za Zk)/\J (b.filter p++[y]) H)\/(e=Zd (Za Zl)/\Jx (b.filter p++[y]) H))):=hR;clear hR;refine a4.mono ?_;intro e V4 h4;obtain⟨f4,h4⟩:=h4;have d4:Fr (jM w1.heap.size T (λk=>C k\/k=r\/k=Bf)) n V4:=(Fr.of_gr u:Fr _ n a).trans (f4.mono λk o _ q=>q.elim Zi λq=>Zj ⟨O,q.2⟩);obtain⟨rfl,a3⟩|⟨rfl,b1⟩:=h4
   .gi_wp2;refine⟨d4,f4.same _ _ z1 (Zj ⟨hB,d5.no WW⟩),?_,z3.ext f4 (λk o _ q=>Zi q)⟩;rw[YJ];simpa[G]using a3
   .gi_wp2;exact⟨d4,rfl,_,qx1 p hx G,b1⟩
structure Ch(gN:Nat->Nat)(lbN:Nat->I0)(l B Wb Bp Bg:Nat)(C:Nat->Prop)(w:I6)(Ds:List Nat)(W:I6):Prop where
 yb:W.heap[Wb]?=S (Z #[.func (.yield l) #[] #[]] 255)
 cp:W.cell? ⟨Bp,0,N⟩=S (Zq (S ⟨Bg,0,N⟩) 2 2)
 cg:∀k,k<2->W.cell? ⟨Bg,k,N⟩=S (.func (.func (gN k)) #[] (lbN k))
 fw:Fr (λk _=>C k) w W
 ms:zY B Ds W
theorem Ch.fr{gN:Nat->Nat}{lbN:Nat->I0}{b:Nat}{C:Nat->Prop}{d:List Nat}{j:I6}(h:Ch gN lbN l B g Bp b C w d W)(f:Fr Q W j)(a:∀k o,(k=g\/k=Bp\/k=b\/(C k/\k<w.heap.size)\/k∈d)->W.heap[k]?=S o->Q k o):Ch gN lbN l B g Bp b C w d j :=
 ⟨f.same _ _ h.yb (a _ _ WU h.yb),f.cell h.cp (λo e=>a _ o WU e),λk i=>f.cell (h.cg k i) (λo e=>a _ o WU e),
  h.fw.ext f (λk o e q=>a k o (Zj (Zj (Zj (Zi ⟨q,(qB.1 e).1⟩)))) (h.fw.same k o e q)),h.ms.fr f (λk o _ _ e i=>a k o (by simp[i]) e)⟩
theorem Ch.below{gN:Nat->Nat}{lbN:Nat->I0}{C:Nat->Prop}{g:List Nat}{m i:I6}{T:Obj->Prop}(a:Ch gN lbN l B j Bp e C w g i)(d:i.heap.size<=n)(h:Ch gN lbN l B j Bp e C w g W)(f:Fr (yv n T) W m):Ch gN lbN l B j Bp e C w g m:=h.fr f (λk o b _=>by
 refine Zi ?_;have lc:∀{p:Addr}{v:I7},i.cell? p=S v->p.block<n:=λq=>qN (Zx q) d;obtain rfl|rfl|rfl|⟨_,b⟩|b:=b
 .exact qN (qB.1 a.yb).1 d
 .exact lc a.cp
 .exact lc (a.cg 0 O)
 .exact qN b (q7 a.fw.size d)
 .exact qN (qB.1 (a.ms.2 k b).2).1 d)
theorem Ch.rnd{gN:Nat->Nat}{lbN:Nat->I0}{b:Nat}{C:Nat->Prop}{g:List Nat}{i:I6}{T:Obj->Prop}(h:Ch gN lbN l B d Bp b C w g W)(j:z6 T)(m:B<=d)(f:Fr (jM B T (λk=>C k\/k=Bp\/k=b)) W i):Ch gN lbN l B d Bp b C w g i:=h.fr f (λk o a e=>by
 obtain rfl|a|a|a|a:=a
 .rw[h.yb]at e;cases e;exact Zj ⟨m,j.no WW⟩
 .exact Zi VM
 .exact Zi VM
 .exact Zi (Zi a.1)
 .rw[(h.ms.2 k a).2]at e;cases e;exact Zj ⟨(h.ms.2 k a).1,λq=>by have:=j.cells _ q;cases this⟩)
theorem Ch.cons{gN:Nat->Nat}{lbN:Nat->I0}{b D:Nat}{C:Nat->Prop}{a:List Nat}(h:Ch gN lbN l B d Bp b C w a W)(hD:B<=D)(e:D∉a)(hK:W.heap[D]?=S (.deferred (S []))):Ch gN lbN l B d Bp b C w (D :: a) W :=
 ⟨h.yb,h.cp,h.cg,h.fw,jx h.ms hD e hK⟩
def cV(xsN:Nat->List Nat)(k:Nat):List Nat:=(List.range k).flatMap xsN
theorem qkt(xsN:Nat->List Nat)(k:Nat):cV xsN (k+1)=cV xsN k++xsN k:=by unfold cV;rw[YI,Xj];simp
theorem CS(xsN:Nat->List Nat)(a:k<2):cV xsN k++xsN k <+: cV xsN 2:=by grind[qkt]
theorem CR(xsN:Nat->List Nat):cV xsN 2=xsN 0++xsN 1:=by show xsN 0++(xsN 1++[])=_;rw[Yh]
def ChI(gN:Nat->Nat)(lbN:Nat->I0)(xsN:Nat->List Nat)(l B Wb Bp Bg:Nat)(C:Nat->Prop)(w:I6)(J:List Nat->I6->Prop)(gk:Nat)(a:Act)(wr:I6):Prop :=
 ∃(k:Nat)(Ds:List Nat)(u3 u4 u5 u9 u10 u11 u12 u13 u14 u15 u16 u17 u18:I7),k+gk=2/\a={ tmps:=#[.func (.yield l) #[] #[],ZI Bp,ZI Wb,u3,u4,u5,Zq (S ⟨Bg,0,N⟩) 2 2,I L 2,I L k,u9,u10,u11,u12,u13,u14,u15,u16,u17,u18],defers:=Ds.map uK }/\Ch gN lbN l B Wb Bp Bg C w Ds wr/\J (cV xsN k) wr
theorem aP{gN:Nat->Nat}{lbN:Nat->I0}{xsN:Nat->List Nat}{T:Obj->Prop}{C:Nat->Prop}(a8:∀k,k<2->It prog (gN k) (lbN k) yh T C (xsN k) w)(a7:∀k,k<2->∀args w,(callFunc (gN k) args).run prog w=.ok (.enter (gN k) args) w)
 (u:z6 T) (a1:∀k,C k->k<w.heap.size) (Bp r:Nat) (hp:w.cell? ⟨Bp,0,N⟩=S (Zq (S ⟨r,0,N⟩) 2 2)) (hg:∀k,k<2->w.cell? ⟨r,k,N⟩=S (.func (.func (gN k)) #[] (lbN k))) :
 It prog 314 #[ZI Bp] yh T (λk=>C k\/k=Bp\/k=r) (xsN 0++xsN 1) w:=by
 rw[<-CR];intro l B J Jx W f0 hB hJ P hY h0;have p:Ch gN lbN l B W.heap.size Bp r C w [] (W.alloc (Z #[.func (.yield l) #[] #[]] 255)):=by have f1:=f0.trans ((Fr.refl (λk _=>C k\/k=Bp\/k=r) W).alloc (Z #[.func (.yield l) #[] #[]] 255));exact⟨ZQ W _,f1.cell hp (λ_ _=>WU),λk hk=>f1.cell (hg k hk) (λ_ _=>WU),f1.mono (λk o _ q=>Zi q),⟨List.nodup_nil,λD hD=>absurd hD XC⟩⟩
 have K:=hJ _ _ _ h0 ((Fr.refl _ W).alloc (Z #[.func (.yield l) #[] #[]] 255));refine(ZY (n:=9)).1 ?_;refine callsIn_of_wp_marks func314 rfl trivial ?_ R;simp only[ntmps314,Nat.reduceAdd,Nat.reduceSub,Zr];refine Z9.2 ?_;clear h0 f0 hp hg;have c0:=p.cp;go_wp2_with fail;generalize W.alloc (Z #[.func (.yield l) #[] #[]] 255)=w1 at p K c0 |-;generalize W.heap.size=Wb at p hB |-;clear c0;refine Z9.1 (wpIn_loop_ghost (rm:=9) (ChI gN lbN xsN l B Wb Bp r C w J) 2 ?start ?round)
 case start=>exact⟨0,[],undef,undef,undef,undef,undef,undef,undef,undef,undef,undef,undef,undef,undef,R,R,p,K⟩
 case round=>
  clear p K;rintro gk a wr ⟨k,H,u3,u4,u5,u9,u10,u11,u12,u13,u14,u15,u16,u17,u18,hk,rfl,hM,d0⟩;have b:=X hM;have E:=X d0;clear d0;by_cases x:k<2
  .have f3:Y (cV xsN (k+1)=cV xsN k++xsN k):=X (qkt xsN k);have d2:Y (cV xsN k++xsN k <+: cV xsN 2):=X (CS xsN x);have c1:=hM.cg k x;have m:=a8 k x;have G:=a7 k x;clear hM;have n:∀D∈H,D<wr.heap.size:=λD hD=>(qB.1 (b.a.ms.2 D hD).2).1;have b5:Wb<wr.heap.size:=(qB.1 b.a.yb).1;have c4:0<=(k:Int):=O;have d4:(k:Int)<2:=O;have d5:B<=wr.heap.size:=O;generalize xsN k=xs at m f3 d2;generalize gN k=g at c1 m G;generalize lbN k=lb at c1 m;refine Z9.2 ?_;go_wp2_with fail;refine Z9.1 (xj (n:=9) (gf:=g) (lb:=lb) R G m u.cells (λj hj=>qN (a1 j hj) b.a.fw.size) b.a.fw (λ_=>R)
    (λd V=>Ch gN lbN l B Wb Bp r C w H V/\J (cV xsN k++d) V)
    (λc _ V=>c=.ret/\zY B H V/\∃q,q <+: cV xsN 2/\Jx q V)
    ?sI ?sX ⟨b.a,by simpa using E.a⟩ ?rnd ?done ?stop)
   case sI=>exact λs V V' h f=>⟨b.a.below Zy h.1 f,qo hJ d5 _ _ _ h.2 f⟩
   case sX=>exact λc s V V' h f=>⟨h.1,h.2.1.fr f (λj o _ _ _ hj=>Zi (n _ hj)),h.2.2.elim λq hq=>⟨q,hq.1,qo P d5 _ _ _ hq.2 f⟩⟩
   case done =>rintro D V hD ⟨a6,a5⟩ hK;go_wp2_with fail;exact⟨gk-1,O,k+1,D :: H,_,_,_,_,_,_,_,_,_,_,_,_,_,O,R,a6.cons O (λh=>by have:=n D h;omega) hK,by rw[f3.a];exact a5⟩
   case stop =>rintro D c d V hD b6 ⟨rfl,a9,q,b0,b1⟩ hK;refine Z9.2 ?_;go_wp2_with fail;exact xc (T:=T) results314 u.cells (D :: H) V (jx a9 O (λh=>by have:=n D h;omega) hK) (λv w' f=>⟨⟨v,R⟩,Zj ⟨q,b0,P _ _ _ b1 f⟩⟩)
   case rnd=>
    intro l1 d y V b7 b3 hI hl;simp only[yh];gi_wp2;refine⟨ZP,?_⟩;intro M f2 a2 c5;obtain⟨c6,a3⟩:=a2;have cy:=(qi c6.yb).1;have d3:cV xsN k++d++[y] <+: cV xsN 2:=by refine List.IsPrefix.trans ?_ d2.a;rw[qS];exact(Xq _).2 b3
    obtain⟨fn,tmps,i,z,a0,hR⟩:=jb (m':=8) (hY (cV xsN k++d) y M d3 a3);have b4:(Instr.yield l #[I L y]).run prog M=.ok (.round l fn tmps i z) M:=a0;clear a0;have Q:=X c6;clear c6 hI hl f2;gi_wp2;have d1:RoundIn (Fence.wide.inRound l1) 8 prog l fn tmps i z M (λe W'=>Fr (jM B T (λk=>C k\/k=Bp\/k=r)) M W'/\((e=Zd (Za Zk)/\J (cV xsN k++d++[y]) W')\/(e=Zd (Za Zl)/\Jx (cV xsN k++d++[y]) W'))):=hR;clear hR;refine d1.mono ?_;clear d1 b4;intro e V4 h4;obtain⟨f4,h4⟩:=h4;have A:Y (Fr (jM wr.heap.size T C) M V4):=X (f4.mono λj o _ q=>q.elim (λq=>Zi (Zi q)) (λq=>Zj ⟨O,q.2⟩));have F:Y (Ch gN lbN l B Wb Bp r C w H V4):=X (Q.a.rnd u hB f4);obtain⟨rfl,a4⟩|⟨rfl,b2⟩:=h4
    .gi_wp2;exact⟨A.a,F.a,by rw[<-qS];exact a4⟩
    .gi_wp2;exact⟨A.a,R,F.a.ms,_,d3,b2⟩
  .have d4:k=2:=O;subst d4;clear hM;refine Z9.2 ?_;go_wp2_with fail;exact xc (T:=T) results314 u.cells H wr b.a.ms (λv w' f=>⟨⟨v,R⟩,Zi (hJ _ _ _ E.a f)⟩)
def jD(c:UInt8):Bool:=((c.toNat:Int)==80)||((c.toNat:Int)==112)
def jA(c:UInt8):Bool:=((c.toNat:Int)==75)||((c.toNat:Int)==107)
theorem xz(c:UInt8)(w:I6):Calls prog 121 #[I Zg c.toNat] w λe w'=>e=Zd (Za (jD c))/\w'=w:=by
 obtain⟨v,b⟩:∃v,Y (v=jD c):=⟨_,X R⟩;rw[<-b.a];have a:Y (v=(((c.toNat:Int)==80)||((c.toNat:Int)==112))):=b;go_enter func121,ntmps121;go_wp2;all_goals
  go_ret;refine⟨zl ?_,R⟩;rw[a.a];try simp[*]
theorem qjk(c:UInt8)(w:I6):Calls prog 120 #[I Zg c.toNat] w λe w'=>e=Zd (Za (jA c))/\w'=w:=by
 obtain⟨v,b⟩:∃v,Y (v=jA c):=⟨_,X R⟩;rw[<-b.a];have a:Y (v=(((c.toNat:Int)==75)||((c.toNat:Int)==107))):=b;go_enter func120,ntmps120;go_wp2;all_goals
  go_ret;refine⟨zl ?_,R⟩;rw[a.a];try simp[*]
structure Ps(z:I2)(wh:Bool)(fc:I5)(b:Int)(Bp:Nat)(W:I6):Prop where
 bd:Bz z Bp W
 wh:W.cell? ⟨Bp,64,N⟩=S (Za wh)
 c:∀i,i<4->W.cell? ⟨Bp,65+i,N⟩=S (Za (fc i))
 b:W.cell? ⟨Bp,69,N⟩=S (I L b)
theorem Ps.of{g:Int}(r:jE z wh fc b h g PA){t:TypeId}(a:W.heap[Bp]?=S (Z PA t)):Ps z wh fc b Bp W :=
 ⟨λi d=>by rw[Zs a];exact r.sq i d,by rw[Zs a];exact r.wh,λi d=>by rw[Zs a];exact r.c i d,by rw[Zs a];exact r.b⟩
theorem Ps.fr{g:I6}(h:Ps z wh fc b Bp W)(f:Fr Q W g)(a:∀o,W.heap[Bp]?=S o->Q Bp o):Ps z wh fc b Bp g :=
 ⟨λi d=>f.cell (h.bd i d) (λo e=>a o e),f.cell h.wh (λo e=>a o e),λi d=>f.cell (h.c i d) (λo e=>a o e),f.cell h.b (λo e=>a o e)⟩
theorem Ps.gr(h:Ps z wh fc b Bp W)(g:Gr W a):Ps z wh fc b Bp a:=h.fr (Q:=λ_ _=>True) (Fr.of_gr g) (λ_ _=>trivial)
theorem Ps.lt(h:Ps z wh fc b Bp W):Bp<W.heap.size:=Zx h.wh
def yG(z:I2)(wh:Bool)(b:Int)(f t:Nat):Bool:=if jD (z f)then((t:Int)==b)||kw (z t) (!wh)else !(kw (z t) wh)
theorem ma(h:Ps z wh fc b Bp w)(f t:Nat)(j:f<64)(n:t<64) :
 ZL 268 #[ZI Bp,I L f,I L t] w (Za (yG z wh b f t)):=by
 have c1:=h.bd f j;have c2:=h.bd t n;have c3:=h.wh;have u:=h.b;have d:=X (λW=>xz (z f) W);have g:=X (λx W=>qxy (z t) x W);obtain⟨v,i⟩:∃v,Y (v=yG z wh b f t):=⟨_,X R⟩;rw[<-i.a];have a:Y (v=if jD (z f)then((t:Int)==b)||kw (z t) (!wh)else !(kw (z t) wh)):=i;clear i h;generalize jD (z f)=r at d a;have k:0<=(f:Int):=O;have l:(f:Int)<64:=O;have o:0<=(t:Int):=O;have p:(t:Int)<64:=O;cases r
 .go_enter func268,ntmps268;go_upto_region 3 with(go_at_call 121;refine Z1 (d.a _) ?_);go_quiet((go_at_call 148;exact YT (g.a _ _)));go_wp2;go_ret;refine⟨zl ?_,ZO.drewN _⟩;rw[a.a];simp
 .obtain⟨q,m⟩:=Zo ((t:Int)==b);rw[m]at a;cases q;go_enter func268,ntmps268;rotate_left;go_enter func268,ntmps268;all_goals
   go_upto_region 2 with(go_at_call 121;refine Z1 (d.a _) ?_);go_quiet((go_at_call 148;exact YT (g.a _ _)));go_wp2;go_ret;refine⟨zl ?_,ZO.drewN _⟩;rw[a.a];simp
theorem sS(h:Ps z wh fc b Bp w)(a d:Nat)(f t:Nat)(g:f<64)(k:t<64)(l:w.cell? ⟨a,0,N⟩=S (ZI Bp))(m:w.cell? ⟨d,0,N⟩=S (I L f)) :
 ZL 267 #[I L t,ZI a,ZI d] w (Za (yG z wh b f t)):=by have j:=X (ma h f t g k);clear h;go_enter func267,ntmps267;go_wp2_with(go_at_call 268;refine Z0 j.a λw' i=>?_);go_ret;exact⟨R,i⟩
theorem iB{A:Nat}(n:x<64)(w:I6)(m:Bz z A w):Calls prog 266 #[ZI A,I L x] w λe w'=>e=Zd (.func (.func 313) #[] #[ZI (w.heap.size+2),ZI w.heap.size,ZI (w.heap.size+1)])/\w'.heap[w.heap.size]?=S (Z #[ZI A] 224)/\w'.heap[w.heap.size+1]?=S (Z #[I L x] 3)/\w'.heap[w.heap.size+2]?=S (Z #[I Zg (z x).toNat] 5)/\Gr w w'/\w'.heap.size=w.heap.size+3:=by have q:∀(l:Fn)(first cap:I0)(w:I6),(Instr.makeFunc l first cap).run prog w=.ok (.func l first cap) w:=λ_ _ _ _=>R;have a:Gr w ((w.alloc (Z #[ZI A] 224)).alloc (Z #[I L x] 3)):=ZN.al;obtain⟨i,j⟩:=x6 w (Z #[ZI A] 224) (Z #[I L x] 3);have c1:=(qi i).1;have c2:=(qi j).1;have h:=(ZW a (Zx (m x n))).trans (m x n);have r:0<=(x:Int):=O;have u:(x:Int)<64:=O;have b:((w.alloc (Z #[ZI A] 224)).alloc (Z #[I L x] 3)).heap.size=w.heap.size+2:=WU;go_enter func266,ntmps266;go_upto_region 1 with fail;generalize ((w.alloc (Z #[ZI A] 224)).alloc (Z #[I L x] 3))=d at a i j c1 c2 h b |-;have f:Y (∀w',Gr d w'->Gr d w'/\w'.cell? ⟨w.heap.size,0,N⟩=S (ZI A)/\w'.cell? ⟨w.heap.size+1,0,N⟩=S (I L x)/\w'.cell? ⟨A,x,N⟩=S (I Zg (z x).toNat)):=X (λw' g=>⟨g,(ZW g (Zx c1)).trans c1,(ZW g (Zx c2)).trans c2,(ZW g (Zx h)).trans h⟩);go_region_held3 (λw'=>Gr d w'/\w'.cell? ⟨w.heap.size,0,N⟩=S (ZI A)/\w'.cell? ⟨w.heap.size+1,0,N⟩=S (I L x)/\w'.cell? ⟨A,x,N⟩=S (I Zg (z x).toNat)) (first|exact f.a _ ZO.drew|exact f.a _ ZN.drew) (fail);have k:=ZQ d (Z #[I Zg (z x).toNat] 5);have o:=(YP d (Z #[I Zg (z x).toNat] 5) w.heap.size O).trans i;have p:=(YP d (Z #[I Zg (z x).toNat] 5) (w.heap.size+1) O).trans j;rw[b]at k;go_wp2;go_ret;exact⟨R,o,p,k,(a.alloc _ _).drew,by show(d.alloc _).heap.size=_;rw[Z3,b]⟩
theorem sC(g gf:Nat)(lb a:I0)(w:I6):Calls prog 265 #[.func (.func g) #[] lb,.func (.func gf) #[] a] w λe w'=>e=Zd (.func (.func 312) #[] #[ZI w.heap.size,ZI (w.heap.size+1)])/\w'.heap[w.heap.size]?=S (Z #[.func (.func g) #[] lb] 207)/\w'.heap[w.heap.size+1]?=S (Z #[.func (.func gf) #[] a] 255)/\Gr w w':=by have h:∀(b:Fn)(first cap:I0)(w:I6),(Instr.makeFunc b first cap).run prog w=.ok (.func b first cap) w:=λ_ _ _ _=>R;obtain⟨d,f⟩:=x6 w (Z #[.func (.func g) #[] lb] 207) (Z #[.func (.func gf) #[] a] 255);go_enter func265,ntmps265;go_wp2;go_ret;exact⟨R,d,f,ZN.al⟩
theorem aO(v:I7)(w:I6)(d:v.oneCell'=Zk):Calls prog 269 #[v] w λe w'=>e=Zd (.func (.func 314) #[] #[ZI w.heap.size])/\w'.heap[w.heap.size]?=S (Z #[v] 358)/\Gr w w':=by have b:∀(a:Fn)(first cap:I0)(w:I6),(Instr.makeFunc a first cap).run prog w=.ok (.func a first cap) w:=λ_ _ _ _=>R;go_enter func269,ntmps269;go_wp2;go_ret;exact⟨R,ZQ w _,ZN⟩
end Go.Proofs.YtnfakamfmkhlbabGreatDoor.C
