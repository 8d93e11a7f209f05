import Derived.Test.YtnfakamfmkhlbabGreatDoorC1
set_option maxRecDepth 100000
set_option maxHeartbeats 4000000
set_option linter.all false
open Go.Value renaming int->I,bool->Za,string->Zb,agg->Zc,tuple->Ze,slice->Zq
open Go.IntKind renaming i64->L,u8->Zg,u64->Zh,wrap->a_
open Go.Obj renaming cells->Z
open Go.Ending renaming returned->Zd
open Or renaming inl->Zi,inr->Zj
open Option renaming some->S,none->N
open Bool renaming true->Zk,false->Zl
open Decidable renaming decide->Zm
open Go.RowKit renaming Hid->Y
open Go renaming World->I6,Value->I7,Calls->i_,undef->m_
open Go.Proofs.Tryz renaming zeroCells70->b_,prog->c_
open Go.Lib renaming decDigits->d_,indexByte->e_,join->f_,cut->g_
open List renaming range->h_
open UInt8 renaming ofNat->j_
open Go.Op renaming stringOp->k_
open Go.Instr renaming index->l_
open Go.Code renaming wp->n_
namespace Go.Proofs.YtnfakamfmkhlbabGreatDoor.C
open Go.ChangeShapes Go.WideShapes Go.ChangeAt Go.RowKit Go.Shelf Tryz
attribute [local go_sem] qd qe Oper.semAt_some
variable {z:I2}{wh:Bool}{b h m:Int}{PA A M:I0}{fc:I5}{w W a w' w1 V:I6}{f n i k g base d e l j x B Bp:Nat}{v:I7}{u:UInt8}{Q:Nat->Obj->Prop}{rs:I3}{y:I1}
def jZ(wh:Bool)(fc:I5)(f t:Nat)(u:UInt8)(i:Nat):Bool:=fc i&&(xK (Zm (i<2))==xK wh)&&((f:Int)==xY i)&&((t:Int)==vN i)&&((u.toNat:Int)==0)
def gh(p:Nat->Bool):Nat->Nat->Int
 | 0,_=>-1
 | n+1,i=>if p i then(i:Int)else gh p n (i+1)
def zK(wh:Bool)(fc:I5)(f t:Nat)(u:UInt8):Int:=gh (jZ wh fc f t u) 4 0
def Cc(W:I6)(o:Obj)(j:Nat)(h:j<W):(W.alloc o).heap[j]?=W.heap[j]?:=YG ((XL W W).alloc Zy o) j h
def eQ{o:I0}{ty ty2:TypeId}(g:Gr ((w.alloc (Z PA ty)).alloc (Z o ty2)) w'):w'.heap[w.heap.size]?=Z PA ty (0,0)/\w'.heap[w.heap.size+1]?=Z o ty2 (0,0):=by
 constructor
 .refine(Zz g UA).trans ?_;rw[Cc _ _ _ Vj];exact ZQ w _
 refine(Zz g UA).trans ?_;have:=ZQ (w.alloc (Z PA ty)) (Z o ty2);rwa[Z3]at this
def qn{b:Nat}{ty:TypeId}(h:W.heap[b]?=Z A ty (0,0))(i:Nat):W.cell? ⟨b,i,N⟩=A[i]?:=by simp only[World.cell?];rw[h];rfl
def vF{b:Nat}{ty:TypeId}(h:W.heap[b]?=Z A ty (0,0)):zJ b A W:=⟨(qB.1 h).1,λj v a=>by rw[Z2,qn h,<-qO];exact a⟩
def ll(i:Nat)(j:Nat):Int:=if i%2=0 then xY i+j else xY i-j
def AR(i:Nat):Nat:=if i%2=0 then 3 else 4
def nB(z:I2)(i:Nat):Bool:=B_ (λn=>((z n).toNat:Int)) (ll i) (AR i)
def km(z:I2)(i:Nat):Bool:=nB z i&&!(zM z (xY i) (!decide (i<2)))&&!(zM z ((xY i+vN i).tdiv 2) (!decide (i<2)))&&!(zM z (vN i) (!decide (i<2)))
abbrev yZ:=Int×Int
def S_(s:yZ):Prop:=-2<=s.1/\s.1<=2∧-2<=s.2/\s.2<=2
def C4(s:yZ):Int:=s.1*s.1+s.2*s.2
def iX{a:Int}(b:-2<=a)(d:a<=2):wrap64 (a*a)=a*a/\0<=a*a/\a*a<=4:=by have:a=-2\/a=-1\/a=0\/a=1\/a=2:=O;rcases this with rfl|rfl|rfl|rfl|rfl<;>(unfold wrap64;omega)
def zl{a b:Bool}(h:a=b):Zd a=Zd b:=by rw[h]
def Dk{k:IntKind}{a:Int}{x y:Bool}(h:a=b)(g:x=y):Zd (Ze #[I k a,x])=Zd (Ze #[I k b,y]):=by rw[h,g]
def dG(a b:Int)(h:S_ (a,b))(w:I6):ZL 222 #[Zc #[a,b]] w (C4 (a,b)):=by obtain⟨d,f,g,i⟩:=h;simp only at d f g i;have j:=iX d f;have k:=iX g i;unfold ZL;go_in;go_wp2;go_ret;refine⟨xo ?_,ZN⟩;rfl
def dH(a b:Int)(h:S_ (a,b))(w:I6):ZL 150 #[Zc #[a,b]] w (Zc #[I L (-a),I L (-b)]):=by obtain⟨d,f,g,i⟩:=h;simp only at d f g i;have j:wrap64 (-a)=-a:=Ti;have k:wrap64 (-b)=-b:=Ti;unfold ZL;go_in;go_wp2;exact ZS (v:=Zc #[I L (-a),I L (-b)]) (Yp results150 _ _ (w+1) 221 #[I L (-a),I L (-b)] (0,0) _ R (by have:=ZQ (w.alloc (Z #[a,b] 221)) (Z #[I L (-a),I L (-b)] 221);rw[Z3]at this;exact this) underlying221 rfl WR) R ⟨R,ZN.al⟩
def kw(c:UInt8)(wh:Bool):Bool:=if wh then Zm (65<=c.toNat)&&Zm (c.toNat<=90)else Zm (97<=c.toNat)&&Zm (c.toNat<=122)
def qxy(c:UInt8)(wh:Bool)(w:I6):i_ c_ 148 #[I Zg c.toNat,wh] w λe w'=>e=Zd (kw c wh)/\w'=w:=by
 cases wh;all_goals
  go_in;go_wp2
  all_goals
   go_ret;refine⟨zl ?_,R⟩;rw[YW];simp only[kw,qH,qG,qR,false_iff,YS,YH];omega
def FW(x:Nat)(s:yZ):Int:=8*((x:Int)/8+s.2)+((x:Int)%8+s.1)
def pM(x:Nat)(s:yZ):Bool:=Zm (0<=(x:Int)%8+s.1)&&Zm ((x:Int)%8+s.1<8)&&Zm (0<=(x:Int)/8+s.2)&&Zm ((x:Int)/8+s.2<8)
def sL(x:Nat)(j:x<64)(a b:Int)(h:S_ (a,b))(w:I6):ZL 221 #[x,Zc #[a,b]] w (Ze #[FW x (a,b),pM x (a,b)]):=by
 obtain⟨d,f,g,i⟩:=h;simp only at d f g i;unfold ZL;go_in;go_upto_region 1 with fail;go_quiet(fail);go_wp2;all_goals
  go_ret2;refine⟨Dk R ?_,ZN.drewN _⟩;rw[YW];simp only[pM,qH,qG,qR,false_iff];omega
def ki(c:UInt8)(s:yZ):Bool:=
 if((c.toNat:Int)==80)then(C4 s==2)&&(s.2==1)
 else if((c.toNat:Int)==112)then(C4 s==2)&&(s.2==-1)
 else if((c.toNat:Int)==78)||((c.toNat:Int)==110)then C4 s==5
 else if((c.toNat:Int)==66)||((c.toNat:Int)==98)then C4 s==2
 else if((c.toNat:Int)==82)||((c.toNat:Int)==114)then C4 s==1
 else if((c.toNat:Int)==81)||((c.toNat:Int)==113)||((c.toNat:Int)==75)||((c.toNat:Int)==107)then Zm (C4 s<=2)
 else Zl
def DX{a:Int}{ty:TypeId}:(w.alloc (Z #[a,b] ty)).cell? w=I L a/\(w.alloc (Z #[a,b] ty)).cell? ⟨w,1,N⟩=I L b:=by constructor<;>(rw[Z8 _ _ _ _ R];rfl)
def aG(c:UInt8)(a b:Int)(h:S_ (a,b))(w:I6):ZL 149 #[I Zg c.toNat,Zc #[a,b]] w (ki c (a,b)):=by
 obtain⟨z,j⟩:∃z,Y (z=C4 (a,b)):=⟨_,X R⟩;have k:Y (∀W,ZL 222 #[Zc #[a,b]] W z):=X (λW=>by rw[j.a];exact dG a b h W);unfold ZL;go_in;go_upto_region 1 with fail;obtain⟨c0,c1⟩:=DX (w:=w) (a:=a) (b:=b) (ty:=221);have d:Y (Gr w (w.alloc (Z #[a,b] 221))):=X ZN;have f:w<(w.alloc (Z #[a,b] 221)).heap.size:=WU;generalize w.alloc _=m at c0 c1 d f|-;go_wp2_with(go_at_call 222;refine Z0 (k _) λw' g=>?_;have l:=(ZW g (p:=⟨w,1,N⟩) f).trans c1;have i:=X (o_ d g));all_goals
  go_ret;refine⟨zl ?_,by first|exact i|exact d⟩;simp only[ki,<-j.a];simp[*]
def uh:List yZ:=[(0,1),(1,1),(1,0),(1,-1),(0,-1),(-1,-1),(-1,0),(-1,1),(1,2),(2,1),(2,-1),(1,-2),(-1,-2),(-2,-1),(-2,1),(-1,2)]
def nx(x:Nat)(s:yZ):Nat:=(FW x s).toNat
def uW(z:Nat->UInt8)(s:yZ):Nat->Nat->List Nat
 | 0,_=>[]
 | n+1,x=>if pM x s then nx x s::(if z (nx x s)=46 then uW z s n (nx x s)else[])else[]
def Ej(x:Nat)(s:yZ):Nat:=if 0<s.1 then 7-x%8 else if s.1<0 then x%8 else if 0<s.2 then 7-x/8 else x/8
def sK{s:yZ}(h:pM x s=Zk):FW x s=(nx x s:Nat)/\nx x s<64:=by simp only[pM,qH,qG]at h;unfold nx FW;omega
def tQ{s:yZ}(b:x<64)(a:s.1≠0\/s.2≠0)(h:pM x s=Zk):Ej (nx x s) s<Ej x s:=by
 simp only[pM,qH,qG]at h;unfold Ej nx FW;split
 .omega
 exact Iu
def kq(z:I2)(s:yZ)(x:Nat):List Nat:=uW z s 8 x
def G9(x:Nat)(a:x<64)(s:yZ):Ej x s<=7:=by
 unfold Ej;split
 .omega
 exact Iu
def yh(x:Nat):I0:=#[I L x]
def uE:I7->Bool
 | Za Zk=>Zk
 | _=>Zl
def Bz(z:I2)(a:Nat)(w:I6):Prop:=∀i,i<64->w.cell? ⟨a,i,N⟩=S (I Zg (z i).toNat)
def Bz.fr{a:Nat}(h:Bz z a w)(f:Fr Q w w')(d:∀o,Q a o):Bz z a w':=λi b=>f.cell (h i b) (λo _=>d o)
structure Wk(z:I2)(x:Nat)(s:yZ)(Bf Bs Bq a:Nat)(w:I6):Prop where
 fr:w.cell? Bf=S (I L x)
 s0:w.cell? Bs=S (I L s.1)
 s1:w.cell? ⟨Bs,1,N⟩=S (I L s.2)
 qq:w.cell? Bq=S (ZI a)
 bd:Bz z a w
def Wk.fr'{s:yZ}{Bf Bq a:Nat}(h:Wk z x s Bf d Bq a w)(f:Fr Q w w')(b:∀k o,(k=Bf\/k=d\/k=Bq\/k=a)->Q k o):Wk z x s Bf d Bq a w':=⟨f.cell h.fr (λo _=>b _ o (Zi R)),f.cell h.s0 (λo _=>b _ o (Zj (Zi R))),f.cell h.s1 (λo _=>b _ o (Zj (Zi R))),f.cell h.qq (λo _=>b _ o (Zj (Zj (Zi R)))),h.bd.fr f (λo=>b _ o (Zj (Zj (Zj R))))⟩
def dC(z:I2)(x:Nat)(R:x<64)(a b:Int)(hs:S_ (a,b))(hn:a≠0\/b≠0)(Bf Q Bq A:Nat)(T:Obj->Prop)(w:I6)(hw:Wk z x (a,b) Bf Q Bq A w):It c_ 220 #[ZI Bf,ZI Q,ZI Bq] yh T (λk=>k=Bf\/k=Q\/k=Bq\/k=A) (kq z (a,b) x) w:=by
 intro l B J Jx W f0 hB hJ a4 hY h0;have K:=hw.fr' f0 (λk o h=>h);have a6:=λ(x:Nat)(R:x<64) W=>sL x R a b hs W;refine(ZY (n:=1)).1 ?_;refine callsIn_of_wp func220 rfl x_ ?_ rfl;simp only[ntmps220,Nat.reduceAdd,Nat.reduceSub,Zr];have c1:=K.fr;have c2:=K.s0;have c3:=K.s1;gi_wp2_with (refine⟨x_,?_⟩;gi_at_call 221;refine(ZY.2 (a6 x R _)).mono ?_;rintro e w' ⟨rfl,C⟩);have F:=hJ _ _ _ h0 (p_ C);have a8:=K.fr' (Q:=λ_ _=>True) (p_ C) (λ_ _ _=>x_);gi_loopw [5,6] (λsq ok wr=>∃(f:List Nat)(y n:Nat),y<64/\Ej y (a,b)<n/\sq=(FW y (a,b))/\ok=(pM y (a,b))/\kq z (a,b) x=f++uW z (a,b) n y/\Wk z x (a,b) Bf Q Bq A wr/\J f wr) (λsq ok _=>if uE ok then Ej (intOf sq).toNat (a,b)+1 else 0)
 .exact⟨[],x,8,R,by have:=G9 x R (a,b);omega,rfl,rfl,rfl,a8,F⟩
 obtain⟨f,y,n,hy,hd,rfl,rfl,V,b0,H⟩:=hrel;have p:=V;have u:=b0;cases j:pM y (a,b)
 .have a9:kq z (a,b) x=f:=by
   rw[p];cases n with
   | zero=>simp[uW]
   | succ n=>simp[uW,j]
  have a1:=a9;gi_wp2;go_end0;exact⟨⟨_,rfl⟩,Zi (by rw[a1];exact H)⟩
 obtain⟨n,rfl⟩:∃n',n=n'+1:=⟨n-1,O⟩;obtain⟨e1,E⟩:=sK j;have b2:=tQ hy hn j;rw[e1];have v:uW z (a,b) (n+1) y=nx y (a,b)::(if z (nx y (a,b))=46 then uW z (a,b) n (nx y (a,b))else[]):=by simp[uW,j]
 have g:=p;rw[v]at g;generalize nx _ _=m at E b2 v g|-;have d:=g;have P:f++[m]<+:kq z (a,b) x:=⟨_,by rw[d,qS];rfl⟩;obtain⟨fn,tmps,q,D,a7,hR⟩:=hY f m wr P H;have a2:(Instr.yield l #[m]).run c_ wr=.ok (.round l fn tmps q D) wr:=a7;have a5:0<=(m:Int):=O;have a3:(m:Int)<64:=O;gi_wp2;refine hR.mono ?_;rintro e W3 ⟨f3,⟨rfl,G⟩|⟨rfl,b1⟩⟩
 .have i:=u.fr' f3 (λk o h=>Zi h);have d1:=i.qq;have d2:=i.bd m E;have d3:=i.s0;have d4:=i.s1;have M:=i;by_cases r:z m=46
  .rw[qI r]at d;have hz:((z m).toNat:Int)=46:=(by rw[r];rfl);rw[hz]at d2;gi_wp2_with (refine⟨x_,?_⟩;gi_at_call 221;refine(ZY.2 (a6 m E _)).mono ?_;rintro e w' ⟨rfl,C⟩);go_roundw
   case rel=>exact⟨f++[m],m,n,E,O,rfl,rfl,by rw[d,qS];rfl,M.fr' (Q:=λ_ _=>True) (p_ C) (λ_ _ _=>x_),hJ _ _ _ G (p_ C)⟩
   case measure=>
    simp only[intOf,uE,YS,YE];cases a0:pM m (a,b)
    .simp[uE]
    have:=tQ E hn a0;simp only[uE,YS];unfold nx at this;omega
  rw[qF r]at d;have hz:(((z m).toNat:Int)!=46)=Zk:=by simp only[qU];intro h;apply r;apply q6.1;have:(z m).toNat=46:=O;rw[this];rfl
  gi_wp2;apply ZS (XS rfl _ _ _) rfl;exact⟨⟨_,rfl⟩,Zi (by rw[d];exact G)⟩
 gi_wp2;apply ZS (XS rfl _ _ _) rfl;exact⟨⟨_,rfl⟩,Zj ⟨f++[m],P,b1⟩⟩
def dx(c:UInt8):Bool:=Zm (0<=e_ [66,82,81,98,114,113] c)
def qzt(c:UInt8)(w:I6):i_ c_ 151 #[I Zg c.toNat] w λe w'=>e=Zd (dx c)/\w'=w:=by have f:((c.toNat:Nat):Int).toNat.toUInt8=c:=WU;obtain⟨d,b⟩:=Zo (e_ [66,82,81,98,114,113] c);have a:Y (dx c=Zm (0<=d)):=X (by unfold dx;rw[b]);go_in;go_wp2_with(go_at_call 200;apply Z1 (Tryz.strings_IndexByte _ _ _));go_ret;refine⟨zl ?_,R⟩;rw[a.a]
def jG(w:I6)(a b d:Obj):(((w.alloc a).alloc b).alloc d).heap[w.heap.size]?=a/\(((w.alloc a).alloc b).alloc d).heap[w.heap.size+1]?=b/\(((w.alloc a).alloc b).alloc d).heap[w.heap.size+2]?=d/\(((w.alloc a).alloc b).alloc d).heap.size=w.heap.size+3:=by
 obtain⟨e,f⟩:=x6 w a b;refine⟨?_,?_,?_,WU⟩
 .rw[YP _ _ _ WX];exact e
 .rw[YP _ _ _ WU];exact f
 have:=ZQ ((w.alloc a).alloc b) d;rwa[Z3,Z3]at this
structure ap(A x:Nat)(a b:Int)(Bq:Nat)(w:I6):Prop where
 b0:w.heap[Bq]?=S (Z #[ZI A] 224)
 b1:w.heap[Bq+1]?=S (Z #[I L x] 3)
 b2:w.heap[Bq+2]?=S (Z #[I L a,I L b] 221)
def wkA(Bq:Nat):I0:=#[ZI (Bq+1),ZI (Bq+2),ZI Bq]
def xg{b:Nat}{x y:I7}{t:TypeId}{fr:Nat×Nat}(h:V.heap[b]?=Z #[x,y] t fr):V.cell? b=x/\V.cell? ⟨b,1,N⟩=y:=by refine⟨?_,?_⟩<;>simp[World.cell?,h]
def ap.wk{A:Nat}{a:Int}{Bq:Nat}(h:ap A x a b Bq w)(d:Bz z A w):Wk z x (a,b) (Bq+1) (Bq+2) Bq A w:=⟨(qi h.b1).1,(xg h.b2).1,(xg h.b2).2,(qi h.b0).1,d⟩
def dB(A x:Nat)(a b:Int)(w:I6):i_ c_ 147 #[ZI A,x,Zc #[a,b]] w λe w'=>e=Zd (.func (.func 220) #[] (wkA w))/\ap A x a b w w'/\Gr w w'/\w'=w.heap.size+3:=by have j:=qmf;obtain⟨f,g,h,i⟩:=jG w (Z #[ZI A] 224) (Z #[x] 3) (Z #[a,b] 221);go_in;go_wp2;go_ret;exact⟨R,⟨f,g,h⟩,ZN.al.al,i⟩
def jO:List I7:=uh.flatMap λs=>[I L s.1,I L s.2]
def vT(w:I6):Prop:=w.rangeAt 0 0 jO/\0<w.heap.size
def vT.gr(h:vT w)(g:Gr w w'):vT w':=⟨λj v a=>(ZW g (p:=⟨_,0+j,N⟩) h.2).trans (h.1 j v a),qN h.2 (ZR g)⟩
def vT.fr(h:vT w)(f:Fr Q w w')(a:∀o,Q 0 o):vT w':=⟨λj v b=>f.cell (h.1 j v b) (λo _=>a o),qN h.2 f.size⟩
def lJ:(c_.info? 222).map (·.size)=S jO.length:=WR
def jU(k:Nat):yZ:=uh.getD k (0,1)
def pk(k:Nat):S_ (jU k)/\((jU k).1≠0\/(jU k).2≠0):=by
 have h:∀s∈uh,S_ s/\(s.1≠0\/s.2≠0):=by unfold uh S_;decide
 rw[jU,YR];cases e:uh[k]? with
 | none=>exact⟨by unfold S_;decide,WW⟩
 | some s=>exact h s (Wm e)
def Gf(w:I6):(l_ 222 (jO.toArray) (I L 0)).run c_ w=.ok (Zc #[(jU 0).1,(jU 0).2]) w:=WR
def Ge(w:I6):(l_ 222 (jO.toArray) (I L 1)).run c_ w=.ok (Zc #[(jU 1).1,(jU 1).2]) w:=WR
def Gc(w:I6):(l_ 222 (jO.toArray) (I L 2)).run c_ w=.ok (Zc #[(jU 2).1,(jU 2).2]) w:=WR
def Gb(w:I6):(l_ 222 (jO.toArray) (I L 3)).run c_ w=.ok (Zc #[(jU 3).1,(jU 3).2]) w:=WR
def Ga(w:I6):(l_ 222 (jO.toArray) (I L 4)).run c_ w=.ok (Zc #[(jU 4).1,(jU 4).2]) w:=WR
def GZ(w:I6):(l_ 222 (jO.toArray) (I L 5)).run c_ w=.ok (Zc #[(jU 5).1,(jU 5).2]) w:=WR
def GY(w:I6):(l_ 222 (jO.toArray) (I L 6)).run c_ w=.ok (Zc #[(jU 6).1,(jU 6).2]) w:=WR
def GX(w:I6):(l_ 222 (jO.toArray) (I L 7)).run c_ w=.ok (Zc #[(jU 7).1,(jU 7).2]) w:=WR
def GW(w:I6):(l_ 222 (jO.toArray) (I L 8)).run c_ w=.ok (Zc #[(jU 8).1,(jU 8).2]) w:=WR
def GV(w:I6):(l_ 222 (jO.toArray) (I L 9)).run c_ w=.ok (Zc #[(jU 9).1,(jU 9).2]) w:=WR
def EU(w:I6):(l_ 222 (jO.toArray) (I L 10)).run c_ w=.ok (Zc #[(jU 10).1,(jU 10).2]) w:=WR
def ET(w:I6):(l_ 222 (jO.toArray) (I L 11)).run c_ w=.ok (Zc #[(jU 11).1,(jU 11).2]) w:=WR
def ES(w:I6):(l_ 222 (jO.toArray) (I L 12)).run c_ w=.ok (Zc #[(jU 12).1,(jU 12).2]) w:=WR
def ER(w:I6):(l_ 222 (jO.toArray) (I L 13)).run c_ w=.ok (Zc #[(jU 13).1,(jU 13).2]) w:=WR
def EQ(w:I6):(l_ 222 (jO.toArray) (I L 14)).run c_ w=.ok (Zc #[(jU 14).1,(jU 14).2]) w:=WR
def EP(w:I6):(l_ 222 (jO.toArray) (I L 15)).run c_ w=.ok (Zc #[(jU 15).1,(jU 15).2]) w:=WR
def Gg(k:Nat)(a:k<16)(w:I6):(l_ 222 (jO.toArray) k).run c_ w=.ok (Zc #[(jU k).1,(jU k).2]) w:=by
 have:k=0\/k=1\/k=2\/k=3\/k=4\/k=5\/k=6\/k=7\/k=8\/k=9\/k=10\/k=11\/k=12\/k=13\/k=14\/k=15:=O;obtain rfl|rfl|rfl|rfl|rfl|rfl|rfl|rfl|rfl|rfl|rfl|rfl|rfl|rfl|rfl|rfl:=this
 .exact Gf w
 .exact Ge w
 .exact Gc w
 .exact Gb w
 .exact Ga w
 .exact GZ w
 .exact GY w
 .exact GX w
 .exact GW w
 .exact GV w
 .exact EU w
 .exact ET w
 .exact ES w
 .exact ER w
 .exact EQ w
 exact EP w
def fQ(z:I2)(bw:Bool)(s:yZ)(far:Bool)(y:Nat):Bool:=kw (z y) bw&&ki (z y) (-s.1,-s.2)&&(!far||dx (z y))
def vq(z:Nat->UInt8)(bw:Bool)(s:yZ):Bool->List Nat->Bool
 | _,[]=>Zl
 | far,y::r=>fQ z bw s far y||vq z bw s Zk r
theorem aF(z:Nat->UInt8)(b:Bool)(s:yZ)(y:Nat):∀(far:Bool)(a:List Nat),vq z b s far (a++[y])=(vq z b s far a||fQ z b s (far||!a.isEmpty) y)
 | far,[]=>by simp[vq]
 | far,x::r=>by
  have:=aF z b s y Zk r;simp only[YA,vq,this,Bool.true_or,List.isEmpty_cons,X3,Bool.or_true,Bool.or_assoc]
theorem lL(z:Nat->UInt8)(d:Bool)(s:yZ):∀(b e:List Nat)(far:Bool),b<+:e->vq z d s far b=Zk->vq z d s far e=Zk
 | [],_,_,_,h=>by simp[vq]at h
 | x::r,[],_,h,_=>by simp at h
 | x::r,y::q,far,h,a=>by
  obtain⟨rfl,f⟩:=List.cons_prefix_cons.1 h;simp only[vq,Ym]at a|-;obtain a|a:=a
  .exact Zi a
  exact Zj (lL z d s r q Zk f a)
def vL(z:I2)(x:Nat)(bw:Bool):Bool:=(h_ 16).any λk=>vq z bw (jU k) Zl (kq z (jU k) x)
theorem oM{s:yZ}:∀(n x:Nat),x<64->∀y∈uW z s n x,y<64
 | 0,_,_,y,h=>by simp[uW]at h
 | n+1,x,hx,y,h=>by
  unfold uW at h;split at h
  .rename_i a;have b:=(sK a).2;obtain rfl|h:=Yj.1 h
   .exact b
   split at h
   .exact oM n _ b y h
   cases h
  cases h
def ce{s:yZ}{y:Nat}(a:x<64)(h:y∈kq z s x):y<64:=oM 8 x a y h
def qzn{i:Func}{tmps:I0}{r:Ending->I6->Prop}:∀(b:List Nat)(w:I6),zY B b w →(∀w',Fr (λk o=>k<B\/o.isCells=Zk) w w'->∃v,(results i tmps).run c_ w'=.ok v w'/\r (Zd v) w')->LeavesInM Fence.wide n c_ i tmps r (b.map uK) .returning w:=by
 intro b;induction b with
 | nil=>
  intro w _ hR;obtain⟨v,l,m⟩:=hR w ZP;exact⟨_,l,m⟩
 | cons D b ih=>
  intro w d hR;obtain⟨p,hD⟩:=d.2 D WU
  have f:Fr (λk o=>k<B\/o.isCells=Zk) w (w.putObj D (.deferred N)):=ZP.putObj _ (λo e q=>by
   rw[hD]at e;cases e;obtain q|q:=q
   .omega
   cases q)
  refine⟨WU,Zi ⟨D,_,R,YU hD,ih _ ⟨(X6.1 d.1).2,λg a=>⟨(d.2 g (Xg _ a)).1,?_⟩⟩ (λw' j=>hR w' (f.trans j))⟩⟩;have h:g≠D:=λe=>(X6.1 d.1).1 (e▸a);exact(Xw h).trans (d.2 g (Xg _ a)).2
def ig(tmps:I0)(w:I6)(b:Nat)(v:I7)(e:tmps.getD 6 m_=ZI b)(d:w.cell? b=v):(results Tryz.f64 tmps).run c_ w=.ok v w:=by have a:tmps[6]?.getD m_=ZI b:=VI;simp[results,results64,a,asAddr,go_sem,d]
structure AD(bw:Bool)(A:I0)(w:I6)(Ds:List Nat)(W:I6):Prop where
 sq:W.heap[w.heap.size]?=S (Z A 67)
 bb:W.heap[w.heap.size+1]?=S (Z #[Za bw] 4)
 rs:W.heap[w.heap.size+2]?=S (Z #[Za Zl] 4)
 ms:zY w.heap.size Ds W
 gr:Gr w W
def AD.fr{e:Bool}{b:List Nat}{d:I6}(h:AD e A w b W)(f:Fr Q W d)(a:∀k o,(k<=w.heap.size+2\/k∈b)->Q k o):AD e A w b d:=⟨f.same _ _ h.sq (a _ _ (Zi O)),f.same _ _ h.bb (a _ _ (Zi O)),f.same _ _ h.rs (a _ _ (Zi O)),h.ms.fr f (λk o _ _ _ g=>a k o (Zj g)),u_ h.gr (f.below (n:=w) (ZR h.gr) (λk o g=>a k o (Zi O)))⟩
def n6{t:TypeId}(a:∀i,i<64->A[i]?=I Zg (z i).toNat)(h:W.heap[B]?=Z A t):Bz z B W:=λi b=>by
 rw[Zs h];exact a i b
def AtI(z:I2)(x:Nat)(bw:Bool)(A:I0)(w:I6)(gk:Nat)(a:Act)(wr:I6):Prop:=∃(k:Nat)(Ds:List Nat)(u4 u7 u8 u9 u10 u11 u14 u15 u16 u17 u18 u19 u20 u21 u22 u23 u24 u25 u26 u27 u28 u29 u30 u31 u32 u33 u34 u35 u36 u37 u38 u39 u40:I7),k+gk=16/\a={ tmps:=#[Zc A,I L x,Za bw,ZI w.heap.size,u4,ZI (w.heap.size+1),ZI (w.heap.size+2),u7,u8,u9,u10,u11,Zc jO.toArray,I L k,u14,u15,u16,u17,u18,u19,u20,u21,u22,u23,u24,u25,u26,u27,u28,u29,u30,u31,u32,u33,u34,u35,u36,u37,u38,u39,u40],defers:=Ds.map uK }/\AD bw A w Ds wr/\∀j,j<k->vq z bw (jU j) Zl (kq z (jU j) x)=Zl
def ah(z:I2)(A:I0)(g5:A.size=64)(hA:∀i,i<64->A[i]?=I Zg (z i).toNat)(x:Nat)(hx:x<64)(l:Bool)(w:I6)(hS:vT w):ZL 64 #[A,x,l] w (vL z x l):=by
 refine(ZY (n:=9)).1 ?_;refine callsIn_of_wp_marks func64 rfl x_ ?_ R;simp only[ntmps64,Nat.reduceAdd,Nat.reduceSub,Zr];refine Z9.2 ?_;obtain⟨x1,x2,x3,x4⟩:=jG w (Z A 67) (Z #[l] 4) (Z #[Zl] 4);have b2:Gr w (((w.alloc (Z A 67)).alloc (Z #[l] 4)).alloc (Z #[Zl] 4)):=ZN.al.al;have b6:=hS.gr b2;go_wp2_with(refine Yo R 222 _ R 0 0 R jO _ b6.1 underlying222 rfl lJ ?_);have b1:AD l A w [] (((w.alloc (Z A 67)).alloc (Z #[l] 4)).alloc (Z #[Zl] 4)):=⟨x1,x2,x3,⟨List.nodup_nil,λD hD=>w_ hD XC⟩,b2⟩;generalize (((w.alloc (Z A 67)).alloc (Z #[l] 4)).alloc (Z #[Zl] 4))=w3 at b1|-;refine Z9.1 (wpIn_loop_ghost (rm:=9) (AtI z x l A w) 16 ?start ?round)
 case start=>exact⟨0,[],m_,m_,m_,m_,m_,m_,m_,m_,m_,m_,m_,m_,m_,m_,m_,m_,m_,m_,m_,m_,m_,m_,m_,m_,m_,m_,m_,m_,m_,m_,m_,m_,m_,R,R,b1,λj r=>w_ r (Yy j)⟩
 case round=>
  rintro gk a wr ⟨k,M,u4,u7,u8,u9,u10,u11,u14,u15,u16,u17,u18,u19,u20,u21,u22,u23,u24,u25,u26,u27,u28,u29,u30,u31,u32,u33,u34,u35,u36,u37,u38,u39,u40,hk,rfl,hM,d1⟩;have K:=X hM;have k5:=X d1;by_cases c5:k<16
  .have b3:=Gg k c5;obtain⟨a4,b4⟩:=pk k;have a8:Y (vq z l (jU k) Zl (kq z (jU k) x)=Zl->∀j,j<k+1->vq z l (jU j) Zl (kq z (jU j) x)=Zl):=X (λh j r=>by
    by_cases e:j=k
    .subst e;exact h
    exact k5.a j O)
   have a9:Y (vq z l (jU k) Zl (kq z (jU k) x)=Zk->vL z x l=Zk):=X (λh=>qY.2 ⟨k,qK.2 c5,h⟩);generalize jU k=st at b3 a4 b4 a8 a9;obtain⟨a,b⟩:=st;simp only at b3 b4;have g9:0<=(k:Int):=O;have a7:(k:Int)<16:=O;have c6:=X (λW=>dB w x a b W);obtain⟨y1,y2⟩:=x6 wr (Z #[a,b] 221) (Z #[Zl] 4);have b7:Gr wr ((wr.alloc (Z #[a,b] 221)).alloc (Z #[Zl] 4)):=ZN.al;have d5:((wr.alloc (Z #[a,b] 221)).alloc (Z #[Zl] 4)).heap.size=wr.heap.size+2:=WU;obtain⟨g3,g4⟩:=xg y1;refine Z9.2 ?_;go_wp2_with(go_at_call 147;refine(c6.a _).mono ?_;rintro e w6 ⟨rfl,b5,a3,d4⟩);rw[d5]at b5 d4;have k0:=(YG a3 wr O).trans y1;have k1:=(YG a3 (wr+1) O).trans y2;have b0:AD l A w M w6:=K.a.fr (Q:=λ_ _=>True) (p_ (o_ b7 a3)) (λ_ _ _=>x_);have f8:w+3<=wr.heap.size:=(by have:=(qB.1 K.a.rs).1;omega);have a1:∀D∈M,D<w6.heap.size:=λD hD=>(qB.1 (b0.ms.2 D hD).2).1;generalize wr.heap.size=B at f8 b5 d4 k0 k1|-;have f0:=b5.wk (n6 hA b0.sq);have g0:∀{V V':I6},AD l A w M V->Fr (yv w6 (λ_=>False)) V V'->AD l A w M V':=λh f=>h.fr f (λj o r=>Zi (by
    obtain r|r:=r
    .omega
    exact a1 _ r))
   refine Z9.1 (xj (n:=9) (gf:=220) (lb:=wkA (B+2)) R (YC func220 WR R)
    (dC z x hx a b a4 b4 (B+2+1) (B+2+2) (B+2) w (λ_=>False) w6 f0) (λ_ h=>h.elim) (by rintro j (rfl|rfl|rfl|rfl)<;>omega) ZP (λ_=>R)
    (λd V=>AD l A w M V/\V.heap[B]?=Z #[a,b] 221/\V.heap[B+1]?=Z #[!d.isEmpty] 4/\vq z l (a,b) Zl d=Zl/\w6<=V.heap.size)
    (λc d V=>c=.ret/\vq z l (a,b) Zl d=Zk/\V.heap[w.heap.size+2]?=Z #[Zk] 4/\zY w M V/\Gr w V/\w6<=V.heap.size)
    ?sI ?sX ⟨b0,k0,k1,R,Zy⟩ ?rnd ?done ?stop)
   case sI=>exact λs V V' h f=>⟨g0 h.1 f,f.same _ _ h.2.1 (Zi O),f.same _ _ h.2.2.1 (Zi O),h.2.2.2.1,q7 h.2.2.2.2 f.size⟩
   case sX=>exact λc s V V' h f=>⟨h.1,h.2.1,f.same _ _ h.2.2.1 (Zi O),h.2.2.2.1.fr f (λj o _ _ _ r=>Zi (a1 _ r)),u_ h.2.2.2.2.1 (f.below (n:=w) (ZR h.2.2.2.2.1) (λj o r=>Zi O)),q7 h.2.2.2.2.2 f.size⟩
   case done=>
    rintro D V hD ⟨h1,_,_,k3,_⟩ hK;go_wp2;have Q:zY w (D::M) V:=⟨X6.2 ⟨λh=>by have:=a1 D h;omega,h1.ms.1⟩,λD' J=>by
     obtain rfl|J:=Yj.1 J
     .exact⟨O,hK⟩
     exact h1.ms.2 D' J⟩
    exact⟨gk-1,O,k+1,D::M,_,_,_,_,_,_,_,_,_,_,_,_,_,_,_,_,_,_,_,_,_,_,_,_,_,_,_,_,_,_,_,_,_,O,R,⟨h1.sq,h1.bb,h1.rs,Q,h1.gr⟩,a8.a k3⟩
   case stop=>
    rintro D c d V hD d2 ⟨rfl,k3,a0,Q,h8,_⟩ hK;have hv:Y (vL z x l=Zk):=X (a9.a (lL z l (a,b) d _ Zl d2 k3));have d0:zY w (D::M) V:=⟨X6.2 ⟨λh=>by have:=a1 D h;omega,Q.1⟩,λD' J=>by
     obtain rfl|J:=Yj.1 J
     .exact⟨O,hK⟩
     exact Q.2 D' J⟩
    refine Z9.2 ?_;go_wp2;refine qzn (D::M) V d0 (λw' f=>⟨Zk,ig _ _ (w+2) _ R (qi (f.same _ _ a0 (Zj R))).1,by rw[hv.a],u_ h8 (f.below (n:=w) (ZR h8) (λj o r=>Zi r))⟩)
   case rnd=>
    intro n d y V g8 f9 hI hl;simp only[yh];gi_wp2;refine⟨ZP,?_⟩;intro V2 f2 f4 h0;obtain⟨a2,s2,p,c4,h7⟩:=f4;have f1:y<64:=ce hx (C9 f9);have h5:0<=(y:Int):=O;have h6:(y:Int)<64:=O;have cy:=n6 hA a2.sq y f1;have cb:=(qi a2.bb).1;obtain⟨g6,g7⟩:=xg s2;have a5:=aF z l (a,b) y Zl d;rw[c4]at a5;have G:=X (λW=>qxy (z y) l W);have H:=X (λW=>dH a b a4 W);have f7:S_ (-a,-b):=(by obtain⟨v,h2,h3,h4⟩:=a4;simp only at v h2 h3 h4;exact⟨UJ,UJ,UJ,UJ⟩);have F:=X (λW=>aG (z y) (-a) (-b) f7 W);have k4:=X (λW=>qzt (z y) W);have g:=X a2;have f3:=X p;have g2:=X s2;obtain⟨f,hf⟩:=Zn (!d.isEmpty);have f6:Y ((!(d++[y]).isEmpty)=Zk):=X (by cases d<;>rfl);rw[hf.a]at p a5;have cf:=(qi p).1;obtain⟨m1,v⟩:=Zo (kw (z y) l);obtain⟨g1,h2⟩:=Zo (ki (z y) (-a,-b));obtain⟨r1,h3⟩:=Zo (dx (z y));have h9:Y (vq z l (a,b) Zl (d++[y])=(m1&&g1&&(!f||r1))):=X (by rw[a5];simp only[fQ,v,h2,h3,Xo]);rw[v]at G;rw[h2]at F;rw[h3]at k4;have keep:Y (∀u,Gr V2 u->u.cell? ⟨B+1,0,N⟩=Za f/\u.frozen? ⟨B+1,0,N⟩=Zl/\u.cell? ⟨w+2,0,N⟩=Za Zl/\u.frozen? ⟨w+2,0,N⟩=Zl):=X (λu T=>by have e1:=qi (ZE T p);have e2:=qi (ZE T g.a.rs);exact⟨e1.1,e1.2,e2.1,e2.2⟩);have k2:Y (∀u,Gr V2 u->vq z l (a,b) Zl (d++[y])=Zl->Fr (jM w6 (λ_=>False) (λk=>k=B+2+1\/k=B+2+2\/k=B+2\/k=w.heap.size)) V2 (u.setCell ⟨B+1,0,N⟩ Zk)/\AD l A w M (u.setCell ⟨B+1,0,N⟩ Zk)/\(u.setCell ⟨B+1,0,N⟩ Zk).heap[B]?=Z #[a,b] 221/\(u.setCell ⟨B+1,0,N⟩ Zk).heap[B+1]?=Z #[!(d++[y]).isEmpty] 4/\vq z l (a,b) Zl (d++[y])=Zl/\w6<=(u.setCell ⟨B+1,0,N⟩ Zk).heap.size):=X (λu T h=>by
     have e1:=ZE T p;have fs:Fr (λk o=>k≠B+1) V2 (u.setCell ⟨B+1,0,N⟩ Zk):=(p_ T).setCell _ (λo _ q=>q R);refine⟨(p_ T).setCell _ ?_,g.a.fr fs (λj o r=>?_),fs.same _ _ g2.a O,?_,h,?_⟩
     .rintro o-(q|q)
      .simp only at q;omega
      have:=q.1;simp only at this;omega
     .obtain r|r:=r
      .omega
      intro e;subst e;have P:=(g.a.ms.2 _ r).2;rw[p]at P;cases P
     .rw[f6.a];exact jm e1
     have:=fs.size;omega)
    have a6:Y (∀u,Gr V2 u->vq z l (a,b) Zl (d++[y])=Zk->Fr (jM w6 (λ_=>False) (λk=>k=B+2+1\/k=B+2+2\/k=B+2\/k=w.heap.size)) V2 (u.setCell ⟨w+2,0,N⟩ Zk)/\vq z l (a,b) Zl (d++[y])=Zk/\(u.setCell ⟨w+2,0,N⟩ Zk).heap[w.heap.size+2]?=Z #[Zk] 4/\zY w M (u.setCell ⟨w+2,0,N⟩ Zk)/\Gr w (u.setCell ⟨w+2,0,N⟩ Zk)/\w6<=(u.setCell ⟨w+2,0,N⟩ Zk).heap.size):=X (λu T h=>by
     have e1:=ZE T g.a.rs;have fs:Fr (λk o=>k≠w.heap.size+2) V2 (u.setCell ⟨w+2,0,N⟩ Zk):=(p_ T).setCell _ (λo _ q=>q R);refine⟨(p_ T).setCell _ ?_,h,jm e1,g.a.ms.fr fs (λj o _ _ f5 r e=>?_),Yr (o_ g.a.gr T) (show w<=w.heap.size+2 from O) _,?_⟩
     .rintro o-(q|q)
      .simp only at q;omega
      have:=q.1;simp only at this;omega
     .subst e;have P:=(g.a.ms.2 _ r).2;rw[g.a.rs]at P;cases P
     have:=fs.size;omega)
    cases m1
    .gi_wp2_with (first|(refine⟨x_,?_⟩;gi_at_call 148;refine((ZY.2 (G.a _)).inRound n).mono ?_;rintro e wc ⟨rfl,rfl⟩;obtain⟨p1,p2,p3,p4⟩:=keep.a _ ZO)|(with_reducible refine YB (zw _) ?_))
     all_goals first
      | exact k2.a _ ZO U6
      | (exfalso;rename_i xx bb v h2;exact w_ v VD)
      | (exfalso;rename_i xx bb v;exact w_ v VD)
    cases g1
    .gi_wp2_with (first|(refine⟨x_,?_⟩;gi_at_call 148;refine((ZY.2 (G.a _)).inRound n).mono ?_;rintro e wc ⟨rfl,rfl⟩;obtain⟨p1,p2,p3,p4⟩:=keep.a _ ZO)|(refine⟨x_,?_⟩;gi_at_call 150;refine((ZY.2 (H.a _)).inRound n).mono ?_;rintro e wd ⟨rfl,C⟩)|(refine⟨x_,?_⟩;gi_at_call 149;refine((ZY.2 (F.a _)).inRound n).mono ?_;rintro e we ⟨rfl,E⟩;obtain⟨P,q2,q3,q4⟩:=keep.a _ (o_ C E))|(with_reducible refine YB (zw _) ?_))
     all_goals first
      | exact k2.a _ (o_ C E) U6
      | (exfalso;rename_i xx bb v h2;exact w_ v VD)
      | (exfalso;rename_i xx bb v;exact w_ v VD)
    cases f
    .gi_wp2_with (first|(refine⟨x_,?_⟩;gi_at_call 148;refine((ZY.2 (G.a _)).inRound n).mono ?_;rintro e wc ⟨rfl,rfl⟩;obtain⟨p1,p2,p3,p4⟩:=keep.a _ ZO)|(refine⟨x_,?_⟩;gi_at_call 150;refine((ZY.2 (H.a _)).inRound n).mono ?_;rintro e wd ⟨rfl,C⟩)|(refine⟨x_,?_⟩;gi_at_call 149;refine((ZY.2 (F.a _)).inRound n).mono ?_;rintro e we ⟨rfl,E⟩;obtain⟨P,q2,q3,q4⟩:=keep.a _ (o_ C E))|(with_reducible refine YB (zw _) ?_))
     all_goals first
      | exact(λt=>⟨t.1,R,t.2⟩) (a6.a _ (o_ C E) U6)
      | (exfalso;rename_i xx bb v h2;exact w_ v VD)
      | (exfalso;rename_i xx bb v;exact w_ v VD)
    cases r1
    .gi_wp2_with (first|(refine⟨x_,?_⟩;gi_at_call 148;refine((ZY.2 (G.a _)).inRound n).mono ?_;rintro e wc ⟨rfl,rfl⟩;obtain⟨p1,p2,p3,p4⟩:=keep.a _ ZO)|(refine⟨x_,?_⟩;gi_at_call 150;refine((ZY.2 (H.a _)).inRound n).mono ?_;rintro e wd ⟨rfl,C⟩)|(refine⟨x_,?_⟩;gi_at_call 149;refine((ZY.2 (F.a _)).inRound n).mono ?_;rintro e we ⟨rfl,E⟩;obtain⟨P,q2,q3,q4⟩:=keep.a _ (o_ C E))|(refine⟨x_,?_⟩;gi_at_call 151;refine((ZY.2 (k4.a _)).inRound n).mono ?_;rintro e wf ⟨rfl,rfl⟩)|(with_reducible refine YB (zw _) ?_))
     all_goals first
      | exact k2.a _ (o_ C E) U6
      | (exfalso;rename_i xx bb v h2;exact w_ v VD)
      | (exfalso;rename_i xx bb v;exact w_ v VD)
    gi_wp2_with (first|(refine⟨x_,?_⟩;gi_at_call 148;refine((ZY.2 (G.a _)).inRound n).mono ?_;rintro e wc ⟨rfl,rfl⟩;obtain⟨p1,p2,p3,p4⟩:=keep.a _ ZO)|(refine⟨x_,?_⟩;gi_at_call 150;refine((ZY.2 (H.a _)).inRound n).mono ?_;rintro e wd ⟨rfl,C⟩)|(refine⟨x_,?_⟩;gi_at_call 149;refine((ZY.2 (F.a _)).inRound n).mono ?_;rintro e we ⟨rfl,E⟩;obtain⟨P,q2,q3,q4⟩:=keep.a _ (o_ C E))|(refine⟨x_,?_⟩;gi_at_call 151;refine((ZY.2 (k4.a _)).inRound n).mono ?_;rintro e wf ⟨rfl,rfl⟩)|(with_reducible refine YB (zw _) ?_))
    all_goals first
     | exact(λt=>⟨t.1,R,t.2⟩) (a6.a _ (o_ C E) U6)
     | (exfalso;rename_i xx bb v h2;exact w_ v VD)
     | (exfalso;rename_i xx bb v;exact w_ v VD)
  have a7:k=16:=O;subst a7;have hv:Y (vL z x l=Zl):=X (by rw[vL,XD];intro j r;rw[k5.a j (qK.1 r)];decide);have a0:=K.a.rs;obtain⟨c1,c2⟩:=qi a0;refine Z9.2 ?_;go_wp2;have d3:(wr.setCell ⟨w+2,0,N⟩ Zl).heap[w.heap.size+2]?=Z #[Zl] 4:=jm a0;have fs:Fr (λk o=>k≠w.heap.size+2) wr (wr.setCell ⟨w+2,0,N⟩ Zl):=ZP.setCell _ (λo _ q=>q R);have h8:Gr w (wr.setCell ⟨w+2,0,N⟩ Zl):=Yr K.a.gr (show w<=w.heap.size+2 from O) _;have Q:zY w M (wr.setCell ⟨w+2,0,N⟩ Zl):=K.a.ms.fr fs (λj o _ _ f5 r e=>by subst e;have P:=(K.a.ms.2 _ r).2;rw[a0]at P;cases P);refine qzn M _ Q (λw' f=>⟨Zl,ig _ _ (w+2) _ R (qi (f.same _ _ d3 (Zj R))).1,by rw[hv.a],u_ h8 (f.below (n:=w) (ZR h8) (λj o r=>Zi r))⟩)
def yj(z:I2)(x k:Nat):List Nat:=if ki (z x) (jU k)then(if dx (z x)then kq z (jU k) x else(kq z (jU k) x).take 1)else[]
def zU(z:I2)(x k:Nat):List Nat:=(h_ k).flatMap (yj z x)
def gn(z:I2)(x k:Nat):zU z x (k+1)=zU z x k++yj z x k:=by unfold zU;rw[YI,Xj];simp
def wI(z:I2)(x:Nat)(a:k<16):zU z x k++yj z x k <+:zU z x 16:=by rw[<-gn];unfold zU;apply aI _;refine⟨(h_ 16).drop (k+1),?_⟩;have:k=0\/k=1\/k=2\/k=3\/k=4\/k=5\/k=6\/k=7\/k=8\/k=9\/k=10\/k=11\/k=12\/k=13\/k=14\/k=15:=O;rcases this with rfl|rfl|rfl|rfl|rfl|rfl|rfl|rfl|rfl|rfl|rfl|rfl|rfl|rfl|rfl|rfl<;>decide
def z6(T:Obj->Prop):Prop:=∀o,T o->∃c fr,o=Z c 87 fr
def z6.cells{T:Obj->Prop}(h:z6 T):∀o,T o->o.isCells=Zk:=λo a=>by obtain⟨c,fr,rfl⟩:=h o a;rfl
def z6.no{T:Obj->Prop}(h:z6 T){c:I0}{ty:TypeId}{fr:Nat×Nat}(a:ty≠87):¬T (Z c ty fr):=λq=>by
 obtain⟨b,fr',e⟩:=h _ q;cases e;exact a R
def y9(B k:Nat)(V:I6):Prop:=B<=k/\∃c ty fr,ty≠87/\V.heap[k]?=S (Z c ty fr)
def eR{b:Nat}{T:Obj->Prop}{C C':Nat->Prop}(f:Fr (jM B T C) V W)(i:z6 T)(j:B<=b)(h:∀k,C' k->C k\/y9 B k V):Fr (jM b T C') V W:=
 f.mono λk o e q=>by
  obtain q|q:=q
  .obtain h|⟨a,c,ty,fr,d,g⟩:=h k q
   .exact Zi h
   rw[g]at e;cases e;exact Zj ⟨a,i.no d⟩
  exact Zj ⟨O,q.2⟩
def qu{c:I0}{ty:TypeId}(a:B<=k)(b:ty≠87)(h:V.heap[k]?=Z c ty):y9 B k V:=⟨a,c,ty,_,b,h⟩
def y9.keep{T:Obj->Prop}{C:Nat->Prop}{o:Obj}(h:y9 B k V)(g:z6 T)(f:Fr (jM B T C) V W)(e:V.heap[k]?=o):W.heap[k]?=o:=by obtain⟨a,c,ty,fr,b,d⟩:=h;refine f.same k o e (Zj ⟨a,?_⟩);rw[d]at e;cases e;exact g.no b
structure Ak(z:I2)(x l B Wb Bl Bq Bf A:Nat)(Ds:List Nat)(W:I6):Prop where
 yb:W.heap[Wb]?=S (Z #[.func (.yield l) #[] #[]] 255)
 cl:W.cell? Bl=S (I Zg (z x).toNat)
 cq:W.cell? Bq=S (ZI A)
 cf:W.cell? Bf=S (I L x)
 bd:Bz z A W
 st:vT W
 ms:zY B Ds W
def Ak.fr{b Bq Bf A:Nat}{d:List Nat}{m:I6}(h:Ak z x l B g b Bq Bf A d W)(f:Fr Q W m)(a:∀k o,(k=g\/k=b\/k=Bq\/k=Bf\/k=A\/k=0\/k∈d)->W.heap[k]?=S o->Q k o):Ak z x l B g b Bq Bf A d m:=
 ⟨f.same _ _ h.yb (a _ _ WU h.yb),f.cell h.cl (λo e=>a _ o WU e),f.cell h.cq (λo e=>a _ o WU e),f.cell h.cf (λo e=>a _ o WU e),
  λi n=>f.cell (h.bd i n) (λo e=>a _ o WU e),⟨λj v q=>f.cell (h.st.1 j v q) (λo e=>a _ o WU e),qN h.st.2 f.size⟩,h.ms.fr f (λk o _ _ e p=>a k o (by simp[p]) e)⟩
def Ak.gr{a Bq Bf A:Nat}{b:List Nat}{d:I6}(h:Ak z x l B e a Bq Bf A b W)(g:Gr W d):Ak z x l B e a Bq Bf A b d:=h.fr (Q:=λ_ _=>True) (p_ g) (λ_ _ _ _=>x_)
def Ak.below{Bq Bf A:Nat}{e:List Nat}{m g:I6}{T:Obj->Prop}(a:Ak z x l B i d Bq Bf A e g)(b:g<=n)(h:Ak z x l B i d Bq Bf A e W)(f:Fr (yv n T) W m):Ak z x l B i d Bq Bf A e m:=h.fr f (λk o j _=>by
 apply Zi;have lc:∀{p:Addr}{v:I7},g.cell? p=v->p.block<n:=λq=>qN (Zx q) b;obtain rfl|rfl|rfl|rfl|rfl|rfl|j:=j
 .exact qN (qB.1 a.yb).1 b
 .exact lc a.cl
 .exact lc a.cq
 .exact lc a.cf
 .exact lc (a.bd 0 O)
 .exact qN a.st.2 b
 exact qN (qB.1 (a.ms.2 k j).2).1 b)
def Ak.rnd{Bq Bf A:Nat}{i:List Nat}{j:I6}{T:Obj->Prop}{C:Nat->Prop}(h:Ak z x l B g d Bq Bf A i W)(m:z6 T)(n:B<=g)(b:∀k,(k=d\/k=Bq\/k=Bf\/k=A\/k=0)->C k)(f:Fr (jM B T C) W j):Ak z x l B g d Bq Bf A i j:=h.fr f (λk o a e=>by
 obtain rfl|a|a|a|a|a|a:=a
 .rw[h.yb]at e;cases e;exact Zj ⟨n,m.no WW⟩
 .exact Zi (b _ VM)
 .exact Zi (b _ VM)
 .exact Zi (b _ VM)
 .exact Zi (b _ VM)
 .exact Zi (b _ VM)
 rw[(h.ms.2 k a).2]at e;cases e;exact Zj ⟨(h.ms.2 k a).1,λq=>by have:=m.cells _ q;cases this⟩)
def jx{D:Nat}{b:List Nat}(h:zY B b V)(hD:B<=D)(e:D∉b)(hK:V.heap[D]?=S (.deferred (S []))):zY B (D::b) V:=
 ⟨X6.2 ⟨e,h.1⟩,λd a=>by
  obtain rfl|a:=Yj.1 a
  .exact⟨hD,hK⟩
  exact h.2 d a⟩
def Ak.cons{b Bq Bf A D:Nat}{a:List Nat}(h:Ak z x l B d b Bq Bf A a W)(hD:B<=D)(e:D∉a)(hK:W.heap[D]?=S (.deferred (S []))):Ak z x l B d b Bq Bf A (D::a) W:=⟨h.yb,h.cl,h.cq,h.cf,h.bd,h.st,jx h.ms hD e hK⟩
def AkN(z:I2)(x k:Nat)(fa:Bool)(J:List Nat->I6->Prop)(pre:List Nat)(V:I6):Prop:=(fa=Zk\/pre=[])/\J (zU z x k++pre) V
def AkX(z:I2)(x l B Wb Bl Bq Bf A:Nat)(Ds:List Nat)(k:Nat)(fa:Bool)(J Jx:List Nat->I6->Prop)(c:Code)(pre:List Nat)(V:I6):Prop:=(c=.ret/\∃q,q<+:zU z x 16/\Jx q V)\/(c=.exit 2/\Ak z x l B Wb Bl Bq Bf A Ds V/\fa=Zl/\∃y,pre=[y]/\J (zU z x k++[y]) V)
def AkI(z:I2)(x l B Wb Bl Bq Bf A:Nat)(J:List Nat->I6->Prop)(gk:Nat)(a:Act)(wr:I6):Prop:=∃(k:Nat)(Ds:List Nat)(u5 u6 u7 u10 u11 u12 u13 u14 u15 u16 u17 u18 u19 u20 u21 u22 u23 u24 u25 u26 u27 u28:I7),k+gk=16/\a={ tmps:=#[.func (.yield l) #[] #[],ZI Bl,ZI Bq,ZI Bf,ZI Wb,u5,u6,u7,Zc jO.toArray,I L k,u10,u11,u12,u13,u14,u15,u16,u17,u18,u19,u20,u21,u22,u23,u24,u25,u26,u27,u28],defers:=Ds.map uK }/\Ak z x l B Wb Bl Bq Bf A Ds wr/\J (zU z x k) wr
def iC(z:I2)(x:Nat)(hx:x<64)(n Bq Bf A:Nat)(T:Obj->Prop)(C:z6 T)(w:I6)(hl:w.cell? n=I Zg (z x).toNat)(hq:w.cell? Bq=ZI A)(hf:w.cell? Bf=I L x)(hb:Bz z A w)(hs:vT w):It c_ 313 #[ZI n,ZI Bq,ZI Bf] yh T (λk=>k=n\/k=Bq\/k=Bf\/k=A\/k=0) (zU z x 16) w:=by
 intro l B J Jx W f0 hB hJ d3 hY h0;have M:Ak z x l B W n Bq Bf A [] (W.alloc (Z #[.func (.yield l) #[] #[]] 255)):=by have f1:=f0.trans ((Fr.refl (λk _=>k=n\/k=Bq\/k=Bf\/k=A\/k=0) W).alloc (Z #[.func (.yield l) #[] #[]] 255));exact⟨ZQ W _,f1.cell hl (λ_ _=>WU),f1.cell hq (λ_ _=>WU),f1.cell hf (λ_ _=>WU),hb.fr f1 (λ_=>WU),hs.fr f1 (λ_=>WU),⟨List.nodup_nil,λD hD=>w_ hD XC⟩⟩
 have a7:=hJ _ _ _ h0 ((Fr.refl _ W).alloc (Z #[.func (.yield l) #[] #[]] 255));refine(ZY (n:=9)).1 ?_;refine callsIn_of_wp_marks func313 rfl x_ ?_ R;simp only[ntmps313,Nat.reduceAdd,Nat.reduceSub,Zr];apply Z9.2;go_wp2_with(refine Yo R 222 _ R 0 0 R jO _ M.st.1 underlying222 rfl lJ ?_);generalize W.alloc _=w1 at M a7|-;generalize W.heap.size=Wb at M hB|-;refine Z9.1 (wpIn_loop_ghost (rm:=9) (AkI z x l B Wb n Bq Bf A J) 16 ?start ?round)
 case start=>exact⟨0,[],m_,m_,m_,m_,m_,m_,m_,m_,m_,m_,m_,m_,m_,m_,m_,m_,m_,m_,m_,m_,m_,m_,R,R,M,a7⟩
 case round=>
  rintro gk a wr ⟨k,K,u5,u6,u7,u10,u11,u12,u13,u14,u15,u16,u17,u18,u19,u20,u21,u22,u23,u24,u25,u26,u27,u28,hk,rfl,hM,d2⟩;have m6:=X hM;have n4:=X d2;by_cases f7:k<16
  .have b5:=Gg k f7;obtain⟨b7,b6⟩:=pk k;have a3:=X (gn z x k);have g0:=X (wI z x f7);have E:Y (yj z x k=if ki (z x) (jU k)then(if dx (z x)then kq z (jU k) x else(kq z (jU k) x).take 1)else[]):=R;generalize yj z x k=aS at a3 g0 E;generalize jU k=st at b5 b7 b6 E;obtain⟨a,b⟩:=st;simp only at b5 b6;have a5:(k:Int)<16:=O;have f8:=X (λW=>dB A x a b W);have a1:=X (λW=>aG (z x) a b b7 W);have P:Gr wr (wr.alloc (Z #[a,b] 221)):=ZN;obtain⟨g9,h1⟩:=xg (ZQ wr (Z #[a,b] 221));have n2:=m6.gr P;have c1:=n2.cl;have Q:wr<(wr.alloc (Z #[a,b] 221)).heap.size:=WU;obtain⟨g1,k3⟩:=Zo (ki (z x) (a,b));rw[k3]at a1 E;apply Z9.2;cases g1
   .go_wp2_with(go_at_call 149;refine(a1 _).mono ?_;rintro e m2 ⟨rfl,i⟩);have f6:=o_ P i;exact⟨gk-1,O,k+1,K,_,_,_,_,_,_,_,_,_,_,_,_,_,_,_,_,_,_,_,_,_,_,O,R,m6.a.gr f6,by rw[a3.a,E.a];simpa using hJ _ _ _ n4 (p_ f6)⟩
   have g8:Y (∀m2,Gr (wr.alloc (Z #[a,b] 221)) m2->m2.cell? Bq=ZI A/\m2.cell? Bf=x/\m2.cell? wr=a/\m2.cell? ⟨wr,1,N⟩=b):=λm2 i=>⟨(n2.gr i).cq,(n2.gr i).cf,(ZW i (p:=wr) Q).trans g9,(ZW i (p:=⟨wr,1,N⟩) Q).trans h1⟩;go_wp2_with(first|(go_at_call 149;refine(a1 _).mono ?_;rintro e m2 ⟨rfl,i⟩;obtain⟨q1,q2,q3,q4⟩:=g8 _ i)|(go_at_call 147;refine(f8 _).mono ?_;rintro e w6 ⟨rfl,c4,b3,g4⟩));have F:=m6.gr (o_ P (o_ i b3));have h9:=hJ _ _ _ n4 (p_ (o_ P (o_ i b3)));have n1:∀D∈K,D<w6.heap.size:=λD hD=>(qB.1 (F.ms.2 D hD).2).1;have l2:=(qB.1 F.yb).1;have k2:=(qB.1 m6.yb).1;have d0:wr<m2.heap.size:=(by have:=ZR i;omega);have h2:A<w6:=Zx (F.bd 0 O);generalize m2.heap.size=p at d0 c4 g4|-;generalize wr.heap.size=Bs at d0 k2|-;have g6:=c4.wk F.bd;obtain⟨fa,f3⟩:=Zo (dx (z x));rw[f3]at E;have b4:=X (λW=>qzt (z x) W);rw[f3]at b4;have n0:B<=w6:=O;refine Z9.1 (xj (n:=9) (gf:=220) (lb:=wkA p) R (YC func220 WR R)
    (dC z x hx a b b7 b6 (p+1) (p+2) p A T w6 g6) C.cells (by rintro j (rfl|rfl|rfl|rfl);exact O;exact O;exact O;exact h2) ZP (λ_=>R)
    (λu V=>Ak z x l B Wb n Bq Bf A K V/\ap A x a b p V/\AkN z x k fa J u V)
    (λc u V=>zY B K V/\AkX z x l B Wb n Bq Bf A K k fa J Jx c u V)
    ?sI ?sX ⟨F,c4,Zj R,by simpa using h9⟩ ?rnd ?done ?stop)
   case sI=>exact λs V V' h f=>⟨F.below Zy h.1 f,⟨f.same _ _ h.2.1.b0 (Zi O),f.same _ _ h.2.1.b1 (Zi O),f.same _ _ h.2.1.b2 (Zi O)⟩,⟨h.2.2.1,qo hJ n0 _ _ _ h.2.2.2 f⟩⟩
   case sX=>exact λc s V V' h f=>⟨h.1.fr f (λj o _ _ _ hj=>Zi (n1 _ hj)),h.2.imp (λh=>⟨h.1,h.2.elim λq hq=>⟨q,hq.1,qo d3 n0 _ _ _ hq.2 f⟩⟩) (λh=>⟨h.1,F.below Zy h.2.1 f,h.2.2.1,h.2.2.2.elim λy hy=>⟨y,hy.1,qo hJ n0 _ _ _ hy.2 f⟩⟩)⟩
   case done=>
    rintro D V hD ⟨a9,_,m,k0⟩ hK;have a2:zU z x (k+1)=zU z x k++kq z (a,b) x:=by
     rw[a3.a,E.a];obtain rfl|m:=m
     .rfl
     rw[m];cases fa<;>rfl
    have f9:=X a2;go_wp2;exact⟨gk-1,O,k+1,D::K,_,_,_,_,_,_,_,_,_,_,_,_,_,_,_,_,_,_,_,_,_,_,O,R,a9.cons O (λh=>by have:=n1 D h;omega) hK,by rw[f9.a];exact k0⟩
   case stop=>
    rintro D c u V hD g2 ⟨k4,⟨rfl,q,k5,k8⟩|⟨rfl,a9,f5,y,rfl,k1⟩⟩ hK
    .apply Z9.2;go_wp2;exact xc (T:=T) results313 C.cells (D::K) V (jx k4 O (λh=>by have:=n1 D h;omega) hK) (λv w' f=>⟨⟨v,R⟩,Zj ⟨q,k5,d3 _ _ _ k8 f⟩⟩)
    have a2:Y (zU z x (k+1)=zU z x k++[y]):=(by rw[a3.a,E.a,f5];obtain⟨r,hr⟩:=g2;rw[<-hr];rfl);apply Z9.2;go_wp2;exact⟨gk-1,O,k+1,D::K,_,_,_,_,_,_,_,_,_,_,_,_,_,_,_,_,_,_,_,_,_,_,O,R,a9.cons O (λh=>by have:=n1 D h;omega) hK,by rw[a2.a];exact k1⟩
   case rnd=>
    intro l1 u y V l4 c5 hI hl;simp only[yh];gi_wp2;refine⟨ZP,?_⟩;intro V2 f2 h7 m0;obtain⟨a0,a6,m,h8⟩:=h7;have cy:=(qi a0.yb).1;have cl:=a0.cl;have g3:zU z x k++u++[y]<+:zU z x 16:=by
     refine List.IsPrefix.trans ?_ g0;rw[qS,E.a];refine(Xq _).2 ?_;obtain m|m:=m
     .rw[m];exact c5
     rw[m]at c5|-;obtain⟨r,hr⟩:=c5;cases fa
     .rw[<-hr];exact⟨[],R⟩
     exact⟨r,hr⟩
    obtain⟨fn,tmps,G,a4,g7,hR⟩:=jb (m':=8) (hY (zU z x k++u) y V2 g3 h8);have l0:(Instr.yield l #[y]).run c_ V2=.ok (.round l fn tmps G a4) V2:=g7;have d4:=X a0;have d:=X a6;gi_wp2;have d5:RoundIn (Fence.wide.inRound l1) 8 c_ l fn tmps G a4 V2 (λe W'=>Fr (jM B T (λk=>k=n\/k=Bq\/k=Bf\/k=A\/k=0)) V2 W'/\((e=Zd Zk/\J (zU z x k++u++[y]) W')\/(e=Zd Zl/\Jx (zU z x k++u++[y]) W'))):=hR;refine d5.mono ?_;intro e V4 h4;obtain⟨f4,h4⟩:=h4;have c6:Fr (jM w6 T (λj=>j=p+1\/j=p+2\/j=p\/j=A)) V2 V4:=eR f4 C n0 (by
     rintro j (rfl|rfl|rfl|rfl)
     .exact Zj (qu O WW d.b1)
     .exact Zj (qu O WW d.b2)
     .exact Zj (qu O WW d.b0)
     exact Zi WU)
    have a8:Ak z x l B Wb n Bq Bf A K V4:=d4.rnd C hB (λj hj=>hj) f4;have l3:=a8.cl;have H:=X a8;have n3:=X c6;obtain⟨rfl,d1⟩|⟨rfl,k9⟩:=h4
    .have g5:Y (ap A x a b p V4):=⟨(qu O WW d.b0).keep C f4 d.b0,(qu O WW d.b1).keep C f4 d.b1,(qu O WW d.b2).keep C f4 d.b2⟩;cases fa
     .obtain rfl:u=[]:=by
       obtain h|h:=m
       .cases h
       exact h
      gi_wp2_with (refine⟨x_,?_⟩;gi_at_call 151;refine((ZY.2 (b4 _)).inRound l1).mono ?_;rintro e wf ⟨rfl,rfl⟩);exact⟨n3,H.ms,Zj ⟨R,H,R,y,R,by simpa using d1⟩⟩
     gi_wp2_with (refine⟨x_,?_⟩;gi_at_call 151;refine((ZY.2 (b4 _)).inRound l1).mono ?_;rintro e wf ⟨rfl,rfl⟩);exact⟨n3,H,g5,Zi R,by rw[<-qS];exact d1⟩
    gi_wp2;exact⟨n3,H.ms,Zi ⟨R,_,g3,k9⟩⟩
  have a5:k=16:=O;subst a5;apply Z9.2;go_wp2;exact xc (T:=T) results313 C.cells K wr m6.ms (λv w' f=>⟨⟨v,R⟩,Zi (hJ _ _ _ n4 f)⟩)
def sD{gf:Nat}{lb lf:I0}{T:Obj->Prop}{C:Nat->Prop}{xs:List Nat}(a6:It c_ g lb yh T C xs w)(a5:∀args w,(callFunc g args).run c_ w=.ok (.enter g args) w)(b7:∀args w,(callFunc gf args).run c_ w=.ok (.enter gf args) w)(d5:z6 T) (a0:∀k,C k->k<w.heap.size) (r Bf:Nat) (p:I5) (R:w.heap[r]?=S (Z #[.func (.func g) #[] lb] 207)) (F:w.heap[Bf]?=S (Z #[.func (.func gf) #[] lf] 255))(P:∀x∈xs,∀W,Fr (λk _=>C k) w W->ZL gf (#[I L x]++lf) W (Za (p x))):It c_ 312 #[ZI r,ZI Bf] yh T (λk=>C k\/k=r\/k=Bf) (xs.filter p) w:=by
 intro l B J Jx W f0 hB hJ M hY h0;have E:=d5.cells;have m:=f0.same _ _ R (Zj (Zi rfl));have f3:=f0.same _ _ F (Zj (Zj rfl));have b6:=(qB.1 R).1;have b4:=(qB.1 F).1;refine(ZY (n:=9)).1 ?_;refine callsIn_of_wp_marks func312 rfl x_ ?_ rfl;simp only[ntmps312,Nat.reduceAdd,Nat.reduceSub,Zr];have d3:(W.alloc (Z #[.func (.yield l) #[] #[]] 255)).cell? r=S (.func (.func g) #[] lb):=(qi ((YP W _ _ (qB.1 m).1).trans m)).1;gi_wp2;have d1:=ZQ W (Z #[.func (.yield l) #[] #[]] 255);have f1:∀Q:Nat->Obj->Prop,Fr Q W (W.alloc (Z #[.func (.yield l) #[] #[]] 255)):=λQ=>ZP.alloc _;have b0:(W.alloc (Z #[.func (.yield l) #[] #[]] 255)).heap.size=W.heap.size+1:=Z3 _ _;generalize W.alloc _=w1 at d3 d1 f1 b0|-;have a2:=hJ _ _ _ h0 (f1 _);have K:=f0.trans (f1 _);have c6:=f0.size;refine xj (n:=9) (gf:=g) (lb:=lb) rfl a5 (a6.mono (C':=λk=>C k\/k=r\/k=Bf) (λk h=>Zi h)) E (by rintro k (hk|rfl|rfl);exact(by have:=a0 k hk;omega);exact O;exact O) K (λ_=>rfl)
  (λb V=>V.heap[W.heap.size]?=S (Z #[.func (.yield l) #[] #[]] 255)/\J (b.filter p) V/\Fr (λk _=>C k\/k=r\/k=Bf) w V)
  (λc _ V=>c=.ret/\∃q,q<+:xs.filter p/\Jx q V)
  ?sI ?sX ⟨d1,a2,K⟩ ?rnd ?done ?stop
 case sI=>exact λs A A' h f=>⟨f.same _ _ h.1 (Zi O),qo hJ O _ _ _ h.2.1 f,h.2.2.ext f (λk o e _=>Zi UR)⟩
 case sX=>exact λc s A A' h f=>⟨h.1,h.2.elim λq hq=>⟨q,hq.1,qo M O _ _ _ hq.2 f⟩⟩
 case done=>rintro D V hD ⟨_,hj,_⟩ hK;gi_wp2;exact xc (T:=T) results312 E [D] V ⟨WU,λD' i=>VO⟩ (λv w' f=>⟨⟨v,rfl⟩,Zi (hJ _ _ _ hj f)⟩)
 case stop=>rintro D c b V hD _ ⟨rfl,q,a8,a9⟩ hK;gi_wp2;exact xc (T:=T) results312 E [D] V ⟨WU,λD' i=>VO⟩ (λv w' f=>⟨⟨v,rfl⟩,Zj ⟨q,a8,M _ _ _ a9 f⟩⟩)
 case rnd=>
  rintro l1 b y V b5 hx ⟨hy,hj,c4⟩ hl;simp only[yh];gi_wp2;refine⟨ZP,?_⟩;intro n f2 a1 c5;obtain⟨f5,a7,j⟩:=a1;have b2:=j.same _ _ F (Zj (Zj rfl));have b3:=(qi b2).1;have hc:=P y (C9 hx) n (j.mono λk _ _ q=>Zi q);have keep:∀a,Gr n a->a.heap[W.heap.size]?=Z #[.func (.yield l) #[] #[]] 255/\J (b.filter p) a/\Fr (λk _=>C k\/k=r\/k=Bf) w a:=λa u=>⟨ZE u f5,hJ _ _ _ a7 (p_ u),j.ext (p_ (Q:=λ_ _=>True) u) (λ_ _ _ _=>x_)⟩;cases G:p y
  .rw[G]at hc;gi_wp2;refine⟨x_,Xe l1 (ZY.2 (hc.mono ?_))⟩;rintro e a ⟨rfl,u⟩;gi_wp2;refine⟨λ_ h=>Ub,?_⟩;gi_wp2;obtain⟨z1,z2,z3⟩:=keep a u;refine⟨p_ u,z1,?_,z3⟩;rw[YJ];simpa[G]using z2
  rw[G]at hc;gi_wp2;refine⟨x_,Xe l1 (ZY.2 (hc.mono ?_))⟩;rintro e a ⟨rfl,u⟩;obtain⟨z1,z2,z3⟩:=keep a u;have c3:=(qi z1).1;obtain⟨fn,tmps,d,z,d2,hR⟩:=jb (m':=8) (hY (b.filter p) y a (qx1 p hx G) z2);have d0:(Instr.yield l #[y]).run c_ a=.ok (.round l fn tmps d z) a:=d2;gi_wp2;have a4:RoundIn (Fence.wide.inRound l1) 8 c_ l fn tmps d z a (λe H=>Fr (jM B T (λk=>C k\/k=r\/k=Bf)) a H/\((e=Zd Zk/\J (b.filter p++[y]) H)\/(e=Zd Zl/\Jx (b.filter p++[y]) H))):=hR;apply a4.mono;intro e V4 h4;obtain⟨f4,h4⟩:=h4;have d4:Fr (jM w1 T (λk=>C k\/k=r\/k=Bf)) n V4:=(p_ u:Fr _ n a).trans (f4.mono λk o _ q=>q.elim Zi λq=>Zj ⟨O,q.2⟩);obtain⟨rfl,a3⟩|⟨rfl,b1⟩:=h4
  .gi_wp2;refine⟨d4,f4.same _ _ z1 (Zj ⟨hB,d5.no WW⟩),?_,z3.ext f4 (λk o _ q=>Zi q)⟩;rw[YJ];simpa[G]using a3
  gi_wp2;exact⟨d4,rfl,_,qx1 p hx G,b1⟩
structure Ch(gN:Nat->Nat)(lbN:Nat->I0)(l B Wb Bp Bg:Nat)(C:Nat->Prop)(w:I6)(Ds:List Nat)(W:I6):Prop where
 yb:W.heap[Wb]?=S (Z #[.func (.yield l) #[] #[]] 255)
 cp:W.cell? Bp=S (Zq (S Bg) 2 2)
 cg:∀k,k<2->W.cell? ⟨Bg,k,N⟩=S (.func (.func (gN k)) #[] (lbN k))
 fw:Fr (λk _=>C k) w W
 ms:zY B Ds W
def Ch.fr{gN:Nat->Nat}{lbN:Nat->I0}{b:Nat}{C:Nat->Prop}{d:List Nat}{j:I6}(h:Ch gN lbN l B g Bp b C w d W)(f:Fr Q W j)(a:∀k o,(k=g\/k=Bp\/k=b\/(C k/\k<w.heap.size)\/k∈d)->W.heap[k]?=S o->Q k o):Ch gN lbN l B g Bp b C w d j:=
 ⟨f.same _ _ h.yb (a _ _ WU h.yb),f.cell h.cp (λo e=>a _ o WU e),λk i=>f.cell (h.cg k i) (λo e=>a _ o WU e),
  h.fw.ext f (λk o e q=>a k o (Zj (Zj (Zj (Zi ⟨q,(qB.1 e).1⟩)))) (h.fw.same k o e q)),h.ms.fr f (λk o _ _ e i=>a k o (by simp[i]) e)⟩
def Ch.below{gN:Nat->Nat}{lbN:Nat->I0}{C:Nat->Prop}{g:List Nat}{m i:I6}{T:Obj->Prop}(a:Ch gN lbN l B j Bp e C w g i)(d:i<=n)(h:Ch gN lbN l B j Bp e C w g W)(f:Fr (yv n T) W m):Ch gN lbN l B j Bp e C w g m:=h.fr f (λk o b _=>by
 apply Zi;have lc:∀{p:Addr}{v:I7},i.cell? p=v->p.block<n:=λq=>qN (Zx q) d;obtain rfl|rfl|rfl|⟨_,b⟩|b:=b
 .exact qN (qB.1 a.yb).1 d
 .exact lc a.cp
 .exact lc (a.cg 0 O)
 .exact qN b (q7 a.fw.size d)
 exact qN (qB.1 (a.ms.2 k b).2).1 d)
def Ch.rnd{gN:Nat->Nat}{lbN:Nat->I0}{b:Nat}{C:Nat->Prop}{g:List Nat}{i:I6}{T:Obj->Prop}(h:Ch gN lbN l B d Bp b C w g W)(j:z6 T)(m:B<=d)(f:Fr (jM B T (λk=>C k\/k=Bp\/k=b)) W i):Ch gN lbN l B d Bp b C w g i:=h.fr f (λk o a e=>by
 obtain rfl|a|a|a|a:=a
 .rw[h.yb]at e;cases e;exact Zj ⟨m,j.no WW⟩
 .exact Zi VM
 .exact Zi VM
 .exact Zi (Zi a.1)
 rw[(h.ms.2 k a).2]at e;cases e;exact Zj ⟨(h.ms.2 k a).1,λq=>by have:=j.cells _ q;cases this⟩)
def Ch.cons{gN:Nat->Nat}{lbN:Nat->I0}{b D:Nat}{C:Nat->Prop}{a:List Nat}(h:Ch gN lbN l B d Bp b C w a W)(hD:B<=D)(e:D∉a)(hK:W.heap[D]?=S (.deferred (S []))):Ch gN lbN l B d Bp b C w (D::a) W:=⟨h.yb,h.cp,h.cg,h.fw,jx h.ms hD e hK⟩
def cV(xsN:Nat->List Nat)(k:Nat):List Nat:=(h_ k).flatMap xsN
theorem qkt(xsN:Nat->List Nat)(k:Nat):cV xsN (k+1)=cV xsN k++xsN k:=by unfold cV;rw[YI,Xj];simp
def CS(xsN:Nat->List Nat)(a:k<2):cV xsN k++xsN k <+:cV xsN 2:=by grind[qkt]
def CR(xsN:Nat->List Nat):cV xsN 2=xsN 0++xsN 1:=by show xsN 0++(xsN 1++[])=_;rw[Yh]
def ChI(gN:Nat->Nat)(lbN:Nat->I0)(xsN:Nat->List Nat)(l B Wb Bp Bg:Nat)(C:Nat->Prop)(w:I6)(J:List Nat->I6->Prop)(gk:Nat)(a:Act)(wr:I6):Prop:=∃(k:Nat)(Ds:List Nat)(u3 u4 u5 u9 u10 u11 u12 u13 u14 u15 u16 u17 u18:I7),k+gk=2/\a={ tmps:=#[.func (.yield l) #[] #[],ZI Bp,ZI Wb,u3,u4,u5,Zq (S Bg) 2 2,I L 2,I L k,u9,u10,u11,u12,u13,u14,u15,u16,u17,u18],defers:=Ds.map uK }/\Ch gN lbN l B Wb Bp Bg C w Ds wr/\J (cV xsN k) wr
def aP{gN:Nat->Nat}{lbN:Nat->I0}{xsN:Nat->List Nat}{T:Obj->Prop}{C:Nat->Prop}(a8:∀k,k<2->It c_ (gN k) (lbN k) yh T C (xsN k) w)(a7:∀k,k<2->∀args w,(callFunc (gN k) args).run c_ w=.ok (.enter (gN k) args) w)(u:z6 T) (a1:∀k,C k->k<w.heap.size) (Bp r:Nat) (hp:w.cell? Bp=Zq (S r) 2 2) (hg:∀k,k<2->w.cell? ⟨r,k,N⟩=S (.func (.func (gN k)) #[] (lbN k))):It c_ 314 #[ZI Bp] yh T (λk=>C k\/k=Bp\/k=r) (xsN 0++xsN 1) w:=by
 rw[<-CR];intro l B J Jx W f0 hB hJ P hY h0;have p:Ch gN lbN l B W Bp r C w [] (W.alloc (Z #[.func (.yield l) #[] #[]] 255)):=by have f1:=f0.trans ((Fr.refl (λk _=>C k\/k=Bp\/k=r) W).alloc (Z #[.func (.yield l) #[] #[]] 255));exact⟨ZQ W _,f1.cell hp (λ_ _=>WU),λk hk=>f1.cell (hg k hk) (λ_ _=>WU),f1.mono (λk o _ q=>Zi q),⟨List.nodup_nil,λD hD=>w_ hD XC⟩⟩
 have K:=hJ _ _ _ h0 ((Fr.refl _ W).alloc (Z #[.func (.yield l) #[] #[]] 255));refine(ZY (n:=9)).1 ?_;refine callsIn_of_wp_marks func314 rfl x_ ?_ R;simp only[ntmps314,Nat.reduceAdd,Nat.reduceSub,Zr];apply Z9.2;have c0:=p.cp;go_wp2;generalize W.alloc _=w1 at p K c0|-;generalize W.heap.size=Wb at p hB|-;refine Z9.1 (wpIn_loop_ghost (rm:=9) (ChI gN lbN xsN l B Wb Bp r C w J) 2 ?start ?round)
 case start=>exact⟨0,[],m_,m_,m_,m_,m_,m_,m_,m_,m_,m_,m_,m_,m_,R,R,p,K⟩
 case round=>
  rintro gk a wr ⟨k,H,u3,u4,u5,u9,u10,u11,u12,u13,u14,u15,u16,u17,u18,hk,rfl,hM,d0⟩;have b:=hM;have E:=d0;by_cases x:k<2
  .have f3:=qkt xsN k;have d2:=CS xsN x;have c1:=hM.cg k x;have m:=a8 k x;have G:=a7 k x;have n:∀D∈H,D<wr.heap.size:=λD hD=>(qB.1 (b.ms.2 D hD).2).1;have b5:=(qB.1 b.yb).1;have c4:0<=(k:Int):=O;have d4:(k:Int)<2:=O;have d5:B<=wr:=O;generalize xsN k=xs at m f3 d2;generalize gN k=g at c1 m G;generalize lbN k=lb at c1 m;apply Z9.2;go_wp2;refine Z9.1 (xj (n:=9) (gf:=g) (lb:=lb) R G m u.cells (λj hj=>qN (a1 j hj) b.fw.size) b.fw (λ_=>R)
    (λd V=>Ch gN lbN l B Wb Bp r C w H V/\J (cV xsN k++d) V)
    (λc _ V=>c=.ret/\zY B H V/\∃q,q<+:cV xsN 2/\Jx q V)
    ?sI ?sX ⟨b,by simpa using E⟩ ?rnd ?done ?stop)
   case sI=>exact λs V V' h f=>⟨b.below Zy h.1 f,qo hJ d5 _ _ _ h.2 f⟩
   case sX=>exact λc s V V' h f=>⟨h.1,h.2.1.fr f (λj o _ _ _ hj=>Zi (n _ hj)),h.2.2.elim λq hq=>⟨q,hq.1,qo P d5 _ _ _ hq.2 f⟩⟩
   case done=>rintro D V hD ⟨a6,a5⟩ hK;go_wp2;exact⟨gk-1,O,k+1,D::H,_,_,_,_,_,_,_,_,_,_,_,_,_,O,R,a6.cons O (λh=>by have:=n D h;omega) hK,by rw[f3];exact a5⟩
   case stop=>rintro D c d V hD b6 ⟨rfl,a9,q,b0,b1⟩ hK;apply Z9.2;go_wp2;exact xc (T:=T) results314 u.cells (D::H) V (jx a9 O (λh=>by have:=n D h;omega) hK) (λv w' f=>⟨⟨v,R⟩,Zj ⟨q,b0,P _ _ _ b1 f⟩⟩)
   case rnd=>
    intro l1 d y V b7 b3 hI hl;simp only[yh];gi_wp2;refine⟨ZP,?_⟩;intro M f2 a2 c5;obtain⟨c6,a3⟩:=a2;have cy:=(qi c6.yb).1;have d3:cV xsN k++d++[y]<+:cV xsN 2:=(by refine List.IsPrefix.trans ?_ d2;rw[qS];exact(Xq _).2 b3);obtain⟨fn,tmps,i,z,a0,hR⟩:=jb (m':=8) (hY (cV xsN k++d) y M d3 a3);have b4:(Instr.yield l #[y]).run c_ M=.ok (.round l fn tmps i z) M:=a0;have Q:=c6;gi_wp2;have d1:RoundIn (Fence.wide.inRound l1) 8 c_ l fn tmps i z M (λe W'=>Fr (jM B T (λk=>C k\/k=Bp\/k=r)) M W'/\((e=Zd Zk/\J (cV xsN k++d++[y]) W')\/(e=Zd Zl/\Jx (cV xsN k++d++[y]) W'))):=hR;refine d1.mono ?_;intro e V4 h4;obtain⟨f4,h4⟩:=h4;have A:Fr (jM wr T C) M V4:=f4.mono λj o _ q=>q.elim (λq=>Zi (Zi q)) (λq=>Zj ⟨O,q.2⟩);have F:Ch gN lbN l B Wb Bp r C w H V4:=Q.rnd u hB f4;obtain⟨rfl,a4⟩|⟨rfl,b2⟩:=h4
    .gi_wp2;exact⟨A,F,by rw[<-qS];exact a4⟩
    gi_wp2;exact⟨A,R,F.ms,_,d3,b2⟩
  have d4:k=2:=O;subst d4;apply Z9.2;go_wp2;exact xc (T:=T) results314 u.cells H wr b.ms (λv w' f=>⟨⟨v,R⟩,Zi (hJ _ _ _ E f)⟩)
def jD(c:UInt8):Bool:=((c.toNat:Int)==80)||((c.toNat:Int)==112)
def jA(c:UInt8):Bool:=((c.toNat:Int)==75)||((c.toNat:Int)==107)
def xz(c:UInt8)(w:I6):i_ c_ 121 #[I Zg c.toNat] w λe w'=>e=Zd (jD c)/\w'=w:=by
 obtain⟨v,b⟩:∃v,Y (v=jD c):=⟨_,X R⟩;rw[<-b.a];have a:Y (v=(((c.toNat:Int)==80)||((c.toNat:Int)==112))):=b;go_in;go_wp2;all_goals
  go_ret;refine⟨zl ?_,R⟩;rw[a.a];try simp[*]
def qjk(c:UInt8)(w:I6):i_ c_ 120 #[I Zg c.toNat] w λe w'=>e=Zd (jA c)/\w'=w:=by
 obtain⟨v,b⟩:∃v,Y (v=jA c):=⟨_,X R⟩;rw[<-b.a];have a:Y (v=(((c.toNat:Int)==75)||((c.toNat:Int)==107))):=b;go_in;go_wp2;all_goals
  go_ret;refine⟨zl ?_,R⟩;rw[a.a];try simp[*]
structure Ps(z:I2)(wh:Bool)(fc:I5)(b:Int)(Bp:Nat)(W:I6):Prop where
 bd:Bz z Bp W
 wh:W.cell? ⟨Bp,64,N⟩=S (Za wh)
 c:∀i,i<4->W.cell? ⟨Bp,65+i,N⟩=S (Za (fc i))
 b:W.cell? ⟨Bp,69,N⟩=S (I L b)
def Ps.of{g:Int}(r:jE z wh fc b h g PA){t:TypeId}(a:W.heap[Bp]?=Z PA t):Ps z wh fc b Bp W:=⟨λi d=>by rw[Zs a];exact r.sq i d,by rw[Zs a];exact r.wh,λi d=>by rw[Zs a];exact r.c i d,by rw[Zs a];exact r.b⟩
def Ps.fr{g:I6}(h:Ps z wh fc b Bp W)(f:Fr Q W g)(a:∀o,W.heap[Bp]?=S o->Q Bp o):Ps z wh fc b Bp g:=⟨λi d=>f.cell (h.bd i d) (λo e=>a o e),f.cell h.wh (λo e=>a o e),λi d=>f.cell (h.c i d) (λo e=>a o e),f.cell h.b (λo e=>a o e)⟩
def Ps.gr(h:Ps z wh fc b Bp W)(g:Gr W a):Ps z wh fc b Bp a:=h.fr (Q:=λ_ _=>True) (p_ g) (λ_ _=>x_)
def Ps.lt(h:Ps z wh fc b Bp W):Bp<W:=Zx h.wh
def yG(z:I2)(wh:Bool)(b:Int)(f t:Nat):Bool:=if jD (z f)then((t:Int)==b)||kw (z t) (!wh)else !(kw (z t) wh)
def ma(h:Ps z wh fc b Bp w)(f t:Nat)(j:f<64)(n:t<64):ZL 268 #[ZI Bp,f,t] w (yG z wh b f t):=by
 have c1:=h.bd f j;have c2:=h.bd t n;have c3:=h.wh;have u:=h.b;have d:=λW=>xz (z f) W;have g:=λx W=>qxy (z t) x W;obtain⟨v,i⟩:∃v,Y (v=yG z wh b f t):=⟨_,X R⟩;rw[<-i.a];have a:Y (v=if jD (z f)then((t:Int)==b)||kw (z t) (!wh)else !(kw (z t) wh)):=i;generalize jD (z f)=r at d a;have k:0<=(f:Int):=O;have l:(f:Int)<64:=O;have o:0<=(t:Int):=O;have p:(t:Int)<64:=O;cases r
 .unfold ZL;go_in;go_upto_region 3 with(go_at_call 121;refine Z1 (d _) ?_);go_quiet((go_at_call 148;exact YT (g _ _)));go_wp2;go_ret;refine⟨zl ?_,ZO.drewN _⟩;rw[a.a];simp
 obtain⟨q,m⟩:=Zo ((t:Int)==b);rw[m]at a;cases q;unfold ZL;go_in;rotate_left;unfold ZL;go_in;all_goals
  go_upto_region 2 with(go_at_call 121;refine Z1 (d _) ?_);go_quiet((go_at_call 148;exact YT (g _ _)));go_wp2;go_ret;refine⟨zl ?_,ZO.drewN _⟩;rw[a.a];simp
def sS(h:Ps z wh fc b Bp w)(a d:Nat)(f t:Nat)(g:f<64)(k:t<64)(l:w.cell? a=ZI Bp)(m:w.cell? d=I L f):ZL 267 #[t,ZI a,ZI d] w (yG z wh b f t):=by have j:=ma h f t g k;unfold ZL;go_in;go_wp2_with(go_at_call 268;refine Z0 j λw' i=>?_);go_ret;exact⟨R,i⟩
def iB{A:Nat}(n:x<64)(w:I6)(m:Bz z A w):i_ c_ 266 #[ZI A,x] w λe w'=>e=Zd (.func (.func 313) #[] #[ZI (w+2),ZI w,ZI (w+1)])/\w'.heap[w.heap.size]?=Z #[ZI A] 224/\w'.heap[w.heap.size+1]?=Z #[x] 3/\w'.heap[w.heap.size+2]?=Z #[I Zg (z x).toNat] 5/\Gr w w'/\w'=w.heap.size+3:=by have q:=qmf;have a:Gr w ((w.alloc (Z #[ZI A] 224)).alloc (Z #[x] 3)):=ZN.al;obtain⟨i,j⟩:=x6 w (Z #[ZI A] 224) (Z #[x] 3);have c1:=(qi i).1;have c2:=(qi j).1;have h:=(ZW a (Zx (m x n))).trans (m x n);have r:0<=(x:Int):=O;have u:(x:Int)<64:=O;have b:((w.alloc (Z #[ZI A] 224)).alloc (Z #[x] 3)).heap.size=w.heap.size+2:=WU;go_in;go_upto_region 1 with fail;generalize (w.alloc _).alloc _=d at a i j c1 c2 h b|-;have f:∀w',Gr d w'->Gr d w'/\w'.cell? w=ZI A/\w'.cell? ⟨w+1,0,N⟩=x/\w'.cell? ⟨A,x,N⟩=I Zg (z x).toNat:=λw' g=>⟨g,(ZW g (Zx c1)).trans c1,(ZW g (Zx c2)).trans c2,(ZW g (Zx h)).trans h⟩;go_region_held3 (λw'=>Gr d w'/\w'.cell? w=ZI A/\w'.cell? ⟨w+1,0,N⟩=x/\w'.cell? ⟨A,x,N⟩=I Zg (z x).toNat) (first|exact f _ ZO.drew|exact f _ ZN.drew) (fail);have k:=ZQ d (Z #[I Zg (z x).toNat] 5);have o:=(YP d (Z #[I Zg (z x).toNat] 5) w O).trans i;have p:=(YP d (Z #[I Zg (z x).toNat] 5) (w+1) O).trans j;rw[b]at k;go_wp2;go_ret;exact⟨R,o,p,k,(a.alloc _ _).drew,by show(d.alloc _).heap.size=_;rw[Z3,b]⟩
def sC(g gf:Nat)(lb a:I0)(w:I6):i_ c_ 265 #[.func (.func g) #[] lb,.func (.func gf) #[] a] w λe w'=>e=Zd (.func (.func 312) #[] #[ZI w,ZI (w+1)])/\w'.heap[w.heap.size]?=Z #[.func (.func g) #[] lb] 207/\w'.heap[w.heap.size+1]?=Z #[.func (.func gf) #[] a] 255/\Gr w w':=by have h:=qmf;obtain⟨d,f⟩:=x6 w (Z #[.func (.func g) #[] lb] 207) (Z #[.func (.func gf) #[] a] 255);go_in;go_wp2;go_ret;exact⟨R,d,f,ZN.al⟩
def aO(v:I7)(w:I6)(d:v.oneCell'=Zk):i_ c_ 269 #[v] w λe w'=>e=Zd (.func (.func 314) #[] #[ZI w])/\w'.heap[w.heap.size]?=Z #[v] 358/\Gr w w':=by have b:=qmf;go_in;go_wp2;go_ret;exact⟨R,ZQ w _,ZN⟩
def cW(z:I2)(most:Nat)(xs:List Nat):List Nat:=(xs.take most).takeWhile λv=>z v==46
def ue{p:Nat->Bool}:∀(l:List Nat),(∀v∈l,p v=Zk)->∀r,(l++r).takeWhile p=l++r.takeWhile p:=by simp_all
def ld{most:Nat}{a f:List Nat}{y:Nat}(h:a++[y] <+:f)(i:∀v∈a,z v=46)(l:a.length<=most)(d:a.length=most\/z y≠46):cW z most f=a:=by
 obtain⟨r,rfl⟩:=h;have b:∀v∈a,(z v==46)=Zk:=λv j=>by rw[i v j];rfl
 unfold cW;rw[qS,List.take_append];by_cases e:a.length=most
 .rw[Yk O,show most-a.length=0 from O,List.take_zero,ue a b];simp
 obtain d|d:=d
 .exact w_ d e
 obtain⟨k,g⟩:∃k,most-a.length=k+1:=⟨most-a.length-1,O⟩;rw[Yk O,g,ue a b];simp[d]
def Cq{most:Nat}{a e:List Nat}{y:Nat}(h:a++[y] <+:e)(f:∀v∈a,z v=46)(i:a.length<most)(g:z y=46):a++[y] <+:cW z most e:=by
 obtain⟨r,rfl⟩:=h;have d:∀v∈a++[y],(z v==46)=Zk:=λv b=>by
  obtain b|b:=Yi.1 b
  .rw[f v b];rfl
  rw[qT.1 b,g];rfl
 unfold cW;rw[List.take_append,Yk WX,ue _ d];exact Xz _ _
def Ez{most:Nat}{a:List Nat}(d:∀v∈a,z v=46)(b:a.length<=most):cW z most a=a:=by unfold cW;rw[Yk b];have:=ue a (p:=λv=>z v==46) (λv e=>by rw[d v e];rfl) [];exact OY
structure Ah(z:I2)(wh:Bool)(fc:I5)(b:Int)(f:Nat)(a c:Int)(most B1 B2 B3 B4 Bp:Nat)(W:I6):Prop where
 b1:W.cell? B1=some (ZI Bp)
 b2:W.cell? B2=some (I L f)
 b3:W.cell? B3=some (I L a)
 b3':W.cell? ⟨B3,1,N⟩=some (I L c)
 b4:W.cell? B4=some (I L most)
 ps:Ps z wh fc b Bp W
def Ah.fr{a c:Int}{most m:Nat}{n:I6}(h:Ah z wh fc b f a c most i j l m Bp W)(g:Fr Q W n)(d:∀k o,(k=i\/k=j\/k=l\/k=m\/k=Bp)->W.heap[k]?=some o->Q k o):Ah z wh fc b f a c most i j l m Bp n:=⟨g.cell h.b1 (λo e=>d _ o WU e),g.cell h.b2 (λo e=>d _ o WU e),g.cell h.b3 (λo e=>d _ o WU e),g.cell h.b3' (λo e=>d _ o WU e),g.cell h.b4 (λo e=>d _ o WU e),h.ps.fr g (λo e=>d _ o WU e)⟩
def Ah.gr{a c:Int}{most:Nat}{k:I6}(h:Ah z wh fc b f a c most d e i j Bp W)(g:Gr W k):Ah z wh fc b f a c most d e i j Bp k:=h.fr (Q:=λ_ _=>True) (p_ g) (λ_ _ _ _=>x_)
def Ah.lt{a c:Int}{most:Nat}(h:Ah z wh fc b f a c most d e g i Bp W):∀k,(k=d\/k=e\/k=g\/k=i\/k=Bp)->k<W.heap.size:=by
 rintro k (rfl|rfl|rfl|rfl|rfl)
 .exact Zx h.b1
 .exact Zx h.b2
 .exact Zx h.b3
 .exact Zx h.b4
 exact h.ps.lt
def wS(hf:f<64){a c:Int}(g9:S_ (a,c))(g6:a≠0\/c≠0){most:Nat}(k2:most<=2){K L E B4:Nat}(T:Obj->Prop)(r:z6 T)(w:I6)(hw:Ah z wh fc b f a c most K L E B4 Bp w):It c_ 315 #[ZI K,ZI L,ZI E,ZI B4] yh T (λk=>k=K\/k=L\/k=E\/k=B4\/k=Bp) (cW z most (kq z (a,c) f)) w:=by
 intro l B J Jx W f0 hB hJ c6 hY h0;have hW:=hw.fr f0 (λk o hk _=>hk);refine(ZY (n:=9)).1 ?_;refine callsIn_of_wp_marks func315 rfl x_ ?_ R;simp only[ntmps315,Nat.reduceAdd,Nat.reduceSub,Zr];apply Z9.2;obtain⟨x1,x2⟩:=x6 W (Z #[.func (.yield l) #[] #[]] 255) (Z #[I .i64 0] 3);have k9:Gr W ((W.alloc (Z #[.func (.yield l) #[] #[]] 255)).alloc (Z #[I .i64 0] 3)):=ZN.al;have a8:((W.alloc (Z #[.func (.yield l) #[] #[]] 255)).alloc (Z #[I .i64 0] 3)).heap.size=W.heap.size+2:=WU;go_upto_region 2 with fail;generalize (W.alloc _).alloc _=w2 at x1 x2 k9 a8|-;have m:=hW.gr k9;have c1:=m.b1;have c2:=m.b2;have c3:=m.b3;have c4:=m.b3';have a4:Y (∀w',Gr w2 w'->Gr w2 w'/\w'.cell? K=some (ZI Bp)/\w'.cell? L=some (I .i64 f)/\w'.cell? E=some (I .i64 a)/\w'.cell? ⟨E,1,N⟩=some (I .i64 c)):=λw' g=>⟨g,(m.gr g).b1,(m.gr g).b2,(m.gr g).b3,(m.gr g).b3'⟩;have d5:=X (λW=>dB Bp f a c W);go_region_held3 (λw'=>Gr w2 w'/\w'.cell? K=some (ZI Bp)/\w'.cell? L=some (I .i64 f)/\w'.cell? E=some (I .i64 a)/\w'.cell? ⟨E,1,N⟩=some (I .i64 c)) (first|exact a4.a _ ZO.drew|exact a4.a _ ‹_›) (first|(go_at_call 147;refine(d5 _).mono ?_;rintro e w6 ⟨rfl,Q,d2,f5⟩;have P:=o_ (q_ w2).drew d2));go_wp2;have a3:=o_ k9 P;have M:=hW.gr a3;have f6:w2.drew.heap.size=W.heap.size+2:=a8;rw[f6]at Q f5;have g3:=hJ _ _ _ h0 (p_ a3);have k0:=ZE P x1;have k1:=ZE P x2;have g8:W+2+3<=w6.heap.size:=O;have H:=hW.lt;have l5:Bp<W:=hW.ps.lt;generalize W.heap.size=p at hB Q g8 k0 k1 l5 H|-;have d3:=M.lt;have f7:=Q.wk M.ps.bd;have l2:B<=w6:=O;have f1:∀{D:Nat}{V:I6},w6<=D->V.heap[D]?=some (.deferred (some []))->zY B [D] V:=λhD hK=>⟨WU,λD' c5=>by rw[qT]at c5;subst c5;exact⟨O,hK⟩⟩;refine Z9.1 (xj (n:=9) (gf:=220) (lb:=wkA (p+2)) R (YC func220 WR R)
  (dC z f hf a c g9 g6 (p+2+1) (p+2+2) (p+2) Bp T w6 f7) r.cells (by rintro j (rfl|rfl|rfl|rfl);exact O;exact O;exact O;exact M.ps.lt) ZP (λ_=>R)
  (λd V=>Ah z wh fc b f a c most K L E B4 Bp V/\ap Bp f a c (p+2) V/\V.heap[p]?=some (Z #[.func (.yield l) #[] #[]] 255)/\V.heap[p+1]?=some (Z #[I .i64 (d.length:Int)] 3)/\(∀v∈d,z v=46)/\d.length<=most/\J d V)
  (λk _ V=>k=.ret/\(J (cW z most (kq z (a,c) f)) V\/∃q,q<+:cW z most (kq z (a,c) f)/\Jx q V))
  ?sI ?sX ⟨M,Q,k0,k1,λv hv=>w_ hv XC,Nat.zero_le _,g3⟩ ?rnd ?done ?stop)
 case sI=>exact λs V V' h g=>⟨h.1.fr g (λk o hk _=>Zi (d3 k hk)),⟨g.same _ _ h.2.1.b0 (Zi O),g.same _ _ h.2.1.b1 (Zi O),g.same _ _ h.2.1.b2 (Zi O)⟩,g.same _ _ h.2.2.1 (Zi O),g.same _ _ h.2.2.2.1 (Zi O),h.2.2.2.2.1,h.2.2.2.2.2.1,qo hJ l2 _ _ _ h.2.2.2.2.2.2 g⟩
 case sX=>exact λk s V V' h g=>⟨h.1,h.2.imp (λh=>qo hJ l2 _ _ _ h g) (λh=>h.elim λq n=>⟨q,n.1,qo c6 l2 _ _ _ n.2 g⟩)⟩
 case done=>rintro D V hD ⟨_,_,_,_,x,A,g4⟩ hK;have e:=X (Ez x A);go_wp2;exact xc (T:=T) results315 r.cells [D] V (f1 hD hK) (λv w' g=>⟨⟨v,R⟩,Zi (by rw[e.a];exact hJ _ _ _ g4 g)⟩)
 case stop=>rintro D k d V hD h6 ⟨rfl,g5⟩ hK;apply Z9.2;go_wp2;exact xc (T:=T) results315 r.cells [D] V (f1 hD hK) (λv w' g=>⟨⟨v,R⟩,g5.imp (λh=>hJ _ _ _ h g) (λh=>h.elim λq n=>⟨q,n.1,c6 _ _ _ n.2 g⟩)⟩)
 case rnd=>
  intro l1 d y V h8 l0 hI hl;simp only[yh];gi_wp2;refine⟨ZP,?_⟩;intro V2 f2 g1 h9;obtain⟨m,a0,a9,a5,x,A,a2⟩:=g1;have f8:=ce hf (C9 l0);have k5:0<=(y:Int):=O;have k8:(y:Int)<64:=O;have d1:=m.b1;have d4:=m.b4;have dy:=m.ps.bd y f8;have dm:=(qi a5).1;have h7:=(qi a9).1;have b6:=X m;have i:=X a0;have a1:=X a9;have l4:=X a5;have u:=X x;by_cases n:d.length=most
  .have e:=X (ld l0 u A (Zi n));rw[n]at dm;exact Iz
  have g7:d.length<most:=O;have k3:((d.length:Int)==(most:Int))=Zl:=WX;by_cases G:z y=46
  .have hz:((z y).toNat:Int)=46:=(by rw[G];rfl);rw[hz]at dy;have a7:=Cq l0 u g7 G;obtain⟨fn,tmps,C,S,f9,hR⟩:=jb (m':=8) (hY d y V2 a7 a2);have h2:(Instr.yield l #[I .i64 y]).run c_ V2=.ok (.round l fn tmps C S) V2:=f9;have f3:=X a7;gi_wp2;have d0:RoundIn (Fence.wide.inRound l1) 8 c_ l fn tmps C S V2 (λe W'=>Fr (jM B T (λk=>k=K\/k=L\/k=E\/k=B4\/k=Bp)) V2 W'/\((e=Zd (Za Zk)/\J (d++[y]) W')\/(e=Zd (Za Zl)/\Jx (d++[y]) W'))):=hR;refine d0.mono ?_;intro e F h4;obtain⟨f4,h4⟩:=h4;have b5:Fr (jM w6.heap.size T (λj=>j=p+2+1\/j=p+2+2\/j=p+2\/j=Bp)) V2 F:=eR f4 r l2 (by
    rintro j (rfl|rfl|rfl|rfl)
    .exact Zj (qu O WW i.a.b1)
    .exact Zj (qu O WW i.a.b2)
    .exact Zj (qu O WW i.a.b0)
    exact Zi WU)
   obtain⟨rfl,g2⟩|⟨rfl,h1⟩:=h4
   .have b7:Ah z wh fc b f a c most K L E B4 Bp F:=b6.a.fr f4 (λk o hk _=>Zi hk);have l3:ap Bp f a c (p+2) F:=⟨(qu O WW i.a.b0).keep r f4 i.a.b0,(qu O WW i.a.b1).keep r f4 i.a.b1,(qu O WW i.a.b2).keep r f4 i.a.b2⟩;have h3:=(qu O WW a1.a).keep r f4 a1.a;have a6:=(qu O WW l4.a).keep r f4 l4.a;obtain⟨m1,m2⟩:=qi a6;have h5:=b7.lt;have k4:a_ .i64 ((d.length:Int)+1)=(d.length:Int)+1:=Vc;have fs:Fr (λk o=>k≠p+1) F (F.setCell ⟨p+1,0,N⟩ (I .i64 ((d.length:Int)+1))):=ZP.setCell _ (λo _ q=>q R);have g0:Y (Fr (jM w6.heap.size T (λj=>j=p+2+1\/j=p+2+2\/j=p+2\/j=Bp)) V2 (F.setCell ⟨p+1,0,N⟩ (I .i64 ((d.length:Int)+1)))/\Ah z wh fc b f a c most K L E B4 Bp (F.setCell ⟨p+1,0,N⟩ (I .i64 ((d.length:Int)+1)))/\ap Bp f a c (p+2) (F.setCell ⟨p+1,0,N⟩ (I .i64 ((d.length:Int)+1)))/\(F.setCell ⟨p+1,0,N⟩ (I .i64 ((d.length:Int)+1))).heap[p]?=some (Z #[.func (.yield l) #[] #[]] 255)/\(F.setCell ⟨p+1,0,N⟩ (I .i64 ((d.length:Int)+1))).heap[p+1]?=some (Z #[I .i64 ((d++[y]).length:Int)] 3)/\(∀v∈d++[y],z v=46)/\(d++[y]).length<=most/\J (d++[y]) (F.setCell ⟨p+1,0,N⟩ (I .i64 ((d.length:Int)+1)))):=X (by
     refine⟨b5.setCell _ ?_,b7.fr fs (λk o hk e he=>?_),⟨fs.same _ _ l3.b0 O,fs.same _ _ l3.b1 O,fs.same _ _ l3.b2 O⟩,fs.same _ _ h3 O,?_,?_,WX,hJ _ _ _ g2 (ZP.setCell _ ?_)⟩
     .rintro o-(q|q)
      .simp only at q;obtain q|q|q|q:=q
       .omega
       .omega
       .omega
       have:=l5;omega
      have:=q.1;simp only at this;omega
     .subst he;have:=H _ hk;omega
     .rw[jm a6];simp
     .intro v hv;obtain hv|hv:=Yi.1 hv
      .exact u.a v hv
      rw[qT.1 hv];exact G
     intro o e q;rw[a6]at e;cases e;obtain q|q:=q
     .simp only at q;omega
     exact r.no WW q)
    gi_wp2;exact g0.a
   gi_wp2;exact⟨b5,R,Zj ⟨_,f3.a,h1⟩⟩
  have e:=X (ld l0 u A (Zj G));have hz:(((z y).toNat:Int)!=46)=Zk:=by simp only[qU];intro h;apply G;apply q6.1;have:(z y).toNat=46:=O;rw[this];rfl
  exact Iz
def zL(z:I2):List I7:=(h_ 64).map λi=>I Zg (z i).toNat
def ub(z:I2):(zL z).length=64:=by simp[zL]
def Cw(z:I2)(i:Nat)(a:i<64):(zL z)[i]?=some (I Zg (z i).toNat):=by simp[zL,a]
def gu(z:I2):(zL z).toArray.size=64/\∀i,i<64->(zL z).toArray[i]?=some (I Zg (z i).toNat):=⟨by simp[ub],λi a=>by rw[Xu];exact Cw z i a⟩
def DU(z:I2):∀v∈zL z,v.oneCell'=Zk:=by intro v a;obtain⟨i,_,rfl⟩:=YL.1 a;rfl
def Bz.range{a:Nat}(h:Bz z a w):w.rangeAt a 0 (zL z):=λj v b=>by
 have d:j<64:=by
  have:=(Z5.1 b).1
  rwa[ub]at this
 rw[Cw z j d]at b;rw[Z2,<-b];exact h j d
def kC(k s:Int)(i:Nat):Nat:=(k+(i:Int)*s).toNat
def wn(z:I2)(k s:Int)(n:Nat):Bool:=(h_ n).all λi=>z (kC k s (i+1))==46
def DD(z:I2)(wh:Bool)(k s:Int):Bool:=(h_ 3).all λi=>!(vL z (kC k s i) (!wh))
def az(z:I2)(wh:Bool)(k s:Int)(n:Nat):Bool:=wn z k s n&&DD z wh k s
def Da{k s:Int}(a:s=1\/s=-1)(b:0<=k)(d:k<=63)(e:0<=k+((n:Int)+1)*s)(f:k+((n:Int)+1)*s<=63)(g:i<=n+1):k+(i:Int)*s=(kC k s i:Nat)/\kC k s i<64/\((kC k s i:Nat):Int)+s=k+((i+1:Nat):Int)*s/\(i<=n->((kC k s i:Nat):Int)≠k+((n:Int)+1)*s):=by grind[kC]
def qxs(h:Ps z wh fc b Bp w)(hS:vT w)(k s:Int)(n:Nat)(hs:s=1\/s=-1)(hn:1<=n)(h0:0<=k)(h1:k<=63)(h2:0<=k+((n:Int)+1)*s)(h3:k+((n:Int)+1)*s<=63):ZL 317 #[ZI Bp,k,I L (k+((n:Int)+1)*s),s] w (az z wh k s n):=by
 have d:=X (λi K=>Da (i:=i) (n:=n) hs h0 h1 h2 h3 K);have a5:Y (k+s=(kC k s 1:Nat)):=X (by have:=(d 1 O).1;omega);obtain⟨E,hE⟩:∃E,Y (E=wn z k s n):=⟨_,X R⟩;obtain⟨Q,hQ⟩:∃Q,Y (Q=DD z wh k s):=⟨_,X R⟩;have hB:Y (az z wh k s n=(E&&Q)):=(by rw[hE.a,hQ.a];rfl);have H:Y (E=(h_ n).all λi=>z (kC k s (i+1))==46):=hE;have c6:Y (Q=(h_ 3).all λi=>!(vL z (kC k s i) (!wh))):=hQ;rw[hB.a];have u:Y (k+((n:Int)+1)*s=(kC k s (n+1):Nat)):=X (by have:=(d (n+1) O).1;simpa using this);generalize hr:k+((n:Int)+1)*s=r at h2 h3 d u|-;clear hr hE hQ hB;have e1:wrap64 (k+s)=k+s:=Ti;have d2:=X h;have a7:=X hS;clear h hS;have hu:=t_;have hl:=ub z;have T:(c_.info? 67).map (·.size)=some (zL z).length:=by rw[hl];exact x7
 have a2:=DU z;generalize hz:zL z=d3 at hl T a2;have a0:=X hz;clear hz;unfold ZL;go_in;go_wp2;go_loopg [9] n (λg v wr=>∃j:Nat,j+g=n/\v=(kC k s (j+1):Nat)/\wr=w/\∀i,i<j->z (kC k s (i+1))=46)
 case atStart=>exact⟨0,O,by rw[a5.a],R,λi K=>w_ K (Yy i)⟩
 case round=>
  obtain⟨j,k1,rfl,rfl,d0⟩:=hrel;have q:=X d0;clear d0;obtain⟨-,M,q3,q4⟩:=d (j+1) O;have q5:=d (j+1+1);by_cases b1:j<n
  .have D:=q4 O;have J:=(q5 O).1;rw[<-q3]at J;have o:=d2.bd (kC k s (j+1)) M;have b0:Y (z (kC k s (j+1))=z (kC k s (j+1))):=R;generalize hy:kC k s (j+1)=y at M q3 D J o|-;have d5:=X hy;clear hy q3 q4 q5 b0;have c4:0<=(y:Int):=O;have c5:(y:Int)<64:=O;have b7:wrap64 ((y:Int)+s)=(y:Int)+s:=Ti;have b4:=qU.2 D;by_cases f:z y=46
   .have hz:((z y).toNat:Int)=46:=T1;rw[hz]at o;have b3:=X J;clear J D;go_wp2;go_roundg (gk-1)
    case measure=>omega
    case rel=>exact⟨j+1,O,by rw[b3.a],R,λi K=>by
     by_cases e:i=j
     .subst e;rw[d5.a];exact f
     .exact q i O⟩
   .have hz:(((z y).toNat:Int)!=46)=Zk:=(by simp only[qU];intro h;apply f;apply q6.1;have:(z y).toNat=46:=O;rw[this];rfl);have a3:Y (E=Zl):=X (by rw[H.a,Wv];exact⟨j,qK.2 b1,by rw[d5.a];simpa using f⟩);clear J D f;go_wp2;go_ret;exact⟨by rw[a3.a];rfl,ZO⟩
  .have ej:j=n:=O;subst ej;have a4:Y (E=Zk):=X (by rw[H.a,qW];intro i K;rw[q.a i (qK.1 K)];rfl);have b2:(((kC k s (j+1):Nat):Int)!=r)=Zl:=(by rw[u.a];simp);have p:=X (λ(x:Nat)(J:x<64) W hS=>ah z (zL z).toArray (gu z).1 (gu z).2 x J (!wh) W hS);rw[a0.a]at p;clear u M q3 q4 q5 H q;go_wp2;clear b2;go_loopg [10,27] 3 (λg _ v w2=>∃i:Nat,i+g=3/\v=i/\Gr wr w2/\∀m,m<i->vL z (kC k s m) (!wh)=Zl)
   case atStart=>exact⟨0,O,R,ZO,λm hm=>w_ hm (Yy m)⟩
   case round=>
    obtain⟨i,i1,rfl,A,d1⟩:=hrel;have G:=X d1;clear d1;by_cases a9:i<3
    .obtain⟨q1,M,-,-⟩:=d i O;have hp:-2<=(i:Int)*s/\(i:Int)*s<=2:=by
      obtain rfl|rfl:=hs
      .simp only[Int.mul_one];omega
      .simp only[Int.mul_neg,Int.mul_one];omega
     have e2:a_ L ((i:Int)*s)=(i:Int)*s:=Vc;have e3:a_ L (k+(i:Int)*s)=((kC k s i:Nat):Int):=(by rw[q1,YO];omega);have a:=d2.gr A;have a1:=a.wh;have d4:=a.bd.range;rw[a0.a]at d4;have P:=a7.gr A;have F:=a.lt;have V:Y (∀w',Gr wr w'->Gr wr w'/\w'.rangeAt Bp 0 d3/\w'.cell? ⟨Bp,64,N⟩=some wh):=λw' g=>⟨g,λj v hv=>(ZW g (p:=⟨Bp,0+j,N⟩) F).trans (d4 j v hv),(ZW g (p:=⟨Bp,64,N⟩) F).trans a1⟩;have B:Y (vL z (kC k s i) (!wh)=Zl->∀m,m<i+1->vL z (kC k s m) (!wh)=Zl):=X (λh m hm=>by
      by_cases e:m=i
      .subst e;exact h
      .exact G m O)
     have C:Y (vL z (kC k s i) (!wh)=Zk->Q=Zl):=X (λh=>by rw[c6.a,Wv];exact⟨i,qK.2 a9,by rw[h];simp⟩);have l:=X (λW g=>p (kC k s i) M W (P.gr g));generalize kC k s i=y at M e3 B C l;obtain⟨v,hv⟩:=Zo (vL z y (!wh));rw[hv]at B C l;clear q1 p P a;go_upto_region 9 with fail;go_region_held3 (λw'=>Gr wr w'/\w'.rangeAt Bp 0 d3/\w'.cell? ⟨Bp,64,N⟩=some wh) (first|exact V.a _ ZO.drew|exact V.a _ ‹_›) (first|(go_at_call 64;refine Z0 (l _ (vy ‹_›)) λw6 a8=>?_;have S:=o_ (vy ‹_›) a8));cases v
     .go_wp2;go_roundg (gk-1)
      case measure=>omega
      case rel=>exact⟨i+1,O,Vg,o_ A S,B (by trivial)⟩
     .go_wp2;go_ret;exact⟨by rw[C.a (by trivial),XU];rfl,o_ A S⟩
    .have ei:i=3:=O;subst ei;have a6:Y (Q=Zk):=X (by rw[c6.a,qW];intro m hm;rw[G.a m (qK.1 hm)];rfl);go_wp2;go_ret;exact⟨by rw[a4.a,a6.a];rfl,A⟩
def gO:∀t,t<64->kP.getLsbD t=(Zm (t/8=0)||decide (t/8=7)):=WS
def AN(c:UInt8)(f t:Nat)(x:t<64)(k:(jD c&&kP.getLsbD t)=Zl)(l B:Nat)(T:Obj->Prop)(C:Nat->Prop)(J q:List Mv->I6->Prop)(d:List Mv)(W:I6)(w:YieldAt Fence.wide 0 c_ l (vr (f,t,0)) W λe g=>Fr (jM B T C) W g/\((e=Zd Zk/\J (d++[(f,t,0)]) g)\/(e=Zd Zl/\q (d++[(f,t,0)]) g))):i_ c_ 225 #[I Zg c.toNat,f,t,.func (.yield l) #[] #[]] W λe g=>Fr (jM B T C) W g/\((e=Zd Zk/\J (d++[(f,t,0)]) g)\/(e=Zd Zl/\q (d++[(f,t,0)]) g)):=by
  obtain⟨v,tmps,b,i,r,hR⟩:=w
  have p:=X (λW=>xz c W)
  have y:(Instr.yield l #[Zc #[f,t,I Zg 0]]).run c_ W=.ok (.round l v tmps b i) W:=r
  rw[gO t x]at k
  refine(ZY (n:=1)).1 ?_
  refine callsIn_of_wp func225 rfl x_ ?_ R
  simp only[ntmps225,Nat.reduceAdd,Nat.reduceSub,Zr]
  generalize jD c=z at p k
  cases z
  . clear k
    gi_wp2_with (first|(refine⟨x_,?_⟩;gi_at_call 121;refine(ZY.2 (p.a _)).mono ?_;rintro e w' ⟨rfl,rfl⟩)|(with_reducible refine YB (zw _) ?_))
    all_goals first
      | (refine hR.mono ?_
         rintro e W3 ⟨j,⟨rfl,h⟩|⟨rfl,a⟩⟩
         . gi_wp2
           go_ret
           exact⟨j,Zi ⟨R,h⟩⟩
         . gi_wp2
           go_ret
           exact⟨j,Zj ⟨R,a⟩⟩)
      | (exfalso;rename_i A u m D;exact w_ m VD)
      | (exfalso;rename_i A u m;exact w_ m VD)
  . have o:t/8≠0/\t/8≠7:=by simpa using k
    have E:((t:Int)/8 !=0)=Zk:=(by simp only[qU];omega);have F:((t:Int)/8 !=7)=Zk:=(by simp only[qU];omega);gi_wp2_with (first|(refine⟨x_,?_⟩;gi_at_call 121;refine(ZY.2 (p _)).mono ?_;rintro e w' ⟨rfl,rfl⟩)|(with_reducible refine YB (zw _) ?_))
    refine hR.mono ?_
    rintro e W3 ⟨j,⟨rfl,h⟩|⟨rfl,a⟩⟩
    . gi_wp2
      go_ret
      exact⟨j,Zi ⟨R,h⟩⟩
    . gi_wp2
      go_ret
      exact⟨j,Zj ⟨R,a⟩⟩
def GU(w:I6):(l_ 9 (Zb ⟨#[113,114,98,110]⟩) (I L 0)).run c_ w=.ok (I Zg 113) w:=WR
def GT(w:I6):(l_ 9 (Zb ⟨#[113,114,98,110]⟩) (I L 1)).run c_ w=.ok (I Zg 114) w:=WR
def GS(w:I6):(l_ 9 (Zb ⟨#[113,114,98,110]⟩) (I L 2)).run c_ w=.ok (I Zg 98) w:=WR
def GR(w:I6):(l_ 9 (Zb ⟨#[113,114,98,110]⟩) (I L 3)).run c_ w=.ok (I Zg 110) w:=WR
def Bi(k:Nat)(a:k<4)(w:I6):(l_ 9 (Zb ⟨#[113,114,98,110]⟩) k).run c_ w=.ok (I Zg (uA k).toNat) w:=by
 have:k=0\/k=1\/k=2\/k=3:=O;obtain rfl|rfl|rfl|rfl:=this
 .exact GU w
 .exact GT w
 .exact GS w
 exact GR w
def oD(c:UInt8)(E:jD c=Zk)(f t:Nat)(S:t<64)(y:kP.getLsbD t=Zk)(l B:Nat)(T:Obj->Prop)(C:Nat->Prop)(J A:List Mv->I6->Prop)(a:List Mv)(W:I6)(K:∀k r,k<4->J (a++(h_ k).map λi=>(f,t,uA i)) r->YieldAt Fence.wide 0 c_ l (vr (f,t,uA k)) r λe d=>Fr (jM B T C) r d/\((e=Zd Zk/\J (a++(h_ (k+1)).map λi=>(f,t,uA i)) d)\/(e=Zd Zl/\A (a++(h_ (k+1)).map λi=>(f,t,uA i)) d))) (Q:J a W):i_ c_ 225 #[I Zg c.toNat,f,t,.func (.yield l) #[] #[]] W λe d=>Fr (jM B T C) W d/\((e=Zd Zk/\J (a++(h_ 4).map λi=>(f,t,uA i)) d)\/(e=Zd Zl/\∃k,k<4/\A (a++(h_ (k+1)).map λi=>(f,t,uA i)) d)):=by
 have F:=X (λW=>xz c W);rw[E]at F;clear E;rw[gO t S]at y;have z:t/8=0\/t/8=7:=by simpa using y
 clear y;refine(ZY (n:=1)).1 ?_;refine callsIn_of_wp func225 rfl x_ ?_ R;simp only[ntmps225,Nat.reduceAdd,Nat.reduceSub,Zr];have o:∀{n:Prop},(∀q:Int,(q=0\/q=7)->(t:Int)/8=q->n)->n:=λh=>h _ O R;refine o λq x M=>?_;clear o z;obtain rfl|rfl:=x;all_goals
  gi_wp2_with (first|(refine⟨x_,?_⟩;gi_at_call 121;refine(ZY.2 (F _)).mono ?_;rintro e w' ⟨rfl,rfl⟩)|(with_reducible refine YB (zw _) ?_))
  gi_loopw [9,28] (λ_ p wr=>∃k:Nat,k<=4/\p=k/\J (a++(h_ k).map λi=>(f,t,uA i)) wr/\Fr (jM B T C) w' wr) (λ_ p _=>4-(intOf p).toNat)
  case atStart=>exact⟨0,O,R,by simpa using Q,ZP⟩
  case round=>
   obtain⟨k,P,rfl,j,u⟩:=hrel;by_cases v:k<4
   .have a0:=Bi k v;obtain⟨H,tmps,b,g,G,hR⟩:=K k wr v j;have V:(Instr.yield l #[Zc #[f,t,I Zg (uA k).toNat]]).run c_ wr=.ok (.round l H tmps b g) wr:=G;clear G;gi_wp2;refine hR.mono ?_;rintro e W3 ⟨D,⟨rfl,w⟩|⟨rfl,m⟩⟩
    .gi_wp2;go_roundw
     case rel=>exact⟨k+1,O,Vg,w,u.trans D⟩
     case measure=>simp only[intOf];omega
    .gi_wp2;go_ret;exact⟨u.trans D,Zj ⟨R,k,v,m⟩⟩
   .have:k=4:=O
    subst this;gi_wp2;go_ret;exact⟨u,Zi ⟨R,j⟩⟩
def AO(c:UInt8)(f t:Nat)(D:t<64)(l B:Nat)(T:Obj->Prop)(C:Nat->Prop)(J v:List Mv->I6->Prop)(w d:List Mv)(a:d++xT (jD c) f t <+:w)(A:∀g x n,g++[x] <+:w->J g n->YieldAt Fence.wide 0 c_ l (vr x) n λe b=>Fr (jM B T C) n b/\((e=Zd Zk/\J (g++[x]) b)\/(e=Zd Zl/\v (g++[x]) b)))(W:I6) (z:J d W):i_ c_ 225 #[I Zg c.toNat,f,t,.func (.yield l) #[] #[]] W λe b=>Fr (jM B T C) W b/\((e=Zd Zk/\J (d++xT (jD c) f t) b)\/(e=Zd Zl/\∃q,q <+:w/\v q b)):=by
 by_cases y:(jD c&&kP.getLsbD t)=Zk
 .have m:=y;rw[qH]at m;have F:xT (jD c) f t=(h_ 4).map λi=>((f,t,uA i):Mv):=by unfold xT;rw[y,qI R];rfl
  rw[F]at a|-;have u:∀k,k<4->d++(h_ (k+1)).map (λi=>((f,t,uA i):Mv))<+:w:=λk p=>(Xq d).2 (pj f t k p) |>.trans a;refine(oD c m.1 f t D m.2 l B T C J v d W (λk n p G=>?_) z).mono ?_
  .have:=A (d++(h_ k).map λi=>(f,t,uA i)) (f,t,uA k) n (by
    have:=u k p
    rwa[YI,Ys,<-qS]at this) G
   rw[YI,Ys,<-qS];exact this
  rintro e b ⟨o,⟨h,j⟩|⟨h,k,p,j⟩⟩
  .exact⟨o,Zi ⟨h,j⟩⟩
  exact⟨o,Zj ⟨h,_,u k p,j⟩⟩
 have r:(jD c&&kP.getLsbD t)=Zl:=by simpa using y
 have E:xT (jD c) f t=[(f,t,0)]:=by unfold xT;rw[r];rfl
 rw[E]at a|-;refine(AN c f t D r l B T C J v d W (A d _ W a z)).mono ?_;rintro e b ⟨o,⟨h,j⟩|⟨h,j⟩⟩
 .exact⟨o,Zi ⟨h,j⟩⟩
 exact⟨o,Zj ⟨h,_,a,j⟩⟩
section
variable {n:Nat}{P:Program}{md:Region.Mode}{ops:Array Oper}{Q:Exit->Act->I6->Prop}{S:I6->Prop}
def yA(n:Nat)(P:Program)(md:Region.Mode)(ops:Array Oper)(Q:Exit->Act->I6->Prop)(S:I6->Prop):Nat->Array Bool->Act->I6->Prop
 | 0,b,a,w=>Region.ready md ops b=[]/\Q .normal a w
 | f+1,b,a,w=>(Region.ready md ops b=[]->Q .normal a w)/\∀i∈Region.ready md ops b,wpOpIn Fence.wide n P ops Q i (λa' w'=>S w'/\yA n P md ops Q S f (b.setIfInBounds i Zk) a' w') a w
theorem yA.any:∀{f:Nat}{d:Array Bool}{a:Act}{w:I6},yA n P md ops Q S f d a w->wpAnyIn Fence.wide n P md ops Q f d a w
 | 0,_,_,_,h=>h
 | _+1,_,_,_,h=>⟨h.1,λi b=>wpOpIn_mono (λ_ _ k=>yA.any k.2) (h.2 i b)⟩
def eF{o:Oper}{d:Option Tmp}{A:Act->Prop}{K:Act->I6->Prop}{a:Act}(m:∀a u,A a->A (a.put o.dst u))(hD:∀x,A { a with defers:=x::a.defers })(y:A a)(p:∀(b:Act)(u:I7),(b.put d v).put o.dst u=(b.put o.dst u).put d v) (j:∀c b w,Q (.panic c) (b.put d v) w->Q (.panic c) b w):∀r,o.uponIn Fence.wide n P (a.put d v) K Q r->o.uponIn Fence.wide n P a (λk w'=>A k/\K (k.put d v) w') Q r:=by
 have one:∀u w',K ((a.put d v).put o.dst u) w'->A (a.put o.dst u)/\K ((a.put o.dst u).put d v) w':=λu w' h=>⟨m a u y,by rw[<-p];exact h⟩;rintro(⟨x,w'⟩|⟨x,w'⟩)
 .cases x with
  | value u=>exact one u w'
  | skip=>exact one m_ w'
  | defer x=>
   intro h;have q:K (({ a with defers:=x::a.defers }.put d v).put o.dst m_) w':=(by rw[<-Act.put_defers];exact h);exact⟨m _ _ (hD x),by rw[<-p];exact q⟩
  | enter f args=>
   intro h;refine⟨h.1,h.2.mono λe g i=>?_⟩;cases e with
   | returned u=>exact one u g i
   | panicked c=>exact j _ _ _ i
   | outgrown=>exact i
  | row row args=>exact λh=>⟨h.1,h.2.mono λu g i=>one u g i⟩
  | round l f tmps assign body=>
   intro h;refine⟨h.1,h.2.mono λe g i=>?_⟩;cases e with
   | returned u=>exact one u g i
   | panicked c=>exact j _ _ _ i
   | outgrown=>exact i
  | _=>exact id
 cases x with
 | panic u=>exact j _ _ _
 | _=>exact id
def pc{o:Oper}{a:Act}{K:Act->I6->Prop}(g:ops[i]?=some o)(j:YieldsIf P ops S o v a)(f:S w)(h:K (a.put o.dst v) w):wpOpIn Fence.wide n P ops Q i K a w:=by
 refine wpOpIn_step g λd hK=>?_;obtain⟨b,e⟩|⟨b,rfl⟩:=j
 .rw[qI b];refine⟨λ_ _=>x_,?_⟩;show o.uponIn Fence.wide n P a d Q ((o.semAt N a.eval).run P w);rw[Oper.semAt_none,e w f];exact hK _ _ h
 rw[qF (by rw[b];decide)];exact⟨λ_ _=>x_,hK _ _ h⟩
def sB{d e:Oper}{a:Act}{K:Act->I6->Prop}(B:ops[j]?=some e)(f:d.apart ops e=Zk)(g:∀cs b,d.op≠.select cs b)(i:∀cs b,e.op≠.select cs b)(z:∀c b w,Q (.panic c) (b.put d.dst v) w->Q (.panic c) b w) (l:YieldsIf P ops S d v a) (h:wpOpIn Fence.wide n P ops Q j K (a.put d.dst v) w):wpOpIn Fence.wide n P ops Q j (λm w'=>YieldsIf P ops S d v m/\K (m.put d.dst v) w') a w:=by
 obtain⟨o,p,q⟩:=Oper.apart_spec f;have r:∀b u,YieldsIf P ops S d v b->YieldsIf P ops S d v (b.put e.dst u):=λb u k=>k.of_same (execOp_put d g b e.dst u q) (wanted_put d b e.dst u q);unfold wpOpIn at h|-;rw[B]at h|-;simp only at h|-;rw[wanted_put e a d.dst v o]at h;by_cases y:Region.wanted e (yielded ops a.tmps)=Zk
 .rw[qI y]at h|-;have A:e.semAt N (a.put d.dst v).eval=e.semAt N a.eval:=by rw[Oper.semAt_none,Oper.semAt_none,execOp_put e i a d.dst v o]
  refine⟨λ_ _=>x_,eF r (λx=>l.of_same R R) l (λb u=>Act.put_comm b v u p) z _ ?_⟩;have:=h.2;rwa[show Fence.wide.round=N from R,A]at this
 rw[qF y]at h|-;exact⟨λ_ _=>x_,r _ _ l,by rw[<-Act.put_comm a v m_ p];exact h.2⟩
def yA.take{q:Oper}(F:ops[i]?=some q)(a1:Region.noSelect ops=Zk)(a3:∀c b w,Q (.panic c) (b.put q.dst v) w->Q (.panic c) b w):∀{f:Nat}{a0:Array Bool}{a:Act}{w:I6},(∀j o,ops[j]?=some o->j≠i->a0.getD j Zk=Zl->(∀e∈o.after,Region.binds md e=Zk->e.on≠i)->q.apart ops o=Zk)→i∈Region.ready md ops a0->YieldsIf P ops S q v a->S w->yA n P md ops Q S f (a0.setIfInBounds i Zk) (a.put q.dst v) w->yA n P md ops Q S (f+1) a0 a w:=by
 intro f;induction f with
 | zero=>
  intro a0 a w _ m E r H;refine⟨λh=>(by rw[h]at m;cases m),λj D=>?_⟩;by_cases e:j=i
  .subst e;exact pc F E r ⟨r,H⟩
  have:=ready_mono D e;rw[H.1]at this;cases this
 | succ f ih=>
  intro a0 a w d m E r H;refine⟨λh=>(by rw[h]at m;cases m),λj D=>?_⟩;by_cases e:j=i
  .subst e;exact pc F E r ⟨r,H⟩
  obtain⟨C,o,l,y⟩:=mem_ready.1 D;have g:=(mem_ready.1 m).1
  have J:∀x∈o.after,Region.binds md x=Zk->x.on≠i:=λx W T K=>by
   have p:=y x W T;rw[K]at p;by_cases B:i<a0.size
   .simp only[Array.getD,B,Wf]at p g;rw[g]at p;cases p
   simp only[Array.getD,B,dif_neg,not_false_eq_true]at p;cases p
  refine wpOpIn_mono ?_ (sB l (d j o l e C J) (λcs b=>Region.noSelect_spec a1 i q cs b F) (λcs b=>Region.noSelect_spec a1 j o cs b l) a3 E (H.2 j (ready_mono D e)));rintro a5 w' ⟨M,u,a2⟩;refine⟨u,ih (λk ok V G A a4=>d k ok V G ?_ a4) (ready_mono m (λh=>e h.symm)) M u ?_⟩
  .by_cases z:j=k
   .subst z;exact C
   rw[getD_set_ne Zk z]at A;exact A
  rw[Array.setIfInBounds_comm _ _ e];exact a2
def ng{d:Oper}{L:Array Bool}{a:Act}(e:ops[i]?=some d)(m:Region.noSelect ops=Zk)(k:Region.free md ops L i=Zk)(l:(Region.ready md ops L).contains i=Zk)(g:∀c b w,Q (.panic c) (b.put d.dst v) w->Q (.panic c) b w) (o:YieldsIf P ops S d v a) (j:S w) (h:yA n P md ops Q S f (L.setIfInBounds i Zk) (a.put d.dst v) w):yA n P md ops Q S (f+1) L a w:=yA.take e m g (Region.free_spec e k) (by simpa using l) o j h
def yb(i:Nat)(v:I7){d:Oper}{L:Array Bool}{a e:Act}(j:S w)(h:yA n P md ops Q S f (L.setIfInBounds i Zk) e w)(m:ops[i]?=some d:=by rfl)(k:a.put d.dst v=e:=by conv=>lhs;simp only[py])(q:YieldsIf P ops S d v a:=by exact Zi ⟨by rfl,λw r=>(by go_simp)⟩)(p:Region.noSelect ops=Zk:=by kernel_rfl) (l:Region.free md ops L i=Zk:=by kernel_rfl) (o:(Region.ready md ops L).contains i=Zk:=by kernel_rfl)(g:∀c b w,Q (.panic c) (b.put d.dst v) w->Q (.panic c) b w:=by exact λ_ _ _ h=>h):yA n P md ops Q S (f+1) L a w:=ng m p l o g q j (k▸h)
def xm{b:Oper}{L:Array Bool}{a:Act}(o:ops[i]?=some b)(l:Region.ready md ops L=[i])(h:∀K:Act->I6->Prop,(∀d w',S w'->(S w'->yA n P md ops Q S f (L.setIfInBounds i Zk) d w')->K d w')->if Region.wanted b (yielded ops a.tmps)=Zk then Oper.wpIn Fence.wide n P b a w K Q else(∀g,b.about P w a.eval=some g->Fence.wide.fn g)/\K (a.put b.dst m_) w):yA n P md ops Q S (f+1) L a w:=⟨λe=>(by rw[l]at e;cases e),λj k=>by rw[l,qT]at k;subst k;exact wpOpIn_step o λK hK=>h K λd w' m p=>hK _ _ ⟨m,p m⟩⟩
theorem FH{d:Array Bool}{a:Act}(b:Region.ready md ops d=[])(h:Q .normal a w):∀f,yA n P md ops Q S f d a w
 | 0=>⟨b,h⟩
 | _+1=>⟨λ_=>h,by rw[b];simp⟩
def qza{a:Act}(d:P.follows .mixedOrders=Zk)(b:S w.drew)(h:S w.drew->yA n P .any ops Q S ops.size (Array.replicate ops.size Zl) a w.drew):(Code.region e ops Zk).wpIn Fence.wide n P Q a w:=wpIn_region_any d (h b).any
end
def ya{P:Program}{e:Region.Mode}{d:Array Oper}{Q:Exit->Act->I6->Prop}{S:I6->Prop}(i:Nat)(v:I7){g:Oper}{L:Array Bool}{a j:Act}(k:d[i]?=some g)(u:YieldsIf P d S g v a)(m:S w)(h:yA n P e d Q S f (L.setIfInBounds i Zk) j w)(o:a.put g.dst v=j:=by conv=>lhs;simp only[py])(r:Region.noSelect d=Zk:=by kernel_rfl) (p:Region.free e d L i=Zk:=by kernel_rfl) (q:(Region.ready e d L).contains i=Zk:=by kernel_rfl)(l:∀c b w,Q (.panic c) (b.put g.dst v) w->Q (.panic c) b w:=by exact λ_ _ _ h=>h):yA n P e d Q S (f+1) L a w:=yA.take k r l (Region.free_spec k p) Ul u m (o▸h)
def jC(wh:Bool):Nat:=if wh then 0 else 2
def uz(z:I2)(wh:Bool)(fc:I5)(k:Nat):List Nat:=if fc (jC wh)&&az z wh (k:Int) 1 2 then[k+2]else[]
def pA(z:I2)(wh:Bool)(fc:I5)(k:Nat):List Nat:=if fc (jC wh+1)&&az z wh (k:Int) (-1) 3 then[k-2]else[]
structure Cg(z:I2)(wh:Bool)(fc:I5)(b:Int)(k B1 B2 B3 Bp:Nat)(W:I6):Prop where
 b1:W.cell? B1=S (ZI Bp)
 b2:W.cell? B2=S (I L (jC wh:Int))
 b3:W.cell? B3=S (I L k)
 ps:Ps z wh fc b Bp W
 st:vT W
def Cg.fr{l:I6}(h:Cg z wh fc b k d f i Bp W)(g:Fr Q W l)(a:∀k o,(k=d\/k=f\/k=i\/k=Bp\/k=0)->W.heap[k]?=S o->Q k o):Cg z wh fc b k d f i Bp l:=⟨g.cell h.b1 (λo e=>a _ o WU e),g.cell h.b2 (λo e=>a _ o WU e),g.cell h.b3 (λo e=>a _ o WU e),h.ps.fr g (λo e=>a _ o WU e),⟨λj v m=>g.cell (h.st.1 j v m) (λo e=>a _ o WU e),qN h.st.2 g.size⟩⟩
def Cg.gr{a:Nat}{f:I6}(h:Cg z wh fc b k a d e Bp W)(g:Gr W f):Cg z wh fc b k a d e Bp f:=h.fr (Q:=λ_ _=>True) (p_ g) (λ_ _ _ _=>x_)
def sA{J b:List Nat->I6->Prop}{a:List Nat}{e:Ending}(h:Fr Q V W/\((e=Zd Zk/\J a W)\/(e=Zd Zl/\b a W))):∃v:Bool,e=Zd v/\Fr Q V W/\(match v with|true=>J a W|false=>b a W):=by grind
def HM(X:Act->I6->Prop):Exit->Act->I6->Prop
 | .normal,a,w=>X a w
 | _,_,_=>False
def Cs0(l B1 B2 B3:Nat)(r:Bool)(a:Act):Prop:=∃u4 u5 u6 u7 u8 u9 u10 u11 u12 u13 u14 u15 u16 u17 u18 u19 u20 u21 u22 u23 u25 u26 u27 u28 u29 u30 u31 u32 u33 u34 u35 u36 u37 u38 u39 u40 u41 u42 u43 u44 u45:I7,a={ tmps:=#[.func (.yield l) #[] #[],ZI B1,ZI B2,ZI B3,u4,u5,u6,u7,u8,u9,u10,u11,u12,u13,u14,u15,u16,u17,u18,u19,u20,u21,u22,u23,Za r,u25,u26,u27,u28,u29,u30,u31,u32,u33,u34,u35,u36,u37,u38,u39,u40,u41,u42,u43,u44,u45],defers:=[] }
def Cs1(l B1 B2 B3:Nat)(r:Bool)(a:Act):Prop:=∃u4 u5 u6 u7 u8 u9 u10 u11 u12 u13 u14 u15 u16 u17 u18 u19 u20 u21 u22 u23 u24 u25 u26 u27 u28 u29 u30 u31 u32 u33 u34 u35 u36 u37 u38 u39 u40 u41 u42 u43 u44:I7,a={ tmps:=#[.func (.yield l) #[] #[],ZI B1,ZI B2,ZI B3,u4,u5,u6,u7,u8,u9,u10,u11,u12,u13,u14,u15,u16,u17,u18,u19,u20,u21,u22,u23,u24,u25,u26,u27,u28,u29,u30,u31,u32,u33,u34,u35,u36,u37,u38,u39,u40,u41,u42,u43,u44,Za r],defers:=[] }
def CsE(Cx:I6->Prop)(J Jx:List Nat->I6->Prop)(xs all:List Nat)(r:Bool)(w:I6):Prop:=(r=Zl/\Cx w/\J xs w)\/(r=Zk/\∃q,q<+:all/\Jx q w)
def qbZ(l B1 B2 B3:Nat)(Cx:I6->Prop)(J Jx:List Nat->I6->Prop)(xs all:List Nat)(a:Act)(w:I6):Prop:=∃r,Cs0 l B1 B2 B3 r a/\CsE Cx J Jx xs all r w
def qbY(l B1 B2 B3:Nat)(Cx:I6->Prop)(J Jx:List Nat->I6->Prop)(xs all:List Nat)(a:Act)(w:I6):Prop:=∃r,Cs1 l B1 B2 B3 r a/\CsE Cx J Jx xs all r w
def d9{B1 B2 B3:Nat}{r:Bool}{u4 u5 u6 u7 u8 u9 u10 u11 u12 u13 u14 u15 u16 u17 u18 u19 u20 u21 u22 u23 u25 u26 u27 u28 u29 u30 u31 u32 u33 u34 u35 u36 u37 u38 u39 u40 u41 u42 u43 u44 u45:I7}:Cs0 l B1 B2 B3 r { tmps:=#[.func (.yield l) #[] #[],ZI B1,ZI B2,ZI B3,u4,u5,u6,u7,u8,u9,u10,u11,u12,u13,u14,u15,u16,u17,u18,u19,u20,u21,u22,u23,Za r,u25,u26,u27,u28,u29,u30,u31,u32,u33,u34,u35,u36,u37,u38,u39,u40,u41,u42,u43,u44,u45],defers:=[] }:=⟨u4,u5,u6,u7,u8,u9,u10,u11,u12,u13,u14,u15,u16,u17,u18,u19,u20,u21,u22,u23,u25,u26,u27,u28,u29,u30,u31,u32,u33,u34,u35,u36,u37,u38,u39,u40,u41,u42,u43,u44,u45,R⟩
def d8{B1 B2 B3:Nat}{r:Bool}{u4 u5 u6 u7 u8 u9 u10 u11 u12 u13 u14 u15 u16 u17 u18 u19 u20 u21 u22 u23 u24 u25 u26 u27 u28 u29 u30 u31 u32 u33 u34 u35 u36 u37 u38 u39 u40 u41 u42 u43 u44:I7}:Cs1 l B1 B2 B3 r { tmps:=#[.func (.yield l) #[] #[],ZI B1,ZI B2,ZI B3,u4,u5,u6,u7,u8,u9,u10,u11,u12,u13,u14,u15,u16,u17,u18,u19,u20,u21,u22,u23,u24,u25,u26,u27,u28,u29,u30,u31,u32,u33,u34,u35,u36,u37,u38,u39,u40,u41,u42,u43,u44,Za r],defers:=[] }:=⟨u4,u5,u6,u7,u8,u9,u10,u11,u12,u13,u14,u15,u16,u17,u18,u19,u20,u21,u22,u23,u24,u25,u26,u27,u28,u29,u30,u31,u32,u33,u34,u35,u36,u37,u38,u39,u40,u41,u42,u43,u44,R⟩
def cE{L M n:Nat}(hk:k<64)(a1:(fc (jC wh)||fc (jC wh+1))=Zk->k=4\/k=60)(T:Obj->Prop)(w:I6)(d:Cg z wh fc b k L M n Bp w):It c_ 316 #[ZI L,ZI M,ZI n] yh T (λk=>k=L\/k=M\/k=n\/k=Bp\/k=0) (uz z wh fc k++pA z wh fc k) w:=by
 intro l B J Jx W f0 hB hJ b4 hY h0;have hW:=d.fr f0 (λk o hk _=>hk);have b5:jC wh=0\/jC wh=2:=by cases wh<;>simp[jC]
 have G:Y (uz z wh fc k=if fc (jC wh)&&az z wh (k:Int) 1 2 then[k+2]else[]):=X R;have E:Y (pA z wh fc k=if fc (jC wh+1)&&az z wh (k:Int) (-1) 3 then[k-2]else[]):=X R;generalize uz z wh fc k=Rs at hY G|-;generalize pA z wh fc k=Ms at hY E|-;obtain⟨F0,j⟩:=Zo (fc (jC wh));obtain⟨F1,m⟩:=Zo (fc (jC wh+1));rw[j]at G;rw[m]at E;refine(ZY (n:=9)).1 ?_;refine callsIn_of_wp func316 rfl x_ ?_ R;simp only[ntmps316,Nat.reduceAdd,Nat.reduceSub,Zr];refine wpIn_seq (wpIn_seq (wpIn_mono (Q:=HM (qbZ l L M n (Cg z wh fc b k L M n Bp) J Jx Rs (Rs++Ms))) ?reg0 ?rest0))
 case reg0=>
  have P:=hW.gr ZO.drew;have x:=hJ _ _ _ h0 (p_ (q_ W).drew);have hh:F0=Zk->k=4\/k=60:=λe=>a1 (by rw[j,e];rfl);have a7:0<=(jC wh:Int):=O;have a8:(jC wh:Int)<4:=O;refine qza (S:=Cg z wh fc b k L M n Bp) WR P (λf=>?_);generalize W.drew=Wd at f x|-;cases F0
  .refine ya 0 (ZI Bp) R (Zi ⟨Vb,λw d=>W9⟩) f ?_;refine ya 1 (I .i64 (jC wh:Int)) R (Zi ⟨Vb,λw d=>W9⟩) f ?_;refine yb 2 (ZI Bp) f ?_;refine yb 3 (.pointer (S ⟨Bp,65,N⟩)) f ?_;refine yb 4 (.pointer (S ⟨Bp,65+jC wh,N⟩)) f ?_;refine ya 5 Zl R (Zi ⟨Vb,λw d=>W9⟩) f ?_;refine yb 6 Zl f ?_;refine ya 7 (m_) R (Zj ⟨WR,R⟩) f ?_;refine ya 8 (m_) R (Zj ⟨WR,R⟩) f ?_;refine ya 9 (m_) R (Zj ⟨WR,R⟩) f ?_;refine ya 10 (m_) R (Zj ⟨WR,R⟩) f ?_;refine xm (i:=11) R WR (λK hK=>?_);rw[qF VF];refine⟨λ_ _=>x_,hK _ _ f (λf=>?_)⟩;simp only[py];refine yb 12 Zl f ?_;refine yb 13 Zl f ?_;refine ya 14 (m_) R (Zj ⟨WR,R⟩) f ?_;refine ya 15 (m_) R (Zj ⟨WR,R⟩) f ?_;refine ya 16 (m_) R (Zj ⟨WR,R⟩) f ?_;refine xm (i:=17) R WR (λK hK=>?_);rw[qF VF];refine⟨λ_ _=>x_,hK _ _ f (λf=>?_)⟩;simp only[py];refine ya 18 (m_) R (Zj ⟨WR,R⟩) f ?_;refine yb 19 Zl f ?_;refine FH WR ?_ _;exact⟨Zl,d9,Zi ⟨R,f,by rw[G.a];simpa using x⟩⟩
  have a4:k=4\/k=60:=hh R;have y:=X (λW (P:Cg z wh fc b k L M n Bp W)=>qxs P.ps P.st (k:Int) 1 2 (Zi R) O O O O O);have e3:(k:Int)+(((2:Nat):Int)+1)*1=(k:Int)+3:=O;have w3:a_ .i64 ((k:Int)+3)=(k:Int)+3:=Vc;obtain⟨t,ht⟩:∃t,Y (t=k+2):=⟨_,X R⟩;have w2:a_ .i64 ((k:Int)+2)=(t:Int):=by rw[YO];have:=ht.a;omega
  rw[e3]at y;obtain⟨v,hv⟩:=Zo (az z wh (k:Int) 1 2);rw[hv]at y G;cases v
  .refine ya 0 (ZI Bp) R (Zi ⟨Vb,λw d=>W9⟩) f ?_;refine ya 1 (I .i64 (jC wh:Int)) R (Zi ⟨Vb,λw d=>W9⟩) f ?_;refine yb 2 (ZI Bp) f ?_;refine yb 3 (.pointer (S ⟨Bp,65,N⟩)) f ?_;refine yb 4 (.pointer (S ⟨Bp,65+jC wh,N⟩)) f ?_;refine ya 5 Zk R (Zi ⟨Vb,λw d=>W9⟩) f ?_;refine yb 6 Zk f ?_;refine ya 7 (ZI Bp) R (Zi ⟨Vb,λw d=>W9⟩) f ?_;refine ya 8 (I .i64 k) R (Zi ⟨Vb,λw d=>W9⟩) f ?_;refine ya 9 (I .i64 k) R (Zi ⟨Vb,λw d=>W9⟩) f ?_;refine yb 10 (I .i64 ((k:Int)+3)) f ?_;refine xm (i:=11) R WR (λK hK=>?_);go_simp;refine⟨x_,(ZY.2 (y.a _ f)).mono ?_⟩;rintro e wc ⟨rfl,p⟩;refine hK _ _ (f.gr p) (λf=>?_);have D:=hJ _ _ _ x (p_ p);refine yb 12 Zl f ?_;refine yb 13 Zl f ?_;refine ya 14 (m_) R (Zj ⟨WR,R⟩) f ?_;refine ya 15 (m_) R (Zj ⟨WR,R⟩) f ?_;refine ya 16 (m_) R (Zj ⟨WR,R⟩) f ?_;refine xm (i:=17) R WR (λK hK=>?_);rw[qF VF];refine⟨λ_ _=>x_,hK _ _ f (λf=>?_)⟩;simp only[py];refine ya 18 (m_) R (Zj ⟨WR,R⟩) f ?_;refine yb 19 Zl f ?_;refine FH WR ?_ _;exact⟨Zl,d9,Zi ⟨R,f,by rw[G.a];simpa using D⟩⟩
  have H:Rs=[t]:=by rw[G.a,ht.a];rfl
  have b7:[]++[t]<+:Rs++Ms:=by rw[H];exact⟨Ms,R⟩
  have V:=X H;have A:=X b7;refine ya 0 (ZI Bp) R (Zi ⟨Vb,λw d=>W9⟩) f ?_;refine ya 1 (I .i64 (jC wh:Int)) R (Zi ⟨Vb,λw d=>W9⟩) f ?_;refine yb 2 (ZI Bp) f ?_;refine yb 3 (.pointer (S ⟨Bp,65,N⟩)) f ?_;refine yb 4 (.pointer (S ⟨Bp,65+jC wh,N⟩)) f ?_;refine ya 5 Zk R (Zi ⟨Vb,λw d=>W9⟩) f ?_;refine yb 6 Zk f ?_;refine ya 7 (ZI Bp) R (Zi ⟨Vb,λw d=>W9⟩) f ?_;refine ya 8 (I .i64 k) R (Zi ⟨Vb,λw d=>W9⟩) f ?_;refine ya 9 (I .i64 k) R (Zi ⟨Vb,λw d=>W9⟩) f ?_;refine yb 10 (I .i64 ((k:Int)+3)) f ?_;refine xm (i:=11) R WR (λK hK=>?_);go_simp;refine⟨x_,(ZY.2 (y.a _ f)).mono ?_⟩;rintro e wc ⟨rfl,p⟩;refine hK _ _ (f.gr p) (λf=>?_);have D:=hJ _ _ _ x (p_ p);obtain⟨fn,tmps,u,c6,c5,a2⟩:=jb (m':=8) (hY [] (t) wc A.a D);have a9:(Instr.yield l #[I .i64 (t:Nat)]).run c_ wc=.ok (.round l fn tmps u c6) wc:=c5;refine yb 12 Zk f ?_;refine yb 13 Zk f ?_;refine yb 14 (.func (.yield l) #[] #[]) f ?_;refine ya 15 (I .i64 k) R (Zi ⟨Vb,λw d=>W9⟩) f ?_;refine yb 16 (I .i64 t) f ?_;refine xm (i:=17) R WR (λK hK=>?_);go_simp;refine RoundIn.mono (F:=Fence.wide) a2 ?_;intro e w4 h4;obtain⟨vb,rfl,f4,c4⟩:=sA h4;refine hK _ _ (f.fr f4 (λ_ _ h _=>Zi h)) (λf=>?_);refine yb 18 (!vb) f ?_;refine yb 19 (!vb) f ?_;refine FH WR ?_ _;cases vb
  .exact⟨Zk,d9,Zj ⟨R,_,A.a,c4⟩⟩
  exact⟨Zl,d9,Zi ⟨R,f,by rw[V.a];exact c4⟩⟩
 case rest0=>
  intro e a w i;cases e with
  | normal=>
   obtain⟨r,a3,hE⟩:=i;obtain⟨u4,u5,u6,u7,u8,u9,u10,u11,u12,u13,u14,u15,u16,u17,u18,u19,u20,u21,u22,u23,u25,u26,u27,u28,u29,u30,u31,u32,u33,u34,u35,u36,u37,u38,u39,u40,u41,u42,u43,u44,u45,rfl⟩:=a3;obtain⟨rfl,a0,Q⟩|⟨rfl,q,a5,a6⟩:=hE
   .gi_wp2;refine(wpIn_mono (Q:=HM (qbY l L M n (Cg z wh fc b k L M n Bp) J Jx (Rs++Ms) (Rs++Ms))) ?reg1 ?rest1)
    case reg1=>
     have P:=a0.gr ZO.drew;have x:=hJ _ _ _ Q (p_ (q_ w).drew);have hh:F1=Zk->k=4\/k=60:=λe=>a1 (by rw[m,e];simp);have a7:0<=(jC wh:Int)+1:=O
     have a8:(jC wh:Int)+1<4:=O
     have b0:a_ .i64 ((jC wh:Int)+1)=(jC wh:Int)+1:=Vc
     have b6:((jC wh:Int)+1).toNat=jC wh+1:=O
     refine qza (S:=Cg z wh fc b k L M n Bp) WR P (λf=>?_);generalize w.drew=Wd at f x|-;cases F1
     .refine ya 0 (ZI Bp) R (Zi ⟨Vb,λw d=>W8⟩) f ?_;refine ya 1 (I .i64 (jC wh:Int)) R (Zi ⟨Vb,λw d=>W8⟩) f ?_;refine yb 2 (I .i64 ((jC wh:Int)+1)) f ?_;refine yb 3 (ZI Bp) f ?_;refine yb 4 (.pointer (S ⟨Bp,65,N⟩)) f ?_;refine yb 5 (.pointer (S ⟨Bp,65+(jC wh+1),N⟩)) f ?_;refine ya 6 Zl R (Zi ⟨Vb,λw d=>W8⟩) f ?_;refine yb 7 Zl f ?_;refine ya 8 (m_) R (Zj ⟨WR,R⟩) f ?_;refine ya 9 (m_) R (Zj ⟨WR,R⟩) f ?_;refine ya 10 (m_) R (Zj ⟨WR,R⟩) f ?_;refine ya 11 (m_) R (Zj ⟨WR,R⟩) f ?_;refine xm (i:=12) R WR (λK hK=>?_);rw[qF VF];refine⟨λ_ _=>x_,hK _ _ f (λf=>?_)⟩;simp only[py];refine yb 13 Zl f ?_;refine yb 14 Zl f ?_;refine ya 15 (m_) R (Zj ⟨WR,R⟩) f ?_;refine ya 16 (m_) R (Zj ⟨WR,R⟩) f ?_;refine ya 17 (m_) R (Zj ⟨WR,R⟩) f ?_;refine xm (i:=18) R WR (λK hK=>?_);rw[qF VF];refine⟨λ_ _=>x_,hK _ _ f (λf=>?_)⟩;simp only[py];refine ya 19 (m_) R (Zj ⟨WR,R⟩) f ?_;refine yb 20 Zl f ?_;refine FH WR ?_ _;exact⟨Zl,d8,Zi ⟨R,f,by rw[E.a];simpa using x⟩⟩
     have a4:k=4\/k=60:=hh R;have y:=X (λW (P:Cg z wh fc b k L M n Bp W)=>qxs P.ps P.st (k:Int) (-1) 3 (Zj R) O O O O O);have e3:(k:Int)+(((3:Nat):Int)+1)*(-1)=(k:Int)-4:=O
     have w3:a_ .i64 ((k:Int)-4)=(k:Int)-4:=Vc
     obtain⟨t,ht⟩:∃t,Y (t=k-2):=⟨_,X R⟩;have w2:a_ .i64 ((k:Int)-2)=(t:Int):=(by rw[YO];have:=ht.a;omega);rw[e3]at y;obtain⟨v,hv⟩:=Zo (az z wh (k:Int) (-1) 3);rw[hv]at y E;cases v
     .refine ya 0 (ZI Bp) R (Zi ⟨Vb,λw d=>W8⟩) f ?_;refine ya 1 (I .i64 (jC wh:Int)) R (Zi ⟨Vb,λw d=>W8⟩) f ?_;refine yb 2 (I .i64 ((jC wh:Int)+1)) f ?_;refine yb 3 (ZI Bp) f ?_;refine yb 4 (.pointer (S ⟨Bp,65,N⟩)) f ?_;refine yb 5 (.pointer (S ⟨Bp,65+(jC wh+1),N⟩)) f ?_;refine ya 6 Zk R (Zi ⟨Vb,λw d=>W8⟩) f ?_;refine yb 7 Zk f ?_;refine ya 8 (ZI Bp) R (Zi ⟨Vb,λw d=>W8⟩) f ?_;refine ya 9 (I .i64 k) R (Zi ⟨Vb,λw d=>W8⟩) f ?_;refine ya 10 (I .i64 k) R (Zi ⟨Vb,λw d=>W8⟩) f ?_;refine yb 11 (I .i64 ((k:Int)-4)) f ?_;refine xm (i:=12) R WR (λK hK=>?_);go_simp;refine⟨x_,(ZY.2 (y.a _ f)).mono ?_⟩;rintro e wc ⟨rfl,p⟩;refine hK _ _ (f.gr p) (λf=>?_);have D:=hJ _ _ _ x (p_ p);refine yb 13 Zl f ?_;refine yb 14 Zl f ?_;refine ya 15 (m_) R (Zj ⟨WR,R⟩) f ?_;refine ya 16 (m_) R (Zj ⟨WR,R⟩) f ?_;refine ya 17 (m_) R (Zj ⟨WR,R⟩) f ?_;refine xm (i:=18) R WR (λK hK=>?_);rw[qF VF];refine⟨λ_ _=>x_,hK _ _ f (λf=>?_)⟩;simp only[py];refine ya 19 (m_) R (Zj ⟨WR,R⟩) f ?_;refine yb 20 Zl f ?_;refine FH WR ?_ _;exact⟨Zl,d8,Zi ⟨R,f,by rw[E.a];simpa using D⟩⟩
     have H:Ms=[t]:=(by rw[E.a,ht.a];rfl);have b7:Rs++[t]<+:Rs++Ms:=(by rw[H];exact List.prefix_rfl);have V:=X H;have A:=X b7;refine ya 0 (ZI Bp) R (Zi ⟨Vb,λw d=>W8⟩) f ?_;refine ya 1 (I .i64 (jC wh:Int)) R (Zi ⟨Vb,λw d=>W8⟩) f ?_;refine yb 2 (I .i64 ((jC wh:Int)+1)) f ?_;refine yb 3 (ZI Bp) f ?_;refine yb 4 (.pointer (S ⟨Bp,65,N⟩)) f ?_;refine yb 5 (.pointer (S ⟨Bp,65+(jC wh+1),N⟩)) f ?_;refine ya 6 Zk R (Zi ⟨Vb,λw d=>W8⟩) f ?_;refine yb 7 Zk f ?_;refine ya 8 (ZI Bp) R (Zi ⟨Vb,λw d=>W8⟩) f ?_;refine ya 9 (I .i64 k) R (Zi ⟨Vb,λw d=>W8⟩) f ?_;refine ya 10 (I .i64 k) R (Zi ⟨Vb,λw d=>W8⟩) f ?_;refine yb 11 (I .i64 ((k:Int)-4)) f ?_;refine xm (i:=12) R WR (λK hK=>?_);go_simp;refine⟨x_,(ZY.2 (y.a _ f)).mono ?_⟩;rintro e wc ⟨rfl,p⟩;refine hK _ _ (f.gr p) (λf=>?_);have D:=hJ _ _ _ x (p_ p);obtain⟨fn,tmps,u,c6,c5,a2⟩:=jb (m':=8) (hY Rs (t) wc A.a D);have a9:(Instr.yield l #[I .i64 (t:Nat)]).run c_ wc=.ok (.round l fn tmps u c6) wc:=c5;refine yb 13 Zk f ?_;refine yb 14 Zk f ?_;refine yb 15 (.func (.yield l) #[] #[]) f ?_;refine ya 16 (I .i64 k) R (Zi ⟨Vb,λw d=>W8⟩) f ?_;refine yb 17 (I .i64 t) f ?_;refine xm (i:=18) R WR (λK hK=>?_);go_simp;refine RoundIn.mono (F:=Fence.wide) a2 ?_;intro e w4 h4;obtain⟨vb,rfl,f4,c4⟩:=sA h4;refine hK _ _ (f.fr f4 (λ_ _ h _=>Zi h)) (λf=>?_);refine yb 19 (!vb) f ?_;refine yb 20 (!vb) f ?_;refine FH WR ?_ _;cases vb
     .exact⟨Zk,d8,Zj ⟨R,_,A.a,c4⟩⟩
     exact⟨Zl,d8,Zi ⟨R,f,by rw[V.a];exact c4⟩⟩
    case rest1=>
     intro e a w i;cases e with
     | normal=>
      obtain⟨r,a3,hE⟩:=i;obtain⟨u4,u5,u6,u7,u8,u9,u10,u11,u12,u13,u14,u15,u16,u17,u18,u19,u20,u21,u22,u23,u24,u25,u26,u27,u28,u29,u30,u31,u32,u33,u34,u35,u36,u37,u38,u39,u40,u41,u42,u43,u44,rfl⟩:=a3;obtain⟨rfl,a0,Q⟩|⟨rfl,q,a5,a6⟩:=hE
      .gi_wp2;go_end0;exact⟨⟨_,R⟩,Zi Q⟩
      gi_wp2;exact ZS (XS R _ _ _) R ⟨⟨_,R⟩,Zj ⟨q,a5,a6⟩⟩
     | ret=>exact i.elim
     | exit id=>exact i.elim
     | goto t=>exact i.elim
     | panic c=>exact i.elim
     | outgrown=>exact i.elim
   gi_wp2;exact ZS (XS R _ _ _) R ⟨⟨_,R⟩,Zj ⟨q,a5,a6⟩⟩
  | ret=>exact i.elim
  | exit id=>exact i.elim
  | goto t=>exact i.elim
  | panic c=>exact i.elim
  | outgrown=>exact i.elim
def yx(wh:Bool)(f:Nat):Nat:=if f/8=(if wh then 1 else 6)then 2 else 1
def uM(wh:Bool):Int:=if wh then 1 else -1
def ic{b:Nat}{x y x' y':I7}{t:TypeId}(h:W.heap[b]?=Z #[x,y] t):((W.setCell b x').setCell ⟨b,1,N⟩ y').heap[b]?=Z #[x',y'] t:=by have a:=qv (i:=0) (v:=x') h;have d:=qv (i:=1) (v:=y') a;exact d
def Ah.of{a c:Int}{most h:Nat}{n o p q:TypeId}(m:Ps z wh fc b Bp W)(j:W.heap[d]?=Z #[ZI Bp] n)(k:W.heap[e]?=Z #[f] o)(i:W.heap[g]?=Z #[a,c] p)(l:W.heap[h]?=Z #[most] q):Ah z wh fc b f a c most d e g h Bp W:=⟨(qi j).1,(qi k).1,(xg i).1,(xg i).2,(qi l).1,m⟩
def c9{b:Nat}{x y:I7}{t:TypeId}(h:V.heap[b]?=Z #[x,y] t):V.frozen? b=Zl/\V.frozen? ⟨b,1,N⟩=Zl:=by constructor<;>simp[World.frozen?,h]
def wR(f:Nat)(T:f<64)(w:I6)(h:Ps z wh fc b Bp w):i_ c_ 270 #[ZI Bp,f] w λe w'=>∃j l m n,e=Zd (.func (.func 315) #[] #[ZI j,ZI l,ZI m,ZI n])/\Ah z wh fc b f 0 (uM wh) (yx wh f) j l m n Bp w'/\(∀k,(k=j\/k=l\/k=m\/k=n)->y9 w k w')/\Gr w w':=by
 obtain⟨C,D,E,W⟩:=jG w (Z #[ZI Bp] 229) (Z #[f] 3) (Z #[I L 0,I L (-1)] 221);have B:Gr w (((w.alloc (Z #[ZI Bp] 229)).alloc (Z #[f] 3)).alloc (Z #[I L 0,I L (-1)] 221)):=ZN.al.al;have c1:=(qi C).1;have c2:=(qi D).1;have a2:=(h.gr B).wh;go_in;go_upto_region 2 with fail;generalize ((w.alloc (Z #[ZI Bp] 229)).alloc (Z #[f] 3)).alloc _=g at C D E W B c1 c2 a2|-;cases wh
 .by_cases F:f/8=6
  .have H:((f:Int)/8==6)=Zk:=(by simp only[YF];omega);have v:Y (yx Zl f=2):=X Te;have d:=E;have u:=B;have A:=W;have x:=C;have i:=D;have p:=c2;have G:=(ZW ((q_ g).alloc #[I L 1] 3) (Zx p)).trans p;have r:Y (∃j l m n,j=w.heap.size/\l=w.heap.size+1/\m=w.heap.size+2/\n=w.heap.size+3/\Ah z Zl fc b f 0 (uM Zl) (yx Zl f) j l m n Bp (g.alloc (Z #[I L 2] 3))/\(∀k,(k=j\/k=l\/k=m\/k=n)->y9 w k (g.alloc (Z #[I L 2] 3)))/\Gr w (g.alloc (Z #[I L 2] 3))):=X (by
    have a:Gr g (g.alloc (Z #[I L 2] 3)):=ZN;have y:=ZQ g (Z #[I L 2] 3);rw[A]at y;rw[v.a];exact⟨_,_,_,_,R,R,R,R,Ah.of (h.gr (o_ u a)) (ZE a x) (ZE a i) (ZE a d) y,Ve,o_ u a⟩)
   exact WP
  have H:((f:Int)/8==6)=Zl:=Vp;have v:Y (yx Zl f=1):=X Te;have d:=E;have u:=B;have A:=W;have x:=C;have i:=D;have p:=c2;have G:=(ZW ((q_ g).alloc #[I L 1] 3) (Zx p)).trans p;have r:Y (∃j l m n,j=w.heap.size/\l=w.heap.size+1/\m=w.heap.size+2/\n=w.heap.size+3/\Ah z Zl fc b f 0 (uM Zl) (yx Zl f) j l m n Bp (g.alloc (Z #[I L 1] 3))/\(∀k,(k=j\/k=l\/k=m\/k=n)->y9 w k (g.alloc (Z #[I L 1] 3)))/\Gr w (g.alloc (Z #[I L 1] 3))):=X (by
   have a:Gr g (g.alloc (Z #[I L 1] 3)):=ZN;have y:=ZQ g (Z #[I L 1] 3);rw[A]at y;rw[v.a];exact⟨_,_,_,_,R,R,R,R,Ah.of (h.gr (o_ u a)) (ZE a x) (ZE a i) (ZE a d) y,Ve,o_ u a⟩)
  exact WP
 by_cases F:f/8=1
 .have H:((f:Int)/8==1)=Zk:=by simp only[YF];omega
  have v:Y (yx Zk f=2):=X Te;obtain⟨P,Q⟩:=c9 E;obtain⟨a0,a1⟩:=xg E;have d:=ic (x':=I L 0) (y':=I L 1) E;have K:Fr (λk _=>k≠w.heap.size+2) g ((g.setCell ⟨w+2,0,N⟩ (I L 0)).setCell ⟨w+2,1,N⟩ (I L 1)):=(ZP.setCell _ (λo _ q=>q R)).setCell _ (λo _ q=>q R);have u:Gr w ((g.setCell ⟨w+2,0,N⟩ (I L 0)).setCell ⟨w+2,1,N⟩ (I L 1)):=Yr (Yr B (show w<=w.heap.size+2 from O) _) (show w<=w.heap.size+2 from O) _;have A:((g.setCell ⟨w+2,0,N⟩ (I L 0)).setCell ⟨w+2,1,N⟩ (I L 1)).heap.size=w.heap.size+3:=by simp[World.setCell,W]
  have x:=K.same _ _ C O;have i:=K.same _ _ D O;have p:=(qi i).1;have G:=(ZW ((q_ ((g.setCell ⟨w+2,0,N⟩ (I L 0)).setCell ⟨w+2,1,N⟩ (I L 1))).alloc #[I L 1] 3) (Zx p)).trans p;have r:Y (∃j l m n,j=w.heap.size/\l=w.heap.size+1/\m=w.heap.size+2/\n=w.heap.size+3/\Ah z Zk fc b f 0 (uM Zk) (yx Zk f) j l m n Bp (((g.setCell ⟨w+2,0,N⟩ (I L 0)).setCell ⟨w+2,1,N⟩ (I L 1)).alloc (Z #[I L 2] 3))/\(∀k,(k=j\/k=l\/k=m\/k=n)->y9 w k (((g.setCell ⟨w+2,0,N⟩ (I L 0)).setCell ⟨w+2,1,N⟩ (I L 1)).alloc (Z #[I L 2] 3)))/\Gr w (((g.setCell ⟨w+2,0,N⟩ (I L 0)).setCell ⟨w+2,1,N⟩ (I L 1)).alloc (Z #[I L 2] 3))):=X (by
   have a:Gr ((g.setCell ⟨w+2,0,N⟩ (I L 0)).setCell ⟨w+2,1,N⟩ (I L 1)) (((g.setCell ⟨w+2,0,N⟩ (I L 0)).setCell ⟨w+2,1,N⟩ (I L 1)).alloc (Z #[I L 2] 3)):=ZN;have y:=ZQ ((g.setCell ⟨w+2,0,N⟩ (I L 0)).setCell ⟨w+2,1,N⟩ (I L 1)) (Z #[I L 2] 3);rw[A]at y;rw[v.a];exact⟨_,_,_,_,R,R,R,R,Ah.of (h.gr (o_ u a)) (ZE a x) (ZE a i) (ZE a d) y,Ve,o_ u a⟩)
  exact WP
 have H:((f:Int)/8==1)=Zl:=Vp;have v:Y (yx Zk f=1):=X Te;obtain⟨P,Q⟩:=c9 E;obtain⟨a0,a1⟩:=xg E;have d:=ic (x':=I L 0) (y':=I L 1) E;have K:Fr (λk _=>k≠w.heap.size+2) g ((g.setCell ⟨w+2,0,N⟩ (I L 0)).setCell ⟨w+2,1,N⟩ (I L 1)):=(ZP.setCell _ (λo _ q=>q R)).setCell _ (λo _ q=>q R);have u:Gr w ((g.setCell ⟨w+2,0,N⟩ (I L 0)).setCell ⟨w+2,1,N⟩ (I L 1)):=Yr (Yr B (show w<=w.heap.size+2 from O) _) (show w<=w.heap.size+2 from O) _;have A:((g.setCell ⟨w+2,0,N⟩ (I L 0)).setCell ⟨w+2,1,N⟩ (I L 1)).heap.size=w.heap.size+3:=by simp[World.setCell,W]
 have x:=K.same _ _ C O;have i:=K.same _ _ D O;have p:=(qi i).1;have G:=(ZW ((q_ ((g.setCell ⟨w+2,0,N⟩ (I L 0)).setCell ⟨w+2,1,N⟩ (I L 1))).alloc #[I L 1] 3) (Zx p)).trans p;have r:Y (∃j l m n,j=w.heap.size/\l=w.heap.size+1/\m=w.heap.size+2/\n=w.heap.size+3/\Ah z Zk fc b f 0 (uM Zk) (yx Zk f) j l m n Bp (((g.setCell ⟨w+2,0,N⟩ (I L 0)).setCell ⟨w+2,1,N⟩ (I L 1)).alloc (Z #[I L 1] 3))/\(∀k,(k=j\/k=l\/k=m\/k=n)->y9 w k (((g.setCell ⟨w+2,0,N⟩ (I L 0)).setCell ⟨w+2,1,N⟩ (I L 1)).alloc (Z #[I L 1] 3)))/\Gr w (((g.setCell ⟨w+2,0,N⟩ (I L 0)).setCell ⟨w+2,1,N⟩ (I L 1)).alloc (Z #[I L 1] 3))):=X (by
  have a:Gr ((g.setCell ⟨w+2,0,N⟩ (I L 0)).setCell ⟨w+2,1,N⟩ (I L 1)) (((g.setCell ⟨w+2,0,N⟩ (I L 0)).setCell ⟨w+2,1,N⟩ (I L 1)).alloc (Z #[I L 1] 3)):=ZN;have y:=ZQ ((g.setCell ⟨w+2,0,N⟩ (I L 0)).setCell ⟨w+2,1,N⟩ (I L 1)) (Z #[I L 1] 3);rw[A]at y;rw[v.a];exact⟨_,_,_,_,R,R,R,R,Ah.of (h.gr (o_ u a)) (ZE a x) (ZE a i) (ZE a d) y,Ve,o_ u a⟩)
 exact WP
def cD(k:Nat)(w:I6)(h:Ps z wh fc b Bp w)(v:vT w):i_ c_ 271 #[ZI Bp,k] w λe w'=>∃f g i,e=Zd (.func (.func 316) #[] #[ZI f,ZI g,ZI i])/\Cg z wh fc b k f g i Bp w'/\y9 w f w'/\y9 w g w'/\y9 w i w'/\Gr w w':=by
 have y:=qmf;have j:∀m:Int,m=(jC wh:Int)->Y (∃f g i,f=w.heap.size/\i=w.heap.size+1/\g=w.heap.size+2/\Cg z wh fc b k f g i Bp (((w.alloc (Z #[ZI Bp] 229)).alloc (Z #[k] 3)).alloc (Z #[m] 3))/\y9 w f (((w.alloc (Z #[ZI Bp] 229)).alloc (Z #[k] 3)).alloc (Z #[m] 3))/\y9 w g (((w.alloc (Z #[ZI Bp] 229)).alloc (Z #[k] 3)).alloc (Z #[m] 3))/\y9 w i (((w.alloc (Z #[ZI Bp] 229)).alloc (Z #[k] 3)).alloc (Z #[m] 3))/\Gr w (((w.alloc (Z #[ZI Bp] 229)).alloc (Z #[k] 3)).alloc (Z #[m] 3))):=λm x=>X (by obtain⟨l,n,o,u⟩:=jG w (Z #[ZI Bp] 229) (Z #[k] 3) (Z #[m] 3);have a:Gr w (((w.alloc (Z #[ZI Bp] 229)).alloc (Z #[k] 3)).alloc (Z #[m] 3)):=ZN.al.al;exact⟨_,_,_,R,R,R,⟨(qi l).1,by rw[<-x];exact(qi o).1,(qi n).1,h.gr a,v.gr a⟩,qu O WW l,qu O WW o,qu O WW n,a⟩);obtain⟨l,n,o,u⟩:=jG w (Z #[ZI Bp] 229) (Z #[k] 3) (Z #[I L 2] 3);have a:Gr w (((w.alloc (Z #[ZI Bp] 229)).alloc (Z #[k] 3)).alloc (Z #[I L 2] 3)):=ZN.al.al;have c1:=(qi l).1;have c2:=(qi n).1;have A:=(h.gr a).wh;cases wh;have d:=j 2 R;rotate_left;have d:=j 0 R;all_goals
  go_in;go_wp2;go_ret;obtain⟨f,g,i,rfl,rfl,rfl,p,q⟩:=d;exact⟨_,_,_,R,p,q⟩
def yF(z:I2)(wh:Bool)(fc:I5)(b:Int)(f:Nat):List Nat:=(zU z f 16).filter (yG z wh b f)++(if jD (z f)then cW z (yx wh f) (kq z (0,uM wh) f)else if jA (z f)then uz z wh fc f++pA z wh fc f else[])
def cP(b:f<64)(h:x∈zU z f 16):x<64:=by
 unfold zU at h;obtain⟨k,_,a⟩:=YX.1 h;unfold yj at a;split at a
 .split at a
  .exact ce b a
  exact ce b (List.mem_of_mem_take a)
 cases a
def wT(wh:Bool)(f:Nat):yx wh f<=2:=by unfold yx;by_cases h:f/8=(if wh then 1 else 6)<;>simp[h]
def qbX(Bp:Nat)(w w':I6)(C:Nat->Prop):Prop:=∀k,C k->k=Bp\/k=0\/y9 w.heap.size k w'
def bG(f:Nat)(hf:f<64)(hh:jA (z f)=Zk->(fc (jC wh)||fc (jC wh+1))=Zk->f=4\/f=60)(w:I6)(h:Ps z wh fc b Bp w)(hS:vT w):i_ c_ 224 #[ZI Bp,f] w λe w'=>∃gi lb C,e=Zd (.func (.func gi) #[] lb)/\Gr w w'/\(∀args w,(callFunc gi args).run c_ w=.ok (.enter gi args) w)/\(∀k,C k->k<w'.heap.size)/\qbX Bp w w' C/\∀T,z6 T->It c_ gi lb yh T C (yF z wh fc b f) w':=by
 have g0:=qmf;obtain⟨h1,h2⟩:=x6 w (Z #[ZI Bp] 229) (Z #[f] 3);have h3:Gr w ((w.alloc (Z #[ZI Bp] 229)).alloc (Z #[f] 3)):=ZN.al;have c6:((w.alloc (Z #[ZI Bp] 229)).alloc (Z #[f] 3)).heap.size=w.heap.size+2:=WU;have c4:=h.gr h3;go_in;go_upto_region 1 with fail;generalize ((w.alloc (Z #[ZI Bp] 229)).alloc (Z #[f] 3))=w2 at h1 h2 h3 c6 c4|-;have c1:=(qi h1).1;have c2:=(qi h2).1;have a6:=X (λW g=>iB (z:=z) (A:=Bp) hf W (c4.gr g).bd);have a7:=X (λg lb W=>sC g 267 lb #[ZI w,ZI (w+1)] W);have b6:Y (∀w',Gr w2 w'->Gr w2 w'/\w'.cell? ⟨w,0,N⟩=ZI Bp/\w'.cell? ⟨w+1,0,N⟩=I L f):=X (λw' g=>⟨g,(ZW g (Zx c1)).trans c1,(ZW g (Zx c2)).trans c2⟩);go_region_held3 (λw'=>Gr w2 w'/\w'.cell? ⟨w,0,N⟩=ZI Bp/\w'.cell? ⟨w+1,0,N⟩=I L f) (first|exact b6.a _ ZO.drew|exact b6.a _ ‹_›) (first|(go_at_call 266;refine Z0 (a6.a _ (vy ‹_›)) λw4⟨a1,a2,a3,ga,sa⟩=>?_;have f9:=o_ (vy ‹_›) ga)|(go_at_call 265;refine Z0 (a7.a _ _ _) λn⟨o1,o2,go⟩=>?_;have a0:=o_ (vy ‹_›) go));all_goals
  have sd:w2.drew.heap.size=w.heap.size+2:=c6;have d4:w4=w.heap.size+5:=by rw[sa,sd]
  rw[sd]at a1 a2 a3;rw[d4]at o1 o2;have b1:=ZE go a1;have b2:=ZE go a2;have b3:=ZE go a3;have b4:=ZE a0 h1;have b5:=ZE a0 h2;have a4:Gr w n:=o_ h3 a0;have K:=h.gr a4;have h0:=hS.gr a4;have g1:w+7<=n.heap.size:=by have:=(qB.1 o2).1;omega
  have y:Y (∀k,w.heap.size<=k->k<w.heap.size+7->y9 w k n):=X (λk k1 k2=>by
   have:k=w.heap.size\/k=w.heap.size+1\/k=w.heap.size+2\/k=w.heap.size+2+1\/k=w.heap.size+2+2\/k=w.heap.size+5\/k=w.heap.size+5+1:=O
   obtain rfl|rfl|rfl|rfl|rfl|rfl|rfl:=this
   .exact qu k1 WW b4
   .exact qu k1 WW b5
   .exact qu k1 WW b1
   .exact qu k1 WW b2
   .exact qu k1 WW b3
   .exact qu k1 WW o1
   exact qu k1 WW o2)
  have a8:Y (∀T,z6 T->It c_ 312 #[ZI (w+2+3),ZI (w+2+3+1)] yh T (λk=>(w.heap.size<=k/\k<w.heap.size+7)\/k=Bp\/k=0) ((zU z f 16).filter (yG z wh b f)) n):=X (λT g6=>by
   have d0:=(iC z f hf (w+2+2) (w+2) (w+2+1) Bp T g6 n (qi b3).1 (qi b1).1 (qi b2).1 K.bd h0).mono (C':=λk=>(w.heap.size<=k/\k<w.heap.size+7)\/k=Bp\/k=0) (by
    rintro k (rfl|rfl|rfl|rfl|rfl)
    .exact Zi ⟨O,O⟩
    .exact Zi ⟨O,O⟩
    .exact Zi ⟨O,O⟩
    .exact Zj (Zi R)
    exact Zj (Zj R))
   refine(sD d0 (YC func313 WR R) (YC func267 WR R) g6 ?_ (w+2+3) (w+2+3+1) (yG z wh b f) o1 o2 ?_).mono ?_
   .rintro k (d|rfl|rfl)
    .omega
    .exact K.lt
    exact h0.2
   .intro x hx W fW;exact sS (K.fr fW (λ_ _=>Zj (Zi R))) w (w+1) f x hf (cP hf hx) (fW.cell (qi b4).1 (λ_ _=>Zi ⟨show w<=w.heap.size from O,show w<w.heap.size+7 from O⟩)) (fW.cell (qi b5).1 (λ_ _=>Zi ⟨show w<=w.heap.size+1 from O,show w+1<w.heap.size+7 from O⟩))
   rintro k (d|rfl|rfl)
   .exact d
   .exact Zi ⟨O,O⟩
   exact Zi ⟨O,O⟩)
  have g8:Y (yF z wh fc b f=(zU z f 16).filter (yG z wh b f)++(if jD (z f)then cW z (yx wh f) (kq z (0,uM wh) f)else if jA (z f)then uz z wh fc f++pA z wh fc f else[])):=X R;have d1:=(qi b4).1;have d2:=(qi b5).1;have d3:=K.bd f hf;have g2:0<=(f:Int):=O
  have g3:(f:Int)<64:=O
  have a5:=X (λW=>xz (z f) W);have b7:=X (λW=>qjk (z f) W);have h4:=X a4;have F:=X K;have J:=X h0;generalize jD (z f)=pw at a5 g8;cases pw
  .generalize g4:jA (z f)=kb at b7 g8 hh;cases kb
   .have G:Y (yF z wh fc b f=(zU z f 16).filter (yG z wh b f)):=X (by rw[g8.a];simp);go_upto_region 2 with fail;go_quiet((go_at_call 121;exact YT (a5.a _)));have l:Y (Gr n (n.drewN nq)):=X ((q_ n).drewN _);have e1:(n.drewN nq).cell? ⟨w,0,N⟩=ZI Bp:=d1;have e2:(n.drewN nq).cell? ⟨w+1,0,N⟩=I L f:=d2;have e3:(n.drewN nq).cell? ⟨Bp,f,N⟩=I Zg (z f).toNat:=d3;generalize n.drewN nq=V at l e1 e2 e3|-;go_upto_region 4 with fail;go_quiet((go_at_call 120;exact YT (b7.a _)));go_wp2;go_ret;refine⟨_,_,_,R,o_ h4.a (o_ l.a ((q_ V).drewN _)),YC func312 WR R,?_,?_,λT g6=>by rw[G.a];exact(a8.a T g6).gr (o_ l.a ((q_ V).drewN _))⟩
    .rintro k (d|rfl|rfl)
     .exact qN (qN d.2 g1) (ZR (o_ l.a ((q_ V).drewN _)))
     .exact qN F.a.lt (ZR (o_ l.a ((q_ V).drewN _)))
     exact qN J.a.2 (ZR (o_ l.a ((q_ V).drewN _)))
    rintro k (d|rfl|rfl)
    .obtain⟨q1,c,ty,fr,a,q3⟩:=y.a k d.1 d.2;exact Zj (Zj ⟨q1,c,ty,fr,a,ZE (o_ l.a ((q_ V).drewN _)) q3⟩)
    .exact Zi R
    exact Zj (Zi R)
   have f7:=X (λW hp hS=>cD (z:=z) (wh:=wh) (fc:=fc) (b:=b) (Bp:=Bp) f W hp hS);have G:Y (yF z wh fc b f=(zU z f 16).filter (yG z wh b f)++(uz z wh fc f++pA z wh fc f)):=X (by rw[g8.a];simp);go_upto_region 2 with fail;go_quiet((go_at_call 121;exact YT (a5.a _)));have l:Y (Gr n (n.drewN nq)):=X ((q_ n).drewN _);have e1:(n.drewN nq).cell? ⟨w,0,N⟩=ZI Bp:=d1;have e2:(n.drewN nq).cell? ⟨w+1,0,N⟩=I L f:=d2;have e3:(n.drewN nq).cell? ⟨Bp,f,N⟩=I Zg (z f).toNat:=d3;generalize n.drewN nq=V at l e1 e2 e3|-;go_upto_region 4 with fail;go_quiet((go_at_call 120;exact YT (b7.a _)))
   go_wp2_with(first|(go_at_call 271;refine(f7.a _ (F.a.gr (o_ l.a ((q_ V).drewN _))) (J.a.gr (o_ l.a ((q_ V).drewN _)))).mono ?_;rintro e o ⟨q,r,u,rfl,f5,f1,f2,f3,b0⟩)|(go_at_call 269;refine Z0 (aO _ _ R) λw9⟨g5,H⟩=>?_));go_ret;have g9:=ZQ o (Z #[.func (.func 312) #[] #[ZI (w+2+3),ZI (w+2+3+1)],.func (.func 316) #[] #[ZI q,ZI r,ZI u]] 207);have Q:=Z3 o (Z #[.func (.func 312) #[] #[ZI (w+2+3),ZI (w+2+3+1)],.func (.func 316) #[] #[ZI q,ZI r,ZI u]] 207);have E:Gr o (o.alloc (Z #[.func (.func 312) #[] #[ZI (w+2+3),ZI (w+2+3+1)],.func (.func 316) #[] #[ZI q,ZI r,ZI u]] 207)):=ZN;generalize (o.alloc (Z #[.func (.func 312) #[] #[ZI (w+2+3),ZI (w+2+3+1)],.func (.func 316) #[] #[ZI q,ZI r,ZI u]] 207))=w8 at g9 Q E g5 H;have j:=o_ E H;have D:Gr n o:=o_ (o_ l.a ((q_ V).drewN _)) b0;have i:=o_ D j;have x8:=ZE H g9;rw[Q]at g5;have d5:=ZR D;have f0:=ZR j;have c5:=F.a.gr i;have a9:=J.a.gr i;have P:o+1<w9.heap.size:=(qB.1 g5).1
   have v:∀k,(k=q\/k=r\/k=u)->y9 w k o:=λk d=>by
    obtain rfl|rfl|rfl:=d
    .exact⟨q7 (q7 (show w<=n.heap.size from O) (ZR l.a)) f1.1,f1.2⟩
    .exact⟨q7 (q7 (show w<=n.heap.size from O) (ZR l.a)) f2.1,f2.2⟩
    exact⟨q7 (q7 (show w<=n.heap.size from O) (ZR l.a)) f3.1,f3.2⟩
   have m:∀k {A B:I6},y9 w k A->Gr A B->y9 w k B:=λk A B h g=>⟨h.1,Th⟩;have p:∀k {A:I6},y9 w k A->k<A.heap.size:=λk A h=>Oy
   have M:∀k,(((w.heap.size<=k/\k<w.heap.size+7)\/k=Bp\/k=0)\/(k=q\/k=r\/k=u))->k<w9.heap.size:=by
    rintro k ((d|rfl|rfl)|d)
    .exact p k (m k (y.a k d.1 d.2) i)
    .exact c5.lt
    .exact a9.2
    exact p k (m k (v k d) j)
   refine⟨314,#[ZI (o+1)],λk=>(((w.heap.size<=k/\k<w.heap.size+7)\/k=Bp\/k=0)\/(k=q\/k=r\/k=u))\/k=o.heap.size+1\/k=o.heap.size,R,o_ h4.a i,YC func314 WR R,?_,?_,λT g6=>?_⟩
   .rintro k (d|rfl|rfl)
    .exact M k d
    .exact P
    omega
   .rintro k (((d|rfl|rfl)|d)|rfl|rfl)
    .exact Zj (Zj (m k (y.a k d.1 d.2) i))
    .exact Zi R
    .exact Zj (Zi R)
    .exact Zj (Zj (m k (v k d) j))
    .exact Zj (Zj (qu O WW g5))
    exact Zj (Zj (qu O WW x8))
   rw[G.a];refine aP (gN:=λk=>if k=0 then 312 else 316) (lbN:=λk=>if k=0 then #[ZI (w+2+3),ZI (w+2+3+1)]else #[ZI q,ZI r,ZI u]) (xsN:=λk=>if k=0 then(zU z f 16).filter (yG z wh b f)else(uz z wh fc f++pA z wh fc f)) (C:=λk=>(((w.heap.size<=k/\k<w.heap.size+7)\/k=Bp\/k=0)\/(k=q\/k=r\/k=u))) ?_ ?_ g6 M (o+1) o (qi g5).1 ?_
   .intro k d;rcases(show k=0\/k=1 from O)with rfl|rfl
    .exact((a8.a T g6).gr i).mono (λk d=>Zi d)
    exact((cE hf (hh (by trivial)) T w9 (f5.gr j)).mono (by rintro k (rfl|rfl|rfl|rfl|rfl)<;>simp))
   .intro k d;rcases(show k=0\/k=1 from O)with rfl|rfl
    .exact YC func312 WR R
    exact YC func316 WR R
   intro k d;rcases(show k=0\/k=1 from O)with rfl|rfl
   .exact(xg x8).1
   exact(xg x8).2
  have f6:=X (λW hp=>wR (z:=z) (wh:=wh) (fc:=fc) (b:=b) (Bp:=Bp) f hf W hp);have G:Y (yF z wh fc b f=(zU z f 16).filter (yG z wh b f)++cW z (yx wh f) (kq z (0,uM wh) f)):=X (by rw[g8.a];simp);go_upto_region 2 with fail;go_quiet((go_at_call 121;exact YT (a5.a _)))
  go_wp2_with(first|(go_at_call 270;refine(f6.a _ (F.a.gr ((q_ n).drewN _))).mono ?_;rintro e o ⟨q,r,u,g7,rfl,f4,f8,b0⟩)|(go_at_call 269;refine Z0 (aO _ _ R) λw9⟨g5,H⟩=>?_));go_ret;have g9:=ZQ o (Z #[.func (.func 312) #[] #[ZI (w+2+3),ZI (w+2+3+1)],.func (.func 315) #[] #[ZI q,ZI r,ZI u,ZI g7]] 207);have Q:=Z3 o (Z #[.func (.func 312) #[] #[ZI (w+2+3),ZI (w+2+3+1)],.func (.func 315) #[] #[ZI q,ZI r,ZI u,ZI g7]] 207);have E:Gr o (o.alloc (Z #[.func (.func 312) #[] #[ZI (w+2+3),ZI (w+2+3+1)],.func (.func 315) #[] #[ZI q,ZI r,ZI u,ZI g7]] 207)):=ZN;generalize (o.alloc (Z #[.func (.func 312) #[] #[ZI (w+2+3),ZI (w+2+3+1)],.func (.func 315) #[] #[ZI q,ZI r,ZI u,ZI g7]] 207))=w8 at g9 Q E g5 H;have j:=o_ E H;have D:Gr n o:=o_ ((q_ n).drewN _) b0;have i:=o_ D j;have x8:=ZE H g9;rw[Q]at g5;have d5:=ZR D;have f0:=ZR j;have c5:=F.a.gr i;have a9:=J.a.gr i;have P:o+1<w9.heap.size:=(qB.1 g5).1;have v:∀k,(k=q\/k=r\/k=u\/k=g7)->y9 w k o:=λk d=>by obtain⟨q1,a⟩:=f8 k d;exact⟨by have:(n.drewN 0).heap.size=n.heap.size:=R;exact q7 (show w<=n.heap.size from O) q1,a⟩
  have m:∀k {A B:I6},y9 w k A->Gr A B->y9 w k B:=λk A B h g=>⟨h.1,Th⟩;have p:∀k {A:I6},y9 w k A->k<A.heap.size:=λk A h=>Oy
  have M:∀k,(((w.heap.size<=k/\k<w.heap.size+7)\/k=Bp\/k=0)\/(k=q\/k=r\/k=u\/k=g7))->k<w9.heap.size:=by
   rintro k ((d|rfl|rfl)|d)
   .exact p k (m k (y.a k d.1 d.2) i)
   .exact c5.lt
   .exact a9.2
   exact p k (m k (v k d) j)
  refine⟨314,#[ZI (o+1)],λk=>(((w.heap.size<=k/\k<w.heap.size+7)\/k=Bp\/k=0)\/(k=q\/k=r\/k=u\/k=g7))\/k=o.heap.size+1\/k=o.heap.size,R,o_ h4.a i,YC func314 WR R,?_,?_,λT g6=>?_⟩
  .rintro k (d|rfl|rfl)
   .exact M k d
   .exact P
   omega
  .rintro k (((d|rfl|rfl)|d)|rfl|rfl)
   .exact Zj (Zj (m k (y.a k d.1 d.2) i))
   .exact Zi R
   .exact Zj (Zi R)
   .exact Zj (Zj (m k (v k d) j))
   .exact Zj (Zj (qu O WW g5))
   exact Zj (Zj (qu O WW x8))
  rw[G.a];refine aP (gN:=λk=>if k=0 then 312 else 315) (lbN:=λk=>if k=0 then #[ZI (w+2+3),ZI (w+2+3+1)]else #[ZI q,ZI r,ZI u,ZI g7]) (xsN:=λk=>if k=0 then(zU z f 16).filter (yG z wh b f)else cW z (yx wh f) (kq z (0,uM wh) f)) (C:=λk=>(((w.heap.size<=k/\k<w.heap.size+7)\/k=Bp\/k=0)\/(k=q\/k=r\/k=u\/k=g7))) ?_ ?_ g6 M (o+1) o (qi g5).1 ?_
  .intro k d;rcases(show k=0\/k=1 from O)with rfl|rfl
   .exact((a8.a T g6).gr i).mono (λk d=>Zi d)
   exact((wS hf (a:=0) (c:=uM wh) (by unfold S_ uM;cases wh<;>decide) (Zj (by unfold uM;cases wh<;>decide)) (most:=yx wh f) (wT wh f) T g6 w9 (f4.gr j)).mono (by rintro k (rfl|rfl|rfl|rfl|rfl)<;>simp))
  .intro k d;rcases(show k=0\/k=1 from O)with rfl|rfl
   .exact YC func312 WR R
   exact YC func315 WR R
  intro k d;rcases(show k=0\/k=1 from O)with rfl|rfl
  .exact(xg x8).1
  exact(xg x8).2
def iN(z:I2)(wh:Bool)(fc:I5):Prop:=∀f,f<64->kw (z f) wh=Zk->jA (z f)=Zk->(fc (jC wh)||fc (jC wh+1))=Zk->f=4\/f=60
def AB(z:I2)(f t:Nat):List Mv:=xT (jD (z f)) f t
def nh(z:I2)(wh:Bool)(fc:I5)(b:Int)(f:Nat):List Mv:=if kw (z f) wh then(yF z wh fc b f).flatMap (AB z f)else[]
def ye(z:I2)(wh:Bool)(fc:I5)(b:Int)(k:Nat):List Mv:=(h_ k).flatMap (nh z wh fc b)
def qk4(z:I2)(wh:Bool)(fc:I5)(b:Int)(k:Nat):ye z wh fc b (k+1)=ye z wh fc b k++nh z wh fc b k:=by unfold ye;rw[YI,Xj];simp
theorem al(z:Nat->UInt8)(wh:Bool)(fc:Nat->Bool)(b:Int)(k:Nat):∀d,ye z wh fc b k<+:ye z wh fc b (k+d)
 | 0=>List.prefix_rfl
 | d+1=>(al z wh fc b k d).trans (by rw[<-Nat.add_assoc,qk4];exact Xz _ _)
def Cp(z:I2)(wh:Bool)(fc:I5)(b:Int)(a:k<64):ye z wh fc b k++nh z wh fc b k <+:ye z wh fc b 64:=by rw[<-qk4];have:=al z wh fc b (k+1) (64-(k+1));rwa[show k+1+(64-(k+1))=64 from O]at this
def C3{t:Nat}(d:f<64)(e:jA (z f)=Zk->(fc (jC wh)||fc (jC wh+1))=Zk->f=4\/f=60)(h:t∈yF z wh fc b f):t<64:=by
 unfold yF at h;obtain h|h:=Yi.1 h
 .exact cP d ((qV.1 h).1)
 split at h
 .exact ce d (List.mem_of_mem_take (List.takeWhile_subset _ h))
 split at h
 .rename_i g;obtain h|h:=Yi.1 h
  .unfold uz at h;split at h
   .rename_i a;rw[qH]at a;have:=e g (by rw[a.1];rfl);rw[qT.1 h];omega
   cases h
  unfold pA at h;split at h
  .rename_i a;rw[qH]at a;rw[qT.1 h];omega
  cases h
 cases h
structure Al(z:I2)(wh:Bool)(fc:I5)(b:Int)(l B Wb B1 Bp:Nat)(Ds:List Nat)(W:I6):Prop where
 yb:W.heap[Wb]?=S (Z #[.func (.yield l) #[] #[]] 143)
 b1:W.cell? B1=S (ZI Bp)
 ps:Ps z wh fc b Bp W
 st:vT W
 ms:zY B Ds W
def Al.fr{g:List Nat}{m:I6}(h:Al z wh fc b l B i d Bp g W)(f:Fr Q W m)(a:∀k o,(k=i\/k=d\/k=Bp\/k=0\/k∈g)->W.heap[k]?=S o->Q k o):Al z wh fc b l B i d Bp g m:=⟨f.same _ _ h.yb (a _ _ WU h.yb),f.cell h.b1 (λo e=>a _ o WU e),h.ps.fr f (λo e=>a _ o WU e),⟨λj v p=>f.cell (h.st.1 j v p) (λo e=>a _ o WU e),qN h.st.2 f.size⟩,h.ms.fr f (λk o _ _ e n=>a k o (by simp[n]) e)⟩
def Al.gr{a:Nat}{d:List Nat}{e:I6}(h:Al z wh fc b l B f a Bp d W)(g:Gr W e):Al z wh fc b l B f a Bp d e:=h.fr (Q:=λ_ _=>True) (p_ g) (λ_ _ _ _=>x_)
def Al.lt{a:Nat}{d:List Nat}(h:Al z wh fc b l B e a Bp d W):∀k,(k=e\/k=a\/k=Bp\/k=0\/k∈d)->k<W.heap.size:=by
 rintro k (rfl|rfl|rfl|rfl|f)
 .exact(qB.1 h.yb).1
 .exact Zx h.b1
 .exact h.ps.lt
 .exact h.st.2
 exact(qB.1 (h.ms.2 k f).2).1
def Al.below{a:Nat}{d:List Nat}{g i:I6}{T:Obj->Prop}(j:Al z wh fc b l B e a Bp d i)(o:i<=n)(h:Al z wh fc b l B e a Bp d W)(f:Fr (yv n T) W g):Al z wh fc b l B e a Bp d g:=h.fr f (λk _ m _=>Zi (qN (j.lt k m) o))
def Al.rnd{i:List Nat}{j:I6}{T:Obj->Prop}(h:Al z wh fc b l B g d Bp i W)(m:z6 T)(n:B<=g)(f:Fr (jM B T (λk=>k=d\/k=Bp\/k=0)) W j):Al z wh fc b l B g d Bp i j:=h.fr f (λk o a e=>by
 obtain rfl|a|a|a|a:=a
 .rw[h.yb]at e;cases e;exact Zj ⟨n,m.no WW⟩
 .exact Zi VM
 .exact Zi VM
 .exact Zi VM
 rw[(h.ms.2 k a).2]at e;cases e;exact Zj ⟨(h.ms.2 k a).1,λq=>by have:=m.cells _ q;cases this⟩)
def Al.cons{D:Nat}{a:List Nat}(h:Al z wh fc b l B e d Bp a W)(hD:B<=D)(f:D∉a)(hK:W.heap[D]?=S (.deferred (S []))):Al z wh fc b l B e d Bp (D::a) W:=⟨h.yb,h.b1,h.ps,h.st,jx h.ms hD f hK⟩
def AlI(z:I2)(wh:Bool)(fc:I5)(b:Int)(l B Wb B1 Bp:Nat)(J:List Mv->I6->Prop)(gk:Nat)(a:Act)(wr:I6):Prop:=∃(k:Nat)(Ds:List Nat)(u3 u4 u5 u6 u7 u8 u11 u12 u13 u14 u15 u16 u17 u18 u19 u20 u21 u22 u23 u24 u25 u26 u27 u28 u29 u30 u31:I7),k+gk=64/\a={ tmps:=#[.func (.yield l) #[] #[],ZI B1,ZI Wb,u3,u4,u5,u6,u7,u8,Zc (zL z).toArray,I L k,u11,u12,u13,u14,u15,u16,u17,u18,u19,u20,u21,u22,u23,u24,u25,u26,u27,u28,u29,u30,u31],defers:=Ds.map uK }/\Al z wh fc b l B Wb B1 Bp Ds wr/\J (ye z wh fc b k) wr
def G0(z:I2)(k:Nat)(a:k<64)(w:I6):(l_ 67 ((zL z).toArray) k).run c_ w=.ok (I Zg (z k).toNat) w:=G1 _ k a _ ((gu z).2 k a) w
def ak(hh:iN z wh fc)(r Bp:Nat)(T:Obj->Prop)(d:z6 T)(w:I6)(c5:w.cell? r=ZI Bp)(f3:Ps z wh fc b Bp w)(f6:vT w):It c_ 223 #[ZI r] vr T (λk=>k=r\/k=Bp\/k=0) (ye z wh fc b 64) w:=by
 intro l B J Jx W f0 hB hJ b0 hY h0;have m:Al z wh fc b l B W r Bp [] (W.alloc (Z #[.func (.yield l) #[] #[]] 143)):=by have f1:=f0.trans ((Fr.refl (λk _=>k=r\/k=Bp\/k=0) W).alloc (Z #[.func (.yield l) #[] #[]] 143));exact⟨ZQ W _,f1.cell c5 (λ_ _=>WU),f3.fr f1 (λ_ _=>WU),f6.fr f1 (λ_=>WU),⟨List.nodup_nil,λD hD=>w_ hD XC⟩⟩
 have m6:=hJ _ _ _ h0 ((Fr.refl _ W).alloc (Z #[.func (.yield l) #[] #[]] 143));refine(ZY (n:=9)).1 ?_;refine callsIn_of_wp_marks func223 rfl x_ ?_ R;simp only[ntmps223,Nat.reduceAdd,Nat.reduceSub,Zr];apply Z9.2;have c0:=m.b1;have l5:=m.ps.bd.range;go_wp2_with(refine Yo R 67 _ R Bp 0 R (zL z) _ l5 t_ rfl (by rw[ub];exact x7) ?_);generalize W.alloc _=w1 at m m6 c0 l5|-;generalize W.heap.size=G at m hB|-;refine Z9.1 (wpIn_loop_ghost (rm:=9) (AlI z wh fc b l B G r Bp J) 64 ?start ?round)
 case start=>exact⟨0,[],_,_,_,_,_,_,_,_,_,_,_,_,_,_,_,_,_,_,_,_,_,_,_,_,_,_,_,R,R,m,m6⟩
 case round=>
  rintro gk a wr ⟨k,E,u3,u4,u5,u6,u7,u8,u11,u12,u13,u14,u15,u16,u17,u18,u19,u20,u21,u22,u23,u24,u25,u26,u27,u28,u29,u30,u31,hk,rfl,hM,a9⟩;have a0:=X hM;have u:=X a9;by_cases x:k<64
  .have h5:=G0 z k x;have a6:=X (qk4 z wh fc b k);have d5:=X (Cp z wh fc b x);have y:Y (nh z wh fc b k=if kw (z k) wh then(yF z wh fc b k).flatMap (AB z k)else[]):=R;have l3:=X (λhm=>hh k x hm);generalize nh _ _ _ _ _=aS at a6 d5 y;have k9:0<=(k:Int):=O;have P:(k:Int)<64:=O;obtain⟨x1,x2⟩:=x6 wr (Z #[k] 3) (Z #[I Zg (z k).toNat] 5);have K:Gr wr ((wr.alloc (Z #[k] 3)).alloc (Z #[I Zg (z k).toNat] 5)):=ZN.al;have a5:((wr.alloc (Z #[k] 3)).alloc (Z #[I Zg (z k).toNat] 5)).heap.size=wr.heap.size+2:=WU;have Q:=X (λW=>qxy (z k) wh W);obtain⟨g1,h3⟩:=Zo (kw (z k) wh);rw[h3]at Q y l3;apply Z9.2;go_upto_region 4 with fail;generalize (wr.alloc _).alloc _=wA at x1 x2 K a5|-;have n:=a0.gr K;have c1:=(qi x1).1;have c2:=(qi x2).1;have c3:=n.b1;have c4:=n.ps.wh;go_quiet((go_at_call 148;exact YT (Q.a _)));have a2:Y (Gr wr (wA.drewN nq)):=X (K.drewN _);have y1:(wA.drewN nq).heap[wr.heap.size]?=Z #[k] 3:=x1;have y2:(wA.drewN nq).heap[wr.heap.size+1]?=Z #[I Zg (z k).toNat] 5:=x2;have i:Al z wh fc b l B G r Bp E (wA.drewN nq):=n.gr ((q_ wA).drewN _);have f5:(wA.drewN nq).heap.size=wr.heap.size+2:=a5;generalize wA.drewN nq=wq at a2 y1 y2 i f5|-;cases g1
   .go_wp2;exact⟨gk-1,O,k+1,E,_,_,_,_,_,_,_,_,_,_,_,_,_,_,_,_,_,_,_,_,_,_,_,_,_,_,_,O,R,i,by rw[a6.a,y.a];simpa using hJ _ _ _ u.a (p_ a2.a)⟩
   have c1:=(qi y1).1;have c3:=i.b1;have a7:=X (bG (z:=z) (wh:=wh) (fc:=fc) (b:=b) (Bp:=Bp) k x (l3.a R) wq i.ps i.st);have f8:Y (∀t∈yF z wh fc b k,t<64):=X (λt ht=>C3 x (l3.a R) ht);have A:Y (aS=(yF z wh fc b k).flatMap (AB z k)):=X (by rw[y.a];rfl);generalize yF z wh fc b k=tl at a7 f8 A;have b6:=X i;go_wp2_with(go_at_call 224;refine a7.a.mono ?_;rintro e F ⟨gi,lb,C,rfl,p,h2,g3,b2,g5⟩);have d3:=o_ a2.a p;have H:Al z wh fc b l B G r Bp E F:=b6.a.gr p;have g8:=hJ _ _ _ u.a (p_ d3);have z1:=ZE p y1;have z2:=ZE p y2;have m1:∀D∈E,D<F.heap.size:=λD hD=>H.lt D (by simp[hD]);have k4:G<F:=H.lt G WU;have b7:G<wr:=a0.a.lt G WU;have l2:=ZR p;have d4:wr+1<F.heap.size:=O;generalize wr.heap.size=Bs at b7 z1 z2 d4 f5|-;have m0:B<=F:=O;have b3:∀j,C j->j=Bp\/j=0\/y9 B j F:=λj M=>by
    obtain h|h|h:=b2 j M
    .exact Zi h
    .exact Zj (Zi h)
    exact Zj (Zj ⟨by have:=h.1;omega,h.2⟩)
   refine Z9.1 (xj (n:=9) (gf:=gi) (lb:=lb) R h2 (g5 T d) d.cells g3 ZP (λ_=>R)
    (λl4 V=>Al z wh fc b l B G r Bp E V/\V.heap[Bs]?=Z #[k] 3/\V.heap[Bs+1]?=Z #[I Zg (z k).toNat] 5/\Fr (λj _=>C j) F V/\J (ye z wh fc b k++l4.flatMap (AB z k)) V)
    (λc _ V=>c=.ret/\zY B E V/\∃q,q<+:ye z wh fc b 64/\Jx q V)
    ?sI ?sX ⟨H,z1,z2,ZP,by simpa using g8⟩ ?rnd ?done ?stop)
   case sI=>exact λs V V' h f=>⟨H.below Zy h.1 f,f.same _ _ h.2.1 (Zi O),f.same _ _ h.2.2.1 (Zi O),h.2.2.2.1.ext f (λj o e _=>Zi (qB.1 e).1),qo hJ m0 _ _ _ h.2.2.2.2 f⟩
   case sX=>exact λc s V V' h f=>⟨h.1,h.2.1.fr f (λj o _ _ _ M=>Zi (m1 _ M)),h.2.2.elim λq hq=>⟨q,hq.1,qo b0 m0 _ _ _ hq.2 f⟩⟩
   case done=>rintro D V hD ⟨h1,_,_,_,g9⟩ hK;have h7:Y (ye z wh fc b (k+1)=ye z wh fc b k++tl.flatMap (AB z k)):=X (by rw[a6.a,A.a]);go_wp2;exact⟨gk-1,O,k+1,D::E,_,_,_,_,_,_,_,_,_,_,_,_,_,_,_,_,_,_,_,_,_,_,_,_,_,_,_,O,R,h1.cons O (λh=>by have:=m1 D h;omega) hK,by rw[h7.a];exact g9⟩
   case stop=>rintro D c l4 V hD k5 ⟨rfl,h6,q,a3,a4⟩ hK;refine Z9.2 ?_;go_wp2;exact xc (T:=T) results223 d.cells (D::E) V (jx h6 O (λh=>by have:=m1 D h;omega) hK) (λv w' f=>⟨⟨v,R⟩,Zj ⟨q,a3,b0 _ _ _ a4 f⟩⟩)
   case rnd=>
    intro l1 l4 t V k8 f9 hI hl;simp only[yh];gi_wp2;refine⟨ZP,?_⟩;intro V2 f2 g4 l0;obtain⟨a1,k1,k2,c6,g6⟩:=g4;have f7:t<64:=f8.a t (C9 f9);have cy:=(qi a1.yb).1;have d1:=(qi k1).1;have d2:=(qi k2).1;have h8:ye z wh fc b k++l4.flatMap (AB z k)++xT (jD (z k)) k t<+:ye z wh fc b 64:=(by refine List.IsPrefix.trans ?_ d5.a;rw[qS,A.a];exact(Xq _).2 (qx0 (AB z k) f9));have h9:=X (AO (z k) k t f7 l B T (λj=>j=r\/j=Bp\/j=0) J Jx (ye z wh fc b 64) _ h8 hY V2 g6);have b4:=X a1;have n0:=X c6;have g0:=X k1;have g2:=X k2;gi_wp2;refine⟨x_,Xe l1 (ZY.2 (h9.a.mono ?_))⟩;intro e V4 h4;obtain⟨f4,h4⟩:=h4;have a8:∀j,y9 B j F->C j->y9 B j V2:=λj M hc=>⟨M.1,by obtain⟨c,ty,fr,q1,q2⟩:=M.2;exact⟨c,ty,fr,q1,n0.a.same _ _ q2 hc⟩⟩;have m2:Y (Fr (jM F T C) V2 V4):=X (eR f4 d m0 (λj M=>by
     obtain h|h|h:=b3 j M
     .exact Zi UW
     .exact Zi UW
     exact Zj (a8 j h M)))
    have b5:Y (Al z wh fc b l B G r Bp E V4):=X (b4.a.rnd d hB f4);have k0:Y (V4.heap[Bs]?=Z #[k] 3):=X ((qu O WW g0.a).keep d f4 g0.a);have k3:Y (V4.heap[Bs+1]?=Z #[I Zg (z k).toNat] 5):=X ((qu O WW g2.a).keep d f4 g2.a);have d0:Y (Fr (λj _=>C j) F V4):=X (n0.a.ext m2.a (λj o _ q=>Zi q));obtain⟨rfl,g7⟩|⟨rfl,q,a3,a4⟩:=h4
    .gi_wp2;exact⟨m2.a,b5.a,k0.a,k3.a,d0.a,by rw[Xj,<-qS];simpa[AB]using g7⟩
    gi_wp2;exact⟨m2.a,R,b5.a.ms,q,a3,a4⟩
  have P:k=64:=O;subst P;apply Z9.2;go_wp2;exact xc (T:=T) results223 d.cells E wr a0.ms (λv w' f=>⟨⟨v,R⟩,Zi (hJ _ _ _ u f)⟩)
def zN(z:I2):List Int:=(h_ 64).map λi=>((z i).toNat:Int)
def Br(z:I2)(wh:Bool):e_ (Lib.bytesOf (zN z)) (vk wh)=xR z wh:=by
 have e:Lib.bytesOf (zN z)=(h_ 64).map z:=by unfold Lib.bytesOf zN;rw[List.map_map];apply List.map_congr_left;intro i _;simp
 have at':∀j,j<64->((h_ 64).map z)[j]?=z j:=λj a=>VM;rw[e];by_cases h:∃k,k<64/\z k=vk wh/\∀j,j<k->z j≠vk wh
 .obtain⟨k,l,m,o⟩:=h;rw[qkm (k:=k) (λj a=>by simpa using o j a) (by simpa using m) l];exact sx (λj a=>by rw[at' j O];intro d;exact o j a (qP d)) (by rw[at' k l,m])
 have f:∀n,n<=64->∀j,j<n->z j≠vk wh:=by
  intro n;induction n with
  | zero=>intro _ j a;omega
  | succ n ih=>
   intro p j a d;by_cases g:j=n
   .subst g;exact h ⟨j,O,d,ih O⟩
   exact ih O j O d
 rw[aC (λj a=>by simpa using f 64 Zy j a)];exact sw (λj a=>by
  have b:j<64:=VS
  rw[at' j b];intro d;exact f 64 Zy j b (qP d))
def gP(z:I2)(A:I0)(g:∀i,i<64->A[i]?=I Zg (z i).toNat)(wh:Bool)(w:I6):ZL 154 #[A,wh] w (xR z wh):=by
 have h:Bz z w (w.alloc (Z A 67)):=n6 g (ZQ w _);have a:Y (∀b:Int,b=((vk wh).toNat:Int)->i_ c_ 226 #[Zq (S w) 64 64,I Zg b] (w.alloc (Z A 67)) λe w'=>e=Zd (xR z wh)/\w'=(w.alloc (Z A 67))):=X (λb f=>by refine Z1 (Any.bytes_IndexByte Tryz.lays187x w 0 64 64 (zN z) b _ (by simp[zN]) (λi j=>by rw[Z2,h i j];simp[zN,j])) ?_;rw[f,<-Br];exact⟨WU,R⟩);cases wh;have d:=X (a 107 R);rotate_left;have d:=X (a 75 R);all_goals
  unfold ZL;go_in;go_wp2_with(go_at_call 226;apply Z1 d);go_ret;exact⟨R,ZN⟩
def yH(c u:UInt8):UInt8:=if u=0 then c else if kw c Zk then u-97+65 else u
def Fa:∀u:UInt8,a_ Zg (a_ Zg ((u.toNat:Int)-97)+65)=(((u-97+65:UInt8).toNat:Nat):Int):=by have:∀n:Fin 256,a_ Zg (a_ Zg (((j_ n.val).toNat:Int)-97)+65)=((((j_ n.val)-97+65:UInt8).toNat:Nat):Int):=WS;intro u;have:=this ⟨u.toNat,u.toNat_lt⟩;exact OY
def lq(c u:UInt8)(w:I6):i_ c_ 189 #[I Zg c.toNat,I Zg u.toNat] w λe w'=>e=I Zg (yH c u).toNat/\w'=w:=by
 have i:=X (λW=>qxy c Zk W);obtain⟨v,j⟩:∃v,Y (v=yH c u):=⟨_,X R⟩;have a:Y (v=if u=0 then c else if kw c Zk then u-97+65 else u):=j;rw[<-j.a];by_cases f:u=0
 .subst f;have b:Y (v=c):=X (by rw[a.a];simp);go_in;go_wp2;go_ret;exact⟨Tc,R⟩
 have m:((u.toNat:Int)==0)=Zl:=by rw[qM];intro h;apply f;apply q6.1;have:u.toNat=0:=O;rw[this];rfl
 obtain⟨g,l⟩:=Zo (kw c Zk);rw[l]at i a;have d:=Fa u;cases g
 .have b:Y (v=u):=X (by rw[a.a];simp[f]);go_in;go_wp2_with(go_at_call 148;apply Z1 (i _));go_ret;exact⟨Tc,R⟩
 have b:Y (v=u-97+65):=X (by rw[a.a];simp[f]);generalize k:(u-97+65:UInt8)=n at d b;go_in;go_wp2_with(go_at_call 148;apply Z1 (i _));go_ret;exact⟨by rw[b.a,<-d];rfl,R⟩
def vW(z:I2)(i:Nat)(c:UInt8):I2:=λn=>if n=i then c else z n
def cT(z:I2)(A:I0):Prop:=A.size=64/\∀i,i<64->A[i]?=S (I Zg (z i).toNat)
def cT.set(h:cT z A)(i:Nat)(c:UInt8):cT (vW z i c) (A.setIfInBounds i (I Zg c.toNat)):=by
 refine⟨by rw[Array.size_setIfInBounds];exact h.1,λj a=>?_⟩;unfold vW;by_cases e:j=i
 .subst e;rw[Yu,qI R,qI (by rw[h.1];exact a),qI R]
 rw[XO (λx=>e x.symm),qF e];exact h.2 j a
def cT.ones(h:cT z A):A.all (·.oneCell')=Zk:=by rw[Array.all_eq_true];intro i a;have:=h.2 i (by rw[<-h.1];exact a);exact OE
def wL(z:I2):cT z (zL z).toArray:=gu z
def xr{b:Nat}{t:TypeId}(h:V.heap[b]?=Z A t):V.frozen? ⟨b,i,N⟩=Zl:=by simp[World.frozen?,h]
def zE(z:I2)(b:Int)(m:Mv):I2:=
 let z1:=vW (vW z m.1 46) m.2.1 (yH (z m.1) m.2.2)
 if jD (z m.1)&&((m.2.1:Int)==b)then vW z1 (m.1/8*8+m.2.1%8) 46
 else if jA (z m.1)&&(m.2.1==m.1+2)then vW (vW z1 (m.1+1) (z1 (m.1+3))) (m.1+3) 46
 else if jA (z m.1)&&(m.2.1+2==m.1)then vW (vW z1 (m.1-1) (z1 (m.1-4))) (m.1-4) 46
 else z1
def mP(c:UInt8):jD c=Zk->jA c=Zl:=by unfold jD jA;simp only[Ym,YF,Bool.or_eq_false_iff,qM];omega
structure Pl(w:I6)(PA:I0)(f t:Nat)(u:UInt8)(W:I6):Prop where
 pa:W.heap[w.heap.size]?=S (Z PA 70)
 mv:W.heap[w.heap.size+1]?=S (Z (ZJ f t u) 87)
 rs:W.heap[w.heap.size+2]?=S (Z kQ 67)
 gr:Gr w W
def Pl.set{t:Nat}(h:Pl w PA f t u W)(i:Nat)(v:I7):Pl w PA f t u (W.setCell ⟨w+3,i,N⟩ v):=by have a:Fr (λk _=>k≠w.heap.size+3) W (W.setCell ⟨w+3,i,N⟩ v):=ZP.setCell _ (λo _ q=>q R);exact⟨a.same _ _ h.pa O,a.same _ _ h.mv O,a.same _ _ h.rs O,Yr h.gr (show w<=w.heap.size+3 from O) _⟩
def Pl.drew{t:Nat}(h:Pl w PA f t u W):Pl w PA f t u W.drew:=⟨h.pa,h.mv,h.rs,h.gr.drew⟩
def qvj{g:Int}(r:jE z wh fc b h g PA)(f t:Nat)(u:UInt8)(hf:f<64)(ht:t<64)(Q:jA (z f)=Zk->t=f+2->f+3<64)(R:jA (z f)=Zk->t+2=f->4<=f)(w:I6):i_ c_ 98 #[Zc PA,Zc (ZJ f t u)] w λe w'=>∃A,e=Zd (Zc A)/\cT (zE z b (f,t,u)) A/\Gr w w':=by
 have hr:=X r;obtain⟨x1,x2,x3,x4⟩:=jG w (Z PA 70) (Z (ZJ f t u) 87) (Z kQ 67);have d0:Gr w (((w.alloc (Z PA 70)).alloc (Z (ZJ f t u) 87)).alloc (Z kQ 67)):=ZN.al.al;have d4:=Ps.of r x1;have b5:=d4.bd.range;obtain⟨i,hL⟩:∃i,Y (i=zL z):=⟨_,X rfl⟩;rw[<-hL.a]at b5;have hl:i.length=64:=by rw[hL.a];exact ub z
 have a9:(c_.info? 67).map (·.size)=S i.length:=by rw[hl];exact x7
 have b0:i.toArray.all (·.oneCell')=Zk:=by rw[hL.a];exact(wL z).ones
 have a4:i.toArray.size=64:=by simpa using hl
 go_in;go_upto_region 2 with(first|(refine Yo rfl 67 _ rfl w.heap.size 0 rfl i _ b5 t_ rfl a9 ?_)|(refine ZU rfl 67 _ _ rfl (w.heap.size+3) i.toArray rfl rfl 67 kQ (by rw[<-x4];exact Zv) (by rw[a4];exact x7) (by rw[a4];rfl) b0 ?_));have f2:((((w.alloc (Z PA 70)).alloc (Z (ZJ f t u) 87)).alloc (Z kQ 67)).alloc (Z kQ 67)).heap[w.heap.size+3]?=S (Z kQ 67):=by rw[<-x4];exact Zv
 show n_ _ _ _ _ (((((w.alloc (Z PA 70)).alloc (Z (ZJ f t u) 87)).alloc (Z kQ 67)).alloc (Z kQ 67)).setRow (w.heap.size+3) i.toArray);have a3:=setRow_heap _ _ _ i.toArray _ _ f2;have d1:Gr w (((((w.alloc (Z PA 70)).alloc (Z (ZJ f t u) 87)).alloc (Z kQ 67)).alloc (Z kQ 67)).setRow (w.heap.size+3) i.toArray):=(d0.alloc _ _).setRow _ O _;have a8:Pl w PA f t u (((((w.alloc (Z PA 70)).alloc (Z (ZJ f t u) 87)).alloc (Z kQ 67)).alloc (Z kQ 67)).setRow (w.heap.size+3) i.toArray):=by
  have b6:Below (w.heap.size+3) (((w.alloc (Z PA 70)).alloc (Z (ZJ f t u) 87)).alloc (Z kQ 67)) (((((w.alloc (Z PA 70)).alloc (Z (ZJ f t u) 87)).alloc (Z kQ 67)).alloc (Z kQ 67)).setRow (w.heap.size+3) i.toArray):=by have:=((q_ (((w.alloc (Z PA 70)).alloc (Z (ZJ f t u) 87)).alloc (Z kQ 67))).alloc kQ 67).setRow (w.heap.size+3) O i.toArray;unfold Gr at this;rwa[x4]at this
  exact⟨(Zz b6 O).trans x1,(Zz b6 O).trans x2,(Zz b6 O).trans x3,d1⟩
 generalize (((((w.alloc (Z PA 70)).alloc (Z (ZJ f t u) 87)).alloc (Z kQ 67)).alloc (Z kQ 67)).setRow (w.heap.size+3) i.toArray)=w4 at a3 a8|-;have a5:Y (cT z i.toArray):=X (by rw[hL.a];exact wL z);generalize i.toArray=A4 at a3 a5;have f7:0<=(f:Int):=O;have f8:(f:Int)<64:=O;have f9:0<=(t:Int):=O;have g0:(t:Int)<64:=O;obtain⟨c1,c2,c3⟩:=qm a8.mv;have c4:=n6 a5.a.2 a3 f hf;have o4:=xr (i:=f) a3;go_upto_region 4 with fail;have H:=a8.set f (I Zg 46);have g9:=qv (i:=f) (v:=I Zg 46) a3;have a6:Y (cT (vW z f 46) (A4.setIfInBounds f (I Zg 46))):=X (a5.a.set f 46);show n_ _ _ _ _ (w4.setCell ⟨w.heap.size+3,f,N⟩ (I Zg 46));generalize w4.setCell ⟨w.heap.size+3,f,N⟩ (I Zg 46)=w5 at H g9|-;generalize A4.setIfInBounds f (I Zg 46)=A5 at g9 a6;have f1:=X (λW=>lq (z f) u W);obtain⟨c1,c2,c3⟩:=qm H.mv;have o5:w5.drew.frozen? ⟨w.heap.size+3,t,N⟩=Zl:=xr (V:=w5.drew) (i:=t) g9;have c5:w5.drew.cell? ⟨w.heap.size+3,t,N⟩=S (I Zg (vW z f 46 t).toNat):=n6 (W:=w5.drew) a6.a.2 g9 t ht;have a7:Y (∀w',Pl w PA f t u w'->Pl w PA f t u w'/\w'.cell? ⟨w.heap.size+1,1,N⟩=S (I L t)/\w'.cell? ⟨w.heap.size+1,2,N⟩=S (I Zg u.toNat)):=X (λw' h=>⟨h,(qm h.mv).2.1,(qm h.mv).2.2⟩);go_region_held3 (λw'=>Pl w PA f t u w'/\w'.cell? ⟨w.heap.size+1,1,N⟩=S (I L t)/\w'.cell? ⟨w.heap.size+1,2,N⟩=S (I Zg u.toNat)) (first|exact a7.a _ H.drew|exact a7.a _ (Pl.set H.drew _ _)|exact a7.a _ (And.left ‹_›)) (first|(go_at_call 189;refine(f1.a _).mono ?_;rintro e w6 ⟨rfl,rfl⟩));show Exit.then _ _ _ _ (w5.setCell ⟨w.heap.size+3,t,N⟩ (I Zg ((yH (z f) u).toNat:Int))).drew;have k:=(H.set t (I Zg ((yH (z f) u).toNat:Int))).drew;have l:(w5.setCell ⟨w.heap.size+3,t,N⟩ (I Zg ((yH (z f) u).toNat:Int))).drew.heap[w.heap.size+3]?=_:=qv (i:=t) (v:=I Zg ((yH (z f) u).toNat:Int)) g9;have n:Y (cT (vW (vW z f 46) t (yH (z f) u)) (A5.setIfInBounds t (I Zg ((yH (z f) u).toNat:Int)))):=X (a6.a.set t (yH (z f) u));generalize (w5.setCell ⟨w.heap.size+3,t,N⟩ (I Zg ((yH (z f) u).toNat:Int))).drew=w6 at k l|-;generalize A5.setIfInBounds t (I Zg ((yH (z f) u).toNat:Int))=F at l n;have m:Y (zE z b (f,t,u)=if jD (z f)&&((t:Int)==b)then vW (vW (vW z f 46) t (yH (z f) u)) (f/8*8+t%8) 46
  else if jA (z f)&&(t==f+2)then vW (vW (vW (vW z f 46) t (yH (z f) u)) (f+1) (vW (vW z f 46) t (yH (z f) u) (f+3))) (f+3) 46
  else if jA (z f)&&(t+2==f)then vW (vW (vW (vW z f 46) t (yH (z f) u)) (f-1) (vW (vW z f 46) t (yH (z f) u) (f-4))) (f-4) 46
  else vW (vW z f 46) t (yH (z f) u)):=X rfl
 generalize vW (vW z f 46) t (yH (z f) u)=q at n m;have g6:=X (λW=>xz (z f) W);have a2:=X (λW=>qjk (z f) W);have v:Y (jD (z f)=Zk->jA (z f)=Zl):=X (mP (z f));obtain⟨b1,b2,b3⟩:=qm k.mv;have b4:w6.cell? ⟨w.heap.size,69,N⟩=S (I L b):=by rw[Zs k.pa];exact hr.a.b
 obtain⟨pw,d5⟩:=Zo (jD (z f));obtain⟨kb,d2⟩:=Zo (jA (z f));rw[d5]at g6 m v;rw[d2]at a2 m Q R v;have a1:Y (∀(A:I0)(W:I6),cT (zE z b (f,t,u)) A->Pl w PA f t u W->W.heap[w.heap.size+3]?=S (Z A 67)->(c_.info? 67).map (·.size)=S A.size/\A.size=kQ.size/\A.all (·.oneCell')=Zk/\(W.setRow (w.heap.size+2) A).heap[w.heap.size+2]?=S (Z A 67)/\Gr w (W.setRow (w.heap.size+2) A)):=X (λA W ha hp hs=>⟨by rw[ha.1];exact x7,by rw[ha.1];rfl,ha.ones,setRow_heap _ _ _ A _ _ hp.rs,hp.gr.setRow _ O _⟩);by_cases d3:(pw&&((t:Int)==b))=Zk
 .obtain⟨rfl,b7⟩:pw=Zk/\((t:Int)==b)=Zk:=by simpa using d3
  have g8:Y (zE z b (f,t,u)=vW q (f/8*8+t%8) 46):=X (by rw[m.a,b7];rfl);have l1:(f/8*8+t%8)<64:=O;have o6:=xr (i:=(f/8*8+t%8)) l;have c6:=n6 n.a.2 l (f/8*8+t%8) l1;have a0:=qv (i:=(f/8*8+t%8)) (v:=I Zg 46) l;have y:Y (cT (zE z b (f,t,u)) (F.setIfInBounds (f/8*8+t%8) (I Zg 46))):=X (by rw[g8.a];exact n.a.set (f/8*8+t%8) 46);obtain⟨E,r2,r3,r4,r5⟩:=a1.a _ _ y.a (k.set (f/8*8+t%8) _) a0;have B:=(k.set (f/8*8+t%8) (I Zg 46)).rs;go_upto_region 11 with(go_at_call 121;refine(g6.a _).mono ?_;rintro e w' ⟨rfl,rfl⟩);show n_ _ _ _ _ (w'.setCell ⟨w.heap.size+3,f/8*8+t%8,N⟩ (I Zg 46));generalize w'.setCell ⟨w.heap.size+3,f/8*8+t%8,N⟩ (I Zg 46)=w7 at a0 r4 r5 B|-;generalize F.setIfInBounds (f/8*8+t%8) (I Zg 46)=A7 at a0 y E r2 r3 r4 r5;go_wp2_with(first|(refine ZV rfl 67 _ rfl (w.heap.size+3) rfl 67 A7 (0,0) _ a0 t_ rfl E ?_)|(refine ZU rfl 67 _ _ rfl (w.heap.size+2) A7 rfl rfl 67 kQ B E r2.symm r3 ?_));exact ZS (v:=Zc A7) (Yp results98 _ _ (w.heap.size+2) 67 A7 (0,0) _ rfl r4 t_ rfl E) rfl ⟨_,rfl,y.a,r5⟩
 cases pw
 .cases kb
  .have y:Y (cT (zE z b (f,t,u)) F):=X (by rw[show zE z b (f,t,u)=q from by rw[m.a];simp];exact n.a);exact IK
  by_cases g7:t=f+2
  .have hb:=Q rfl g7;have g8:Y (zE z b (f,t,u)=vW (vW q (f+1) (q (f+3))) (f+3) 46):=X (by rw[m.a];simp[g7]);obtain⟨d,M⟩:∃p,Y (p=f+1):=⟨_,X rfl⟩;obtain⟨a,V⟩:∃p,Y (p=f+3):=⟨_,X rfl⟩;rw[<-M.a,<-V.a]at g8;have e1:a_ L ((f:Int)+1)=(d:Int):=(by rw[YO];have:=M.a;omega);have e3:a_ L ((f:Int)+3)=(a:Int):=(by rw[YO];have:=V.a;omega);have l1:d<64:=(by have:=M.a;omega);have l3:a<64:=(by have:=V.a;omega);have f5:a≠d:=(by have:=M.a;have:=V.a;omega);have i1:0<=(d:Int):=O;have i2:(d:Int)<64:=O;have i3:0<=(a:Int):=O;have i4:(a:Int)<64:=O;have hE:((t:Int)==(f:Int)+2)=Zk:=WX;go_upto_region 8 with(first|(go_at_call 121;refine(g6.a _).mono ?_;rintro e w' ⟨rfl,rfl⟩)|(go_at_call 120;refine(a2.a _).mono ?_;rintro e D ⟨rfl,rfl⟩));exact Zp
  have f4:(t==f+2)=Zl:=by simpa using g7
  by_cases f0:t+2=f
  .have g7:=f0;have hb:=R rfl g7;have g8:Y (zE z b (f,t,u)=vW (vW q (f-1) (q (f-4))) (f-4) 46):=X (by rw[m.a];simp[g7,f4]);obtain⟨d,M⟩:∃p,Y (p=f-1):=⟨_,X rfl⟩;obtain⟨a,V⟩:∃p,Y (p=f-4):=⟨_,X rfl⟩;rw[<-M.a,<-V.a]at g8;have e1:a_ L ((f:Int)-1)=(d:Int):=(by rw[YO];have:=M.a;omega);have e3:a_ L ((f:Int)-4)=(a:Int):=(by rw[YO];have:=V.a;omega);have l1:d<64:=(by have:=M.a;omega);have l3:a<64:=(by have:=V.a;omega);have f5:a≠d:=(by have:=M.a;have:=V.a;omega);have i1:0<=(d:Int):=O;have i2:(d:Int)<64:=O;have i3:0<=(a:Int):=O;have i4:(a:Int)<64:=O;have f3:((t:Int)==(f:Int)+2)=Zl:=WX;have hE:((t:Int)==(f:Int)-2)=Zk:=WX;go_upto_region 10 with(first|(go_at_call 121;refine(g6.a _).mono ?_;rintro e w' ⟨rfl,rfl⟩)|(go_at_call 120;refine(a2.a _).mono ?_;rintro e D ⟨rfl,rfl⟩));exact Zp
  have f3:((t:Int)==(f:Int)+2)=Zl:=WX;have f6:((t:Int)==(f:Int)-2)=Zl:=WX;have y:Y (cT (zE z b (f,t,u)) F):=X (by rw[show zE z b (f,t,u)=q from by rw[m.a];simp[g7,f0]];exact n.a);exact IK
 have b7:((t:Int)==b)=Zl:=by simpa using d3
 obtain rfl:kb=Zl:=v.a rfl;have y:Y (cT (zE z b (f,t,u)) F):=X (by rw[show zE z b (f,t,u)=q from by rw[m.a];simp[b7]];exact n.a);obtain⟨E,r2,r3,r4,r5⟩:=a1.a _ _ y.a k l;have B:=(k).rs;go_upto_region 11 with(first|(go_at_call 121;refine Z1 (g6.a _) ?_)|(go_at_call 120;refine Z1 (a2.a _) ?_));exact WC
structure Jd(w:I6)(PA A:I0)(Bp Bs:Nat)(W:I6):Prop where
 pa:W.heap[Bp]?=S (Z PA 70)
 sq:W.heap[Bs]?=S (Z A 67)
 gr:Gr w W
def Jd.next{a:Nat}{b:I6}(h:Jd w PA A Bp a W)(g:Gr W b):Jd w PA A Bp a b:=⟨ZE g h.pa,ZE g h.sq,o_ h.gr g⟩
def Cy{d:Array Oper}{op:Oper}{a:Act}{S:I6->Prop}(l:A.size=64)(i:Region.wanted op (yielded d a.tmps)=Zk)(x:Operand)(f:op.op=.load 67 x)(b:Nat)(k:a.eval x=ZI b)(e:∀w,S w->w.heap[b]?=some (Z A 67)):YieldsIf c_ d S op A a:=by have:=XW (P:=c_) i 67 x f b 0 k A.toList _ (λw h j v g=>by rw[Zs (e w h),Z2,<-qO];exact g) t_ rfl (by rw[x7];simp[l]);rwa[Yb]at this
def mt{g:Int}(r:jE z wh fc b h g PA)(f t:Nat)(u:UInt8)(V:f<64)(a6:t<64)(E:jA (z f)=Zk->t=f+2->f+3<64)(F:jA (z f)=Zk->t+2=f->4<=f)(y:Nat)(a7:y<64)(m:xR (zE z b (f,t,u)) wh=(y:Int))(Bp:Nat) (w:I6) (J:w.heap[Bp]?=S (Z PA 70)) (a1:vT w):ZL 153 #[gJ (f,t,u),ZI Bp] w (Za (!(vL (zE z b (f,t,u)) y (!wh)))):=by
 simp only[gJ];have n:=λW=>qvj r f t u V a6 E F W;have D:(c_.info? 70).map (·.size)=S PA.size:=VU;have H:=r.wh;have G:(w.alloc (Z (ZJ f t u) 87)).heap[Bp]?=Z PA 70:=(YP _ _ _ (qB.1 J).1).trans J;have o:Gr w (w.alloc (Z (ZJ f t u) 87)):=ZN;obtain⟨c1,c2,c3⟩:=qm (ZQ w (Z (ZJ f t u) 87));unfold ZL;go_in;generalize Q:zE z b (f,t,u)=a2 at n m;go_upto_region 2 with(first|(refine ZV R 70 _ R Bp R 70 PA (0,0) _ G s_ rfl D ?_)|(go_at_call 98;refine(n _).mono ?_;rintro e d ⟨A,rfl,k,p⟩)|(refine ZU R 67 _ _ R d A R R 67 kQ Zv (by rw[k.1];exact x7) (by rw[k.1];rfl) k.ones ?_));show n_ _ _ _ _ ((d.alloc (Z kQ 67)).setRow d A);have i:=o_ o p;have M:Jd w PA A Bp d.heap.size ((d.alloc (Z kQ 67)).setRow d.heap.size A):=by have q:Gr d ((d.alloc (Z kQ 67)).setRow d A):=ZN.setRow _ Zy _;exact⟨ZE (o_ i q) J,setRow_heap _ _ _ A _ _ Zv,o_ i q⟩
 generalize (d.alloc (Z kQ 67)).setRow d A=w3 at M|-;generalize d.heap.size=a0 at M|-;have j:=λW=>gP a2 A k.2 wh W;rw[m]at j;have l:=λW a1=>ah a2 A k.1 k.2 y a7 (!wh) W a1;obtain⟨v,a3⟩:∃v,Y (v=vL a2 y (!wh)):=⟨_,X R⟩;rw[<-a3.a]at l;have a4:=k.1;have a5:=Q;refine ZT (S:=Jd w PA A Bp a0) WR (M.next ZO.drew) (λa=>?_);apply ty 0 A R (Cy a4 Vb _ R a0 R (λ_ h=>h.sq)) a;apply ty 1 A R (Cy a4 Vb _ R a0 R (λ_ h=>h.sq)) a;apply tq 2 _ a;apply ZB 3 wh R (λw P=>UF) a;apply tq 5 _ a;apply ZB 6 wh R (λw P=>UF) a;apply tq 7 (!wh) a;refine rd 4 λK hK=>?_;go_simp;refine Z0 (j _) λwa x=>?_;refine hK.out _ _ (a.next x) λa=>?_;refine rd 8 λK hK=>?_;go_simp;refine Z0 (l _ (a1.gr a.gr)) λwb B=>?_;refine hK.out _ _ (a.next B) λa=>?_;apply tq 9 (!v) a;refine rd 10 λK hK=>?_;go_simp;refine hK.out _ _ a λa=>?_;refine ZZ WR ?_ _;go_wp2;go_ret;exact⟨by rw[a3.a,<-a5];rfl,a.gr⟩
def aj(Bp:Nat)(w:I6):i_ c_ 152 #[ZI Bp] w λe w'=>e=Zd (.func (.func 223) #[] #[ZI w])/\w'.heap[w.heap.size]?=Z #[ZI Bp] 229/\Gr w w':=by have b:=qmf;go_in;go_wp2;go_ret;exact⟨R,ZQ w _,ZN⟩
def uS(z:I2)(wh:Bool)(b:Int)(x:Mv):Bool:=!(vL (zE z b x) (xR (zE z b x) wh).toNat (!wh))
def yo(z:I2)(wh:Bool)(fc:I5)(b:Int):List Mv:=(ye z wh fc b 64).filter (uS z wh b)
structure lg(z:I2)(wh:Bool)(fc:I5)(b:Int):Prop where
 home:iN z wh fc
 k1:∀f t u,(f,t,u)∈ye z wh fc b 64->jA (z f)=Zk->t=f+2->f+3<64
 k2:∀f t u,(f,t,u)∈ye z wh fc b 64->jA (z f)=Zk->t+2=f->4<=f
 kg:∀x,x∈ye z wh fc b 64->∃y:Nat,y<64/\xR (zE z b x) wh=(y:Int)
theorem iI(e:iN z wh fc){x:Mv}(h:x∈ye z wh fc b 64):bi x:=by
 unfold ye nh at h;obtain⟨f,d,h⟩:=YX.1 h;have a:=qK.1 d;split at h
 .rename_i g;obtain⟨t,i,h⟩:=YX.1 h;exact bB a (C3 a (e f a g) i) h
 cases h
def wJ(z:I2)(f k:Nat):(yj z f k).length<=8:=by
 have a:∀n x,(uW z (jU k) n x).length<=n:=by
  intro n;induction n with
  | zero=>intro x;simp[uW]
  | succ n ih=>
   intro x;unfold uW;split
   .have:=ih (nx x (jU k));split
    .simp;omega
    simp
   simp
 unfold yj;split
 .split
  .exact a 8 f
  have:=a 8 f;simp only[Xt];unfold kq;omega
 simp
def DY(z:I2)(wh:Bool)(fc:I5)(b:Int)(f:Nat):(yF z wh fc b f).length<=130:=by
 rw[yF,qZ];have g:((zU z f 16).filter (yG z wh b f)).length<=16*8:=q7 (Y8 _ _) (jz WU λk _=>wJ z f k);have h:(if jD (z f)then cW z (yx wh f) (kq z (0,uM wh) f)else if jA (z f)then uz z wh fc f++pA z wh fc f else[]).length<=2:=by
  split
  .unfold cW;have a:=(List.takeWhile_prefix (λv=>z v==46) (l:=(kq z (0,uM wh) f).take (yx wh f))).length_le;have d:=List.length_take_le (yx wh f) (kq z (0,uM wh) f);have e:=wT wh f;omega
  split
  .rw[qZ];have a:(uz z wh fc f).length<=1:=(by unfold uz;split<;>simp);have d:(pA z wh fc f).length<=1:=(by unfold pA;split<;>simp);omega
  simp
 omega
def sY(z:I2)(wh:Bool)(fc:I5)(b:Int):(yo z wh fc b).length<=1000000:=by
 have h:(ye z wh fc b 64).length<=64*(130*4):=by
  unfold ye;refine jz WU λf _=>?_;unfold nh;split
  .exact jz (DY z wh fc b f) λt _=>pf _ _ _
  simp
 have:=Y8 (uS z wh b) (ye z wh fc b 64);unfold yo;omega
def qzm(PA:I0)(w:I6):i_ c_ 65 #[PA] w λe w'=>∃h i Bf,e=Zd (.func (.func 155) #[] #[ZI i,ZI Bf])/\w'.heap[w.heap.size]?=Z PA 70/\w'.heap[h]?=Z #[ZI w] 229/\w'.heap[i]?=Z #[.func (.func 223) #[] #[ZI h]] 141/\w'.heap[Bf]?=Z #[.func (.func 153) #[] #[ZI w]] 143/\Gr w w':=by
 have l:=qmf;have k:=ZQ w (Z PA 70);have d:Gr w (w.alloc (Z PA 70)):=ZN;go_in;go_wp2_with(first|(go_at_call 152;refine Z0 (aj _ _) λo⟨g,f⟩=>?_)|(go_at_call 67;refine Z0 (dV _ _ _ _ _) λp⟨m,n,b⟩=>?_));go_ret;have a:=o_ f b;rw[Z3]at g;exact⟨w+1,_,_,R,ZE a k,ZE b g,m,n,o_ d a⟩
theorem mkL{g:Int}(r:jE z wh fc b h g PA)(a:lg z wh fc b)(w:I6)(G:vT w) :
 iM 65 155 PA (yo z wh fc b) w where
 em:=YC func65 WR R
 ei:=YC func155 WR R
 ok:=λx j=>iI a.home (qV.1 j).1
 len:=sY z wh fc b
 go:=by
  intro T i W H;refine(qzm PA W).mono ?_;rintro e w' ⟨E,F,Bf,rfl,n,o,D,B,l⟩;have p:=o_ H l;have d:=G.gr p;have v:=Ps.of r n;have q:=ak a.home E W T i w' (qi o).1 v d;refine⟨_,_,R,l,?_,qkg q (YC func223 WR R) (YC func153 WR R) (z6.cells i) (λc fr=>z6.no i WW) ?_ F Bf (uS z wh b) D B ?_⟩
  .rintro k ((rfl|rfl|rfl)|rfl|rfl)
   .exact(qB.1 o).1
   .exact(qB.1 n).1
   .exact d.2
   .exact(qB.1 D).1
   exact(qB.1 B).1
  .rintro k (rfl|rfl|rfl)
   .exact(qB.1 o).1
   .exact(qB.1 n).1
   exact d.2
  rintro⟨f,t,u⟩ j V A;obtain⟨y,J,m⟩:=a.kg _ j;have C:=iI a.home j;have:=mt r f t u C.1 C.2 (a.k1 f t u j) (a.k2 f t u j) y J m W V (A.same _ _ n (Zj (Zi R))) (d.fr A (λ_=>Zj (Zj R)));have e:uS z wh b (f,t,u)=!(vL (zE z b (f,t,u)) y (!wh)):=by rw[uS,m];rfl
  rw[e];exact this
def ku:I0:=#[.nilFunc,.nilFunc]
def mc:I0:=zG 64 65
def jP:I0:=zG 60 61
def yU:(c_.info? 74).map (·.size)=S 2:=WR
def qxi(a b:Nat):(zG a b).all (·.oneCell')=Zk:=by simp[zG,Value.oneCell']
def gF:ku.all (·.oneCell')=Zk:=by simp[ku,Value.oneCell']
def qxk(w:I6):ZL 33 #[] w jP:=by unfold ZL;go_in;go_wp2_with(refine ZU R 74 _ _ R w jP R R 74 ku Zv yU R (qxi _ _) ?_);exact ZS (v:=jP) (Yp results33 _ _ w 74 _ (0,0) _ R (Zt (Z7 w _)) underlying74 rfl yU) R ⟨R,ZN.setRow _ Zy _⟩
def FV(n:Int):I7:=if n=1 then Ze #[Zc mc,Za Zk]else if n=2 then Ze #[Zc jP,Za Zk]else Ze #[Zc ku,Za Zl]
def sJ(n:Int)(w:I6):ZL 35 #[n] w (FV n):=by
 by_cases d:n=1
 .subst d;unfold ZL;go_in;go_wp2_with(refine ZU R 74 _ _ R w mc R R 74 ku Zv yU R (qxi _ _) ?_);exact ZS (v:=Ze #[mc,Zk]) (qj results35 _ _ w 74 _ (0,0) _ R (Zt (Z7 w _)) underlying74 rfl yU) R ⟨R,ZN.setRow _ Zy _⟩
 by_cases f:n=2
 .subst f;have g:(w.alloc (Z ku 74)).heap[w.heap.size]?=Z ku 74:=Z7 w _;have h:Gr w (w.alloc (Z ku 74)):=ZN;have j:w<(w.alloc (Z ku 74)).heap.size:=Vj;unfold ZL;go_in;go_wp2_with(first|(go_at_call 33;refine Z0 (qxk _) λk a=>?_;have b:=(Zz a j).trans g)|(refine ZU R 74 _ _ R w jP R R 74 ku b yU R (qxi _ _) ?_));exact ZS (v:=Ze #[jP,Zk]) (qj results35 _ _ w 74 _ (0,0) _ R (Zt b) underlying74 rfl yU) R ⟨R,(o_ h a).setRow _ Zy _⟩
 have i:FV n=Ze #[ku,Zl]:=by rw[FV,qF d,qF f]
 rw[i];unfold ZL;go_in;go_wp2_with(refine ZU R 74 _ _ R w ku R R 74 ku Zv yU R gF ?_);exact ZS (v:=Ze #[ku,Zl]) (qj results35 _ _ w 74 _ (0,0) _ R (Zt (Z7 w _)) underlying74 rfl yU) R ⟨R,ZN.setRow _ Zy _⟩
structure Ct(m:Int)(w:I6):Prop where
 mx:w.cell? ⟨4,0,N⟩=S (I L m)
 ml:4<w.heap.size
 tab:jF w
 homes:vJ w
def Ct.gr(h:Ct m w)(g:Gr w w'):Ct m w':=⟨(ZW g (p:=⟨4,0,N⟩) h.ml).trans h.mx,qN h.ml (ZR g),h.tab.gr g,h.homes.gr g⟩
def mU:I7:=Zq N 0 0
structure uV(w:I6):Prop where
 cas:jQ w
 st:vT w
def uV.gr(h:uV w)(g:Gr w w'):uV w':=⟨h.cas.gr g,h.st.gr g⟩
def qjv{s:I4}{p:pH}(h:xG s=p):-1<=p.behind/\p.behind<=63:=by obtain⟨B,_,_,_,a,_⟩:=FM s p h;omega
def iP(s:I4)(k:Int):Prop:=(k=1/\xG s=N)\/(k=2/\∃p,xG s=S p/\xP p=Zl)
def xy(s:I4):(∃p,xG s=S p/\xP p=Zk/\∀e,zA s e->e=Ze #[jV p,I L 0])\/(∃k,k≠0/\iP s k/\∀e,zA s e->e=Ze #[b_,k]):=by
 cases b:xG s with
 | none=>
  refine Zj ⟨1,WW,Zi ⟨R,b⟩,λe h=>?_⟩;obtain⟨q,a,_,_⟩|⟨q,a,_,_⟩|⟨_,rfl⟩:=h
  .rw[b]at a;cases a
  .rw[b]at a;cases a
  rfl
 | some p=>
  cases f:xP p with
  | true=>
   refine Zi ⟨p,R,f,λe h=>?_⟩;obtain⟨q,a,d,rfl⟩|⟨q,a,d,_⟩|⟨a,_⟩:=h
   .rw[b]at a;obtain rfl:=qP a;rfl
   .rw[b]at a;obtain rfl:=qP a;rw[f]at d;cases d
   rw[b]at a;cases a
  | false=>
   refine Zj ⟨2,WW,Zj ⟨R,p,b,f⟩,λe h=>?_⟩;obtain⟨q,a,d,rfl⟩|⟨q,a,d,rfl⟩|⟨a,_⟩:=h
   .rw[b]at a;obtain rfl:=qP a;rw[f]at d;cases d
   .rfl
   rw[b]at a;cases a
def nv(s:yZ):Nat->Nat->List Nat
 | 0,_=>[]
 | n+1,x=>if pM x s then nx x s::nv s n (nx x s)else[]
def nu(z:Nat->UInt8):List Nat->List Nat
 | []=>[]
 | y::r=>y::(if z y=46 then nu z r else[])
theorem uH(z:Nat->UInt8)(s:yZ):∀n x,uW z s n x=nu z (nv s n x)
 | 0,_=>rfl
 | n+1,x=>by
  unfold uW nv;split
  .rw[nu,uH z s n (nx x s)]
  rfl
theorem ul(z:Nat->UInt8)(y:Nat):∀l:List Nat,y∈nu z l↔∃i:Nat,l[i]?=y/\∀j,j<i->∀v,l[j]?=S v->z v=46
 | []=>by simp[nu]
 | a::r=>by
  rw[nu,Yj];constructor
  .rintro(rfl|h)
   .exact⟨0,R,λj g=>w_ g (Yy j)⟩
   split at h
   .rename_i f;obtain⟨i,b,e⟩:=(ul z y r).1 h;refine⟨i+1,VE,λj g v d=>?_⟩;cases j with
    | zero=>simp at d;rw[<-d];exact f
    | succ j=>exact e j O v VG
   cases h
  rintro⟨i,b,e⟩;cases i with
  | zero=>simp at b;exact Zi b.symm
  | succ i=>
   right;have f:z a=46:=e 0 O a R;rw[qI f];exact(ul z y r).2 ⟨i,VE,λj g v d=>e (j+1) O v VG⟩
theorem uq(z:Nat->UInt8)(e:Bool)(s:yZ):∀(l:List Nat)(far:Bool),vq z e s far (nu z l)=Zk↔∃(i y:Nat),l[i]?=y/\(∀j,j<i->∀v,l[j]?=S v->z v=46)/\fQ z e s (far||decide (0<i)) y=Zk
 | [],far=>by simp[nu,vq]
 | a::r,far=>by
  unfold nu vq;rw[Ym];constructor
  .rintro(h|h)
   .exact⟨0,a,R,λj m=>w_ m (Yy j),Vq⟩
   split at h
   .rename_i k;obtain⟨i,y,b,f,g⟩:=(uq z e s r Zk).1 h;refine⟨i+1,y,VE,λj m v d=>?_,by simpa using g⟩;cases j with
    | zero=>simp at d;rw[<-d];exact k
    | succ j=>exact f j O v VG
   simp[vq]at h
  rintro⟨i,y,b,f,g⟩;cases i with
  | zero=>simp at b;subst b;left;simpa using g
  | succ i=>
   right;have k:z a=46:=f 0 O a R;rw[qI k];exact(uq z e s r Zk).2 ⟨i,y,VE,λj m v d=>f (j+1) O v VG,by simpa using g⟩
def rr(k x:Nat):List Nat:=nv (jU k) 8 x
def C6(k x i:Nat):Bool:=match (rr k x)[i]? with
 | none=>Zk
 | some y=>Zm (y<64)&&Zm (LI (x:Int) (y:Int)=i+1)&&(if k%2=0 then yd (x:Int) (y:Int)else yg (x:Int) (y:Int))&&(h_ (i+1)).all λj=>Zm ((rr k x)[j]?=S (pI (x:Int) (y:Int) (j+1)).toNat)
def Dm:∀k,k<8->∀x,x<64->∀i,i<8->C6 k x i=Zk:=WS
theorem il(s:yZ):∀n x,(nv s n x).length<=n
 | 0,_=>Zy
 | n+1,x=>by
  unfold nv;split
  .rw[Yq];have:=il s n (nx x s);omega
  simp
def GA:∀x,x<64->∀y,y<64->yd ((x:Nat):Int) ((y:Nat):Int)=Zk->([0,2,4,6].any λk=>(rr k x).contains y)=Zk:=WS
def GB:∀x,x<64->∀y,y<64->yg ((x:Nat):Int) ((y:Nat):Int)=Zk->([1,3,5,7].any λk=>(rr k x).contains y)=Zk:=WS
def yQ(p:Nat):UInt8:=xU.getD p 0
def sW:∀n:Nat,n<256->∀p:Nat,p<12->jB (j_ n)=(p:Int)->j_ n=yQ p:=WS
def jn{c:UInt8}{p:Nat}(a:p<12)(h:jB c=(p:Int)):c=yQ p:=by have:=sW c.toNat c.toNat_lt p a;exact IE
def vx(i:Nat):Bool:=i==2||i==3||i==4
def pN(s:yZ):yZ:=(-s.1,-s.2)
def FU(i k:Nat):Bool:=if k%2=0 then(i==3||i==4)else(i==2||i==4)
def uv:∀p,p<12->dx (yQ p)=vx (p%6):=WS
def qjz:∀p,p<12->vx (p%6)=Zk->∀k,k<16->ki (yQ p) (jU k)=(Zm (k<8)&&FU (p%6) k)/\ki (yQ p) (pN (jU k))=(Zm (k<8)&&FU (p%6) k):=WS
def gG(p:Nat)(x y:Int):Bool:=xS (λ_=>46) (p%6) (if p<6 then 1 else -1) x y
def D4:∀p,p<12->vx (p%6)=Zl->∀k,k<16->∀x:Nat,x<64->(ki (yQ p) (jU k)&&pM x (jU k))=Zk->gG p (x:Int) (nx x (jU k):Nat)=Zk:=WS
def D1:∀p,p<12->vx (p%6)=Zl->∀k,k<16->∀x:Nat,x<64->(ki (yQ p) (pN (jU k))&&pM x (jU k))=Zk->gG p (nx x (jU k):Nat) (x:Int)=Zk:=WS
def D3:∀p,p<12->vx (p%6)=Zl->∀x,x<64->∀y,y<64->gG p ((x:Nat):Int) ((y:Nat):Int)=Zk->((h_ 16).any λk=>ki (yQ p) (jU k)&&pM x (jU k)&&Zm (nx x (jU k)=y))=Zk:=WS
def D0:∀p,p<12->vx (p%6)=Zl->∀x,x<64->∀y,y<64->gG p ((y:Nat):Int) ((x:Nat):Int)=Zk->((h_ 16).any λk=>ki (yQ p) (pN (jU k))&&pM x (jU k)&&Zm (nx x (jU k)=y))=Zk:=WS
def BU:∀n,n<256->ew (j_ n)=Zk->∀b:Bool,kw (j_ n) b=Zm (vB (j_ n)=xK b):=WS
def rt{c:UInt8}(h:ew c=Zk)(b:Bool):kw c b=Zm (vB c=xK b):=by have:=BU c.toNat c.toNat_lt;rw[UInt8.ofNat_toNat]at this;exact this h b
def GC{s:yZ}(h:pM x s=Zk):nx x s<64:=(sK h).2
theorem re(s:yZ):∀n x,∀y∈nv s n x,y<64
 | 0,_,y,h=>by cases h
 | n+1,x,y,h=>by
  unfold nv at h;split at h
  .rename_i a;obtain rfl|h:=Yj.1 h
   .exact GC a
   exact re s n _ y h
  cases h
def Fh(k x:Nat):(rr k x)[0]?=if pM x (jU k)then S (nx x (jU k))else N:=by unfold rr nv;split<;>rfl
def rH{y:Nat}(d:k<8)(e:x<64)(h:(rr k x)[i]?=y):y<64/\LI (x:Int) (y:Int)=i+1/\(if k%2=0 then yd (x:Int) (y:Int)else yg (x:Int) (y:Int))=Zk/\∀j,j<=i->(rr k x)[j]?=S (pI (x:Int) (y:Int) (j+1)).toNat:=by
 have b:i<8:=by have a:=(Z5.1 h).1;have f:=il (jU k) 8 x;unfold rr at a;omega
 have:=Dm k d x e i b;unfold C6 at this;rw[h]at this;simp only[qH,qG,qW,qK]at this;exact⟨this.1.1.1,this.1.1.2,this.1.2,λj g=>this.2 j O⟩
def qkk{y:Nat}(g:k<8)(m:x<64):y∈kq z (jU k) x↔y∈rr k x/\B_ (zI z) (pI (x:Int) (y:Int)) (LI (x:Int) (y:Int))=Zk:=by
 have b:∀v,z v=46↔zI z v=46:=λv=>by
  unfold zI;constructor
  .intro h;rw[h];rfl
  intro h;apply q6.1;have:(z v).toNat=46:=O;rw[this];rfl
 rw[kq,uH,ul];rw[B_,qG];constructor
 .rintro⟨i,a,f⟩;obtain⟨n,o,p,e⟩:=rH g m a;refine⟨List.mem_iff_getElem?.2 ⟨i,a⟩,λt r u=>?_⟩;have d:=e (t-1) O;rw[show t-1+1=t from O]at d;exact(b _).1 (f (t-1) O _ d)
 rintro⟨a,f⟩;obtain⟨i,a⟩:=List.mem_iff_getElem?.1 a;obtain⟨n,o,p,e⟩:=rH g m a;refine⟨i,a,λj q v l=>?_⟩;have d:=e j O;rw[show nv (jU k) 8 x=rr k x from R,d]at l;rw[<-qP l];exact(b _).2 (f (j+1) O O)
def dw{y:Nat}{s:Int}(o:vx i=Zk)(e:x<64)(l:y<64):(∃k,k<8/\FU i k=Zk/\y∈kq z (jU k) x)↔xS (zI z) i s (x:Int) (y:Int)=Zk:=by
 have n:xS (zI z) i s (x:Int) (y:Int)=(((i==3||i==4)&&yd (x:Int) (y:Int)||(i==2||i==4)&&yg (x:Int) (y:Int))&&B_ (zI z) (pI (x:Int) (y:Int)) (LI (x:Int) (y:Int))):=by
  have:i=2\/i=3\/i=4:=by simp[vx]at o;omega
  rcases this with rfl|rfl|rfl<;>simp[xS]
 rw[n,qH,Ym,qH,qH];constructor
 .rintro⟨k,d,h,f⟩;obtain⟨q,r⟩:=(qkk d e).1 f;obtain⟨j,p⟩:=List.mem_iff_getElem?.1 q;obtain⟨u,v,g,w⟩:=rH d e p;refine⟨?_,r⟩;unfold FU at h;split at h
  .rename_i b;rw[qI b]at g;exact Zi ⟨h,g⟩
  rename_i b;rw[qF b]at g;exact Zj ⟨h,g⟩
 rintro⟨m,b⟩;obtain⟨p1,p2⟩|⟨p1,p2⟩:=m
 .obtain⟨k,d,f⟩:=qY.1 (GA x e y l p2);have a:k<8/\k%2=0:=U2;exact⟨k,a.1,by rw[FU,qI a.2];exact p1,(qkk a.1 e).2 ⟨Uq,b⟩⟩
 obtain⟨k,d,f⟩:=qY.1 (GB x e y l p2);have a:k<8/\¬(k%2=0):=U2;exact⟨k,a.1,by rw[FU,qF a.2];exact p1,(qkk a.1 e).2 ⟨Uq,b⟩⟩
def qki{p:Nat}(f:p<12)(h:vx (p%6)=Zl)(a:Bool)(b:p/6=bg a/6)(x y:Int):gG p x y=xS (zI z) (p%6) (xK a) x y:=by
 have d:(if p<6 then(1:Int)else -1)=xK a:=by
  cases a
  .rw[qF (by simp[bg]at b;omega)];rfl
  rw[qI (by simp[bg]at b;omega)];rfl
 rw[gG,d];have:p%6=0\/p%6=1\/p%6=5:=by simp[vx]at h;omega
 rcases this with e|e|e<;>(rw[e];simp[xS])
def gy(z:I2)(s:yZ)(x:Nat):(kq z s x).take 1=if pM x s then[nx x s]else[]:=by unfold kq uW;split<;>rfl
def Dq(p:f<64){b:Bool}(A:i<6)(w:jB (z f)=((bg b+i:Nat):Int)){y:Nat}(r:y<64):y∈zU z f 16↔xS (zI z) i (xK b) (f:Int) (y:Int)=Zk:=by
 have v:bg b=0\/bg b=6:=Tw;have j:bg b+i<12:=O;have n:=jn j w;have g:(bg b+i)%6=i:=O;have x:(bg b+i)/6=bg b/6:=O;rw[zU,YX];cases a:vx i with
 | true=>
  rw[<-dw (s:=xK b) a p r];have e:=uv (bg b+i) j;have o:=qjz (bg b+i) j Oh;rw[g]at e o;constructor
  .rintro⟨k,d,h⟩;have d:=qK.1 d;unfold yj at h;rw[n,(o k d).1,e,a,qI R]at h;split at h
   .rename_i m;rw[qH,qG]at m;exact⟨k,m.1,m.2,h⟩
   cases h
  rintro⟨k,d,u,l⟩;refine⟨k,qK.2 O,?_⟩;rw[yj,n,(o k O).1,e,a,qI (by rw[u];simp[d]),qI R];exact l
 | false=>
  rw[<-g,<-qki j Oh b x];have e:=uv (bg b+i) j;rw[g]at e;constructor
  .rintro⟨k,d,h⟩;have d:=qK.1 d;unfold yj at h;rw[n,e,a,gy]at h;split at h
   .rename_i m;rw[qF WU]at h;split at h
    .rename_i q;rw[qT.1 h];exact D4 _ j Oh k d f p (by rw[m,q];rfl)
    cases h
   cases h
  intro h;obtain⟨k,d,l⟩:=qY.1 (D3 _ j Oh f p y r h);simp only[qH,qG]at l;refine⟨k,d,?_⟩;rw[yj,n,e,a,gy,qI l.1.1,qF WU,qI l.1.2,l.2];exact qT.2 R
def qkz(a:xO z=Zk)(h:i<6)(b:i≠0){s t:Int}{y:Nat}(d:x<64)(e:y<64):xS (zI z) i s (x:Int) (y:Int)=xS (zI z) i t (y:Int) (x:Int):=by
 have f:=F3 a Zk i h y x e d;have g:=F3 a Zk i h x y d e;have j:kh Zk i=i+2:=by rw[kh,qF b]
 rw[j]at f g;rw[FI _ i b s (xK Zk),FI _ i b t (xK Zk),<-f,<-g];exact px (i+2) y x O O e d _
def ji(a:xO z=Zk)(b:n<64):ew (z n)=Zk:=by unfold xO at a;exact qW.1 a n (qK.2 b)
def jk(o:xO z=Zk)(y:x<64)(d:Bool):vL z x d=zM z (x:Int) d:=by
 have V:bg d=0\/bg d=6:=by cases d<;>simp[bg]
 rw[YW];unfold vL zM;rw[qY,qY];constructor
 .rintro⟨k,r,h⟩;have r:=qK.1 r;unfold kq at h;rw[uH]at h;obtain⟨i,n,p,q,H⟩:=(uq z d (jU k) _ Zl).1 h;have l:n<64:=re (jU k) 8 x n (List.mem_iff_getElem?.2 ⟨i,p⟩);unfold fQ at H;rw[qH,qH,rt (ji o l),qG]at H;obtain⟨⟨C,B⟩,v⟩:=H;refine⟨n,qK.2 l,?_⟩;rw[qH,qG];refine⟨C,?_⟩;obtain⟨g,w,F,G⟩:=zq C;rw[G];have m:bg d+g<12:=O;have D:=jn m F;have b:(bg d+g)%6=g:=O;have E:=uv (bg d+g) m;rw[D,show((-(jU k).1,-(jU k).2):yZ)=pN (jU k)from R]at B;rw[D]at v;cases a:vx g with
  | true=>
   have P:=(qjz (bg d+g) m Uf k r).2;rw[P,b,qH,qG]at B;have f:n∈kq z (jU k) x:=(by rw[kq,uH];exact(ul z n _).2 ⟨i,p,q⟩);rw[qkz o w (by simp[vx]at a;omega) (t:=xK d) l y];exact(dw a y l).1 ⟨k,B.1,B.2,f⟩
  | false=>
   rw[E,b,a]at v
   have J:i=0:=by
    obtain e|e:=Nat.eq_zero_or_pos i
    .exact e
    simp[e]at v
   subst J;rw[show nv (jU k) 8 x=rr k x from R,Fh]at p;split at p
   .rename_i T;have K:=qP p;have:=D1 _ m Uf k r x y (by rw[B,T];rfl);rw[K,qki (z:=z) m Uf d O,b]at this;exact this
   cases p
 rintro⟨n,l,h⟩;have l:=qK.1 l;rw[qH,qG]at h;obtain⟨C,A⟩:=h;obtain⟨g,w,F,G⟩:=zq C;rw[G]at A;have m:bg d+g<12:=O;have D:=jn m F;have b:(bg d+g)%6=g:=O;have E:=uv (bg d+g) m;rw[b]at E;have u:kw (z n) d=Zk:=by rw[rt (ji o l)];exact qJ C
 cases a:vx g with
 | true=>
  rw[qkz o w (by simp[vx]at a;omega) (t:=xK d) l y]at A;obtain⟨k,r,M,f⟩:=(dw a y l).2 A;have P:=(qjz (bg d+g) m Uf k O).2;refine⟨k,qK.2 O,?_⟩;unfold kq at f|-;rw[uH]at f|-;obtain⟨i,p,q⟩:=(ul z n _).1 f;refine(uq z d (jU k) _ Zl).2 ⟨i,n,p,q,?_⟩;rw[fQ,u,D,show((-(jU k).1,-(jU k).2):yZ)=pN (jU k)from R,P,b,M,E,a];simp[r]
 | false=>
  rw[<-b,<-qki m Uf d O]at A;obtain⟨k,r,q⟩:=qY.1 (D0 _ m Uf x y n l A);simp only[qH,qG]at q;refine⟨k,r,?_⟩;rw[kq,uH];refine(uq z d (jU k) _ Zl).2 ⟨0,n,?_,λj Q=>w_ Q (Yy j),?_⟩
  .rw[show nv (jU k) 8 x=rr k x from R,Fh,qI q.1.2,q.2]
  rw[fQ,u,D,show((-(jU k).1,-(jU k).2):yZ)=pN (jU k)from R,q.1.1];simp
structure kJ(z:I2)(wh:Bool)(fc:I5)(b:Int):Prop where
 ok:xO z=Zk
 k1:∀bb,vZ z bb 64=1
 pw:∀bb:Bool,∀n,n<64->jB (z n)=((bg bb:Nat):Int)->¬(n/8=0\/n/8=7)
 c0:fc 0=Zk->z 4=75/\z 7=82
 c1:fc 1=Zk->z 4=75/\z 0=82
 c2:fc 2=Zk->z 60=107/\z 63=114
 c3:fc 3=Zk->z 60=107/\z 56=114
 beh:xX z wh b=Zk
def uc{c:UInt8}{n:Int}{d:UInt8}(h:(c.toNat:Int)=n)(a:(d.toNat:Int)=n):c=d:=q6.1 O
def qkv{g:Int}(l:k6 z wh fc b h g=Zk):kJ z wh fc b:=by
 unfold k6 cK at l;simp only[qH]at l;obtain⟨m,⟨⟨⟨⟨A,B⟩,r⟩,u⟩,_⟩,_⟩:=l;have q:∀f,vM (xD z 64) f=Zk:=λf=>by cases f<;>assumption
 have e:∀i,i<4->zX z fc i=Zk:=λi y=>qW.1 r i (qK.2 y);have j:∀o n rs p k (a d:UInt8),(a.toNat:Int)=n->(d.toNat:Int)=p->xN z fc o n rs p k=Zk->fc k=Zk->z o=a/\z rs=d:=by intro o n rs p k a d v w h x;unfold xN at h;rw[x]at h;simp only[Bool.not_true,Xo,qH,qG]at h;exact⟨uc h.1 v,uc h.2 w⟩
 refine⟨m,λf=>?_,λf=>?_,j _ _ _ _ _ _ _ R R (e 0 O),j _ _ _ _ _ _ _ R R (e 1 O),j _ _ _ _ _ _ _ R R (e 2 O),j _ _ _ _ _ _ _ R R (e 3 O),u⟩
 .have:=q f;unfold vM at this;simp only[qH,qG]at this;have h:=this.1.1;rw[qxu]at h;omega
 have:=q f;unfold vM at this;simp only[qH,qG]at this;exact(Ft z f).1 this.2
def d7(a:xO z=Zk)(b:n<64):(j0 (xD z 64)).getLsbD n=!(z n==46):=by
 rw[pi z n b];have h:=ji a b;rw[bf]at h;cases d:(z n==46)with
 | true=>
  have:z n=46:=VG
  rw[this];decide +kernel
 | false=>rw[d,Xo]at h;simpa using h
def Dr(m:I8)(wh:Bool):xZ m wh|||xZ m (!wh)=j0 m:=by
 cases wh
 .exact BitVec.or_comm _ _
 rfl
def qzb(a:xO z=Zk)(j:i<6){t:Nat}(b:f<64)(d:t<64):(jW (v7 wh i) f (j0 (xD z 64))).getLsbD t=xS (zI z) i (xK wh) (f:Int) (t:Int):=by
 by_cases h:i=0
 .subst h;cases wh
  .show(jW 2 f _).getLsbD t=_;have e:jW 2 f (j0 (xD z 64))=FX f:=R;rw[e,wE f b t d];rfl
  show(jW 1 f _).getLsbD t=_;have e:jW 1 f (j0 (xD z 64))=E4 f:=R;rw[e,oL f b t d];rfl
 have l:v7 wh i=i+2:=by rw[v7,qF h]
 have k:=F3 a Zk i j f t b d;have g:kh Zk i=i+2:=by rw[kh,qF h]
 rw[l,<-g,k];exact qkz a j h d b
def qkh(s:BitVec 64)(a:n<64):(~~~s).getLsbD n=!(s.getLsbD n):=by rw[BitVec.getLsbD_not];simp[a]
def dZ(a:xO z=Zk)(wh:Bool)(b:n<64):(xZ (xD z 64) wh).getLsbD n=kw (z n) wh:=by rw[qjt z wh n b,rt (ji a b)]
def Dz:∀p,p<12->jD (yQ p)=Zm (p%6=0)/\jA (yQ p)=Zm (p%6=5):=WS
def zj(d:i<6)(b:jB (z f)=((bg wh+i:Nat):Int)):jD (z f)=Zm (i=0)/\jA (z f)=Zm (i=5):=by have a:bg wh=0\/bg wh=6:=UM;rw[jn O b];have:=Dz (bg wh+i) O;rwa[show(bg wh+i)%6=i from O]at this
def oe(a:xO z=Zk){t:Nat}(h:i≠0)(j:i≠5)(e:i<6)(l:f<64)(d:t<64)(k:jB (z f)=((bg wh+i:Nat):Int)):t∈yF z wh fc b f↔(kN (xD z 64) wh (xZ (xD z 64) wh) (xZ (xD z 64) (!wh)) (vV b) fc i (v7 wh i) f).getLsbD t=Zk:=by obtain⟨g,m⟩:=zj e k;rw[qE h]at g;rw[qE j]at m;unfold yF kN;rw[g,m,qF h,qF j,Dr,Yl,qzb a e l d,qkh _ d,dZ a wh d,qH,<-Dq l e k d];simp only[qR,YH,Yh,qV];rw[yG,g,qF WU]
def fw(wh:Bool)(f k:Nat):Nat:=if wh then f+8*k else f-8*k
def vQ(wh:Bool)(f:Nat):Bool:=Zm (f/8=(if wh then 1 else 6))
def oB(z:I2)(wh:Bool)(f t:Nat):Prop:=(t=fw wh f 1/\z (fw wh f 1)=46)\/(vQ wh f=Zk/\t=fw wh f 2/\z (fw wh f 1)=46/\z (fw wh f 2)=46)
def HC:∀wh:Bool,∀f,f<64->(Zm (f/8=0)||decide (f/8=7))=Zl->pM f (0,uM wh)=Zk/\nx f (0,uM wh)=fw wh f 1:=WS
def Ex:∀wh:Bool,∀f,f<64->vQ wh f=Zk->pM (fw wh f 1) (0,uM wh)=Zk/\nx (fw wh f 1) (0,uM wh)=fw wh f 2:=WS
def iS(z:I2)(s:yZ)(n x:Nat):uW z s (n+1) x=if pM x s then nx x s::(if z (nx x s)=46 then uW z s n (nx x s)else[])else[]:=R
def Fq{t:Nat}(g:f<64)(j:¬(f/8=0\/f/8=7)):t∈cW z (yx wh f) (kq z (0,uM wh) f)↔oB z wh f t:=by
 obtain⟨m,k⟩:=HC wh f g (by simpa using j);have h:kq z (0,uM wh) f=fw wh f 1::(if z (fw wh f 1)=46 then uW z (0,uM wh) 7 (fw wh f 1)else[]):=by show uW z (0,uM wh) (7+1) f=_;rw[iS,qI m,k]
 unfold cW oB;rw[h];by_cases a:z (fw wh f 1)=46
 .rw[qI a];cases b:vQ wh f with
  | false=>
   have e:yx wh f=1:=(by unfold yx;unfold vQ at b;rw[qF VE]);rw[e];simp[a]
  | true=>
   have e:yx wh f=2:=(by unfold yx;unfold vQ at b;rw[qI VE]);obtain⟨o,l⟩:=Ex wh f g b;have i:uW z (0,uM wh) 7 (fw wh f 1)=fw wh f 2::(if z (fw wh f 2)=46 then uW z (0,uM wh) 6 (fw wh f 2)else[]):=(by show uW z (0,uM wh) (6+1) (fw wh f 1)=_;rw[iS,qI o,l]);rw[e,i];by_cases d:z (fw wh f 2)=46
   .simp[a,d]
   simp[a,d]
 rw[qF a];have:((List.take (yx wh f) [fw wh f 1]).takeWhile λv=>z v==46)=[]:=by
  cases yx wh f with
  | zero=>rfl
  | succ n=>simp[a]
 rw[this];simp[a]
def sF:∀f,f<64->∀t,t<64->(pK (1#64<<<f) (yV Zk)).getLsbD t=Zm (t=f+8):=WS
def sG:∀f,f<64->∀t,t<64->(pK (1#64<<<f) (yV Zl)).getLsbD t=Zm (t+8=f):=WS
def AY:∀t,t<64->(uB Zk).getLsbD t=Zm (t/8=2):=WS
def AZ:∀t,t<64->(uB Zl).getLsbD t=Zm (t/8=5):=WS
def oT(s:BitVec 64){t:Nat}(a:t<64):(pK s (yV Zk)).getLsbD t=(!decide (t<8)&&s.getLsbD (t-8)):=by show(s<<<8).getLsbD t=_;rw[BitVec.getLsbD_shiftLeft];simp[a]
def oU(s:BitVec 64)(t:Nat):(pK s (yV Zl)).getLsbD t=s.getLsbD (8+t):=by show(s>>>8).getLsbD t=_;rw[BitVec.getLsbD_ushiftRight]
def Cr(o:xO z=Zk){t:Nat}(k:f<64)(h:t<64)(u:¬(f/8=0\/f/8=7)):(k7 wh (xZ (xD z 64) wh) (xZ (xD z 64) (!wh)) f).getLsbD t=Zk↔oB z wh f t:=by
 unfold k7 iv;rw[Dr];have j:∀n,n<64->((~~~(j0 (xD z 64))).getLsbD n=Zk↔z n=46):=λn r=>by rw[qkh _ r,d7 o r,Bool.not_not,YF]
 unfold oB;cases wh
 .rw[Yx,Yl,Yl,sG f k t h,oU,Yl,Yl];have p:vQ Zl f=Zm (f/8=6):=R;have l:fw Zl f 1=f-8:=R;have m:fw Zl f 2=f-16:=R;rw[p,l,m];by_cases i:8+t<64
  .rw[sG f k (8+t) i,AZ (8+t) i];simp only[Ym,qH,qG,j t h,j (8+t) i];constructor
   .rintro(⟨a,b⟩|⟨⟨⟨a,b⟩,c⟩,d⟩)
    .left;have:f-8=t:=O;rw[this];exact⟨R,b⟩
    right;have e:f-8=8+t:=O;have g:f-16=t:=O;rw[e,g];exact⟨O,R,b,d⟩
   rintro(⟨a,b⟩|⟨a,b,c,d⟩)
   .left;rw[<-a]at b;exact⟨O,b⟩
   right;have e:f-8=8+t:=O;have g:f-16=t:=O;rw[e]at c;rw[g]at d;exact⟨⟨⟨O,c⟩,O⟩,d⟩
  have q:(pK (1#64<<<f) (yV Zl)).getLsbD (8+t)=Zl:=BitVec.getLsbD_of_ge _ _ O;rw[q];simp only[XK,Bool.or_false,qH,qG,j t h];exact ID
 rw[Yx,Yl,Yl,sF f k t h,oT _ h,Yl,Yl];have p:vQ Zk f=Zm (f/8=1):=R;have l:fw Zk f 1=f+8:=R;have m:fw Zk f 2=f+16:=R;rw[p,l,m];by_cases i:t<8
 .simp only[i,decide_true,Bool.not_true,XK,Bool.or_false,qH,qG,j t h];exact ID
 rw[sF f k (t-8) O,AY (t-8) O];simp only[i,decide_false,X3,Xc,Ym,qH,qG,j t h,j (t-8) O];constructor
 .rintro(⟨a,b⟩|⟨⟨⟨a,b⟩,c⟩,d⟩)
  .left;rw[<-a];exact⟨R,b⟩
  right;have e:f+8=t-8:=O;have g:f+16=t:=O;rw[e,g];exact⟨O,R,b,d⟩
 rintro(⟨a,b⟩|⟨a,b,c,d⟩)
 .left;rw[<-a]at b;exact⟨a,b⟩
 right;have e:f+8=t-8:=O;have g:f+16=t:=O;rw[e]at c;rw[g]at d;exact⟨⟨⟨O,c⟩,O⟩,d⟩
def lU(d:-1<=b)(e:b<=63){t:Nat}(a:t<64):(vV b).getLsbD t=((t:Int)==b):=by
 unfold vV;split
 .rw[ze b.toNat O t a];rw[YW,qG,YF];omega
 rw[XM];symm;rw[qM];omega
def lw(j:kJ z wh fc b)(l:-1<=b)(m:b<=63){t:Nat}(d:f<64)(e:t<64)(g:jB (z f)=((bg wh:Nat):Int)):t∈yF z wh fc b f↔(kN (xD z 64) wh (xZ (xD z 64) wh) (xZ (xD z 64) (!wh)) (vV b) fc 0 (v7 wh 0) f).getLsbD t=Zk:=by have a:=j.ok;have k:=j.pw wh f d g;obtain⟨h,n⟩:=zj (i:=0) O g;rw[qJ R]at h;unfold yF kN;rw[h,qI R,qI R,Yi,Yx,Ym,Fq d k,Cr a d e k,Dr,Yl,qzb a O d e,Yx,dZ a (!wh) e,lU l m e,qH,qV,<-Dq d (i:=0) O g e];rw[yG,h,qI R,Bool.or_comm]
def FO{a:Bool}(h:vZ z a 64=1)(k:f<64)(l:g<64)(i:jB (z f)=((bg a+5:Nat):Int))(j:jB (z g)=((bg a+5:Nat):Int)):f=g:=by
 obtain⟨y,o,m,_⟩:=js h;have b:∀n,n<64->jB (z n)=((bg a+5:Nat):Int)->n=y:=λn d e=>by
  have:n∈vD (xD z 64 (bg a+5)):=by rw[vD,qV,qK,vH z _ n d];exact⟨d,qJ e⟩
  rw[m]at this;exact qT.1 this
 rw[b f k i,b g l j]
def hK(i:Nat):Nat:=if i<2 then 4 else 60
def hD(i:Nat):Int:=if i%2=0 then 1 else -1
def hN(i:Nat):Nat:=if i%2=0 then 2 else 3
def co:∀i,i<4->∀n,n<64->(yX i).getLsbD n=((h_ (hN i)).any λj=>Zm (kC (hK i) (hD i) (j+1)=n)):=WS
def eD:∀i,i<4->∀j,j<5->(j<hN i+1)->kC (hK i) (hD i) j<64:=WS
def Cz:∀i,i<4->∀y,y<64->(yW i).getLsbD y=((h_ 3).any λj=>Zm (kC (hK i) (hD i) j=y)):=WS
def aV(a:xO z=Zk)(g:i<4)(u:wh=Zm (i<2)):yD (xD z 64) wh (xZ (xD z 64) wh) (xZ (xD z 64) (!wh)) fc i=(fc i&&az z wh (hK i) (hD i) (hN i)):=by
 have m:Zm (j0 (xD z 64)&&&yX i=0#64)=wn z (hK i) (hD i) (hN i):=by
  rw[YW,qG,qkw];rw[wn,qW];constructor
  .intro h j b;have b:=qK.1 b;have p:hN i<=3:=Ob;have d:=eD i g (j+1) O O;have:=h _ d;rw[Yl,d7 a d,co i g _ d]at this;have k:((h_ (hN i)).any λv=>Zm (kC (hK i) (hD i) (v+1)=kC (hK i) (hD i) (j+1)))=Zk:=qY.2 ⟨j,qK.2 b,WU⟩;rw[k,Wl]at this;exact OY
  intro h n l;rw[Yl,co i g n l];cases q:((h_ (hN i)).any λj=>Zm (kC (hK i) (hD i) (j+1)=n))with
  | false=>rw[XU]
  | true=>
   obtain⟨j,b,e⟩:=qY.1 q;rw[qG]at e;have:=h j b;rw[e]at this;rw[d7 a l,this];rfl
 have o:(!(uG (xD z 64) (yW i) wh))=DD z wh (hK i) (hD i):=by
  unfold uG DD;rw[YW,YK,XD,qW];constructor
  .intro h j b;have b:=qK.1 b;have d:=eD i g j O Ob;have r:kC (hK i) (hD i) j∈vD (yW i):=(by rw[vD,qV,qK,Cz i g _ d];exact⟨d,qY.2 ⟨j,qK.2 b,WU⟩⟩);have:=h _ r;rw[xu a _ _ d,<-jk a d]at this;exact OY
  intro h y f;unfold vD at f;rw[qV,qK]at f;rw[Cz i g y f.1]at f;obtain⟨j,b,e⟩:=qY.1 f.2;rw[qG]at e;have:=h j b;rw[e]at this;rw[xu a _ _ f.1,<-jk a f.1];exact OY
 unfold yD az;rw[Dr,m,o,u];simp[Bool.and_assoc]
def nF(m:I8)(wh:Bool)(own a:BitVec 64)(fc:I5){t:Nat}(d:t<64):(kp m wh own a fc 4).getLsbD t=((h_ 4).any λi=>yD m wh own a fc i&&Zm (t=xE i)):=by
 have b:∀i,xE i<64:=λi=>Oa;have step:∀k,(kp m wh own a fc (k+1)).getLsbD t=((kp m wh own a fc k).getLsbD t||(yD m wh own a fc k&&Zm (t=xE k))):=λk=>by
  show(if yD m wh own a fc k then kp m wh own a fc k|||1#64<<<xE k else kp m wh own a fc k).getLsbD t=_;cases h:yD m wh own a fc k
  .simp
  rw[qI R,Yx,ze _ (b k) t d,Xc]
 rw[step,step,step,step];show((((0#64).getLsbD t||_)||_)||_||_)=_;rw[XM];simp[YI,Bool.or_assoc]
def FK(a:kJ z wh fc b)(i:f<64)(g:jB (z f)=((bg wh+5:Nat):Int)):(fc (jC wh)=Zk->f=hK (jC wh))/\(fc (jC wh+1)=Zk->f=hK (jC wh+1)):=by
 have e:jB 75=((bg Zk+5:Nat):Int):=WS;have d:jB 107=((bg Zl+5:Nat):Int):=WS;cases wh
 .exact⟨λh=>FO (a.k1 Zl) i WW g (by rw[show hK (jC Zl)=60 from R,(a.c2 h).1];exact d),λh=>FO (a.k1 Zl) i WW g (by rw[show hK (jC Zl+1)=60 from R,(a.c3 h).1];exact d)⟩
 exact⟨λh=>FO (a.k1 Zk) i WW g (by rw[show hK (jC Zk)=4 from R,(a.c0 h).1];exact e),λh=>FO (a.k1 Zk) i WW g (by rw[show hK (jC Zk+1)=4 from R,(a.c1 h).1];exact e)⟩
def tp(j:kJ z wh fc b){t:Nat}(r:f<64)(u:t<64)(q:jB (z f)=((bg wh+5:Nat):Int)):t∈uz z wh fc f++pA z wh fc f↔(kp (xD z 64) wh (xZ (xD z 64) wh) (xZ (xD z 64) (!wh)) fc 4).getLsbD t=Zk:=by
 obtain⟨n,o⟩:=FK j r q;have l:∀i,wh≠Zm (i<2)->yD (xD z 64) wh (xZ (xD z 64) wh) (xZ (xD z 64) (!wh)) fc i=Zl:=λi h=>by unfold yD;have:(wh==Zm (i<2))=Zl:=qM.2 h;rw[this];simp
 rw[nF _ _ _ _ _ u,Yi];have hR:t∈uz z wh fc f↔(fc (jC wh)&&az z wh (hK (jC wh)) (hD (jC wh)) (hN (jC wh)))=Zk/\t=xE (jC wh):=by
  unfold uz;cases g:fc (jC wh)with
  | false=>simp
  | true=>
   have:=n g;subst this;have e:hK (jC wh)+2=xE (jC wh)/\hD (jC wh)=1/\hN (jC wh)=2:=Vn
   rw[e.1,e.2.1,e.2.2];split
   .rename_i d;rw[d];simp
   rename_i d;simp only[XH]at d;rw[d];simp
 have p:t∈pA z wh fc f↔(fc (jC wh+1)&&az z wh (hK (jC wh+1)) (hD (jC wh+1)) (hN (jC wh+1)))=Zk/\t=xE (jC wh+1):=by
  unfold pA;cases g:fc (jC wh+1)with
  | false=>simp
  | true=>
   have:=o g;subst this;have e:hK (jC wh+1)-2=xE (jC wh+1)/\hD (jC wh+1)=-1/\hN (jC wh+1)=3:=Vn
   rw[e.1,e.2.1,e.2.2];split
   .rename_i d;rw[d];simp
   rename_i d;simp only[XH]at d;rw[d];simp
 rw[hR,p,<-aV j.ok Vn RA,<-aV j.ok Vn RA];rw[qY];constructor
 .rintro(⟨a,e⟩|⟨a,e⟩)
  .exact⟨jC wh,Vn,by rw[a,e];simp⟩
  exact⟨jC wh+1,Vn,by rw[a,e];simp⟩
 rintro⟨i,m,h⟩;rw[qH,qG]at h;have m:=qK.1 m;by_cases k:wh=Zm (i<2)
 .have:i=jC wh\/i=jC wh+1:=by
   cases wh
   .have:¬i<2:=(by simpa using k.symm);show i=2\/i=3;omega
   have:i<2:=(by simpa using k.symm);show i=0\/i=1;omega
  obtain e|e:=this
  .rw[e]at h;exact Zi h
  rw[e]at h;exact Zj h
 rw[l i k]at h;exact w_ h.1 WU
def lz(k:kJ z wh fc b){t:Nat}(h:f<64)(d:t<64)(e:jB (z f)=((bg wh+5:Nat):Int)):t∈yF z wh fc b f↔(kN (xD z 64) wh (xZ (xD z 64) wh) (xZ (xD z 64) (!wh)) (vV b) fc 5 (v7 wh 5) f).getLsbD t=Zk:=by have a:=k.ok;obtain⟨j,l⟩:=zj (i:=5) O e;rw[qE O]at j;rw[qJ R]at l;have g:=tp k h d e;unfold yF kN;rw[j,l,qF WU,qI R,qF O,qI R,Yi,Yx,Ym,g,Dr,Yl,qzb a O h d,qkh _ d,dZ a wh d,qH,qV,<-Dq h (i:=5) O e d];rw[yG,j,qF WU]
def ph(a:kJ z wh fc b)(k:-1<=b)(l:b<=63){t:Nat}(m:i<6)(e:f<64)(g:t<64)(d:jB (z f)=((bg wh+i:Nat):Int)):t∈yF z wh fc b f↔(kN (xD z 64) wh (xZ (xD z 64) wh) (xZ (xD z 64) (!wh)) (vV b) fc i (v7 wh i) f).getLsbD t=Zk:=by
 by_cases h:i=0
 .subst h;exact lw a k l e g d
 by_cases j:i=5
 .subst j;exact lz a e g d
 exact oe a.ok h j m e g d
structure jY(z:I2)(wh:Bool)(b:Int)(i f t:Nat)(u:UInt8)(cs:Nat):Prop where
 hi:i<6
 hf:f<64
 ht:t<64
 hc:jB (z f)=((bg wh+i:Nat):Int)
 no:vB (z t)≠xK wh
 nep:¬(i=0/\(t:Int)=b)->cs=t
 ep:i=0->(t:Int)=b->z t=46/\cs<64/\cs=f/8*8+t%8/\(if wh then cs+8=t else cs=t+8)/\jB (z cs)=((bg (!wh):Nat):Int)
 tr:∃q,q<6/\jB (yH (z f) u)=((bg wh+q:Nat):Int)/\(q=5↔i=5)
def mM(wh:Bool):(bg wh=0/\bg (!wh)=6)\/(bg wh=6/\bg (!wh)=0):=UM
def ja{c:UInt8}{q:Nat}(a:q<6)(h:jB c=((bg wh+q:Nat):Int)):vB c=xK wh:=(qkr a h).1
def BC(wh:Bool):xK wh≠xK (!wh):=Vn
def xp:jB 46=-1:=uo
def DS(z:I2)(f t:Nat)(u:UInt8)(cs:Nat)(Z:I2):Prop:=∀n,Z n=if n=t then yH (z f) u else if n=f then 46 else if n=cs then 46 else z n
def iq{t cs:Nat}(h:jY z wh b i f t u cs)(l:i=5->t≠f+2/\t+2≠f):DS z f t u cs (zE z b (f,t,u)):=by
 intro n;obtain⟨q,p⟩:=zj h.hi h.hc;unfold zE;simp only;rw[q,p];by_cases a:i=0/\(t:Int)=b
 .obtain⟨j,k⟩:=a;obtain⟨x,d,m,o,w⟩:=h.ep j k;have g:cs≠t:=by cases wh<;>simp at o<;>omega
  rw[qI (by simp[j,k]),<-m];unfold vW;by_cases c1:n=t
  .subst c1;rw[qF (λe=>g e.symm),qI R,qI R]
  rw[qF c1,qF c1];by_cases c2:n=cs
  .rw[qI c2];by_cases c3:n=f
   .rw[qI c3]
   rw[qF c3,qI c2]
  rw[qF c2];by_cases c3:n=f
  .rw[qI c3,qI c3]
  rw[qF c3,qF c3,qF c2]
 have d:=h.nep a;rw[qF VS];have r:(Zm (i=5)&&(t==f+2))=Zl:=by
  by_cases e:i=5
  .simp[(l e).1]
  simp[e]
 have v:(Zm (i=5)&&(t+2==f))=Zl:=by
  by_cases e:i=5
  .simp[(l e).2]
  simp[e]
 rw[r,v,qF WU,qF WU];unfold vW;rw[d];by_cases c1:n=t
 .rw[qI c1,qI c1]
 rw[qF c1,qF c1,qF c1]
def wG(d:-1<=b)(e:b<=63){t:Nat}(a:t<64):1#64<<<t=vV b↔(t:Int)=b:=by
 constructor
 .intro h;have:=lU d e a;rw[<-h,ze t a t a]at this;simpa using this.symm
 intro h;rw[vV,qI O];congr 1;omega
def tD{t cs:Nat}(h:jY z wh b i f t u cs)(j:-1<=b)(l:b<=63)(m:n<64):(uL wh (vV b) i t).getLsbD n=Zm (n=cs):=by
 have d:=wG j l h.ht;unfold uL;by_cases a:i=0/\(t:Int)=b
 .rw[qI ⟨a.1,d.2 a.2⟩];obtain⟨r,o,p,g,q⟩:=h.ep a.1 a.2;rw[<-(wG j l h.ht).2 a.2];cases wh
  .show((1#64<<<t)<<<8).getLsbD n=_;simp at g;rw[BitVec.getLsbD_shiftLeft];by_cases e:n<8
   .simp[e];omega
   rw[ze t h.ht (n-8) O];rw[YW];simp[m,e];omega
  show((1#64<<<t)>>>8).getLsbD n=_;simp at g;rw[BitVec.getLsbD_ushiftRight];by_cases e:8+n<64
  .rw[ze t h.ht (8+n) e,YW,qG,qG];omega
  rw[BitVec.getLsbD_of_ge _ _ O];symm;rw[qX];have:=h.ht;omega
 rw[qF (λk=>a ⟨k.1,d.1 k.2⟩),ze t h.ht n m,h.nep a]
def jq{t cs:Nat}(h:jY z wh b i f t u cs)(g:-1<=b)(j:b<=63)(p:Nat)(a:n<64):(zV (xD z 64) wh (vV b) i f t p).getLsbD n=if p=bg wh+i then(Zm (jB (z n)=(p:Int)) ^^ (Zm (n=f)||decide (n=t)))else if bg (!wh)<=p/\p<bg (!wh)+6 then Zm (jB (z n)=(p:Int))&&!decide (n=cs)else Zm (jB (z n)=(p:Int)):=by
 have k:=mM wh;have l:=h.hi;unfold zV zS;by_cases e:p=bg wh+i
 .rw[qI e,qI e,qF O,BitVec.getLsbD_xor,Yx,ze f h.hf n a,ze t h.ht n a,vH z p n a]
 rw[qF e,qF e];by_cases d:bg (!wh)<=p/\p<bg (!wh)+6
 .rw[qI d,qI d,Yl,qkh _ a,tD h g j a,vH z p n a]
 rw[qF d,qF d,vH z p n a]
def jY.ft{t cs:Nat}(h:jY z wh b i f t u cs):f≠t:=by rintro rfl;exact h.no (ja h.hi h.hc)
section
variable {z:I2}{wh:Bool}{b:Int}{i f t cs:Nat}{u:UInt8}{Z:I2}
def jY.cf(h:jY z wh b i f t u cs):cs≠f:=by
 rintro rfl;by_cases a:i=0/\(t:Int)=b
 .obtain⟨m,d,e,g,j⟩:=h.ep a.1 a.2;have:=h.hc;have k:=mM wh;have l:=h.hi;omega
 exact h.ft (h.nep a)
def jY.cz(h:jY z wh b i f t u cs)(d:cs≠t):jB (z cs)=((bg (!wh):Nat):Int)/\z t=46:=by
 by_cases a:i=0/\(t:Int)=b
 .obtain⟨j,g,k,l,e⟩:=h.ep a.1 a.2;exact⟨e,j⟩
 exact w_ (h.nep a) d
def qzh(h:jY z wh b i f t u cs)(m:DS z f t u cs Z)(k:-1<=b)(l:b<=63)(v:j<6):zV (xD z 64) wh (vV b) i f t (bg (!wh)+j)=xD Z 64 (bg (!wh)+j):=by
 have p:=mM wh;have r:=h.hi;obtain⟨q,w,d,_⟩:=h.tr;have o:=h.hc;apply XF;intro n e;rw[jq h k l _ e,qF O,qI O,vH _ _ n e,m n];by_cases c1:n=t
 .subst c1;rw[qI R,d];have g:Zm (((bg wh+q:Nat):Int)=((bg (!wh)+j:Nat):Int))=Zl:=qE O;rw[g];by_cases a:cs=n
  .simp[a]
  have:=(h.cz a).2;rw[this,xp,qE O];rfl
 rw[qF c1];by_cases c2:n=f
 .subst c2;rw[qI R,xp,o,qE O,XK];symm;exact qE O
 rw[qF c2];by_cases c3:n=cs
 .rw[qI c3,xp,qJ c3,Bool.not_true,XU];symm;exact qE O
 rw[qF c3,qE c3];simp
theorem zd(m:Nat->BitVec 64)(base:Nat)(n:Nat):∀k,(wZ m base k).getLsbD n=(h_ k).any λj=>(m (base+j)).getLsbD n
 | 0=>by show(0#64).getLsbD n=_;rw[XM];rfl
 | k+1=>by
  show(wZ m base k|||m (base+k)).getLsbD n=_;rw[Yx,zd m base n k,YI,List.any_append];simp
def okZ(h:jY z wh b i f t u cs)(e:DS z f t u cs Z)(a:xO z=Zk):xO Z=Zk:=by
 obtain⟨q,j,d,_⟩:=h.tr;refine Fy λn g=>?_;rw[e n];split
 .rw[bf,d,Ym];right;exact qJ O
 split
 .rfl
 split
 .rfl
 exact ji a g
def bH(h:jY z wh b i f t u cs)(m:DS z f t u cs Z)(k:-1<=b)(l:b<=63):j0 (zV (xD z 64) wh (vV b) i f t)=j0 (xD Z 64):=by
 have C:=mM wh;have v:=h.hi;have A:=h.hc;obtain⟨q,B,r,_⟩:=h.tr;rw[<-Dr _ wh,<-Dr _ wh];have x:xZ (zV (xD z 64) wh (vV b) i f t) (!wh)=xZ (xD Z 64) (!wh):=by
  unfold xZ;apply XF;intro n g;rw[zd,zd,YW,qY,qY];constructor<;>rintro⟨j,d,a⟩<;>refine⟨j,d,?_⟩
  .rw[<-qzh h m k l (qK.1 d)];exact a
  rw[qzh h m k l (qK.1 d)];exact a
 have w:xZ (zV (xD z 64) wh (vV b) i f t) wh=xZ (xD Z 64) wh:=by
  unfold xZ;apply XF;intro n g;rw[zd,zd,YW,qY,qY];by_cases c1:n=t
  .subst c1;constructor
   .rintro _;refine⟨q,qK.2 B,?_⟩;rw[vH _ _ n g,m n,qI R,r];simp
   rintro _;refine⟨i,qK.2 v,?_⟩;rw[jq h k l _ g,qI R];have:jB (z n)≠((bg wh+i:Nat):Int):=λe=>h.no (ja v e);rw[qE this];simp
  by_cases c2:n=f
  .subst c2;constructor
   .rintro⟨j,d,a⟩;have d:=qK.1 d;rw[jq h k l _ g,A]at a;by_cases o:j=i
    .subst o;simp at a
    rw[qF O,qF O,qG]at a;omega
   rintro⟨j,d,a⟩;rw[vH _ _ n g,m n,qF c1,qI R,xp,qG]at a;omega
  constructor
  .rintro⟨j,d,a⟩;have p:=qK.1 d;refine⟨j,d,?_⟩;rw[jq h k l _ g]at a;have y:jB (z n)=((bg wh+j:Nat):Int):=by
    by_cases o:j=i
    .subst o;rw[qI R]at a;simpa[c1,c2]using a
    rw[qF O,qF O,qG]at a;exact a
   have c3:n≠cs:=(by rintro rfl;have:=(h.cz c1).1;omega);rw[vH _ _ n g,m n,qF c1,qF c2,qF c3];exact qJ y
  rintro⟨j,d,a⟩;have p:=qK.1 d;refine⟨j,d,?_⟩;rw[vH _ _ n g,m n,qF c1,qF c2]at a;by_cases c3:n=cs
  .rw[qI c3,xp,qG]at a;omega
  rw[qF c3,qG]at a;rw[jq h k l _ g,a];by_cases o:j=i
  .subst o;rw[qI R];simp[c1,c2]
  rw[qF O,qF O];simp
 rw[w,x]
def qz3{m m':I8}{a:Bool}(f:j0 m=j0 m')(d:∀j,j<6->m (bg a+j)=m' (bg a+j))(y:Int):xV m y a=xV m' y a:=by grind[xV,qY,uk,qK]
def qvs(h:jY z wh b i f t u cs)(v:DS z f t u cs Z)(p:-1<=b)(r:b<=63):zV (xD z 64) wh (vV b) i f t (bg wh+5)=xD Z 64 (bg wh+5):=by
 have y:=mM wh;have A:=h.hi;have w:=h.hc;obtain⟨q,B,g,a⟩:=h.tr;apply XF;intro n l;rw[jq h p r _ l,vH _ _ n l,v n];by_cases c1:n=t
 .subst c1;have d:∀j,j<6->jB (z n)≠((bg wh+j:Nat):Int):=λj x e=>h.no (ja x e);rw[qI R,g,qE (d 5 O)];by_cases e:i=5
  .rw[qI O,a.2 e];simp
  rw[qF O,qF O];symm;exact qE (by have:q≠5:=λk=>e (a.1 k);omega)
 rw[qF c1];by_cases c2:n=f
 .subst c2;rw[qI R,xp,w];by_cases e:i=5
  .rw[qI O,e];simp;omega
  rw[qF O,qF O,qE O];symm;exact qE O
 rw[qF c2];have m:(Zm (n=f)||decide (n=t))=Zl:=by simp[c1,c2]
 rw[m,Bool.xor_false,qF (c:=bg (!wh)<=bg wh+5/\bg wh+5<bg (!wh)+6) O];have o:(if bg wh+5=bg wh+i then Zm (jB (z n)=((bg wh+5:Nat):Int))else Zm (jB (z n)=((bg wh+5:Nat):Int)))=Zm (jB (z n)=((bg wh+5:Nat):Int)):=by split<;>rfl
 rw[o];by_cases c3:n=cs
 .subst c3;rw[qI R,xp,(h.cz c1).1,qE O];symm;exact qE O
 rw[qF c3]
def gR(h:jY z wh b i f t u cs)(r:DS z f t u cs Z)(x:vZ z wh 64=1)(l:-1<=b)(m:b<=63):vZ Z wh 64=1:=by
 have D:=mM wh;have E:=h.hi;have v:=h.hc;rw[<-qxu,<-qvs h r l m];obtain⟨y,C,A,hR⟩:=js x;have d:∀n,n<64->(jB (z n)=((bg wh+5:Nat):Int)↔n=y):=λn a=>by
  have:n∈vD (xD z 64 (bg wh+5))↔n=y:=by rw[A];simp
  unfold vD at this;rw[qV,qK,vH z _ n a,qG]at this;constructor
  .intro e;exact this.1 ⟨a,e⟩
  intro e;exact(this.2 e).2
 have one:∀w:Nat,w<64->((h_ 64).filter λn=>Zm (n=w))=[w]:=WS;have p:∃w,w<64/\∀n,n<64->(zV (xD z 64) wh (vV b) i f t (bg wh+5)).getLsbD n=Zm (n=w):=by
  by_cases e:i=5
  .refine⟨t,h.ht,λn a=>?_⟩;subst e;have o:=(d f h.hf).1 v;rw[jq h l m _ a,qI R];have q:Zm (jB (z n)=((bg wh+5:Nat):Int))=Zm (n=f):=(by rw[YW,qG,qG,d n a,o]);rw[q];have j:=h.ft;by_cases c1:n=f
   .have:n≠t:=λk=>j (c1.symm.trans k);simp[c1,j]
   simp[c1]
  refine⟨y,C,λn a=>?_⟩;rw[jq h l m _ a,qF O,qF O,YW,qG,qG];exact d n a
 obtain⟨w,B,g⟩:=p;have:vD (zV (xD z 64) wh (vV b) i f t (bg wh+5))=[w]:=by rw[vD,qxd _ (λn a=>g n (qK.1 a)),one w B]
 rw[this];rfl
def b9(h:jY z wh b i f t u cs)(d:DS z f t u cs Z)(l:xO z=Zk)(o:vZ z wh 64=1)(g:-1<=b)(k:b<=63):xO Z=Zk/\∃y:Nat,y<64/\xR Z wh=(y:Int)/\kE (xD z 64) wh (vV b) i f t=!(vL Z y (!wh)):=by
 have a:=okZ h d l;obtain⟨y,m,p,hR⟩:=js (gR h d o g k);refine⟨a,y,m,hR,?_⟩;unfold kE uG;rw[qvs h d g k,p];have e:xV (zV (xD z 64) wh (vV b) i f t) (y:Int) (!wh)=vL Z y (!wh):=by rw[qz3 (bH h d g k) (λj n=>qzh h d g k n),xu a _ _ m,jk a m]
 simp[e]
def b8(h:jY z wh b i f t u cs)(l:i=5->t≠f+2/\t+2≠f)(a:xO z=Zk)(j:vZ z wh 64=1)(d:-1<=b)(g:b<=63):(∃y:Nat,y<64/\xR (zE z b (f,t,u)) wh=(y:Int))/\kE (xD z 64) wh (vV b) i f t=uS z wh b (f,t,u):=by obtain⟨_,y,k,hR,e⟩:=b9 h (iq h l) a j d g;refine⟨⟨y,k,hR⟩,?_⟩;rw[e];rw[uS,hR];rfl
end
def uO(i n:Nat):Bool:=if i%2=0 then Zm (n<hK i)else Zm (hK i<n)
def sH:∀i,i<4->∀n,n<64->n/8≠xE i/8->(yd ((n:Nat):Int) ((xE i:Nat):Int)||yg ((n:Nat):Int) ((xE i:Nat):Int))=Zk->((h_ (LI ((n:Nat):Int) ((xE i:Nat):Int))).all λj=>Zm (j=0)||decide ((pI ((n:Nat):Int) ((xE i:Nat):Int) j).toNat/8≠xE i/8)&&Zm ((pI ((n:Nat):Int) ((xE i:Nat):Int) j).toNat<64))=Zk:=WS
def BN:∀i,i<4->∀n,n<64->n/8=xE i/8->uO i n=Zk->(yd ((n:Nat):Int) ((hK i:Nat):Int)&&Zm (LI ((n:Nat):Int) ((hK i:Nat):Int)<=LI ((n:Nat):Int) ((xE i:Nat):Int))&&(h_ (LI ((n:Nat):Int) ((hK i:Nat):Int))).all λj=>Zm (j=0)||decide (pI ((n:Nat):Int) ((xE i:Nat):Int) j=pI ((n:Nat):Int) ((hK i:Nat):Int) j)&&uO i (pI ((n:Nat):Int) ((hK i:Nat):Int) j).toNat&&Zm ((pI ((n:Nat):Int) ((hK i:Nat):Int) j).toNat/8=xE i/8)&&Zm ((pI ((n:Nat):Int) ((hK i:Nat):Int) j).toNat<64))=Zk:=WS
def BO:∀i,i<4->∀n,n<64->n/8=xE i/8->uO i n=Zk->∀a:Bool,(xS (λ_=>46) 0 (xK a) ((n:Nat):Int) ((xE i:Nat):Int)||xS (λ_=>46) 1 (xK a) ((n:Nat):Int) ((xE i:Nat):Int)||xS (λ_=>46) 2 (xK a) ((n:Nat):Int) ((xE i:Nat):Int)||xS (λ_=>46) 5 (xK a) ((n:Nat):Int) ((xE i:Nat):Int))=Zl:=WS
def qx8{f:Nat->Int}{s x y:Int}(h:xS f k s x y=Zk):xS (λ_=>46) k s x y=Zk/\((k=2\/k=3\/k=4)->(yd x y||yg x y)=Zk/\B_ f (pI x y) (LI x y)=Zk):=by
 have a:B_ (λ_=>46) (pI x y) (LI x y)=Zk:=by unfold B_;exact qJ λ_ _ _=>R
 unfold xS at h|-;by_cases b:k=0
 .simp only[b,YS]at h|-;exact⟨h,O⟩
 by_cases d:k=1
 .subst d;simp only[b,YH,YS]at h|-;exact⟨h,O⟩
 by_cases e:k=2
 .subst e;simp only[b,d,YH,YS,qH]at h|-;exact⟨⟨h.1,a⟩,λ_=>⟨by rw[h.1];simp,h.2⟩⟩
 by_cases g:k=3
 .subst g;simp only[b,d,e,YH,YS,qH]at h|-;exact⟨⟨h.1,a⟩,λ_=>⟨by rw[h.1];simp,h.2⟩⟩
 by_cases i:k=4
 .subst i;simp only[b,d,e,g,YH,YS,qH]at h|-;exact⟨⟨h.1,a⟩,λ_=>⟨h.1,h.2⟩⟩
 refine⟨?_,λj=>O⟩;simp only[b,d,e,g,i,YH]at h|-;exact h
def wK{f:Nat->Int}{s x y:Int}(h:xS (λ_=>46) k s x y=Zk)(e:(k=2\/k=3\/k=4)->B_ f (pI x y) (LI x y)=Zk):xS f k s x y=Zk:=by
 unfold xS at h|-;by_cases a:k=0
 .simp only[a,YS]at h|-;exact h
 by_cases b:k=1
 .subst b;simp only[a,YH,YS]at h|-;exact h
 by_cases d:k=2
 .subst d;simp only[a,b,YH,YS,qH]at h|-;exact⟨h.1,e O⟩
 by_cases g:k=3
 .subst g;simp only[a,b,d,YH,YS,qH]at h|-;exact⟨h.1,e O⟩
 by_cases i:k=4
 .subst i;simp only[a,b,d,g,YH,YS,qH]at h|-;exact⟨h.1,e O⟩
 simp only[a,b,d,g,i,YH]at h|-;exact h
def aW{l:Nat->UInt8}(x:xO z=Zk)(G:i<4)(C:DD z wh (hK i) (hD i)=Zk)(A:∀n,n<64->n/8≠xE i/8->l n=z n) (J:∀n,n<64->n/8=xE i/8->uO i n=Zk->l n=z n)(a0:∀n,n<64->n/8=xE i/8->uO i n=Zl->vB (l n)≠xK (!wh)):zM l ((xE i:Nat):Int) (!wh)=Zl:=by
 have m:hK i<64/\xE i<64/\kC (hK i) (hD i) 0=hK i/\kC (hK i) (hD i) 2=xE i:=by have:i=0\/i=1\/i=2\/i=3:=O;rcases this with rfl|rfl|rfl|rfl<;>decide
 unfold DD at C;rw[qW]at C;have V:=C 0 WW;have M:=C 2 WW;rw[m.2.2.1,jk x m.1,YK]at V;rw[m.2.2.2,jk x m.2.1,YK]at M;cases K:zM l ((xE i:Nat):Int) (!wh)with
 | false=>rfl
 | true=>
  exfalso;unfold zM at K;obtain⟨n,o,h⟩:=qY.1 K;have o:=qK.1 o;rw[qH,qG]at h;obtain⟨w,E⟩:=h;obtain⟨d,u⟩:=qx8 E
  have v:∀y:Nat,zM z (y:Int) (!wh)=Zl->l n=z n->xS (zI z) (vE (l n)).toNat (xK (!wh)) (n:Int) (y:Int)=Zk->False:=λy Q e A=>by
   have:zM z (y:Int) (!wh)=Zk:=(by unfold zM;refine qY.2 ⟨n,qK.2 o,?_⟩;rw[qH,qG];exact⟨by rw[<-e];exact w,by rw[<-e];exact A⟩);rw[Q]at this;cases this
  by_cases g:n/8=xE i/8
  .cases D:uO i n with
   | false=>exact a0 n o g D w
   | true=>
    have e:=J n o g D;have b:=BO i G n o g D (!wh);have f:=BN i G n o g D;simp only[qH,qW,Ym,qG,qK]at f;simp only[Bool.or_eq_false_iff]at b
    have Z:(vE (l n)).toNat=3\/(vE (l n)).toNat=4:=by
     generalize (vE (l n)).toNat=k at d;have H:k=0\/k=1\/k=2\/k=3\/k=4\/5<=k:=O
     obtain rfl|rfl|rfl|rfl|rfl|a1:=H
     .rw[b.1.1.1]at d;cases d
     .rw[b.1.1.2]at d;cases d
     .rw[b.1.2]at d;cases d
     .exact Zi R
     .exact Zj R
     have:xS (λ_=>46) k (xK (!wh)) (n:Int) ((xE i:Nat):Int)=xS (λ_=>46) 5 (xK (!wh)) (n:Int) ((xE i:Nat):Int):=(by unfold xS;simp only[show ¬k=0 from O,show ¬k=1 from O,show ¬k=2 from O,show ¬k=3 from O,show ¬k=4 from O,YH];rfl);rw[this,b.2]at d;cases d
    obtain⟨_,a⟩:=u O;apply v (hK i) V e
    have F:B_ (zI z) (pI (n:Int) ((hK i:Nat):Int)) (LI (n:Int) ((hK i:Nat):Int))=Zk:=by
     unfold B_ at a|-;rw[qG]at a|-;intro j B T;obtain q|q:=f.2 j B
     .omega
     have r:=a j (by have:=f.1.2;omega) T;rw[q.1.1.1]at r;unfold zI at r|-;rw[<-J _ q.2 q.1.2 q.1.1.2];exact r
    rcases Z with k|k<;>(rw[k];simp[xS,f.1.1,F])
  have e:=A n o g;refine v (xE i) M e (wK d λW=>?_);obtain⟨P,a⟩:=u W;have p:=sH i G n o g P;simp only[qW,Ym,qH,qG,qK]at p;unfold B_ at a|-;rw[qG]at a|-;intro j B T;obtain q|q:=p j B
  .omega
  have r:=a j B T;unfold zI at r|-;rw[<-A _ q.2 q.1];exact r
def hR(i:Nat):Nat:=if i=0 then 7 else if i=1 then 0 else if i=2 then 63 else 56
def rN(i:Nat):Nat:=if i=0 then 5 else if i=1 then 3 else if i=2 then 61 else 59
def FB(f:i<4)(d:jD (z (hK i))=Zl)(a:jA (z (hK i))=Zk)(n:Nat):zE z b (hK i,xE i,0) n=if n=hR i then 46 else if n=rN i then z (hR i)else if n=xE i then z (hK i)else if n=hK i then 46 else z n:=by
 have e:yH (z (hK i)) 0=z (hK i):=by rw[yH,qI R]
 have:i=0\/i=1\/i=2\/i=3:=O;unfold zE;simp only;rw[d,a,e,XK,qF WU];obtain rfl|rfl|rfl|rfl:=this
 .rw[qI WW];rfl
 .rw[qF WW,qI WW];rfl
 .rw[qI WW];rfl
 rw[qF WW,qI WW];rfl
def zi:∀i,i<4->hK i<64/\xE i<64/\hR i<64/\rN i<64/\xE i/8=hK i/8/\uO i (hK i)=Zl/\uO i (xE i)=Zl/\uO i (hR i)=Zl/\uO i (rN i)=Zl/\hR i/8=hK i/8/\rN i/8=hK i/8/\xE i≠hK i/\hR i≠hK i/\rN i≠hK i/\hR i≠xE i/\rN i≠xE i/\rN i≠hR i:=WS
def ts:∀i,i<4->∀n,n<64->n/8=xE i/8->uO i n=Zl->(Zm (n=hK i)||decide (n=hR i)||(h_ (hN i)).any λj=>Zm (kC (hK i) (hD i) (j+1)=n))=Zk:=WS
def pB:∀i,i<4->((h_ (hN i)).any λj=>Zm (kC (hK i) (hD i) (j+1)=xE i))=Zk/\((h_ (hN i)).any λj=>Zm (kC (hK i) (hD i) (j+1)=rN i))=Zk:=WS
structure wU(z:I2)(wh:Bool)(i:Nat):Prop where
 hi:i<4
 w:wh=Zm (i<2)
 k:jB (z (hK i))=((bg wh+5:Nat):Int)
 r:jB (z (hR i))=((bg wh+3:Nat):Int)
 e:wn z (hK i) (hD i) (hN i)=Zk
 a:DD z wh (hK i) (hD i)=Zk
def cJ(d:kJ z wh fc b)(k:i<4)(l:wh=Zm (i<2))(e:fc i=Zk)(a:az z wh (hK i) (hD i) (hN i)=Zk):wU z wh i:=by
 unfold az at a;rw[qH]at a;have h:jB 75=((bg Zk+5:Nat):Int):=WS;have f:jB 107=((bg Zl+5:Nat):Int):=WS;have j:jB 82=((bg Zk+3:Nat):Int):=WS;have g:jB 114=((bg Zl+3:Nat):Int):=WS;have:i=0\/i=1\/i=2\/i=3:=O;subst l;obtain rfl|rfl|rfl|rfl:=this
 .exact⟨k,R,by rw[show z (hK 0)=75 from(d.c0 e).1];exact h,by rw[show z (hR 0)=82 from(d.c0 e).2];exact j,a.1,a.2⟩
 .exact⟨k,R,by rw[show z (hK 1)=75 from(d.c1 e).1];exact h,by rw[show z (hR 1)=82 from(d.c1 e).2];exact j,a.1,a.2⟩
 .exact⟨k,R,by rw[show z (hK 2)=107 from(d.c2 e).1];exact f,by rw[show z (hR 2)=114 from(d.c2 e).2];exact g,a.1,a.2⟩
 exact⟨k,R,by rw[show z (hK 3)=107 from(d.c3 e).1];exact f,by rw[show z (hR 3)=114 from(d.c3 e).2];exact g,a.1,a.2⟩
def wU.dot(h:wU z wh i)(b:((h_ (hN i)).any λj=>Zm (kC (hK i) (hD i) (j+1)=n))=Zk):z n=46:=by obtain⟨j,a,e⟩:=qY.1 b;rw[qG]at e;have:=h.e;unfold wn at this;have:=qW.1 this j a;rw[e]at this;exact OY
def rq(b:Bool):vB 46≠xK b:=by have:vB 46=0:=WS;rw[this];cases b<;>decide
def wU.none(h:wU z wh i)(a:n<64)(d:n/8=xE i/8)(b:uO i n=Zl):vB (z n)≠xK (!wh):=by
 have:=ts i h.hi n a d b;rw[Ym,Ym,qG,qG]at this;obtain(rfl|rfl)|e:=this
 .rw[ja O h.k];exact BC wh
 .rw[ja O h.r];exact BC wh
 rw[h.dot e];exact rq _
def tn(l:kJ z wh fc b)(r:-1<=b)(u:b<=63)(h:wU z wh i):kE (xD z 64) wh (vV b) 5 (hK i) (xE i)=Zk:=by
 obtain⟨x,j,P,Q,W,J,K,a0,a2,A,B,C,D,E,F,G,H⟩:=zi i h.hi;have V:=h.dot (pB i h.hi).1;have g:yH (z (hK i)) 0=z (hK i):=by rw[yH,qI R]
 have v:jY z wh b 5 (hK i) (xE i) 0 (xE i):=⟨O,x,j,h.k,by rw[V];exact rq _,λ_=>R,λe=>O,⟨5,O,by rw[g];exact h.k,Iff.rfl⟩⟩;let Z:I2:=λn=>if n=xE i then z (hK i)else if n=hK i then 46 else z n;have w:DS z (hK i) (xE i) 0 (xE i) Z:=λn=>by
  show(if n=xE i then z (hK i)else if n=hK i then 46 else z n)=_;rw[g];by_cases c:n=xE i
  .rw[qI c,qI c]
  rw[qF c,qF c,qF c]
 obtain⟨p,y,T,hR,e⟩:=b9 v w l.ok (l.k1 wh) r u;have m:=gR v w (l.k1 wh) r u;obtain⟨y',a3,M,a1⟩:=js m;have q:y=xE i:=by
  have:xE i∈vD (xD Z 64 (bg wh+5)):=by rw[vD,qV,qK,vH _ _ _ j];refine⟨j,qJ ?_⟩;show jB (if xE i=xE i then z (hK i)else _)=_;rw[qI R];exact h.k
  rw[M,qT]at this;omega
 rw[e,q,jk p j];have:zM Z ((xE i:Nat):Int) (!wh)=Zl:=by
  refine aW l.ok h.hi h.a (λn o f=>?_) (λn o f d=>?_) (λn o f d=>?_)
  .show(if n=xE i then z (hK i)else if n=hK i then 46 else z n)=_;rw[qF (λe=>f (by rw[e])),qF (λe=>f (by rw[e,W]))]
  .show(if n=xE i then z (hK i)else if n=hK i then 46 else z n)=_;rw[qF (λe=>by rw[e,K]at d;cases d),qF (λe=>by rw[e,J]at d;cases d)]
  show vB (if n=xE i then z (hK i)else if n=hK i then 46 else z n)≠_;split
  .rw[ja O h.k];exact BC wh
  split
  .exact rq _
  exact h.none o f d
 rw[this];rfl
def aX(o:kJ z wh fc b)(h:wU z wh i):xR (zE z b (hK i,xE i,0)) wh=((xE i:Nat):Int)/\uS z wh b (hK i,xE i,0)=Zk:=by
 obtain⟨B,C,a1,a4,x,M,a2,W,P,q,u,H,a3,J,v,w,K⟩:=zi i h.hi;obtain⟨d,y⟩:=zj (i:=5) O h.k;have d:jD (z (hK i))=Zl:=by rw[d];rfl
 have y:jA (z (hK i))=Zk:=by rw[y];rfl
 have f:=FB (b:=b) h.hi d y;have V:=h.dot (pB i h.hi).1;generalize a0:zE z b (hK i,xE i,0)=Z at f;have Q:Z (xE i)=z (hK i):=by rw[f,qF (λe=>v e.symm),qF (λe=>w e.symm),qI R]
 have g:∀n,n≠hR i->n≠rN i->n≠xE i->n≠hK i->Z n=z n:=λn D E F G=>by rw[f,qF D,qF E,qF F,qF G]
 have A:xO Z=Zk:=by
  refine Fy λn p=>?_;rw[f];split
  .rfl
  split
  .exact ji o.ok a1
  split
  .exact ji o.ok B
  split
  .rfl
  exact ji o.ok p
 have hR:xR Z wh=((xE i:Nat):Int):=by
  refine qkm (λj T=>?_) ?_ C
  .rw[di,qX,f];split
   .rw[xp];omega
   split
   .rw[h.r];omega
   split
   .omega
   split
   .rw[xp];omega
   rename_i e;intro k;exact e (FO (o.k1 wh) O B k h.k)
  rw[di,Q,h.k];simp
 have m:zM Z ((xE i:Nat):Int) (!wh)=Zl:=by
  refine aW o.ok h.hi h.a (λn p l=>?_) (λn p l d=>?_) (λn p l d=>?_)
  .exact g n (λe=>l (by rw[e,q,x])) (λe=>l (by rw[e,u,x])) (λe=>l (by rw[e])) (λe=>l (by rw[e,x]))
  .exact g n (λe=>by rw[e,W]at d;cases d) (λe=>by rw[e,P]at d;cases d) (λe=>by rw[e,a2]at d;cases d) (λe=>by rw[e,M]at d;cases d)
  rw[f];split
  .exact rq _
  split
  .rw[ja O h.r];exact BC wh
  split
  .rw[ja O h.k];exact BC wh
  split
  .exact rq _
  exact h.none p l d
 refine⟨hR,?_⟩;rw[uS,a0,hR];show(!(vL Z (xE i) (!wh)))=Zk;rw[jk A C,m];rfl
def ug:∀wh:Bool,∀u∈[(0,0),(113,4),(114,3),(98,2),(110,1)],jB (yH (yQ (bg wh)) (j_ u.1))=((bg wh+u.2:Nat):Int):=WS
def qxv:∀f,f<64->∀t,t<64->xS (λ_=>46) 5 1 ((f:Nat):Int) ((t:Nat):Int)=Zk->t≠f+2/\t+2≠f:=WS
def gE{f:Nat->Int}{s x y:Int}(h:xS f 0 s x y=Zk):y/8-x/8=s:=by unfold xS at h;rw[qI R,qH,YF,YF]at h;exact h.2
def wX{p:Bool}{t:Nat}{x:Mv}(h:x∈xT p f t):∃u,x=(f,t,u)/\(p=Zl->u=0)/\(u=0\/u=113\/u=114\/u=98\/u=110):=by
 unfold xT at h;split at h
 .rename_i a;rw[qH]at a;simp only[Yj,XC,or_false]at h;obtain rfl|rfl|rfl|rfl:=h
  .exact⟨113,R,λe=>Tl,WU⟩
  .exact⟨114,R,λe=>Tl,WU⟩
  .exact⟨98,R,λe=>Tl,WU⟩
  exact⟨110,R,λe=>Tl,WU⟩
 rw[qT.1 h];exact⟨0,R,λ_=>R,Zi R⟩
def Fe(d:i<6)(a:jB (z f)=((bg wh+i:Nat):Int))(b:i≠0->u=0)(g:u=0\/u=113\/u=114\/u=98\/u=110):∃q,q<6/\jB (yH (z f) u)=((bg wh+q:Nat):Int)/\(q=5↔i=5):=by
 by_cases e:i=0
 .subst e;have h:=jn Vn a;rw[h,Nat.add_zero];obtain rfl|rfl|rfl|rfl|rfl:=g
  .exact⟨0,O,ug wh (0,0) WU,O⟩
  .exact⟨4,O,ug wh (113,4) WU,O⟩
  .exact⟨3,O,ug wh (114,3) WU,O⟩
  .exact⟨2,O,ug wh (98,2) WU,O⟩
  exact⟨1,O,ug wh (110,1) WU,O⟩
 rw[b e];exact⟨i,d,by rw[yH,qI R];exact a,Iff.rfl⟩
def lT(h:xX z wh b=Zk){t:Nat}(e:(t:Int)=b):z t=46/\(if wh then 40<=t/\t<48/\z (t-8)=112 else 16<=t/\t<24/\z (t+8)=80):=by
 unfold xX at h;rw[Ym,qG]at h;obtain h|h:=h
 .omega
 cases wh
 .simp only[qR,YH,qH,qG]at h|-;obtain⟨⟨⟨⟨a,f⟩,c⟩,_⟩,d⟩:=h;subst e;rw[YE]at c;rw[show((t:Int)+8).toNat=t+8 from O]at d;exact⟨uc c R,O,O,uc d R⟩
 simp only[YS,qH,qG]at h|-;obtain⟨⟨⟨⟨a,f⟩,c⟩,_⟩,d⟩:=h;subst e;rw[YE]at c;rw[show((t:Int)-8).toNat=t-8 from O]at d;exact⟨uc c R,O,O,uc d R⟩
def qkf:jB 112=((bg Zl:Nat):Int)/\jB 80=((bg Zk:Nat):Int):=WS
def Ey(h:xX z wh b=Zk){t:Nat}(j:f<64)(g:jB (z f)=((bg wh:Nat):Int))(i:oB z wh f t)(k:¬(f/8=0\/f/8=7)):(t:Int)≠b:=by
 intro l;obtain⟨_,a⟩:=lT h l;cases wh
 .simp only[qR,YH]at a;obtain⟨e,_⟩|⟨d,e,_⟩:=i
  .have e:t=f-8:=e;have:t+8=f:=O;rw[this]at a;rw[a.2.2,qkf.2]at g;exact w_ g WW
  have e:t=f-16:=e;have d:f/8=6:=by simpa[vQ]using d
  omega
 simp only[YS]at a;obtain⟨e,_⟩|⟨d,e,_⟩:=i
 .have e:t=f+8:=e;have:t-8=f:=O;rw[this]at a;rw[a.2.2,qkf.1]at g;exact w_ g WW
 have e:t=f+16:=e;have d:f/8=1:=by simpa[vQ]using d
 omega
def wu(wh:Bool)(b:Int)(i t:Nat):Nat:=if i=0/\(t:Int)=b then(if wh then t-8 else t+8)else t
def ko(n:kJ z wh fc b){t:Nat}(v:i<6)(p:f<64)(w:t<64)(o:jB (z f)=((bg wh+i:Nat):Int))(a:t∈yF z wh fc b f)(Q:(f,t,u)∈xT (Zm (i=0)) f t):(jY z wh b i f t u (wu wh b i t)/\(i=5->t≠f+2/\t+2≠f))\/(∃B,wU z wh B/\f=hK B/\t=xE B/\u=0/\i=5):=by
 obtain⟨a1,e,u0,u1⟩:=wX Q;have:u=a1:=Vo;subst this;have x:=Fe v o (λh=>u0 (qE h)) u1;obtain⟨V,P⟩:=zj v o;have q:=ji n.ok w;have A:¬(i=0/\(t:Int)=b)->wu wh b i t=t:=λh=>by rw[wu,qF h]
 have E:(t:Int)/8-f/8=xK wh->i=0->(t:Int)=b->z t=46/\wu wh b i t<64/\wu wh b i t=f/8*8+t%8/\(if wh then wu wh b i t+8=t else wu wh b i t=t+8)/\jB (z (wu wh b i t))=((bg (!wh):Nat):Int):=λK F j=>by
  obtain⟨W,r⟩:=lT n.beh j;rw[wu,qI ⟨F,j⟩];cases wh
  .simp only[qR,YH,xK]at r K|-;exact⟨W,O,O,x_,by rw[r.2.2];exact qkf.2⟩
  simp only[YS,xK]at r K|-;exact⟨W,O,O,O,by rw[r.2.2];exact qkf.1⟩
 unfold yF at a;rw[Yi,qV]at a;obtain⟨a,d⟩|a:=a
 .left;rw[Dq p v o w]at a;have H:vB (z t)≠xK wh:=by
   unfold yG at d;rw[V]at d;by_cases m:i=0
   .rw[qJ m,qI R,Ym,YF]at d;obtain j|j:=d
    .rw[(lT n.beh j).1];exact rq _
    rw[rt q,qG]at j;rw[j];exact λk=>BC wh k.symm
   rw[qE m,qF WU,YK,rt q,qX]at d;exact d
  refine⟨⟨v,p,w,o,H,A,λF j=>?_,x⟩,λJ=>?_⟩
  .subst F;exact E (gE a) R j
  subst J;have:=(qx8 a).1;rw[FI _ 5 O _ 1]at this;exact qxv f p t w this
 rw[V,P]at a;by_cases m:i=0
 .left;have M:=n.pw wh f p (by rw[o,m];rfl);rw[qJ m,qI R,Fq p M]at a;have G:=Ey n.beh p (by rw[o,m];rfl) a M;have a0:z t=46:=by
   obtain⟨C,D⟩|⟨_,C,_,D⟩:=a
   .rw[C];exact D
   rw[C];exact D
  exact⟨⟨v,p,w,o,by rw[a0];exact rq _,A,λ_ j=>w_ j G,x⟩,λJ=>O⟩
 rw[qE m,qF WU]at a;by_cases T:i=5
 .right;subst T;rw[qJ R,qI R]at a;obtain⟨Z,r⟩:=FK n p o;have y:=u0 (qE m);obtain a|a:=Yi.1 a
  .unfold uz at a;split at a
   .rename_i l;rw[qH]at l;have g:=Z l.1;have e:hK (jC wh)+2=xE (jC wh)/\hD (jC wh)=1/\hN (jC wh)=2:=Vn;refine⟨jC wh,cJ n Vn RA l.1 ?_,g,?_,y,R⟩
    .rw[e.2.1,e.2.2,<-g];exact l.2
    rw[qT.1 a,<-e.1,<-g]
   cases a
  unfold pA at a;split at a
  .rename_i l;rw[qH]at l;have g:=r l.1;have e:hK (jC wh+1)-2=xE (jC wh+1)/\hD (jC wh+1)=-1/\hN (jC wh+1)=3:=Vn;refine⟨jC wh+1,cJ n Vn RA l.1 ?_,g,?_,y,R⟩
   .rw[e.2.1,e.2.2,<-g];exact l.2
   rw[qT.1 a,<-e.1,<-g]
  cases a
 rw[qE T,qF WU]at a;cases a
def Dt{s:BitVec 64}:n∈vD s↔n<64/\s.getLsbD n=Zk:=by rw[vD,qV,qK]
def Ay(k:kJ z wh fc b){x:Mv}:x∈ye z wh fc b 64↔∃i f t u,x=(f,t,u)/\i<6/\f<64/\t<64/\jB (z f)=((bg wh+i:Nat):Int)/\t∈yF z wh fc b f/\(f,t,u)∈xT (Zm (i=0)) f t:=by
 unfold ye nh;rw[YX];constructor
 .rintro⟨f,e,h⟩;have e:=qK.1 e;split at h
  .rename_i n;rw[rt (ji k.ok e),qG]at n;obtain⟨i,j,g,_⟩:=zq n;obtain⟨t,d,h⟩:=YX.1 h;unfold AB at h;rw[(zj j g).1]at h;obtain⟨u,rfl,_,_⟩:=wX h;have l:t<64:=by
    unfold yF at d;rw[Yi,qV]at d;obtain⟨a,_⟩|d:=d
    .exact cP e a
    obtain⟨w,v⟩:=zj j g;rw[w,v]at d;by_cases m:i=0
    .rw[qJ m,qI R,Fq e (k.pw wh f e (by rw[g,m];rfl))]at d;have B:=k.pw wh f e (by rw[g,m];rfl);obtain⟨a,_⟩|⟨a,c,_⟩:=d
     .rw[a];unfold fw;split<;>omega
     rw[c];unfold vQ at a;unfold fw;cases wh<;>simp at a<;>simp<;>omega
    rw[qE m,qF WU]at d;by_cases o:i=5
    .subst o;rw[qJ R,qI R]at d;obtain⟨r,A⟩:=FK k e g;obtain d|d:=Yi.1 d
     .unfold uz at d;split at d
      .rename_i q;rw[qH]at q;rw[qT.1 d,r q.1];cases wh<;>decide
      cases d
     unfold pA at d;split at d
     .rw[qT.1 d];omega
     cases d
    rw[qE o,qF WU]at d;cases d
   exact⟨i,f,t,u,R,j,e,l,g,d,h⟩
  cases h
 rintro⟨i,f,t,u,rfl,j,e,d,p,n,y⟩;refine⟨f,qK.2 e,?_⟩;rw[qI (by rw[rt (ji k.ok e)];exact qJ (ja j p))];refine YX.2 ⟨t,n,?_⟩;rw[AB,(zj j p).1];exact y
def jy(a:kJ z wh fc b)(e:-1<=b)(g:b<=63){t:Nat}(w:i<6)(v:f<64)(h:t<64)(r:jB (z f)=((bg wh+i:Nat):Int))(x:t∈yF z wh fc b f)(A:(f,t,u)∈xT (Zm (i=0)) f t):(∃y:Nat,y<64/\xR (zE z b (f,t,u)) wh=(y:Int))/\kE (xD z 64) wh (vV b) i f t=uS z wh b (f,t,u):=by
 obtain⟨q,B⟩|⟨l,d,m,n,o,p⟩:=ko a w v h r x A
 .exact b8 q B a.ok (a.k1 wh) e g
 subst m n o p;obtain⟨j,k⟩:=aX a (b:=b) d;exact⟨⟨xE l,h,j⟩,by rw[k,tn a e g d]⟩
theorem qjw(h:kJ z wh fc b)(A:-1<=b)(p:b<=63):lg z wh fc b:=by
 have king:∀f t u,(f,t,u)∈ye z wh fc b 64->jA (z f)=Zk->(t=f+2\/t+2=f)->f=4\/f=60:=λf t u d a o=>by
  obtain⟨i,y,E,F,e,k,j,q,n,l,r⟩:=(Ay h).1 d;have g:f=y:=by injection e
  have v:t=E:=Vo;have w:u=F:=Vo;subst g v w;obtain⟨H,D⟩|⟨G,C,g,_,_,_⟩:=ko h k j q n l r
  .rw[(zj k n).2,qG]at a;have:=D a;omega
  rw[g];unfold hK;split<;>omega
 refine⟨λf j l a m=>?_,λf t u d a o=>?_,λf t u d a o=>?_,λx d=>?_⟩
 .rw[rt (ji h.ok j),qG]at l;obtain⟨i,k,g,_⟩:=zq l;rw[(zj k g).2,qG]at a;subst a;obtain⟨p,B⟩:=FK h j g;rw[Ym]at m;obtain e|e:=m
  .rw[p e];cases wh<;>decide
  rw[B e];cases wh<;>decide
 .have:=king f t u d a (Zi o);omega
 .have:=king f t u d a (Zj o);omega
 obtain⟨i,f,t,u,rfl,k,j,q,n,l,r⟩:=(Ay h).1 d;exact(jy h A p k j q n l r).1
theorem je(h:kJ z wh fc b)(l:-1<=b)(m:b<=63)(x:Mv):x∈yo z wh fc b↔x∈xC z wh fc b:=by
 have r:=mM wh;unfold yo xC zH yN kF bE;rw[qV,Ay h];simp only[YX,qK,Dt];constructor
 .rintro⟨⟨i,f,t,u,rfl,e,a,g,n,j,q⟩,o⟩;refine⟨i,e,f,⟨a,by rw[vH z _ f a];exact qJ n⟩,t,⟨g,(ph h l m e a g n).1 j⟩,?_⟩;rw[(jy h l m e a g n j q).2,qI o];exact q
 rintro⟨i,e,f,⟨a,d⟩,t,⟨g,p⟩,k⟩;rw[vH z _ f a,qG]at d;have j:=(ph h l m e a g d).2 p;split at k
 .rename_i o;obtain⟨u,rfl,_,_⟩:=wX k;refine⟨⟨i,f,t,u,R,e,a,g,d,j,k⟩,?_⟩;rw[<-(jy h l m e a g d j k).2];exact o
 cases k
theorem qv7{α β:Type}{A B:α->List β}:∀l:List α,(∀k∈l,(A k).Sublist (B k))->(l.flatMap A).Sublist (l.flatMap B)
 | [],_=>by simp
 | a::r,h=>by
  rw[List.flatMap_cons,List.flatMap_cons];exact List.Sublist.append (h a (XE ..)) (qv7 r λk b=>h k (Xg _ b))
theorem eG(z:Nat->UInt8):∀l:List Nat,(nu z l).Sublist l
 | []=>by simp[nu]
 | a::r=>by
  unfold nu;split
  .exact List.Sublist.cons_cons a (eG z r)
  exact List.Sublist.cons_cons a (List.nil_sublist r)
def m7:∀x,x<64->((h_ 16).flatMap λk=>if k<8 then rr k x else[]).Nodup:=WS
def ez:∀x,x<64->((h_ 16).flatMap λk=>if pM x (jU k)then[nx x (jU k)]else[]).Nodup:=WS
def iD(j:f<64){b:Bool}(q:i<6)(p:jB (z f)=((bg b+i:Nat):Int)):(zU z f 16).Nodup:=by
 have o:bg b=0\/bg b=6:=Tw;have h:bg b+i<12:=O;have m:=jn h p;have l:(bg b+i)%6=i:=O;have g:=uv (bg b+i) h;rw[l]at g;unfold zU;cases a:vx i with
 | true=>
  have n:=qjz (bg b+i) h (by rw[l];exact a);refine List.Nodup.sublist (qv7 _ λk d=>?_) (m7 f j);have d:=qK.1 d;rw[yj,m,(n k d).1,g,a,qI R];by_cases e:k<8
  .rw[qI e];split
   .rw[kq,uH];exact eG z _
   exact List.nil_sublist _
  rw[qF Tf,qF e];exact List.nil_sublist _
 | false=>
  refine List.Nodup.sublist (qv7 _ λk d=>?_) (ez f j);rw[yj,m,g,a,gy];split
  .rw[qF WU];exact List.Sublist.refl _
  exact List.nil_sublist _
def bR:∀x,x<64->(rr 0 x).Nodup/\(rr 4 x).Nodup:=WS
theorem qze{f:Nat->Int}{s x y:Int}(h:xS f 0 s x y=Zk):y%8≠x%8:=by unfold xS at h;rw[qI R,qH,YF,YF]at h;intro e;rw[e]at h;have:=h.1;unfold ab at this;split at this<;>omega
def lu(q:kJ z wh fc b)(k:f<64)(p:i<6)(j:jB (z f)=((bg wh+i:Nat):Int)):(yF z wh fc b f).Nodup:=by
 obtain⟨B,y⟩:=zj p j;have x:=iD k p j;rw[yF,B,y,List.nodup_append];refine⟨List.Pairwise.filter _ x,?_,?_⟩
 .by_cases m:i=0
  .rw[qJ m,qI R];unfold cW;apply List.Nodup.sublist ((List.takeWhile_sublist _).trans (List.take_sublist _ _));rw[kq,uH];apply List.Nodup.sublist (eG z _);cases wh
   .exact(bR f k).2
   exact(bR f k).1
  rw[qE m,qF WU];by_cases n:i=5
  .rw[qJ n,qI R,List.nodup_append];refine⟨by unfold uz;split<;>simp,by unfold pA;split<;>simp,λa g c j e=>?_⟩;unfold uz at g;unfold pA at j;split at g
   .split at j
    .simp at g j;omega
    cases j
   cases g
  rw[qE n,qF WU];exact List.nodup_nil
 intro a g c d e;subst e;have g:=(qV.1 g).1;have l:=cP k g;rw[Dq k p j l]at g;by_cases m:i=0
 .subst m;have C:=q.pw wh f k j;rw[qJ R,qI R,Fq k C]at d;have v:=qze g;obtain⟨e,_⟩|⟨u,e,_⟩:=d
  .unfold fw at e;cases wh<;>simp at e<;>omega
  unfold fw at e;unfold vQ at u;cases wh<;>simp at e u<;>omega
 rw[qE m,qF WU]at d;by_cases n:i=5
 .subst n;rw[qJ R,qI R]at d;have:=(qx8 g).1;rw[FI _ 5 O _ 1]at this;have A:=qxv f k a l this;obtain⟨v,w⟩:=FK q k j;obtain h|h:=Yi.1 d
  .unfold uz at h;split at h
   .simp at h;omega
   cases h
  unfold pA at h;split at h
  .rename_i r;rw[qH]at r;have o:=w r.1;have:2<=f:=by rw[o];cases wh<;>decide
   simp at h;omega
  cases h
 rw[qE n,qF WU]at d;cases d
def qj1(p:Bool)(f t:Nat):(xT p f t).Nodup:=by
 unfold xT;split
 .simp
 simp
def FP{p:Bool}{t:Nat}{x:Mv}(h:x∈xT p f t):x.1=f/\x.2.1=t:=by obtain⟨u,rfl,_⟩:=wX h;exact⟨R,R⟩
theorem fF(j:kJ z wh fc b):(yo z wh fc b).Nodup:=by
 unfold yo;apply List.Pairwise.filter _;rw[ye,X4];constructor
 .intro f g;have g:=qK.1 g;unfold nh;split
  .rename_i k;rw[rt (ji j.ok g),qG]at k;obtain⟨i,m,l,_⟩:=zq k;rw[X4];refine⟨λt _=>qj1 _ _ _,(lu j g m l).imp λ{a c} hne x hx y hy e=>?_⟩;subst e;exact hne ((FP hx).2.symm.trans (FP hy).2)
  exact List.Pairwise.nil
 refine(List.nodup_range (n:=64)).imp λ{a c} hne x hx y hy e=>?_;subst e;have d:∀f,x∈nh z wh fc b f->x.1=f:=λf h=>by
  unfold nh at h;split at h
  .obtain⟨t,_,h⟩:=YX.1 h;exact(FP h).1
  cases h
 exact hne ((d a hx).symm.trans (d c hy))
def po(s:BitVec 64):(vD s).Nodup:=List.Pairwise.filter _ (List.nodup_range (n:=64))
theorem fB(z:I2)(wh:Bool)(fc:I5)(b:Int):(xC z wh fc b).Nodup:=by
 have p:∀(m:I8)(own l beh:BitVec 64)(k f:Nat)(x:Mv),x∈kF m wh own l beh fc k f->x.1=f:=λm own l beh k f x h=>by
  unfold kF bE at h;obtain⟨t,_,h⟩:=YX.1 h;split at h
  .exact(FP h).1
  cases h
 unfold xC zH List.Nodup;rw[X4];constructor
 .intro k _;rw[yN,X4];constructor
  .intro f _;rw[kF,X4];constructor
   .intro t _;unfold bE;split
    .exact qj1 _ _ _
    exact List.Pairwise.nil
   refine(po _).imp λ{a c} hne x d y i e=>?_;subst e;unfold bE at d i;split at d
   .split at i
    .exact hne ((FP d).2.symm.trans (FP i).2)
    cases i
   cases d
  refine(po _).imp λ{a c} hne x d y i e=>?_;subst e;exact hne ((p _ _ _ _ _ _ _ d).symm.trans (p _ _ _ _ _ _ _ i))
 refine(List.nodup_range (n:=6)).imp λ{a c} hne x d y i e=>?_;subst e;unfold yN at d i;obtain⟨f,o,d⟩:=YX.1 d;obtain⟨g,j,i⟩:=YX.1 i;have q:=p _ _ _ _ _ _ _ d;have r:=p _ _ _ _ _ _ _ i;rw[Dt]at o j;rw[vH z _ f o.1,qG]at o;rw[vH z _ g j.1,qG]at j;rw[<-r,q,o.2]at j;have:=j.2;exact hne O
def Fm:∀f,f<64->∀g,g<64->xQ f=xQ g->f=g:=WS
def oX{x y:Mv}(g:bi x)(i:bi y)(h:yJ x=yJ y):x=y:=by
 obtain⟨f,t,u⟩:=x;obtain⟨m,o,e⟩:=y;unfold yJ uY at h;simp only at h;rw[qS,qS]at h;obtain⟨n,d⟩:=List.append_inj h R;obtain⟨d,b⟩:=List.append_inj d R;have j:=Fm f g.1 m i.1 n;have k:=Fm t g.2 o i.2 d;have l:u=e:=by
  by_cases a:u=0
  .by_cases c:e=0
   .rw[a,c]
   rw[qI a,qF c]at b;cases b
  by_cases c:e=0
  .rw[qF a,qI c]at b;cases b
  rw[qF a,qF c]at b;injection b
 rw[j,k,l]
theorem zu{α:Type}{r:α->α->Prop}(d:∀a b,r a b->¬r b a):∀(l m:List α),l.Pairwise r->m.Pairwise r->(∀x,x∈l↔x∈m)->l=m
 | [],[],_,_,_=>rfl
 | [],b::r2,_,_,h=>w_ ((h b).2 (XE ..)) WU
 | a::r1,[],_,_,h=>w_ ((h a).1 (XE ..)) WU
 | a::r1,b::r2,h1,h2,h=>by
  rw[List.pairwise_cons]at h1 h2
  have j:a=b:=by
   rcases Yj.1 ((h a).1 (XE ..))with e|e
   .exact e
   rcases Yj.1 ((h b).2 (XE ..))with i|i
   .exact i.symm
   exact w_ (h1.1 b i) (d _ _ (h2.1 a e))
  subst j;have g:¬r a a:=λk=>d _ _ k k;rw[zu d r1 r2 h1.2 h2.2 λx=>?_];constructor
  .intro f;rcases Yj.1 ((h x).1 (Xg _ f))with e|e
   .rw[e]at f;exact w_ (h1.1 a f) g
   exact e
  intro f;rcases Yj.1 ((h x).2 (Xg _ f))with e|e
  .rw[e]at f;exact w_ (h2.1 a f) g
  exact e
theorem qvc{d:List Mv}(l:d.Nodup)(j:∀x∈d,bi x):(jI d).Pairwise λx y=>yJ x<yJ y:=by
 have g:(jI d).Pairwise λx y=>(!n8 y x)=Zk:=by
  unfold jI;refine List.pairwise_mergeSort (λa b c g i=>?_) (λa b=>?_) d
  .unfold n8 at *;simp only[YK,qX]at *;exact Wn.2 (List.le_trans (Wn.1 g) (Wn.1 i))
  unfold n8;rw[Ym];simp only[YK,qX];rcases List.le_total (yJ a) (yJ b)with h|h
  .exact Zi (Wn.2 h)
  exact Zj (Wn.2 h)
 have i:=List.Nodup.perm l (xq d).symm;have e:∀x∈jI d,bi x:=λx m=>j x ((xq d).mem_iff.1 m);have k:=List.Pairwise.and g i;refine List.Pairwise.imp_of_mem (λ{a c} ha hc h=>?_) k;unfold n8 at h;simp only[YK,qX]at h;by_cases f:yJ a<yJ c
 .exact f
 exact w_ (oX (e a ha) (e c hc) (List.le_antisymm (Wn.1 h.1) (Wn.1 f))) h.2
def Fd(d:kJ z wh fc b)(e:-1<=b)(f:b<=63):jI (yo z wh fc b)=jI (xC z wh fc b)/\(jI (xC z wh fc b)).Pairwise λx y=>yJ x<yJ y:=by grind[qjw,qvc,fF,iI,qV,fB,zg,zu,xq,je]
def Fp{s:I4}{p:pH}(b:xG s=p)(a:xP p=Zk):kJ (xM p) p.white p.castle p.behind∧-1<=p.behind/\p.behind<=63:=⟨qkv a,qjv b⟩
def zO(t:Nat):Bool:=Zm (t/8=0)||decide (t/8=7)
def uI(f t:Nat):Int:=((t/8:Nat):Int)-((f/8:Nat):Int)
def DC(z:I2)(wh:Bool)(f t:Nat):Bool:=Zm (uI f t=xK wh)||(Zm (uI f t=2*xK wh)&&Zm (f/8=(if wh then 1 else 6))&&Zm (z (if wh then f+8 else f-8)=46))
def BD(z:I2)(wh:Bool)(b:Int)(f t:Nat):Bool:=
 if xS (zI z) 0 (xK wh) (f:Int) (t:Int)then Zm (vB (z t)=xK (!wh))||decide ((t:Int)=b)
 else Zm (f%8=t%8)&&Zm (z t=46)&&DC z wh f t
def EE(z:I2)(wh:Bool)(fc:I5)(k f t:Nat)(u:UInt8):Bool:=
 if xS (zI z) k (xK wh) (f:Int) (t:Int)then Zk
 else Zm (k=5)&&Zm (0<=zK wh fc f t u)&&km z (zK wh fc f t u).toNat
def j9(z:I2)(wh:Bool)(fc:I5)(b:Int)(f t:Nat)(u:UInt8):Bool:=Zm (vB (z f)=xK wh)&&!decide (vB (z t)=xK wh)&&(Zm (u≠0)==(Zm (vE (z f)=0)&&zO t))&&(if vE (z f)=0 then BD z wh b f t else EE z wh fc (vE (z f)).toNat f t u)
def U5:I1:=[0,98,110,113,114]
def mh:∀t,t<64->kP.getLsbD t=zO t:=WS
def pg{p:Bool}{t:Nat}(b:t<64)(a:u∈U5):(f,t,u)∈xT p f t↔(Zm (u≠0)==(p&&zO t))=Zk:=by
 rw[xT,mh t b];unfold U5 at a;simp only[Yj,XC,or_false]at a;cases p&&zO t
 .rw[qF WU];rcases a with rfl|rfl|rfl|rfl|rfl<;>simp
 rw[qI R];rcases a with rfl|rfl|rfl|rfl|rfl<;>simp
theorem ro{c:UInt8}(a:i<6)(h:jB c=((bg wh+i:Nat):Int)):vE c=(i:Int):=by
 rw[vE,h];unfold bg;cases wh
 .simp only[qR,YH];rw[qI O];omega
 simp only[YS];rw[qF O];omega
def ir{t:Nat}(k:f<64)(j:t<64)(l:¬(f/8=0\/f/8=7)):(Zm (f%8=t%8)&&Zm (z t=46)&&DC z wh f t)=Zk↔oB z wh f t:=by
 unfold DC uI oB vQ;simp only[qH,Ym,qG];cases wh;have g:fw Zl f 1=f-8:=R;have h:fw Zl f 2=f-16:=R;rw[g,h];simp only[xK,qR,YH];constructor
 .rintro⟨⟨b,a⟩,d|⟨⟨d,e⟩,i⟩⟩
  .have:t=f-8:=O;exact Zi ⟨this,Ts⟩
  have:t=f-16:=O;exact Zj ⟨e,this,i,Ts⟩
 rotate_left;have g:fw Zk f 1=f+8:=R;have h:fw Zk f 2=f+16:=R;rw[g,h];simp only[xK,YS];constructor
 .rintro⟨⟨b,a⟩,d|⟨⟨d,e⟩,i⟩⟩
  .have:t=f+8:=O;exact Zi ⟨this,Ts⟩
  have:t=f+16:=O;exact Zj ⟨e,this,i,Ts⟩
 all_goals
  rintro(⟨b,a⟩|⟨b,a,d,e⟩)
  .exact⟨⟨O,Uf⟩,Zi O⟩
  exact⟨⟨O,by rw[a];exact e⟩,Zj ⟨⟨O,b⟩,d⟩⟩
def DN{t:Nat}(g:¬(f/8=0\/f/8=7))(h:oB z wh f t):z t=46/\xS (zI z) 0 (xK wh) (f:Int) (t:Int)=Zl:=by grind[oB,vQ,fw,xS,zI,xK,qze]
def dq:∀i,i<4->xY i=((hK i:Nat):Int)/\vN i=((xE i:Nat):Int)/\zD i=((hR i:Nat):Int):=WS
def tY(g:i<4):nB z i=wn z (hK i) (hD i) (hN i):=by
 have b:∀n,(((z n).toNat:Int)=46)↔(z n==46)=Zk:=λn=>by
  constructor
  .intro h;have:z n=46:=uc h R;simp[this]
  intro h;have:z n=46:=Vq;rw[this];rfl
 unfold nB B_ wn;rw[YW,qG,qW];have d:i=0\/i=1\/i=2\/i=3:=O;constructor
 .intro h j a;have a:=qK.1 a;rw[<-b];have e:kC (hK i) (hD i) (j+1)=(ll i (j+1)).toNat:=by unfold kC ll xY hD hK;rcases d with rfl|rfl|rfl|rfl<;>simp<;>omega
  rw[e];refine h (j+1) ?_ O;unfold hN at a;unfold AR;rcases d with rfl|rfl|rfl|rfl<;>simp at a|-<;>omega
 intro h j a f;have:=h (j-1) (qK.2 (by
  unfold AR at a;unfold hN;rcases d with rfl|rfl|rfl|rfl<;>simp at a|-<;>omega))
 rw[<-b]at this;rw[<-this];have e:kC (hK i) (hD i) (j-1+1)=(ll i j).toNat:=by unfold kC ll xY hD hK;rcases d with rfl|rfl|rfl|rfl<;>simp<;>omega
 rw[e]
def Fx(b:xO z=Zk)(d:i<4):km z i=az z (Zm (i<2)) (hK i) (hD i) (hN i):=by
 unfold km az;rw[tY d];unfold DD;have e:∀p:I5,(h_ 3).all p=(p 0&&(p 1&&(p 2&&Zk))):=λp=>R;rw[e];have a:∀j,j<3->vL z (kC (hK i) (hD i) j) (!decide (i<2))=zM z (((kC (hK i) (hD i) j:Nat)):Int) (!decide (i<2)):=λj g=>jk b (eD i d j O Ob) _;rw[a 0 O,a 1 O,a 2 O];have q:xY i=((kC (hK i) (hD i) 0:Nat):Int)/\(xY i+vN i).tdiv 2=((kC (hK i) (hD i) 1:Nat):Int)/\vN i=((kC (hK i) (hD i) 2:Nat):Int):=by have f:i=0\/i=1\/i=2\/i=3:=O;rcases f with rfl|rfl|rfl|rfl<;>decide
 rw[<-q.1,<-q.2.1,<-q.2.2];cases wn z (hK i) (hD i) (hN i)<;>cases zM z (xY i) (!decide (i<2))<;>cases zM z ((xY i+vN i).tdiv 2) (!decide (i<2))<;>cases zM z (vN i) (!decide (i<2))<;>rfl
def zv{t:Nat}(j:i<4):jZ wh fc f t 0 i=Zk↔fc i=Zk/\wh=Zm (i<2)/\f=hK i/\t=xE i:=by
 obtain⟨d,e,_⟩:=dq i j;rw[jZ,d,e];simp only[qH,YF];constructor
 .rintro⟨⟨⟨⟨a,b⟩,g⟩,h⟩,_⟩;refine⟨a,?_,O,O⟩;revert b;cases wh<;>cases Zm (i<2)<;>simp[xK]
 rintro⟨a,b,g,h⟩;exact⟨⟨⟨⟨a,by rw[b]⟩,O⟩,O⟩,R⟩
def Fv{t:Nat}:(Zm (0<=zK wh fc f t 0)&&km z (zK wh fc f t 0).toNat)=Zk↔∃i,i<4/\wh=Zm (i<2)/\fc i=Zk/\f=hK i/\t=xE i/\km z i=Zk/\zK wh fc f t 0=(i:Int):=by
 have a:zK wh fc f t 0=if jZ wh fc f t 0 0 then 0 else if jZ wh fc f t 0 1 then 1 else if jZ wh fc f t 0 2 then 2 else if jZ wh fc f t 0 3 then 3 else -1:=R;constructor
 .intro h;rw[qH,qG]at h;obtain⟨p,l⟩:=h;have b:∀i,i<4->jZ wh fc f t 0 i=Zk->zK wh fc f t 0=(i:Int)->∃i,i<4/\wh=Zm (i<2)/\fc i=Zk/\f=hK i/\t=xE i/\km z i=Zk/\zK wh fc f t 0=(i:Int):=λi d q m=>by obtain⟨e,g,j,k⟩:=(zv d).1 q;rw[m]at l;exact⟨i,d,g,e,j,k,l,m⟩
  by_cases c0:jZ wh fc f t 0 0=Zk
  .exact b 0 O c0 (by rw[a,qI c0];rfl)
  by_cases c1:jZ wh fc f t 0 1=Zk
  .exact b 1 O c1 (by rw[a,qF c0,qI c1];rfl)
  by_cases c2:jZ wh fc f t 0 2=Zk
  .exact b 2 O c2 (by rw[a,qF c0,qF c1,qI c2];rfl)
  by_cases c3:jZ wh fc f t 0 3=Zk
  .exact b 3 O c3 (by rw[a,qF c0,qF c1,qF c2,qI c3];rfl)
  rw[a,qF c0,qF c1,qF c2,qF c3]at p;omega
 rintro⟨i,d,e,g,j,k,n,o⟩;rw[o,qH,qG];exact⟨O,n⟩
def lQ{t:Nat}(o:i<4)(k:fc i=Zk)(l:wh=Zm (i<2))(m:f=hK i)(g:t=xE i):zK wh fc f t 0=(i:Int):=by
 have q:zK wh fc f t 0=if jZ wh fc f t 0 0 then 0 else if jZ wh fc f t 0 1 then 1 else if jZ wh fc f t 0 2 then 2 else if jZ wh fc f t 0 3 then 3 else -1:=R;have b:jZ wh fc f t 0 i=Zk:=(zv o).2 ⟨k,l,m,g⟩;have a:∀j,j<4->j≠i->¬jZ wh fc f t 0 j=Zk:=λj p e h=>by have:=((zv p).1 h).2.2.2;rw[g]at this;revert this;unfold xE;have d:i=0\/i=1\/i=2\/i=3:=O;have n:j=0\/j=1\/j=2\/j=3:=O;rcases d with rfl|rfl|rfl|rfl<;>rcases n with rfl|rfl|rfl|rfl<;>simp at e|-
 rw[q];have d:i=0\/i=1\/i=2\/i=3:=O;obtain rfl|rfl|rfl|rfl:=d
 .rw[qI b];rfl
 .rw[qF (a 0 O O),qI b];rfl
 .rw[qF (a 0 O O),qF (a 1 O O),qI b];rfl
 rw[qF (a 0 O O),qF (a 1 O O),qF (a 2 O O),qI b];rfl
def tc(l:kJ z wh fc b){t:Nat}(D:f<64)(C:jB (z f)=((bg wh+5:Nat):Int)):t∈uz z wh fc f++pA z wh fc f↔(Zm (0<=zK wh fc f t 0)&&km z (zK wh fc f t 0).toNat)=Zk:=by
 obtain⟨F,G⟩:=FK l D C;rw[Fv,Yi];have e:(hK (jC wh)+2=xE (jC wh)/\hD (jC wh)=1/\hN (jC wh)=2/\jC wh<4/\Zm (jC wh<2)=wh)/\(hK (jC wh+1)-2=xE (jC wh+1)/\hD (jC wh+1)=-1/\hN (jC wh+1)=3/\jC wh+1<4/\Zm (jC wh+1<2)=wh):=Vn;obtain⟨⟨q,r,u,m,n⟩,⟨v,w,x,o,p⟩⟩:=e;constructor
 .rintro(h|h)
  .unfold uz at h;split at h
   .rename_i d;rw[qH]at d;have a:=F d.1;have j:t=xE (jC wh):=(by rw[qT.1 h,<-q,<-a]);exact⟨jC wh,m,n.symm,d.1,a,j,by rw[Fx l.ok m,n,r,u,<-a];exact d.2,lQ m d.1 n.symm a j⟩
   cases h
  unfold pA at h;split at h
  .rename_i d;rw[qH]at d;have a:=G d.1;have j:t=xE (jC wh+1):=(by rw[qT.1 h,<-v,<-a]);exact⟨jC wh+1,o,p.symm,d.1,a,j,by rw[Fx l.ok o,p,w,x,<-a];exact d.2,lQ o d.1 p.symm a j⟩
  cases h
 rintro⟨i,E,y,A,k,B,g,_⟩;rw[Fx l.ok E,<-y]at g;have:i=jC wh\/i=jC wh+1:=by have d:i=0\/i=1\/i=2\/i=3:=O;rcases d with rfl|rfl|rfl|rfl<;>(subst y;decide)
 obtain rfl|rfl:=this
 .left;unfold uz;rw[r,u,<-k]at g;rw[qI (by rw[A,g];rfl),B,<-q,k];exact qT.2 R
 right;unfold pA;rw[w,x,<-k]at g;rw[qI (by rw[A,g];rfl),B,<-v,k];exact qT.2 R
def qjy(l:kJ z wh fc b){t:Nat}(q:f<64)(y:t<64)(L:u∈U5):j9 z wh fc b f t u=Zk↔∃i,i<6/\jB (z f)=((bg wh+i:Nat):Int)/\t∈yF z wh fc b f/\(f,t,u)∈xT (Zm (i=0)) f t:=by
 have m:=ji l.ok y;by_cases k:vB (z f)=xK wh
 case neg=>
  constructor
  .intro h;unfold j9 at h;rw[qE k]at h;simp at h
  rintro⟨i,n,g,_⟩;exact w_ (ja n g) k
 obtain⟨i,n,g,_⟩:=zq k;have K:=ro n g;obtain⟨F,E⟩:=zj n g;have v:(∃i,i<6/\jB (z f)=((bg wh+i:Nat):Int)/\t∈yF z wh fc b f/\(f,t,u)∈xT (Zm (i=0)) f t)↔(t∈yF z wh fc b f/\(f,t,u)∈xT (Zm (i=0)) f t):=by
  constructor
  .rintro⟨j,M,e,h⟩;have:j=i:=(by rw[g]at e;omega);rw[this]at h;exact h
  intro h;exact⟨i,n,g,h⟩
 rw[v,pg y L];rw[j9,qJ k,K,Xc,qH,qH];have P:Zm ((i:Int)=0)=Zm (i=0):=by
  by_cases h:i=0
  .simp[h]
  rw[qE h,qE O]
 rw[P];have r:∀(D:(Zm (u≠0)==(Zm (i=0)&&zO t))=Zk),((!decide (vB (z t)=xK wh))=Zk/\(if(i:Int)=0 then BD z wh b f t else EE z wh fc (i:Int).toNat f t u)=Zk)↔t∈yF z wh fc b f:=by
  intro D;rw[YK,qX];rw[yF,Yi,qV,Dq q n g y,F,E];rw[yG,F,rt m,rt m];by_cases G:i=0
  .subst G;have x:=l.pw wh f q g;rw[qJ R,qI R,qI R,qI (show((0:Nat):Int)=0 from R),Fq q x];rw[BD,Ym,YF,qG];cases w:xS (zI z) 0 (xK wh) (f:Int) (t:Int)with
   | true=>
    rw[qI R,Ym,qG,qG];constructor
    .rintro⟨_,h|h⟩
     .exact Zi ⟨R,Zj h⟩
     exact Zi ⟨R,Zi h⟩
    rintro(⟨_,h|h⟩|h)
    .exact⟨by rw[(lT l.beh h).1];exact rq _,Zj h⟩
    .exact⟨by rw[h];exact λe=>BC wh e.symm,Zi h⟩
    rw[(DN x h).2]at w;cases w
   | false=>
    rw[qF WU,ir q y x];constructor
    .rintro⟨_,h⟩;exact Zj h
    rintro(⟨h,_⟩|h)
    .cases h
    exact⟨by rw[(DN x h).1];exact rq _,h⟩
  rw[qE G,qF O,qF WU,qF WU,YE,YK,qX];unfold EE;by_cases H:i=5
  .subst H;have u0:u=0:=(by rw[YF]at D;have:Zm (u≠0)=Zl:=D;simpa using this);subst u0;rw[qJ R,qI R,tc l q g,Xc];cases w:xS (zI z) 5 (xK wh) (f:Int) (t:Int)with
   | true=>
    rw[qI R];constructor
    .rintro⟨h,_⟩;exact Zi ⟨R,h⟩
    rintro(⟨_,h⟩|h)
    .exact⟨h,R⟩
    obtain⟨B,a,c1,c2,c3,A,o,_⟩:=Fv.1 h;rw[Fx l.ok a,<-c1]at o;have d:=cJ l a c1 c2 o;refine⟨?_,R⟩;rw[A,d.dot (pB B a).1];exact rq _
   | false=>
    rw[qF WU];constructor
    .rintro⟨_,h⟩;exact Zj h
    rintro(⟨h,_⟩|h)
    .cases h
    refine⟨?_,h⟩;obtain⟨B,a,c1,c2,c3,A,o,_⟩:=Fv.1 h;rw[Fx l.ok a,<-c1]at o;have d:=cJ l a c1 c2 o;rw[A,d.dot (pB B a).1];exact rq _
  rw[qE H];cases w:xS (zI z) i (xK wh) (f:Int) (t:Int)with
  | true=>simp
  | false=>simp
 constructor
 .rintro⟨⟨C,p⟩,J⟩;exact⟨(r p).1 ⟨C,J⟩,p⟩
 rintro⟨C,p⟩;have:=(r p).2 C;exact⟨⟨this.1,p⟩,this.2⟩
def uP(z:I2)(b:Int)(f t:Nat):Bool:=Zm (vE (z f)=0)&&Zm ((t:Int)=b)&&Zm (f%8≠t%8)
def dP(u:UInt8):Nat:=if u=110 then 1 else if u=98 then 2 else if u=114 then 3 else 4
def wC(z:I2)(b:Int)(f t:Nat):I2:=if uP z b f t then vW z (f/8*8+t%8) 46 else z
def CY(z:I2)(b:Int)(f t:Nat):I2:=vW (vW (wC z b f t) t (z f)) f 46
def n9(z:I2)(wh:Bool)(b:Int)(f t:Nat)(u:UInt8):I2:=if u=0 then CY z b f t else vW (CY z b f t) t (yP (dP u) wh)
def sm(z:I2)(wh:Bool)(fc:I5)(f t:Nat)(u:UInt8):Bool:=Zm (vE (z f)=5)&&Zm (0<=zK wh fc f t u)
def ua(z:I2)(wh:Bool)(fc:I5)(b:Int)(f t:Nat)(u:UInt8):I2:=if sm z wh fc f t u then vW (vW (n9 z wh b f t u) (zD (zK wh fc f t u).toNat).toNat 46) ((f+t)/2) (yP 3 wh)else n9 z wh b f t u
def jE.castle{fc':I5}{g:Int}{Q:I0}(r:jE z wh fc b h g Q)(e:∀i,i<4->fc i=fc' i):jE z wh fc' b h g Q:=⟨r.size,r.sq,r.wh,λi a=>by rw[<-e i a];exact r.c i a,r.b,r.h,r.g⟩
def BG:∀wh:Bool,∀u∈[98,110,113,114],yP (dP u) wh=yH (yQ (bg wh)) u:=WS
def cI:∀i,i<4->xE i=hK i+2\/xE i+2=hK i:=WS
def wB{t:Nat}(h:uP z b f t=Zl):wC z b f t=z:=by rw[wC,h];rfl
def pC(y:kJ z wh fc b){t:Nat}(D:i<6)(J:f<64)(R:t<64)(p:jB (z f)=((bg wh+i:Nat):Int))(o:t∈yF z wh fc b f)(a9:(f,t,u)∈xT (Zm (i=0)) f t):ua z wh fc b f t u=zE z b (f,t,u):=by
 have m:=ro D p;obtain⟨u',e,u0,u1⟩:=wX a9;have:u=u':=Vo;subst this;obtain⟨B,b1⟩|⟨ci,b5,e1,e2,a8,e4⟩:=ko y D J R p o a9
 .have v:sm z wh fc f t u=Zl:=by
   cases x:sm z wh fc f t u with
   | false=>rfl
   | true=>
    unfold sm at x;rw[qH,qG,qG,m]at x;have i5:i=5:=O
    have g:=u0 (qE O);subst g;have T:=x.2;have l:∀j,j<4->jZ wh fc f t 0 j=Zk->False:=λj A h=>(by obtain⟨_,_,a3,a4⟩:=(zv A).1 h;have:=b1 i5;have:=cI j A;omega);have b4:zK wh fc f t 0=if jZ wh fc f t 0 0 then 0 else if jZ wh fc f t 0 1 then 1 else if jZ wh fc f t 0 2 then 2 else if jZ wh fc f t 0 3 then 3 else -1:=rfl;rw[b4,qF (l 0 O),qF (l 1 O),qF (l 2 O),qF (l 3 O)]at T;omega
  have hB:=iq B b1;funext n;rw[hB n];rw[ua,v,qF WU];have P:=B.ft;have W:CY z b f t n=if n=t then z f else if n=f then 46 else if n=wu wh b i t then 46 else z n:=by
   unfold CY vW;by_cases c1:n=f
   .rw[qI c1,qF (λe=>P (c1.symm.trans e)),qI c1]
   rw[qF c1,qF c1];by_cases c2:n=t
   .rw[qI c2,qI c2]
   rw[qF c2,qF c2];by_cases r:i=0/\(t:Int)=b
   .obtain⟨q1,q2⟩:=r;obtain⟨_,_,a8,_,_⟩:=B.ep q1 q2;have b2:=B.cf;have d:uP z b f t=Zk:=(by rw[uP,m,q1,qJ q2,qJ (show f%8≠t%8 from λe=>b2 (by rw[a8,<-e];omega))];rfl);rw[wC,d,qI rfl,<-a8];rfl
   have d:uP z b f t=Zl:=by
    cases x:uP z b f t with
    | false=>rfl
    | true=>
     unfold uP at x;rw[qH,qH,qG,qG,m]at x;exact w_ ⟨O,x.1.2⟩ r
   rw[wB d,B.nep r,qF c2]
  unfold n9;by_cases g:u=0
  .rw[qI g,W,g];rfl
  rw[qF g];unfold vW;have i0:i=0:=by
   by_cases k:i=0
   .exact k
   exact w_ (u0 (qE k)) g
  have hz:=jn Vn (show jB (z f)=((bg wh:Nat):Int) by rw[p,i0];rfl);by_cases c2:n=t
  .rw[qI c2,qI c2,hz];apply BG wh u;obtain e|e|e|e|e:=u1
   .exact w_ e g
   .rw[e];simp
   .rw[e];simp
   .rw[e];simp
   rw[e];simp
  rw[qF c2,W,qF c2,qF c2]
 subst a8 e4;have E:=zj D p;have F:t∈uz z wh fc f++pA z wh fc f:=by
  unfold yF at o;rw[Yi,qV,E.1,E.2]at o;obtain⟨o,_⟩|o:=o
  .rw[Dq J D p R]at o;have:=(qx8 o).1;rw[FI _ 5 O _ 1]at this;have:=qxv f J t R this;have:=cI ci b5.hi;omega
  rw[qE (show ¬(5:Nat)=0 from O),qF WU,qJ rfl,qI rfl]at o;exact o
 obtain⟨a,A,j1,K,H,V,j5,b0⟩:=Fv.1 ((tc y J p).1 F);obtain⟨hp,hk⟩:=zj D p;have v:sm z wh fc f t 0=Zk:=by rw[sm,m,b0,qJ (show 0<=(a:Int) from O)];rfl
 have d:uP z b f t=Zl:=by rw[uP,m];rfl
 have w:yP 3 wh=z (hR a):=by
  have q:a=0\/a=1\/a=2\/a=3:=O;subst j1;obtain rfl|rfl|rfl|rfl:=q
  .rw[show z (hR 0)=82 from(y.c0 K).2];rfl
  .rw[show z (hR 1)=82 from(y.c1 K).2];rfl
  .rw[show z (hR 2)=114 from(y.c2 K).2];rfl
  rw[show z (hR 3)=114 from(y.c3 K).2];rfl
 obtain⟨f1,f2,f3,f4,f5,f6,f7,f8,f9,a0,a1,b3,a2,a5,a6,a7,M⟩:=zi a A;have G:(f+t)/2=rN a:=by have q:a=0\/a=1\/a=2\/a=3:=O;rw[H,V];rcases q with rfl|rfl|rfl|rfl<;>rfl
 have Q:(zD a).toNat=hR a:=by rw[(dq a A).2.2];rfl
 funext n;have C:=FB (z:=z) (b:=b) A (by rw[<-H,hp];rfl) (by rw[<-H,hk];rfl) n;rw[<-H,<-V]at C;rw[C];rw[ua,v,qI rfl,b0,YE,Q,G,w];unfold n9 CY;rw[qI rfl,wB d];unfold vW;by_cases c1:n=hR a
 .rw[qF (λe=>M (e.symm.trans c1)),qI c1,qI c1]
 rw[qF c1,qF c1];by_cases c2:n=rN a
 .rw[qI c2,qI c2]
 rw[qF c2,qF c2];by_cases c3:n=t
 .rw[qI c3,qI c3,qF (λe=>b3 (by rw[<-V,<-H];exact c3.symm.trans e))]
 rw[qF c3,qF c3]
def F9(a:kJ z wh fc b){t:Nat}(h:i<6)(r:f<64)(A:t<64)(g:jB (z f)=((bg wh+i:Nat):Int))(w:t∈yF z wh fc b f)(B:(f,t,u)∈xT (Zm (i=0)) f t):xO (zE z b (f,t,u))=Zk:=by
 obtain⟨e,C⟩|⟨j,d,k,l,m,o⟩:=ko a h r A g w B
 .exact okZ e (iq e C) a.ok
 subst k l m o;obtain⟨y,v⟩:=zj h g;obtain⟨p,D,q,E,_⟩:=zi j d.hi;refine Fy λn x=>?_;rw[FB d.hi (by rw[y];rfl) (by rw[v];rfl)];split
 .rfl
 split
 .exact ji a.ok q
 split
 .exact ji a.ok p
 split
 .rfl
 exact ji a.ok x
def vo(z:I2)(wh:Bool)(fc:I5)(b:Int)(f t:Nat)(u:UInt8):Bool:=j9 z wh fc b f t u&&!(zM (ua z wh fc b f t u) (xR (ua z wh fc b f t u) wh) (!wh))
def C8(k:kJ z wh fc b)(v:-1<=b)(w:b<=63){t:Nat}(l:f<64)(m:t<64)(x:u∈U5):vo z wh fc b f t u=Zk↔(f,t,u)∈yo z wh fc b:=by
 unfold vo yo;rw[qH,qjy k l m x,qV,Ay k];have n:∀i,i<6->jB (z f)=((bg wh+i:Nat):Int)->t∈yF z wh fc b f->(f,t,u)∈xT (Zm (i=0)) f t->(!(zM (ua z wh fc b f t u) (xR (ua z wh fc b f t u) wh) (!wh)))=uS z wh b (f,t,u):=λi g d j a=>by obtain⟨y,A,e⟩:=(jy k v w g l m d j a).1;rw[uS,pC k g l m d j a,e,YE,jk (F9 k g l m d j a) A]
 constructor
 .rintro⟨⟨i,g,d,j,a⟩,h⟩;rw[n i g d j a]at h;exact⟨⟨i,f,t,u,R,g,l,m,d,j,a⟩,h⟩
 rintro⟨⟨i,r,B,C,e,g,_,_,d,j,a⟩,h⟩;have o:f=r:=by injection e
 have p:t=B:=Vo;have q:u=C:=Vo;subst o p q;exact⟨⟨i,g,d,j,a⟩,by rw[n i g d j a];exact h⟩
def pQ(i:Nat):Nat:=i%8*8+i/8
def ED(z:I2)(f t:Nat):Nat:=if vE (z f)=0/\zO t=Zk then 5 else 1
def kr(z:I2)(wh:Bool)(fc:I5)(b:Int)(f t n:Nat):List Mv:=((U5.take n).filter λu=>vo z wh fc b f t u).map λu=>(f,t,u)
def eH(z:I2)(wh:Bool)(fc:I5)(b:Int)(f n:Nat):List Mv:=(h_ n).flatMap λk=>kr z wh fc b f (pQ k) (ED z f (pQ k))
def yE(z:I2)(wh:Bool)(fc:I5)(b:Int)(n:Nat):List Mv:=(h_ n).flatMap λi=>if vB (z (pQ i))=xK wh then eH z wh fc b (pQ i) 64 else[]
structure nn(w:I6)(PA:I0)(f t:Nat)(u:UInt8)(W:I6):Prop where
 pa:W.heap[w.heap.size]?=S (Z PA 70)
 mv:W.heap[w.heap.size+1]?=S (Z (ZJ f t u) 87)
 lt:w.heap.size+1<W.heap.size
 gr:Gr w W
def nn.next{t:Nat}(h:nn w PA f t u W)(g:Gr W a):nn w PA f t u a:=⟨(Zz g (Nat.lt_of_succ_lt h.lt)).trans h.pa,(Zz g h.lt).trans h.mv,qN h.lt (ZR g),o_ h.gr g⟩
def nn.start(w:I6)(PA:I0)(f t:Nat)(u:UInt8):nn w PA f t u ((w.alloc (Z PA 70)).alloc (Z (ZJ f t u) 87)):=by obtain⟨a,b⟩:=eQ (w:=w) (PA:=PA) (o:=(ZJ f t u)) (ty:=70) (ty2:=87) ZO;exact⟨a,b,UA,ZN.al⟩
def nn.cells{t:Nat}(h:nn w PA f t u W):W.cell? ⟨w+1,0,N⟩=I L f/\W.cell? ⟨w+1,1,N⟩=I L t/\W.cell? ⟨w+1,2,N⟩=S (I Zg u.toNat):=⟨UK,UK,UK⟩
def nn.at{t:Nat}(h:nn w PA f t u W)(a:PA[k]?=v):W.cell? ⟨w,k,N⟩=v:=by rw[qn h.pa];exact a
def pP(f t:Nat)(s:Int):Bool:=((f:Int)==s)||((t:Int)==s)
def bD(f t:Nat)(u:UInt8)(s:Int)(w:I6):ZL 190 #[ZJ f t u,s] w (pP f t s):=by
 have a:=ZQ w (Z (ZJ f t u) 87);have i:(w.alloc (Z (ZJ f t u) 87)).cell? w=f:=by rw[qn a];rfl
 have j:(w.alloc (Z (ZJ f t u) 87)).cell? ⟨w,1,N⟩=t:=by rw[qn a];rfl
 have b:=X ((q_ w).alloc (ZJ f t u) 87);unfold pP;obtain⟨h,d⟩:=Zo ((f:Int)==s);obtain⟨k,g⟩:=Zo ((t:Int)==s);rw[d,g];cases h
 .exact II
 exact II
def AW(f t:Nat):Bool:=Zm (uI f t*uI f t=4)
def vK(z:I2)(f t:Nat):Int:=if jD (z f)&&AW f t then(((f+t)/2:Nat):Int)else -1
def kK(z:I2)(f t:Nat)(h:Int):Int:=if jD (z f)||!decide (z t=46)then 0 else min (h+1) 65535
def kj(wh:Bool)(g:Int):Int:=if wh then g else min (g+1) 65535
def qzy{g:Int}(r:jE z wh fc b h g PA)(f t:Nat)(K:f<64)(S:t<64)(u:UInt8)(w:I6):ZL 100 #[PA,ZJ f t u] w (vK z f t):=by
 have A:=nn.start w PA f t u;have B:=X (λW=>xz (z f) W);obtain⟨T,a2,a3⟩:=A.cells;have cf:=A.at (r.sq f K);have D:=X A.gr;have a4:0<=(f:Int):=O;have M:(f:Int)<64:=O;obtain⟨V,G⟩:=Zn (vK z f t);rw[G.a];obtain⟨F,v⟩:=Zn (jD (z f));rw[v.a]at B;obtain⟨a,l⟩:=Zn ((t:Int)/8-f/8);have a0:a_ L ((t:Int)/8-f/8)=a:=by rw[YO];have:=l.a;omega
 have y:uI f t=a:=by rw[<-l.a];unfold uI;omega
 have H:-7<=a/\a<=7:=by have:=l.a;omega
 have E:-100<=a*a/\a*a<=100:=by obtain⟨a6,d⟩:=H;have J:a=-7\/a=-6\/a=-5\/a=-4\/a=-3\/a=-2\/a=-1\/a=0\/a=1\/a=2\/a=3\/a=4\/a=5\/a=6\/a=7:=O;rcases J with e|e|e|e|e|e|e|e|e|e|e|e|e|e|e<;>(rw[e];decide)
 obtain⟨p,q⟩:=Zn (a*a);have a5:a_ L (a*a)=p:=by rw[YO];have:=q.a;omega
 obtain⟨mm,m⟩:∃n,Y (n=(f+t)/2):=⟨_,X R⟩;have P:a_ L ((f:Int)+t)=(f:Int)+t:=Vc;have i:((f:Int)+t)/2=(mm:Int):=by have:=m.a;omega
 have Q:((f:Int)+t).tdiv 2=(mm:Int):=by rw[Int.tdiv_eq_ediv_of_nonneg O];exact i
 have a1:a_ L (mm:Int)=mm:=by rw[YO];have:=m;omega
 have k:Y (V=if F&&Zm (p=4)then(mm:Int)else -1):=X (by rw[<-G.a];unfold vK AW;rw[v.a,y,q.a,m.a]);cases F
 .have j:Y (V=-1):=(by rw[k.a];rfl);unfold ZL;go_in;go_wp2_with(go_at_call 121;apply Z1 (B _));go_ret;exact⟨Tp,D⟩
 by_cases o:p=4;have j:Y (V=(mm:Int)):=(by rw[k.a,qJ o];rfl);have C:=YF.2 o;rotate_left;have j:Y (V=-1):=(by rw[k.a,qE o];rfl);have C:(p==4)=Zl:=by rw[qM];exact o
 all_goals
  unfold ZL;go_in;go_wp2_with(go_at_call 121;apply Z1 (B _));go_ret;exact⟨Tp,D⟩
def qkn{g:Int}(r:jE z wh fc b h g PA)(f t:Nat)(A:f<64)(D:t<64)(u:UInt8)(J:0<=h)(K:h<=65535)(w:I6):ZL 101 #[PA,ZJ f t u] w (kK z f t h):=by
 have k:=nn.start w PA f t u;have n:=X (λW=>xz (z f) W);obtain⟨M,Q,a⟩:=k.cells;have cf:=k.at (r.sq f A);have d:=k.at (r.sq t D);have H:=k.at r.h;have p:=X k.gr;have B:0<=(f:Int):=O;have C:(f:Int)<64:=O;have E:0<=(t:Int):=O;have F:(t:Int)<64:=O;obtain⟨V,y⟩:=Zn (kK z f t h);rw[y.a];obtain⟨v,l⟩:=Zn (jD (z f));rw[l.a]at n;obtain⟨o,m⟩:=Zn (!decide (z t=46));have G:(((z t).toNat:Int)!=46)=o:=by rw[<-m.a];exact If
 have j:Y (V=if v||o then 0 else min (h+1) 65535):=X (by rw[<-y.a];unfold kK;rw[l.a,m.a]);have P:a_ L (h+1)=h+1:=Vc;cases v;cases o;have i:Y (V=min (h+1) 65535):=Tp;rotate_left;have i:Y (V=0):=Tp;rotate_left;have i:Y (V=0):=Tp;all_goals
  unfold ZL;go_in;go_wp2_with(go_at_call 121;apply Z1 (n _));go_ret;exact⟨by rw[i.a];rfl,p⟩
def qkp{g:Int}(r:jE z wh fc b h g PA)(i:0<=g)(j:g<=65535)(w:I6):ZL 102 #[PA] w (kj wh g):=by
 have f:(w.alloc (Z PA 70)).cell? ⟨w,64,N⟩=wh:=by rw[Z8 _ _ _ _ R];exact r.wh
 have d:(w.alloc (Z PA 70)).cell? ⟨w,71,N⟩=g:=by rw[Z8 _ _ _ _ R];exact r.g
 have k:a_ L (g+1)=g+1:=Vc;have a:=X ((q_ w).alloc PA 70);cases wh
 .exact IJ
 exact IJ
def hoA(k:Nat):I0:=#[I L (xY k),I Zg (if k<2 then 75 else 107),I L (zD k),I Zg (if k<2 then 82 else 114)]
def Gh(k:Nat)(a:k<4)(w:I6):(l_ 269 (vp.toArray) k).run c_ w=.ok (hoA k) w:=by
 have:k=0\/k=1\/k=2\/k=3:=O;obtain rfl|rfl|rfl|rfl:=this
 .exact Gl w
 .exact Gk w
 .exact Gj w
 exact Gi w
def E6(f t k:Nat):Bool:=pP f t (xY k)||pP f t (zD k)
def kB(fc:I5)(f t n k:Nat):Bool:=fc k&&!(Zm (k<n)&&E6 f t k)
def yi(F:I5):I0:=#[Za (F 0),Za (F 1),Za (F 2),Za (F 3)]
def En(F:I5)(k:Nat)(a:k<4):(yi F)[k]?=(F k):=by have:k=0\/k=1\/k=2\/k=3:=O;exact O1
def CT(F:I5)(k:Nat)(a:k<4)(c:Bool):(yi F).setIfInBounds k c=yi (λj=>if j=k then c else F j):=by have:k=0\/k=1\/k=2\/k=3:=O;exact O1
def gd{F G:I5}(h:∀k,k<4->F k=G k):yi F=yi G:=by unfold yi;rw[h 0 O,h 1 O,h 2 O,h 3 O]
def fN:(c_.info? 68).map (·.size)=S 4:=WR
def td(F:I5):(yi F).all (·.oneCell')=Zk:=by simp[yi,Value.oneCell']
structure Ca(w:I6)(F:I5)(f t:Nat)(u:UInt8)(W:I6):Prop where
 ca:W.heap[w.heap.size]?=S (Z (yi F) 68)
 mv:W.heap[w.heap.size+1]?=S (Z (ZJ f t u) 87)
 rs:W.heap[w.heap.size+2]?=S (Z (yi λ_=>Zl) 68)
 lt:w.heap.size+2<W.heap.size
 gr:Gr w W
def Ca.next{F:I5}{t:Nat}(h:Ca w F f t u W)(g:Gr W a):Ca w F f t u a:=by have:=h.lt;exact⟨(Zz g O).trans h.ca,(Zz g O).trans h.mv,(Zz g h.lt).trans h.rs,qN h.lt (ZR g),o_ h.gr g⟩
def Ca.set{F:I5}{t:Nat}(h:Ca w F f t u W)(k:Nat)(b:k<4)(c:Bool):Ca w (λj=>if j=k then c else F j) f t u (W.setCell ⟨w,k,N⟩ c):=by have a:Fr (λj _=>j≠w.heap.size) W (W.setCell ⟨w,k,N⟩ c):=ZP.setCell _ (λo _ q=>q R);have d:(W.setCell ⟨w,k,N⟩ c).heap.size=W.heap.size:=World.size_setCell ..;exact⟨by rw[<-CT F k b c];exact qv h.ca,a.same _ _ h.mv O,a.same _ _ h.rs O,by rw[d];exact h.lt,Yr h.gr Zy _⟩
def qx4(fc:I5)(f t:Nat)(u:UInt8)(w:I6)(hH:vJ w):ZL 99 #[yi fc,ZJ f t u] w (yi (kB fc f t 4)):=by
 obtain⟨x1,x2,x3,x4⟩:=jG w (Z (yi fc) 68) (Z (ZJ f t u) 87) (Z (yi λ_=>Zl) 68);have H:Gr w (((w.alloc (Z (yi fc) 68)).alloc (Z (ZJ f t u) 87)).alloc (Z (yi λ_=>Zl) 68)):=ZN.al.al;have a5:Ca w fc f t u (((w.alloc (Z (yi fc) 68)).alloc (Z (ZJ f t u) 87)).alloc (Z (yi λ_=>Zl) 68)):=⟨x1,x2,x3,by rw[x4];omega,H⟩;have y:=X a5;have D:=X (hH.gr H);have a9:=X (λ(s:Int) W=>bD f t u s W);clear x1 x2 x3 x4 H a5 hH;generalize hL:vp.toArray=HL;obtain⟨a4,a6⟩:=Zn (kB fc f t 4);rw[a6.a];show ZL 99 #[Zc #[fc 0,fc 1,fc 2,fc 3],ZJ f t u] w (yi a4);unfold ZL;go_in;go_upto_region 1 with fail;show n_ _ _ _ _ (((w.alloc (Z (yi fc) 68)).alloc (Z (ZJ f t u) 87)).alloc (Z (yi λ_=>Zl) 68));generalize ((w.alloc (Z (yi fc) 68)).alloc (Z (ZJ f t u) 87)).alloc _=w0 at y D|-;go_wp2_with(refine Yo R 269 _ R 1 0 R vp _ D.a.1 underlying269 rfl ss ?_);go_loopg [8] 4 (λgm n wr=>∃k:Nat,k+gm=4/\n=k/\Ca w (kB fc f t k) f t u wr)
 case atStart=>exact⟨0,O,R,by
  have:kB fc f t 0=fc:=by funext j;unfold kB;simp
  rw[this];exact y⟩
 case round=>
  clear y D;obtain⟨k,k1,rfl,v⟩:=hrel;by_cases hk:k<4
  .obtain⟨J,P⟩:∃x:Int,Y ((if k<2 then(75:Int)else 107)=x):=⟨_,X R⟩;obtain⟨K,Q⟩:∃x:Int,Y ((if k<2 then(82:Int)else 114)=x):=⟨_,X R⟩;have V:∀W:I6,(l_ 269 HL k).run c_ W=.ok (Zc #[xY k,I Zg J,zD k,I Zg K]) W:=λW=>(by rw[<-P.a,<-Q.a,<-hL];exact Gh k hk W);clear P Q;have m:Y (∀j,j<4->kB fc f t (k+1) j=if j=k then fc k&&!(E6 f t k)else kB fc f t k j):=X (λj _=>by
    unfold kB;by_cases e:j=k
    .subst e;rw[qI R,qJ O];rfl
    .rw[qF e]
     have:Zm (j<k+1)=Zm (j<k):=by
      by_cases q:j<k
      .rw[qJ q,qJ O]
      .rw[qE q,qE O]
     rw[this])
   have h:Y (kB fc f t k k=fc k):=X (by unfold kB;simp);have o:Y (E6 f t k=(pP f t (xY k)||pP f t (zD k))):=R;obtain⟨TA,a8⟩:=Zn (E6 f t k);rw[a8.a]at o m;obtain⟨A,E⟩:=Zn (xY k);obtain⟨B,G⟩:=Zn (zD k);rw[E.a,G.a]at o;have b0:∀W:I6,(l_ 269 HL k).run c_ W=.ok (Zc #[A,I Zg J,B,I Zg K]) W:=λW=>(by rw[<-E.a,<-G.a];exact V W);clear V E G a8;go_upto_region 4 with fail;have hx:=ZQ wr (Z #[A,I Zg J,B,I Zg K] 268);have b:=v.next ((q_ wr).alloc #[A,I Zg J,B,I Zg K] 268);show n_ _ _ _ _ (wr.alloc (Z #[A,I Zg J,B,I Zg K] 268));generalize wr.alloc _=p at hx b|-;generalize wr.heap.size=r at hx|-;have c0:p.cell? r=A:=by rw[qn hx];rfl
   have c2:p.cell? ⟨r,2,N⟩=B:=(by rw[qn hx];rfl);have i:=Zx c0;have M:p.cell? ⟨w+1,0,N⟩=f:=(by rw[qn b.mv];rfl);have m1:p.cell? ⟨w+1,1,N⟩=t:=(by rw[qn b.mv];rfl);have m2:p.cell? ⟨w+1,2,N⟩=I Zg u.toNat:=(by rw[qn b.mv];rfl);clear hx v b0;go_cut [21]from 9 to 24 (λa1 wx=>a1=TA/\Ca w (kB fc f t k) f t u wx)
   case first=>
    obtain⟨y1,q1⟩:=Zo (pP f t A);obtain⟨y2,q2⟩:=Zo (pP f t B);rw[q1,q2]at o;have g:w+1<p.heap.size:=Zx M;clear m h;cases y1
    .exact WO
    .exact WO
   case rest=>
    obtain⟨rfl,d⟩:=hcut;clear b c0 c2 M m1 m2 i o;go_upto_if 21 with fail;cases TA
    .have z:Y (yi (kB fc f t (k+1))=yi (kB fc f t k)):=X (gd λj hj=>by
      rw[m.a j hj];by_cases e:j=k
      .subst e;rw[qI R,h.a];simp
      .rw[qF e])
     have C:Y (Ca w (kB fc f t (k+1)) f t u wc):=⟨by rw[z.a];exact d.ca,d.mv,d.rs,d.lt,d.gr⟩;clear d m h;exact Ir
    .have z:Y (yi (kB fc f t (k+1))=yi (λj=>if j=k then Zl else kB fc f t k j)):=X (gd λj hj=>by
      rw[m.a j hj];by_cases e:j=k
      .rw[qI e,qI e];simp
      .rw[qF e,qF e])
     have l:=d.set k hk Zl;have C:Y (Ca w (kB fc f t (k+1)) f t u (wc.setCell ⟨w,k,N⟩ Zl)):=⟨by rw[z.a];exact l.ca,l.mv,l.rs,l.lt,l.gr⟩;have qk:wc.cell? ⟨w,k,N⟩=(kB fc f t k k):=(by rw[qn d.ca];exact En _ k hk);have ok:wc.frozen? ⟨w,k,N⟩=Zl:=xr d.ca;have a2:0<=(k:Int):=O;have a3:(k:Int)<4:=O;clear d m h l z;exact Ir
  .have ek:k=4:=O;subst ek;have T:=X v.ca;have a7:=X v.rs;have a0:=X v.gr;rw[a6.a]at T;go_wp2_with(first|(refine ZV R 68 _ R w R 68 (yi a4) (0,0) _ T.a underlying68 rfl fN ?_)|(refine ZU rfl 68 _ _ rfl (w+1+1) (yi a4) rfl rfl 68 (yi λ_=>Zl) a7.a fN R (td a4) ?_));exact ZS (v:=(yi a4)) (Yp results99 _ _ (w+1+1) 68 _ (0,0) _ R (Zt a7) underlying68 rfl fN) R ⟨R,a0.setRow _ O _⟩
structure DT(w:I6)(PA:I0)(f t:Nat)(u:UInt8)(W:I6):Prop where
 pm:nn w PA f t u W
 rs:∃R,R.size=72/\W.heap[w.heap.size+1+1]?=S (Z R 70)
 lt:w.heap.size+1+1<W.heap.size
def DT.next{t:Nat}(h:DT w PA f t u W)(g:Gr W a):DT w PA f t u a:=by obtain⟨e,b,d⟩:=h.rs;exact⟨h.pm.next g,⟨e,b,(Zz g h.lt).trans d⟩,qN h.lt (ZR g)⟩
def DT.put{t:Nat}(h:DT w PA f t u W)(e:I0)(a:e.size=72):DT w PA f t u (W.setRow (w+1+1) e):=by obtain⟨g,d,b⟩:=h.rs;exact⟨⟨by rw[Zu O];exact h.pm.pa,by rw[Zu O];exact h.pm.mv,by rw[Xa];exact h.pm.lt,h.pm.gr.setRow _ O _⟩,⟨e,a,Zt b⟩,by rw[Xa];exact h.lt⟩
def iJ{g:Int}(r:jE z wh fc b h g PA)(f t:Nat)(u:UInt8)(hf:f<64)(ht:t<64)(a6:jA (z f)=Zk->t=f+2->f+3<64)(a7:jA (z f)=Zk->t+2=f->4<=f)(h0:0<=h)(h1:h<=65535)(g0:0<=g)(g1:g<=65535)(w:I6)(hH:vJ w):i_ c_ 50 #[Zc PA,Zc (ZJ f t u)] w λe w'=>∃Q,e=Zd (Zc Q)/\jE (zE z b (f,t,u)) (!wh) (kB fc f t 4) (vK z f t) (kK z f t h) (kj wh g) Q/\Gr w w':=by
 have hz:=r.size;have d:=X r;have a9:=X (λW=>qvj r f t u hf ht a6 a7 W);have c4:Y (∀W,vJ W->ZL 99 #[Zc #[fc 0,fc 1,fc 2,fc 3],ZJ f t u] W (yi (kB fc f t 4))):=λW B=>qx4 fc f t u W B;have V:=X (λW=>qzy r f t hf ht u W);have a0:=X (λW=>qkn r f t hf ht u h0 h1 W);have c5:=X (λW=>qkp r g0 g1 W);obtain⟨x1,x2,x3,x4⟩:=jG w (Z PA 70) (Z (ZJ f t u) 87) (Z b_ 70);have P:=(nn.start w PA f t u).next (ZO.alloc b_ 70);have b6:DT w PA f t u (((w.alloc (Z PA 70)).alloc (Z (ZJ f t u) 87)).alloc (Z b_ 70)):=⟨P,⟨_,xF,x3⟩,by rw[x4];omega⟩;have a4:=X hH;obtain⟨j,hC⟩:=Zn (kB fc f t 4);obtain⟨b5,T⟩:=Zn (vK z f t);obtain⟨B,a1⟩:=Zn (kK z f t h);obtain⟨M,c6⟩:=Zn (kj wh g);rw[hC.a]at c4|-;rw[T.a]at V|-;rw[a1.a]at a0|-;rw[c6.a]at c5|-;go_in;go_upto_region 1 with fail;show n_ _ _ _ _ (((w.alloc (Z PA 70)).alloc (Z (ZJ f t u) 87)).alloc (Z b_ 70));generalize ((w.alloc (Z PA 70)).alloc (Z (ZJ f t u) 87)).alloc _=w0 at b6|-;have b7:=b6.next ZO.drew;refine ZT (S:=DT w PA f t u) WR b7 (λi=>?_);apply ty 0 PA R (zy hz Vb _ R w R (λ_ h=>vF h.pm.pa)) i;apply ZB 1 (ZJ f t u) R (λw' a=>WY) i;apply ZB 3 (.pointer (S ⟨w,64,N⟩)) R (λw' a=>WY) i;apply ZB 4 wh R (λw' a=>WY) i;apply ZB 5 (!wh) R (λw' a=>WY) i;apply ZB 6 (.pointer (S ⟨w,65,N⟩)) R (λw' a=>WY) i;apply ZB 7 (Zc #[fc 0,fc 1,fc 2,fc 3]) R (λw' a=>WY) i;apply ZB 8 (ZJ f t u) R (λw' a=>WY) i;apply ty 10 PA R (zy hz Vb _ R w R (λ_ h=>vF h.pm.pa)) i;apply ZB 11 (ZJ f t u) R (λw' a=>WY) i;apply ty 13 PA R (zy hz Vb _ R w R (λ_ h=>vF h.pm.pa)) i;apply ZB 14 (ZJ f t u) R (λw' a=>WY) i;apply ty 16 PA R (zy hz Vb _ R w R (λ_ h=>vF h.pm.pa)) i;refine rd 2 λK hK=>?_;go_simp;refine(a9 _).mono ?_;rintro e b3 ⟨J,rfl,A,E⟩;refine hK.out _ _ (i.next E) λi=>?_;try simp only[py]
 refine rd 9 λK hK=>?_;go_simp;refine Z0 (c4 _ (a4.gr i.pm.gr)) λb4 F=>?_;refine hK.out _ _ (i.next F) λi=>?_;try simp only[py]
 refine rd 12 λK hK=>?_;go_simp;refine Z0 (V _) λb0 p=>?_;refine hK.out _ _ (i.next p) λi=>?_;try simp only[py]
 refine rd 15 λK hK=>?_;go_simp;refine Z0 (a0 _) λb1 q=>?_;refine hK.out _ _ (i.next q) λi=>?_;try simp only[py]
 refine rd 17 λK hK=>?_;go_simp;refine Z0 (c5 _) λb2 y=>?_;refine hK.out _ _ (i.next y) λi=>?_;try simp only[py]
 refine ty 18 (kU J (!wh) (j 0) (j 1) (j 2) (j 3) b5 B M) R (BB Vb 70 #[(0,.tmp 7),(1,.tmp 10),(2,.tmp 14),(3,.tmp 17),(4,.tmp 20),(5,.tmp 22)] R _ (by simp only[List.map_toArray,YM,Wi];exact gj J A.1 (!wh) (j 0) (j 1) (j 2) (j 3) b5 B M)) i ?_;have D:(kU J (!wh) (j 0) (j 1) (j 2) (j 3) b5 B M).size=72:=by unfold kU;simp[A.1]
 have a3:=qkb _ J A.1 A.2 (!wh) j b5 B M;have a8:=qx a3;refine rd 19 λK hK=>?_;rw[qI Vb];obtain⟨d0,r1,a2⟩:=i.rs;refine YQ 70 _ _ R (w+1+1) (kU J (!wh) (j 0) (j 1) (j 2) (j 3) b5 B M) R R 70 d0 a2 (by rw[D];exact q9) (by rw[D,r1]) a8 ?_;have a5:=X (i.pm.gr.setRow (w+1+1) O (kU J (!wh) (j 0) (j 1) (j 2) (j 3) b5 B M));refine hK.out _ _ (i.put _ D) λi=>?_;try simp only[py]
 refine ZZ WR ?_ _;go_wp2;exact ZS (v:=(kU J (!wh) (j 0) (j 1) (j 2) (j 3) b5 B M)) (Yp results50 _ _ (w+1+1) 70 _ (0,0) _ R (Zt a2) s_ rfl (by rw[D];exact q9)) R ⟨_,R,a3,a5⟩
def uf:I1:=[113,114,98,110]
def aw(s:I4):UInt8×Bool:=if h:0<s.size then(s[0],Zm (0<=e_ uf s[0]))else(0,Zk)
def yn(s:I4):Option (Nat×Nat×UInt8):=
 if s.size=4\/s.size=5 then
  match uX (s.extract 0 2),uX (s.extract 2 4)with
  | some f,S t=>if(aw (s.extract 4 s.size)).2 then S (f,t,(aw (s.extract 4 s.size)).1)else N
  | _,_=>N
 else N
def iO(s t:I4)(k:Int):Prop:=iP s k\/(k=1/\∃p,xG s=S p/\xP p=Zk/\yn t=N)\/(k=4/\∃p x,xG s=S p/\xP p=Zk/\yn t=S x/\x∉xC (xM p) p.white p.castle p.behind)
def iK(z:I2)(f t:Nat)(e:f<64)(i:t<64)(d:0<=h){g:Int}(a:0<=g)(b:g<=65535):(vK z f t=-1\/(0<=vK z f t/\vK z f t<64))/\0<=kK z f t h/\kK z f t h<=65535/\0<=kj wh g/\kj wh g<=65535:=by grind[vK,kK,kj]
def rc{s:I4}(h:s.size=4):aw (s.extract 4 s.size)=(0,Zk):=by simp_all[aw]
def rZ{s:I4}(h:s.size=5):aw (s.extract 4 s.size)=(s[4],Zm (0<=e_ uf s[4])):=by
 have a:0<(s.extract 4 s.size).size:=by rw[Wu];omega
 have b:(s.extract 4 s.size)[0]=s[4]:=by rw[ByteArray.getElem_extract]
 rw[aw,Wf a,b]
theorem dR:∀c:UInt8,jD c=Zm (vE c=0):=vg WS
def lS(a b:Int):(a==b)=Zm (a=b):=R
def lW{t:Nat}(h:xS (zI z) 0 (xK wh) (f:Int) (t:Int)=Zk):uI f t=xK wh:=by unfold xS at h;rw[qI R,qH]at h;have a:=q8 h.2;unfold uI;omega
def xe{b:Nat}{o:Obj}(h:W.heap[b]?=o):b<W:=(qB.1 h).1
def Fl{a:Bool}(h:vZ z a 64=1):∃y,y<64/\∀n,n<64->(jB (z n)=((bg a+5:Nat):Int)↔n=y):=by
 unfold vZ at h;obtain⟨y,f⟩:=List.length_eq_one_iff.1 h;have b:∀n,n∈(h_ 64).filter (λn=>Zm (jB (z n)=((bg a+5:Nat):Int)))↔n=y:=λn=>by rw[f,qT]
 have d:y<64:=qK.1 (qV.1 ((b y).2 R)).1;refine⟨y,d,λn e=>?_⟩;rw[<-b n,qV,qG,qK];exact⟨λh=>⟨e,h⟩,λh=>h.2⟩
def BM:∀y,y<64->((h_ 64).filter λn=>Zm (n=y)).length=1:=WS
def un{Z:I2}{a:Bool}{y:Nat}(d:y<64)(h:∀n,n<64->(jB (Z n)=((bg a+5:Nat):Int)↔n=y)):vZ Z a 64=1:=by rw[vZ,List.filter_congr (q:=λn=>Zm (n=y)) (λn b=>XB.2 (h n (qK.1 b)))];exact BM y d
def wW(f t n:Nat):Nat:=if n=f then t else if n=t then f else n
def dD(f t n:Nat):wW f t (wW f t n)=n:=by
 unfold wW;by_cases b:n=f
 .subst b;rw[qI R];by_cases a:t=n
  .rw[qI a,a]
  rw[qF a,qI R]
 rw[qF b];by_cases a:n=t
 .subst a;rw[qI R,qI R]
 rw[qF a,qF b,qF a]
def oq{t:Nat}(a:f<64)(d:t<64)(b:n<64):wW f t n<64:=by
 unfold wW;split
 .exact d
 split
 .exact a
 exact b
def oo{t:Nat}(d:f<64)(e:t<64):((h_ 64).map (wW f t)).Perm (h_ 64):=by
 have b:((h_ 64).map (wW f t)).Nodup:=by rw[List.nodup_iff_pairwise_ne,List.pairwise_map];exact(List.nodup_iff_pairwise_ne.1 List.nodup_range).imp λ{a c} hac h=>hac (by rw[<-dD f t a,h,dD])
 rw[List.perm_ext_iff_of_nodup b List.nodup_range];intro a;rw[YL,qK];constructor
 .rintro⟨n,i,rfl⟩;exact oq d e (qK.1 i)
 intro g;exact⟨wW f t a,qK.2 (oq d e g),dD f t a⟩
def sQ{Z:I2}{a:Bool}{t:Nat}(b:f<64)(e:t<64)(h:∀n,n<64->(vB (Z n)=xK a↔vB (z (wW f t n))=xK a)):ka Z a 64=ka z a 64:=by unfold ka;rw[<-List.countP_eq_length_filter,<-List.countP_eq_length_filter,<-(oo b e).countP_eq (λn=>Zm (vB (z n)=xK a)),List.countP_map];refine List.countP_congr λn d=>?_;simp only[Function.comp,qG];exact h n (qK.1 d)
def EF{Z:I2}{a:Bool}(h:∀n,n<64->vB (Z n)=xK a->vB (z n)=xK a):ka Z a 64<=ka z a 64:=by unfold ka;rw[<-List.countP_eq_length_filter,<-List.countP_eq_length_filter];refine List.countP_mono_left λn b=>?_;rw[qG,qG];exact h n (qK.1 b)
structure pG(z Z:I2)(wh:Bool)(f t cs:Nat)(c:UInt8):Prop where
 at':∀n,Z n=if n=t then c else if n=f then 46 else if n=cs then 46 else z n
 hf:f<64
 ht:t<64
 own:vB (z f)=xK wh
 no:vB (z t)≠xK wh
 new:vB c=xK wh
 op:cs=t\/vB (z cs)=xK (!wh)
def FQ:vB 46=0:=WS
def FT(b:Bool):xK b≠0:=by cases b<;>decide
def pG.ne{Z:I2}{t cs:Nat}{c:UInt8}(h:pG z Z wh f t cs c):f≠t:=λe=>h.no (by rw[<-e];exact h.own)
def pG.men{Z:I2}{t cs:Nat}{c:UInt8}(h:pG z Z wh f t cs c):ka Z wh 64=ka z wh 64/\ka Z (!wh) 64<=ka z (!wh) 64:=by
 have d:=h.ne;constructor
 .refine sQ h.hf h.ht λn g=>?_;rw[h.at' n];unfold wW;by_cases c1:n=t
  .rw[qI c1,qF (λe=>d (e.symm.trans c1)),qI c1];exact⟨λ_=>h.own,λ_=>h.new⟩
  rw[qF c1];by_cases c2:n=f
  .rw[qI c2,qI c2,FQ];exact⟨λe=>w_ e.symm (FT wh),λe=>w_ e h.no⟩
  rw[qF c2,qF c2,qF c1];by_cases c3:n=cs
  .rw[qI c3,FQ];obtain e|e:=h.op
   .exact w_ (c3.trans e) c1
   refine⟨λb=>w_ b.symm (FT wh),λb=>?_⟩;rw[c3,e]at b;exact w_ b.symm (BC wh)
  rw[qF c3]
 refine EF λn g a=>?_;rw[h.at' n]at a;by_cases c1:n=t
 .rw[qI c1,h.new]at a;exact w_ a (BC wh)
 rw[qF c1]at a;by_cases c2:n=f
 .rw[qI c2,FQ]at a;exact w_ a.symm (FT _)
 rw[qF c2]at a;by_cases c3:n=cs
 .rw[qI c3,FQ]at a;exact w_ a.symm (FT _)
 rwa[qF c3]at a
def jv{t cs:Nat}(h:jY z wh b i f t u cs)(j:i=5->t≠f+2/\t+2≠f):pG z (zE z b (f,t,u)) wh f t cs (yH (z f) u):=by
 obtain⟨q,g,e,_⟩:=h.tr;refine⟨iq h j,h.hf,h.ht,ja h.hi h.hc,h.no,ja g e,?_⟩;by_cases a:i=0/\(t:Int)=b
 .obtain⟨_,_,_,_,d⟩:=h.ep a.1 a.2;exact Zj (ja (q:=0) O d)
 exact Zi (h.nep a)
def tE{t:Nat}(n:i<6)(m:jB (z f)=((bg wh+i:Nat):Int))(a:j9 z wh fc b f t u=Zk)(r:i=5->t≠f+2/\t+2≠f):xS (zI z) i (xK wh) (f:Int) (t:Int)=Zk\/z t=46:=by
 have p:=ro n m;unfold j9 at a;simp only[qH]at a;obtain⟨⟨⟨_,_⟩,k⟩,a⟩:=a;by_cases e:vE (z f)=0
 .have q:i=0:=O;subst q;rw[qI e]at a;unfold BD at a;by_cases d:xS (zI z) 0 (xK wh) (f:Int) (t:Int)=Zk
  .exact Zi d
  rw[qF d]at a;simp only[qH,qG]at a;exact Zj a.1.2
 rw[qF e]at a;have l:(vE (z f)).toNat=i:=by rw[p];exact YE i
 rw[l]at a;unfold EE at a;by_cases d:xS (zI z) i (xK wh) (f:Int) (t:Int)=Zk
 .exact Zi d
 exfalso;rw[qF d,Bool.and_assoc,qH,qG]at a;have g:u=0:=by rw[qE e,XK]at k;have:=eq_of_beq k;exact Xd λh=>by rw[qJ h]at this;cases this
 subst g;obtain⟨j,o,_,_,v,w,_,_⟩:=Fv.1 a.2;have:=r a.1;have:=cI j o;omega
def BS{t:Nat}(k:i<6)(q:f<64)(w:t<64)(j:jB (z f)=((bg wh+i:Nat):Int))(r:j9 z wh fc b f t u=Zk)(x:i=5->t≠f+2/\t+2≠f)(n:vZ z (!wh) 64=1)(a:zM z (xR z (!wh)) wh=Zl):jB (z t)≠((bg (!wh)+5:Nat):Int):=by
 intro m;obtain h|h:=tE k j r x
 .obtain⟨y,p,l,e⟩:=js n;obtain⟨y',_,o⟩:=Fl n;have d:=(o t w).1 m;have g:y=y':=(o y p).1 (by
   have v:y∈vD (xD z 64 (bg (!wh)+5)):=(by rw[l];simp);have:=Dt.1 v;rw[dc z _ 64 O y p]at this;exact(q8 this.2).2)
  rw[e,g,<-d]at a;unfold zM at a;rw[XD]at a;apply a f (qK.2 q);rw[ja k j,(qkr k j).2,h];simp
 rw[h,xp]at m;have:=mM wh;omega
def cO(a wh:Bool):a=wh\/a=!wh:=by cases a<;>cases wh<;>simp
def BF:∀c∈([80,112]:I1),∀u∈([113,114,98,110]:I1),0<vE (yH c u):=WS
structure nt(Z:I2):Prop where
 bad:∀n,n<64->vf Z n=Zl
 kin:∀bb,vZ Z bb 64=1
 men:∀bb,ka Z bb 64<=16
section
variable {z:I2}{wh:Bool}{fc:I5}{b:Int}{i f t cs:Nat}{u:UInt8}
def jY.kings(a:jY z wh b i f t u cs)(E:i=5->t≠f+2/\t+2≠f)(m:∀k,vZ z k 64=1)(v:jB (z t)≠((bg (!wh)+5:Nat):Int)):∀k,vZ (zE z b (f,t,u)) k 64=1:=by
 have o:=jv a E;have C:=mM wh;have D:=o.ne;obtain⟨q,G,r,A⟩:=a.tr;have F:=a.hi;have l:cs=t\/jB (z cs)=((bg (!wh):Nat):Int):=by
  by_cases h:i=0/\(t:Int)=b
  .obtain⟨_,_,_,_,B⟩:=a.ep h.1 h.2;exact Zj B
  exact Zi (a.nep h)
 intro k;obtain rfl|rfl:=cO k wh
 .obtain⟨y,w,d⟩:=Fl (m k);by_cases x:i=5
  .have p:f=y:=(d f a.hf).1 (by rw[a.hc,x]);refine un a.ht λn j=>?_;rw[o.at' n];by_cases c1:n=t
   .rw[qI c1,r,A.2 x];exact⟨λ_=>c1,λ_=>R⟩
   rw[qF c1];by_cases c2:n=f
   .rw[qI c2,xp];exact⟨λe=>O,λe=>w_ e c1⟩
   rw[qF c2];by_cases c3:n=cs
   .rw[qI c3,xp];exact⟨λe=>O,λe=>w_ e c1⟩
   rw[qF c3,d n j];exact⟨λe=>w_ (e.trans p.symm) c2,λe=>w_ e c1⟩
  refine un w λn j=>?_;rw[o.at' n];by_cases c1:n=t
  .rw[qI c1,r];refine⟨λe=>?_,λe=>?_⟩
   .exact w_ (A.1 O) x
   have:=(d t a.ht).2 (c1.symm.trans e);exact w_ (ja O this) a.no
  exact Oz
 obtain⟨y,w,d⟩:=Fl (m (!wh));refine un w λn j=>?_;rw[o.at' n];by_cases c1:n=t
 .rw[qI c1,r];refine⟨λe=>O,λe=>?_⟩;exact w_ ((d t a.ht).2 (c1.symm.trans e)) v
 exact Oz
def iA{c:UInt8}{a:Bool}{q:Nat}{g:Nat->UInt8}(d:g n=c)(b:q<6)(e:jB c=((bg a+q:Nat):Int))(h:q=0->¬(n/8=0\/n/8=7)):vf g n=Zl:=by grind[vf,ro,qE]
def qky{Z:I2}(a:Z n=46):vf Z n=Zl:=by rw[vf,a];rfl
def wH{Z:I2}(a:Z n=z n)(h:vf z n=Zl):vf Z n=Zl:=by unfold vf at h|-;rw[a];exact h
def jY.bad(h:jY z wh b i f t u cs)(F:i=5->t≠f+2/\t+2≠f)(g:u∈U5)(k:j9 z wh fc b f t u=Zk)(C:∀n,n<64->vf z n=Zl):∀n,n<64->vf (zE z b (f,t,u)) n=Zl:=by
 have B:=jv h F;obtain⟨q,A,w,H⟩:=h.tr;have x:=ro h.hi h.hc;intro n D;have a:=B.at' n;by_cases c1:n=t
 .rw[qI c1]at a;refine iA a A w λG y=>?_;rw[c1]at y;unfold j9 at k;simp only[qH]at k;have j:=eq_of_beq k.1.2;have d:zO t=Zk:=by
   unfold zO;obtain e|e:=y
   .rw[qJ e];rfl
   rw[qJ e,Bool.or_true]
  rw[d,Wl]at j;have m:=ro A w;by_cases u0:u=0
  .subst u0;have o:yH (z f) 0=z f:=(by rw[yH,qI R]);rw[o,x]at m;rw[x,qJ (show((i:Nat):Int)=0 from O)]at j;cases j
  rw[qJ u0]at j;have E:=q8 j.symm;have l:i=0:=O;have v:z f∈([80,112]:I1):=by have:=jn (p:=bg wh+i) (by have:=mM wh;omega) h.hc;rw[this,l];cases wh<;>decide
  have r:u∈([113,114,98,110]:I1):=by
   unfold U5 at g;simp only[Yj,XC,or_false]at g|-;obtain e|e|e|e|e:=g
   .exact w_ e u0
   .exact Zj (Zj (Zi e))
   .exact Zj (Zj (Zj e))
   .exact Zi e
   exact Zj (Zi e)
  have:=BF _ v _ r;omega
 rw[qF c1]at a;by_cases c2:n=f
 .rw[qI c2]at a;exact qky a
 rw[qF c2]at a;by_cases c3:n=cs
 .rw[qI c3]at a;exact qky a
 rw[qF c3]at a;exact wH a (C n D)
def jY.brd(d:jY z wh b i f t u cs)(h:i=5->t≠f+2/\t+2≠f)(g:u∈U5)(k:j9 z wh fc b f t u=Zk)(a:nt z)(e:jB (z t)≠((bg (!wh)+5:Nat):Int)):nt (zE z b (f,t,u)):=by
 refine⟨d.bad h g k a.bad,d.kings h a.kin e,λj=>?_⟩;obtain⟨l,m⟩:=(jv d h).men;obtain rfl|rfl:=cO j wh
 .rw[l];exact a.men _
 exact q7 m (a.men _)
end
section
variable {z:I2}{wh:Bool}{fc:I5}{b:Int}
def nE(h:wU z wh i):z (xE i)=46/\z (rN i)=46:=by have a:=h.e;unfold wn at a;rw[qW]at a;obtain⟨j,k⟩:=pB i h.hi;obtain⟨l,n,f⟩:=qY.1 j;obtain⟨m,o,g⟩:=qY.1 k;have b:=eq_of_beq (a l n);have d:=eq_of_beq (a m o);rw[q8 f]at b;rw[q8 g]at d;exact⟨b,d⟩
def EO(z:I2)(i n:Nat):UInt8:=if n=xE i then z (hK i)else if n=hK i then 46 else if n=xE i then 46 else z n
def CU(h:wU z wh i)(o:nt z):nt (zE z b (hK i,xE i,0)):=by
 obtain⟨w,C,H,q,f5,f6,f7,f8,f9,a6,P,Q,x,A,j,l,B⟩:=zi i h.hi;obtain⟨F,G⟩:=nE h;obtain⟨E,D⟩:=zj (i:=5) O h.k;have E:jD (z (hK i))=Zl:=by rw[E];rfl
 have D:jA (z (hK i))=Zk:=by rw[D];rfl
 have g:=FB (b:=b) h.hi E D;have a7:=mM wh;have s1:pG z (EO z i) wh (hK i) (xE i) (xE i) (z (hK i)):=⟨λn=>R,w,C,ja O h.k,by rw[F,FQ];exact λe=>FT wh e.symm,ja O h.k,Zi R⟩;have V:EO z i (hR i)=z (hR i):=by rw[EO,qF j,qF x,qF j]
 have W:EO z i (rN i)=z (rN i):=by rw[EO,qF l,qF A,qF l]
 have s2:pG (EO z i) (zE z b (hK i,xE i,0)) wh (hR i) (rN i) (rN i) (z (hR i)):=by
  refine⟨λn=>?_,H,q,by rw[V];exact ja O h.r,by rw[W,G,FQ];exact λe=>FT wh e.symm,ja O h.r,Zi R⟩;rw[g n];by_cases c1:n=hR i
  .rw[qI c1,qF (λe=>B (e.symm.trans c1)),qI c1]
  rw[qF c1];by_cases c2:n=rN i
  .rw[qI c2,qI c2]
  rw[qF c2,qF c2,qF c1,qF c2];unfold EO;by_cases c3:n=xE i
  .rw[qI c3,qI c3]
  rw[qF c3,qF c3,qF c3]
 refine⟨λn p=>?_,λu=>?_,λu=>?_⟩
 .have a:=g n;by_cases c1:n=hR i
  .rw[qI c1]at a;exact qky a
  rw[qF c1]at a;by_cases c2:n=rN i
  .rw[qI c2]at a;exact iA a (q:=3) O h.r O
  rw[qF c2]at a;by_cases c3:n=xE i
  .rw[qI c3]at a;exact iA a (q:=5) O h.k O
  rw[qF c3]at a;by_cases f:n=hK i
  .rw[qI f]at a;exact qky a
  rw[qF f]at a;exact wH a (o.bad n p)
 .obtain rfl|rfl:=cO u wh
  .obtain⟨y,J,d⟩:=Fl (o.kin u);have v:=(d _ w).1 h.k;refine un C λn p=>?_;rw[g n];by_cases c1:n=hR i
   .rw[qI c1,xp];exact⟨λe=>O,λe=>w_ (c1.symm.trans e) j⟩
   rw[qF c1];by_cases c2:n=rN i
   .rw[qI c2,h.r];exact⟨λe=>O,λe=>w_ (c2.symm.trans e) l⟩
   rw[qF c2];by_cases c3:n=xE i
   .rw[qI c3,h.k];exact⟨λ_=>c3,λ_=>R⟩
   rw[qF c3];by_cases f:n=hK i
   .rw[qI f,xp];exact⟨λe=>O,λe=>w_ e c3⟩
   rw[qF f,d n p];exact⟨λe=>w_ (e.trans v.symm) f,λe=>w_ e c3⟩
  obtain⟨y,J,d⟩:=Fl (o.kin (!wh));have no:∀m,m<64->jB (z m)≠((bg (!wh)+5:Nat):Int)->m≠y:=λm a3 T e=>T ((d m a3).2 e);have a0:=no _ H (by rw[h.r];omega);have a1:=no _ q (by rw[G,xp];omega);have a5:=no _ C (by rw[F,xp];omega);have n4:=no _ w (by rw[h.k];omega);refine un J λn p=>?_;rw[g n];by_cases c1:n=hR i
  .rw[qI c1,xp];exact⟨λe=>O,λe=>w_ (c1.symm.trans e) a0⟩
  rw[qF c1];by_cases c2:n=rN i
  .rw[qI c2,h.r];exact⟨λe=>O,λe=>w_ (c2.symm.trans e) a1⟩
  rw[qF c2];by_cases c3:n=xE i
  .rw[qI c3,h.k];exact⟨λe=>O,λe=>w_ (c3.symm.trans e) a5⟩
  rw[qF c3];by_cases f:n=hK i
  .rw[qI f,xp];exact⟨λe=>O,λe=>w_ (f.symm.trans e) n4⟩
  rw[qF f];exact d n p
 obtain⟨K,a2⟩:=s1.men;obtain⟨M,a4⟩:=s2.men;obtain rfl|rfl:=cO u wh
 .rw[M,K];exact o.men _
 exact q7 a4 (q7 a2 (o.men _))
def lO{Z:I2}{F:I5}(o:F 0=Zk->Z 4=75/\Z 7=82)(p:F 1=Zk->Z 4=75/\Z 0=82)(q:F 2=Zk->Z 60=107/\Z 63=114)(r:F 3=Zk->Z 60=107/\Z 56=114):jH Z F=Zk:=by
 have b:∀(f:Nat)(e:Int)(rs:Nat)(g:Int)(k:Nat)(a d:UInt8),(a.toNat:Int)=e->(d.toNat:Int)=g->(F k=Zk->Z f=a/\Z rs=d)->xN Z F f e rs g k=Zk:=λf e rs g k a d m n h=>by
  unfold xN;cases u:F k with
  | false=>rfl
  | true=>
   obtain⟨j,l⟩:=h u;rw[j,l,m,n,qJ R,qJ R];rfl
 rw[jH,qW];intro k i;have i:=qK.1 i;have:k=0\/k=1\/k=2\/k=3:=O;obtain rfl|rfl|rfl|rfl:=this
 .exact b 4 75 7 82 0 75 82 R R o
 .exact b 4 75 0 82 1 75 82 R R p
 .exact b 60 107 63 114 2 107 114 R R q
 exact b 60 107 56 114 3 107 114 R R r
def Fw{t:Nat}(i:k<4)(h:kB fc f t 4 k=Zk):fc k=Zk/\(f:Int)≠xY k/\(t:Int)≠xY k/\(f:Int)≠zD k/\(t:Int)≠zD k:=by simp_all[kB,E6,pP,lS,qH,qX]
def nC{g:Int}(a:zP h g=Zk)(f t:Nat):zP (kK z f t h) (kj wh g)=Zk:=by
 unfold zP at a|-;simp only[qH,qG]at a|-;unfold kK kj;refine⟨⟨⟨?_,?_⟩,?_⟩,?_⟩
 .split<;>omega
 .split<;>omega
 .split<;>omega
 split<;>omega
end
section
variable {z:I2}{wh:Bool}{fc:I5}{b:Int}{i f t cs:Nat}{u:UInt8}
def Ed:jB 75=5/\jB 82=3/\jB 107=11/\jB 114=9:=WS
def jY.keep(d:jY z wh b i f t u cs)(j:i=5->t≠f+2/\t+2≠f)(e:n≠t)(h:n≠f)(k:jB (z n)≠0/\jB (z n)≠6):zE z b (f,t,u) n=z n:=by
 rw[(jv d j).at' n,qF e,qF h];by_cases c3:n=cs
 .exfalso;by_cases a:i=0/\(t:Int)=b
  .obtain⟨_,_,_,_,g⟩:=d.ep a.1 a.2;rw[<-c3]at g;have:=mM wh;omega
  exact e (c3.trans (d.nep a))
 rw[qF c3]
def jY.cast(d:jY z wh b i f t u cs)(e:i=5->t≠f+2/\t+2≠f)(m:kJ z wh fc b):jH (zE z b (f,t,u)) (kB fc f t 4)=Zk:=by
 obtain⟨o,p,q,r⟩:=Ed;refine lO (λh=>?_) (λh=>?_) (λh=>?_) (λh=>?_)
 .obtain⟨a,g,j,k,l⟩:=Fw O h;obtain⟨c1,c2⟩:=m.c0 a;simp[xY,zD]at g j k l;rw[d.keep e (n:=4) O O Ov,d.keep e (n:=7) O O Ou];exact⟨c1,c2⟩
 .obtain⟨a,g,j,k,l⟩:=Fw O h;obtain⟨c1,c2⟩:=m.c1 a;simp[xY,zD]at g j k l;rw[d.keep e (n:=4) O O Ov,d.keep e (n:=0) O O Ou];exact⟨c1,c2⟩
 .obtain⟨a,g,j,k,l⟩:=Fw O h;obtain⟨c1,c2⟩:=m.c2 a;simp[xY,zD]at g j k l;rw[d.keep e (n:=60) O O Ov,d.keep e (n:=63) O O Ou];exact⟨c1,c2⟩
 obtain⟨a,g,j,k,l⟩:=Fw O h;obtain⟨c1,c2⟩:=m.c3 a;simp[xY,zD]at g j k l;rw[d.keep e (n:=60) O O Ov,d.keep e (n:=56) O O Ou];exact⟨c1,c2⟩
def jY.beh(j:jY z wh b i f t u cs)(E:i=5->t≠f+2/\t+2≠f)(a:j9 z wh fc b f t u=Zk):xX (zE z b (f,t,u)) (!wh) (vK z f t)=Zk:=by
 have w:=jv j E;have K:=j.hf;have P:=j.ht;rw[vK,dR];by_cases c0:vE (z f)=0
 case neg=>rw[qE c0];rfl
 rw[qJ c0,Xc];by_cases c2:AW f t=Zk
 case neg=>rw[qF c2];rfl
 rw[qI c2];have v:=q8 c2;unfold j9 at a;simp only[qH]at a;obtain⟨⟨_,C⟩,a⟩:=a;rw[qI c0]at a;unfold BD at a;have p:¬xS (zI z) 0 (xK wh) (f:Int) (t:Int)=Zk:=λD=>by have:=lW D;rw[this]at v;cases wh<;>cases v
 rw[qF p]at a;unfold DC at a;simp only[qH,Ym,qG]at a;obtain⟨⟨J,M⟩,a⟩:=a;obtain a|⟨⟨e,B⟩,r⟩:=a
 .rw[a]at v;cases wh<;>cases v
 have y:i=0:=by have:=ro j.hi j.hc;omega
 have o:zO t=Zl->yH (z f) u=z f:=λl=>by
  rw[l,XU]at C;have:=eq_of_beq C;have u0:u=0:=Xd λh=>by rw[qJ h]at this;cases this
  rw[u0];rw[yH,qI R]
 have A:=jn (p:=bg wh+i) (by have:=mM wh;omega) j.hc;rw[y]at A;have q:∀n,n≠t->n≠f->z n=46->zE z b (f,t,u) n=46:=λn F G H=>by rw[w.at' n,qF F,qF G,H];split<;>rfl
 have k:zE z b (f,t,u) f=46:=by rw[w.at' f,qF w.ne,qI R]
 have d:zE z b (f,t,u) t=yH (z f) u:=by rw[w.at' t,qI R]
 unfold uI at e;cases wh
 .simp only[xK,qR,YH]at e B r;have l:zO t=Zl:=US;rw[o l,A,show yQ (bg Zl+0)=112 from WS]at d;obtain⟨m,rfl⟩:∃m,f=m+16:=⟨f-16,O⟩;have x:t=m:=O;subst x;have em:(t+16+t)/2=t+8:=O;rw[em];unfold xX;have g:=q (t+8) O O (by rw[show t+16-8=t+8 from O]at r;exact r);rw[show(((t+8:Nat):Int)).toNat=t+8 from YE _,show(((t+8:Nat):Int)+8).toNat=t+16 from O,show(((t+8:Nat):Int)-8).toNat=t from O,g,k,d];simp only[X3,YS];rw[qJ (show(40:Int)<=((t+8:Nat):Int) from O),qJ (show((t+8:Nat):Int)<48 from O)];simp
 simp only[xK,YS]at e B r;have l:zO t=Zl:=US;rw[o l,A,show yQ (bg Zk+0)=80 from WS]at d;have x:t=f+16:=O;subst x;have em:(f+(f+16))/2=f+8:=O;rw[em];unfold xX;have g:=q (f+8) O O r;rw[show(((f+8:Nat):Int)).toNat=f+8 from YE _,show(((f+8:Nat):Int)+8).toNat=f+16 from O,show(((f+8:Nat):Int)-8).toNat=f from O,g,k,d];simp only[Bool.not_true,qR,YH];rw[qJ (show(16:Int)<=((f+8:Nat):Int) from O),qJ (show((f+8:Nat):Int)<24 from O)];simp
def tw(h:wU z wh i)(e:kJ z wh fc b):jH (zE z b (hK i,xE i,0)) (kB fc (hK i) (xE i) 4)=Zk:=by
 obtain⟨g,f⟩:=zj (i:=5) O h.k;have g:jD (z (hK i))=Zl:=by rw[g];rfl
 have f:jA (z (hK i))=Zk:=T1;have d:=FB (b:=b) h.hi g f;have o:=h.hi;have:i=0\/i=1\/i=2\/i=3:=O;refine lO (λh=>?_) (λh=>?_) (λh=>?_) (λh=>?_);all_goals
  obtain⟨a,j,l,m,n⟩:=Fw O h;rw[d,d];rcases this with rfl|rfl|rfl|rfl<;>simp[hK,hR,xE,rN,xY,zD]at j l m n|-<;>first|exact e.c0 a|exact e.c1 a|exact e.c2 a|exact e.c3 a
end
def nH{g:Int}(a:k6 z wh fc b h g=Zk)(a4:-1<=b)(a3:b<=63){t:Nat}(Q:(f,t,u)∈xC z wh fc b):k6 (zE z b (f,t,u)) (!wh) (kB fc f t 4) (vK z f t) (kK z f t h) (kj wh g)=Zk:=by
 have k:=qkv a;rw[<-aY]at a|-;have v:=zg _ _ _ _ _ Q;have A:=v.1;have C:=v.2;have x:=(je k a4 a3 _).2 Q;obtain⟨i,f',t',u',e,B,_,_,y,P,a2⟩:=(Ay k).1 (qV.1 x).1;have a9:f=f':=by injection e
 have b0:t=t':=Vo;have b2:u=u':=Vo;subst a9 b0 b2;obtain⟨u2,F,_,M⟩:=wX a2;have e5:u=u2:=by injection F with _ F;injection F
 subst e5;have w:u∈U5:=by unfold U5;rcases M with e|e|e|e|e<;>rw[e]<;>decide
 have j:=(C8 k a4 a3 A C w).2 x;unfold vo at j;rw[qH,pC k B A C y P a2]at j;obtain⟨l,d⟩:=j;have d:zM (zE z b (f,t,u)) (xR (zE z b (f,t,u)) wh) (!wh)=Zl:=VG;unfold zT at a;simp only[qH,qG,qW,YK]at a;obtain⟨⟨⟨⟨⟨q,⟨⟨a0,a5⟩,a6⟩,a7⟩,_⟩,_⟩,ho⟩,r⟩:=a;have G:nt z:=⟨λn a1=>q n (qK.2 a1),λE=>by cases E<;>assumption,λE=>by cases E<;>assumption⟩;have m:nt (zE z b (f,t,u))->jH (zE z b (f,t,u)) (kB fc f t 4)=Zk->xX (zE z b (f,t,u)) (!wh) (vK z f t)=Zk->zT (zE z b (f,t,u)) (!wh) (kB fc f t 4) (vK z f t) (kK z f t h) (kj wh g)=Zk:=λp q1 q2=>by
  rw[zT,Bool.not_not,d,q1,q2,nC r f t,qJ (p.kin Zk),qJ (p.kin Zl),qJ (p.men Zk),qJ (p.men Zl)];have:((h_ 64).all λn=>!(vf (zE z b (f,t,u)) n))=Zk:=qW.2 λn a1=>by rw[p.bad n (qK.1 a1)];rfl
  rw[this];rfl
 obtain⟨H,D⟩|⟨W,o,a8,b1,T,V⟩:=ko k B A C y P a2
 .have J:=BS B A C y l D (G.kin _) ho;exact m (H.brd D w l G J) (H.cast D k) (H.beh D l)
 subst a8 b1 T;apply m (CU o G) (tw o k);have K:jD (z (hK W))=Zl:=by rw[(zj B y).1,V];rfl
 rw[vK,K];rfl
def dY(f:kJ z wh fc b)(j:-1<=b)(k:b<=63){x:Mv}(m:x∈xC z wh fc b):x.2.2∈U5:=by
 obtain⟨i,n,r,g,e,p,_,_,o,q,l⟩:=(Ay f).1 (qV.1 ((je f j k x).2 m)).1;obtain⟨u2,a,_,d⟩:=wX l;have h:g=u2:=by injection a with _ a;injection a
 rw[e];show g∈U5;rw[h];unfold U5;rcases d with e|e|e|e|e<;>rw[e]<;>decide
def BI{s:I4}{p:pH}(d:xG s=p):∀n,64<=n->xM p n=0:=by obtain⟨B,a,b,_⟩:=FM s p d;intro n e;rw[ip (by first|exact a|exact b)];rw[zB,YR,Y9 O];rfl
structure Mvd(z:I2)(wh:Bool)(fc:I5)(b:Int)(f t:Nat)(u:UInt8):Prop where
 far:∀n,64<=n->zE z b (f,t,u) n=z n
 safe:zM (zE z b (f,t,u)) (xR (zE z b (f,t,u)) wh) (!wh)=Zl
 king:∃y:Nat,y<64/\xR (zE z b (f,t,u)) wh=(y:Int)
def D8(d:kJ z wh fc b)(m:-1<=b)(o:b<=63){t:Nat}(E:(f,t,u)∈xC z wh fc b):Mvd z wh fc b f t u:=by
 have j:=zg _ _ _ _ _ E;have p:=j.1;have q:=j.2;have D:=dY d m o E;have l:=(je d m o _).2 E;obtain⟨i,a2,a0,P,e,x,_,_,w,A,C⟩:=(Ay d).1 (qV.1 l).1;have a1:f=a2:=by injection e
 have J:t=a0:=Vo;have K:u=P:=Vo;subst a1 J K;have a:=(C8 d m o p q D).2 l;unfold vo at a;rw[qH,pC d x p q w A C]at a;refine⟨λn a5=>?_,by simpa using a.2,(jy d m o x p q w A C).1⟩;obtain⟨v,a3⟩|⟨r,g,F,G,H,Q⟩:=ko d x p q w A C
 .rw[(jv v a3).at' n,qF O,qF O,qF];intro a4;by_cases h:i=0/\(t:Int)=b
  .obtain⟨_,M,_,_,_⟩:=v.ep h.1 h.2;omega
  have:=v.nep h;omega
 subst F G H;obtain⟨B,y⟩:=zj (i:=5) O g.k;have B:jD (z (hK r))=Zl:=by rw[B];rfl
 have y:jA (z (hK r))=Zk:=by rw[y];rfl
 obtain⟨a6,T,V,W,_⟩:=zi r g.hi;rw[FB (b:=b) g.hi B y n,qF O,qF O,qF O,qF O]
def mr(n:Nat):Nat:=(7-n/8)*8+n%8
def mm(x:Mv):Mv:=(mr x.1,mr x.2.1,x.2.2)
def qkj(e:kJ z wh fc b)(a:-1<=b)(d:b<=63){t:Nat}(g:f<64)(h:t<64)(i:u∈U5):(f,t,u)∈xC z wh fc b↔vo z wh fc b f t u=Zk:=by rw[C8 e a d g h i,je e a d]
theorem tv{b:I5}(h:∀i,i<4->fc i=b i)(f t:Nat)(u:UInt8):zK wh fc f t u=zK wh b f t u:=by
 have d:∀fc:I5,zK wh fc f t u=if jZ wh fc f t u 0 then 0 else if jZ wh fc f t u 1 then 1 else if jZ wh fc f t u 2 then 2 else if jZ wh fc f t u 3 then 3 else -1:=λ_=>R;have a:∀i,i<4->jZ wh fc f t u i=jZ wh b f t u i:=λi e=>by unfold jZ;rw[h i e]
 rw[d,d,a 0 O,a 1 O,a 2 O,a 3 O]
def sZ{a:I5}(h:∀i,i<4->fc i=a i)(f t:Nat)(u:UInt8):vo z wh fc b f t u=vo z wh a b f t u:=by grind[j9,EE,tv,ua,sm,vo]
def EC{k:I5}(l:kJ z wh fc b)(hD:kJ z wh k b)(e:-1<=b)(g:b<=63)(h:∀i,i<4->fc i=k i)(x:Mv):x∈xC z wh fc b↔x∈xC z wh k b:=by
 obtain⟨f,t,u⟩:=x;constructor
 .intro d;have a:=zg _ _ _ _ _ d;have j:=dY l e g d;rw[qkj hD e g a.1 a.2 j,<-sZ h];exact(qkj l e g a.1 a.2 j).1 d
 intro d;have a:=zg _ _ _ _ _ d;have j:=dY hD e g d;rw[qkj l e g a.1 a.2 j,sZ h];exact(qkj hD e g a.1 a.2 j).1 d
structure Ok(z:I2)(wh:Bool)(fc:I5)(b h g:Int):Prop where
 can:k6 z wh fc b h g=Zk
 b0:-1<=b
 b1:b<=63
 nz:∀n,64<=n->z n=0
 nf:∀n,4<=n->fc n=Zl
section
variable {z:I2}{wh:Bool}{fc:I5}{b h g:Int}
def Ok.good(o:Ok z wh fc b h g):kJ z wh fc b:=qkv o.can
def Ok.clk(o:Ok z wh fc b h g):0<=h/\h<=65535/\0<=g/\g<=65535:=by obtain⟨_,_,a,c⟩:=nG o.can;omega
def Ok.lay(o:Ok z wh fc b h g):xO z=Zk:=o.good.ok
def Ok.next(o:Ok z wh fc b h g){t:Nat}(e:(f,t,u)∈xC z wh fc b):Ok (zE z b (f,t,u)) (!wh) (kB fc f t 4) (vK z f t) (kK z f t h) (kj wh g):=by have a:=zg _ _ _ _ _ e;obtain⟨c0,c1,c2,c3⟩:=o.clk;obtain⟨i,_⟩:=iK z f t a.1 a.2 c0 (wh:=wh) c2 c3;exact⟨nH o.can o.b0 o.b1 e,O,O,λn d=>by rw[(D8 o.good o.b0 o.b1 e).far n d];exact o.nz n d,λn d=>by rw[kB,o.nf n d];rfl⟩
def Ok.mv(o:Ok z wh fc b h g){t:Nat}(i:(f,t,u)∈xC z wh fc b):f<64/\t<64/\u∈U5/\(jA (z f)=Zk->t=f+2->f+3<64)/\(jA (z f)=Zk->t+2=f->4<=f):=by have d:=zg _ _ _ _ _ i;have j:=qjw o.good o.b0 o.b1;have e:=(qV.1 ((je o.good o.b0 o.b1 _).2 i)).1;exact⟨d.1,d.2,dY o.good o.b0 o.b1 i,λa c=>j.k1 f t u e a c,λa c=>j.k2 f t u e a c⟩
def yC(fc:I5)(n:Nat):Bool:=Zm (n<4)&&fc n
def fU(fc:I5)(h:n<4):yC fc n=fc n:=by rw[yC,qJ h];rfl
def Ok.of{s:I4}{p:pH}(a:xG s=p)(e:xP p=Zk):Ok (xM p) p.white (yC p.castle) p.behind p.half p.full:=by obtain⟨b,d⟩:=qjv a;refine⟨?_,b,d,BI a,λn g=>by rw[yC,qE O];rfl⟩;rw[fx _ _ _ _ _ (λi f=>fU p.castle f)];exact e
def F5(r:jE z wh fc b h g PA):jE z wh (yC fc) b h g PA:=⟨r.size,r.sq,r.wh,λi a=>by rw[fU fc a];exact r.c i a,r.b,r.h,r.g⟩
end
def vJ.fr(h:vJ w)(f:Fr Q w w')(a:∀o,Q 1 o):vJ w':=⟨λj v b=>f.cell (h.1 j v b) (λo _=>a o),qN h.2 f.size⟩
def C5(n:Int):-1<=sg n/\sg n<=1:=by unfold sg;split<;>(try split)<;>omega
def nw(n:Int)(a:-7<=n)(b:n<=7):0<=ab n/\ab n<=7:=by unfold ab;split<;>omega
def mO(a b:Int)(h:0<=a/\a<=7)(g:0<=b/\b<=7):wrap64 (a*b)=a*b:=by have d:=Int.mul_nonneg h.1 g.1;have e:a*b<=7*7:=Int.mul_le_mul h.2 g.2 g.1 O;unfold wrap64;omega
def cC(a b:Int):((ab a==ab b)=Zk/\Zm (0<ab a)=Zl/\(a==0)=Zk/\(b==0)=Zk) ∨ ((ab a==ab b)=Zl/\Zm (0<ab a)=Zl/\(a==0)=Zk/\(b==0)=Zl) ∨ ((ab a==ab b)=Zl/\Zm (0<ab a)=Zk/\(a==0)=Zl/\(b==0)=Zk) ∨ ((ab a==ab b)=Zk/\Zm (0<ab a)=Zk/\(a==0)=Zl/\(b==0)=Zl) ∨ ((ab a==ab b)=Zl/\Zm (0<ab a)=Zk/\(a==0)=Zl/\(b==0)=Zl):=by simp only[YF,qM,qG,qX];unfold ab;split<;>split<;>omega
def FC(x y:Int)(a:0<=x)(b:x<=63)(d:0<=y)(e:y<=63)(f:yd x y=Zk\/yg x y=Zk):1<=LI x y:=(Fz x y a b d e f).1
def FD(x y:Int)(a:0<=x)(b:x<=63)(d:0<=y)(e:y<=63)(f:yd x y=Zk\/yg x y=Zk):pI x y (LI x y)=y:=(Fz x y a b d e f).2.1
def FE(x y:Int)(d:0<=x)(e:x<=63)(f:0<=y)(g:y<=63)(h:yd x y=Zk\/yg x y=Zk):∀i,1<=i->i<LI x y->pI x y i≠y:=λi a b=>((Fz x y d e f g h).2.2 i O).2.2 a b
def IX(x y:Int):pI x y 1=x+8*sg (y/8-x/8)+sg (y%8-x%8):=by unfold pI;omega
def FF(x y:Int):∀i,pI x y (i+1)=pI x y i+8*sg (y/8-x/8)+sg (y%8-x%8):=by grind[pI]
