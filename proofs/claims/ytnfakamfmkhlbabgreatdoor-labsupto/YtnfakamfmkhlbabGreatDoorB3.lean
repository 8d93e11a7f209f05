import Derived.Test.YtnfakamfmkhlbabGreatDoorB2
set_option maxRecDepth 100000
set_option maxHeartbeats 4000000
set_option linter.all false
open Go.Value renaming int->I,bool->Za,string->Zb,agg->Zc,tuple->Ze,slice->Zq
open Go.IntKind renaming i64->L,u8->Zg,u64->Zh
open Go.Obj renaming cells->Z
open Go.Ending renaming returned->Zd
open Or renaming inl->Zi,inr->Zj
open Option renaming some->S,none->N
open Bool renaming true->Zk,false->Zl
open Decidable renaming decide->Zm
open Go.RowKit renaming Hid->Y
open Go renaming World->I6,Value->I7
namespace Go.Proofs.YtnfakamfmkhlbabGreatDoor.C
open Go.ChangeShapes Go.WideShapes Go.ChangeAt Go.RowKit
section
theorem qd(w:I6)(n:Nat)(a:Addr)(v:I7):(w.drewN n).setCell a v=(w.setCell a v).drewN n:=R
theorem qe(w:I6)(n:Nat)(o:Obj):(w.drewN n).alloc o=(w.alloc o).drewN n:=R
theorem Gr.drewN{a b:I6}(h:Gr a b)(n:Nat):Gr a (b.drewN n):=Below.trans h ⟨R,R,R,Zy,λ_ _=>R⟩
attribute [local go_sem] qd qe
def xU:I1:=[80,78,66,82,81,75,112,110,98,114,113,107]
def bz(c:UInt8):Bool:=!decide (Lib.indexByte xU c<0)
def uT(c:UInt8):Bool:=Zm (49<=c.toNat)&&Zm (c.toNat<=56)
def zZ(st:Option (List Int × Bool))(c:UInt8):Option (List Int × Bool) :=
 match st with
 | none=>N
 | some (acc,a) =>
  if uT c then(if a||decide (8<acc.length+(c.toNat-48))then N else S (acc++List.replicate (c.toNat-48) 46,Zk))
  else if bz c then(if 8<acc.length+1 then N else S (acc++[(c.toNat:Int)],Zl))else N
def vY(l:I1):Option (List Int × Bool):=l.foldl zZ (S ([],Zl))
def jL(l:I1):Option (List Int) :=
 match vY l with
 | some (acc,_)=>if acc.length=8 then S acc else N
 | none=>N
theorem vj(l:I1)(c:UInt8):vY (l++[c])=zZ (vY l) c:=by unfold vY;rw[List.foldl_append];rfl
theorem Ao(l:I1):l.foldl zZ N=N:=by
 induction l with
 | nil=>rfl
 | cons c r ih=>exact ih
theorem zn(s:I4)(k:Nat)(h:k<s.size)(a:zZ (vY (s.data.toList.take k)) s[k]=N):jL s.data.toList=N:=by
 unfold jL;have:vY s.data.toList=N:=by rw[<-XQ (k+1) s.data.toList,xi s k h];unfold vY at a |-;rw[List.foldl_append,List.foldl_append];simp only[List.foldl_cons,List.foldl_nil];rw[a,Ao]
 rw[this]
def yu(acc:List Int)(R:I0):Prop:=R.size=8/\(∀j (h:j<acc.length),R[j]?=S (I Zg acc[j]))/\∀j,j<8->∃z,R[j]?=S (I Zg z)
theorem yu.nil:yu [] #[I Zg 0,I Zg 0,I Zg 0,I Zg 0,I Zg 0,I Zg 0,I Zg 0,I Zg 0] :=
 ⟨R,λj h=>by simp at h,λj h=>⟨0,by
  have:j=0\/j=1\/j=2\/j=3\/j=4\/j=5\/j=6\/j=7:=O
  rcases this with rfl|rfl|rfl|rfl|rfl|rfl|rfl|rfl<;>rfl⟩⟩
theorem yu.snoc{a:List Int}{R:I0}(h:yu a R)(f:a.length<8)(c:Int):yu (a++[c]) (R.setIfInBounds a.length (I Zg c)):=by
 refine⟨by simpa using h.1,λj d=>?_,λj d=>?_⟩
 .rw[Yu];by_cases e:a.length=j
  .subst e;rw[qI rfl,qI (by rw[h.1];exact f)];simp
  .have b:j<a.length:=U2;rw[qF e,h.2.1 j b,List.getElem_append_left b]
 .rw[Yu];by_cases e:a.length=j
  .exact⟨c,by rw[qI e,qI (by rw[h.1];exact f)]⟩
  .rw[qF e];exact h.2.2 j d
theorem yu.done{a:List Int}{R:I0}(h:yu a R)(d:a.length=8):R=(a.map (Value.int Zg)).toArray:=by
 apply YV;intro i;by_cases b:i<8
 .rw[h.2.1 i O];simp[d,b]
 .rw[Z6 (by have:=h.1;omega),Z6 WX]
theorem uU{k:List Int}{R:I0}(h:yu k R):∃a b c d e f g i:Int,R=#[I Zg a,I Zg b,I Zg c,I Zg d,I Zg e,I Zg f,I Zg g,I Zg i]:=by
 obtain⟨a,l⟩:=h.2.2 0 O;obtain⟨b,m⟩:=h.2.2 1 O;obtain⟨c,n⟩:=h.2.2 2 O;obtain⟨d,o⟩:=h.2.2 3 O;obtain⟨e,p⟩:=h.2.2 4 O;obtain⟨f,q⟩:=h.2.2 5 O;obtain⟨g,r⟩:=h.2.2 6 O;obtain⟨i,u⟩:=h.2.2 7 O;refine⟨a,b,c,d,e,f,g,i,?_⟩;apply YV;intro j;by_cases v:j<8
 .have:j=0\/j=1\/j=2\/j=3\/j=4\/j=5\/j=6\/j=7:=O;rcases this with rfl|rfl|rfl|rfl|rfl|rfl|rfl|rfl<;>simp[*]
 .rw[Z6 (by have:=h.1;omega),Z6 WX]
def yf(l:I1)(e:Ending):Prop :=
 (∃acc,jL l=S acc/\e=Zd (Ze #[Zc (acc.map (Value.int Zg)).toArray,Za Zk]))\/(jL l=N/\∃a b c d e' f g i:Int,e=Zd (Ze #[Zc #[I Zg a,I Zg b,I Zg c,I Zg d,I Zg e',I Zg f,I Zg g,I Zg i],Za Zl]))
theorem rh(s:I4)(hs:s.size<=maxLen)(w:I6):Calls Tryz.prog 215 #[Zb s] w λe w'=>yf s.data.toList e/\Gr w w':=by
 unfold maxLen at hs;go_enter Tryz.func215,Tryz.ntmps215;go_wp2;go_loopg [5,6,13] s.size (λg a5 af i wr=>∃k:Nat,k+g=s.size/\i=I L k/\∃(d:List Int)(a:Bool),vY (s.data.toList.take k)=S (d,a)/\a5=I L d.length/\af=Za a/\∃(v:I0)(n:Nat),wr=((w.alloc (Obj.cells #[I Zg 0,I Zg 0,I Zg 0,I Zg 0,I Zg 0,I Zg 0,I Zg 0,I Zg 0] 277)).alloc (Obj.cells v 277)).drewN n/\yu d v/\d.length<=8)
 case atStart=>exact⟨0,O,R,[],Zl,R,R,R,_,0,R,yu.nil,WU⟩
 case round=>
  obtain⟨k,k1,rfl,d,a,V,rfl,rfl,v,n,rfl,T,a2⟩:=hrel;have H:=X V;have hR:=X T;clear V T;by_cases r:k<s.size
  .by_cases E:49<=s[k].toNat/\s[k].toNat<=56
   .obtain⟨b2,a0⟩:=E;have q:Y (uT s[k]=Zk):=X (by unfold uT;rw[qJ b2,qJ a0];rfl);cases a
    .by_cases J:8<d.length+(s[k].toNat-48)
     .have l:Y (jL s.data.toList=N):=X (zn s k r (by rw[H.a];unfold zZ;simp only[q.a,YS,Xo,qJ J]));exact IL
     .go_wp2;go_region;go_wp2;go_loopg [5,45] (s[k].toNat-48) (λg a5 jj wr=>∃j:Nat,j+g=s[k].toNat-48/\jj=I L j/\∃b:List Int,b=d++List.replicate j 46/\a5=I L b.length/\∃(v:I0)(n:Nat),wr=((w.alloc (Obj.cells #[I Zg 0,I Zg 0,I Zg 0,I Zg 0,I Zg 0,I Zg 0,I Zg 0,I Zg 0] 277)).alloc (Obj.cells v 277)).drewN n/\yu b v)
      case atStart=>exact⟨0,O,R,d,WU,R,v,_,R,hR.a⟩
      case round=>
       obtain⟨j,j1,rfl,b,f,rfl,K,n',rfl,m⟩:=hrel;have h:=X f;have p:=X m;have o:b.length=d.length+j:=by rw[f];simp
       clear f m;by_cases hj:j<s[k].toNat-48
       .have P:b.length<8:=O;have a1:=p.a.1;have Q:b.length<K.size:=O;clear o;have b1:((w.alloc (Obj.cells #[I Zg 0,I Zg 0,I Zg 0,I Zg 0,I Zg 0,I Zg 0,I Zg 0,I Zg 0] 277)).alloc (Obj.cells K 277)).cell? ⟨w.heap.size+1,b.length,N⟩=S (K[b.length]'Q):=UB;go_wp2;go_roundg (gk-1)
        case measure=>omega
        case rel =>refine⟨j+1,O,Vg,b++[46],?_,WU,_,_,R,p.a.snoc P _⟩;rw[h.a,qS,<-List.replicate_succ']
       .have a7:j=s[k].toNat-48:=O;clear o;go_wp2;go_roundg (s.size-k-1)
        case measure=>omega
        case rel =>have M:=h.a;rw[a7]at M;refine⟨k+1,O,Vg,b,Zk,?_,R,R,K,_,R,p.a,by rw[M];simp;omega⟩;rw[xi s k r,vj,H.a,M];unfold zZ;simp only[q.a,YS,Xo,qE J,qR,YH]
    .have l:Y (jL s.data.toList=N):=X (zn s k r (by rw[H.a];unfold zZ;simp only[q.a,YS,Bool.true_or]));exact IL
   .have q:Y (uT s[k]=Zl):=X (by unfold uT;rw[<-Bool.decide_and];exact qE E);have E:s[k].toNat<49\/56<s[k].toNat:=O;have hu:(s[k].toNat:Int).toNat.toUInt8=s[k]:=WU;have a6:Y (bz s[k]=!decide (Lib.indexByte xU s[k]<0)):=X R;generalize W:Lib.indexByte xU s[k]=ix at a6;have a3:Lib.indexByte [80,78,66,82,81,75,112,110,98,114,113,107] s[k]=ix:=W;clear W;by_cases b0:ix<0
    .have l:Y (jL s.data.toList=N):=X (zn s k r (by rw[H.a];unfold zZ;simp only[q.a,a6.a,qJ b0];rfl));exact WN
    .have a8:Y (bz s[k]=Zk):=X (by rw[a6.a,qE b0];rfl);by_cases J:8<d.length+1
     .have l:Y (jL s.data.toList=N):=X (zn s k r (by rw[H.a];unfold zZ;simp only[q.a,a8.a,qR,YH,YS,J]));exact WN
     .obtain E|E:=E;all_goals
       go_wp2;go_region;go_wp2_with(go_at_call 200;refine Z1 (Tryz.strings_IndexByte _ _ _) ?_);go_loopg [5,45] (1) (λg a5 jj wr=>∃j:Nat,j+g=1/\jj=I L j/\∃b:List Int,b=d++List.replicate j (s[k].toNat:Int)/\a5=I L b.length/\∃(v:I0)(n:Nat),wr=((w.alloc (Obj.cells #[I Zg 0,I Zg 0,I Zg 0,I Zg 0,I Zg 0,I Zg 0,I Zg 0,I Zg 0] 277)).alloc (Obj.cells v 277)).drewN n/\yu b v)
       case atStart=>exact⟨0,O,R,d,WU,R,v,_,R,hR.a⟩
       case round =>
        obtain⟨j,j1,rfl,b,f,rfl,K,n',rfl,m⟩:=hrel;have h:=X f;have p:=X m;have o:b.length=d.length+j:=by rw[f];simp
        clear f m;by_cases hj:j<1
        .have P:b.length<8:=O
         have a1:=p.a.1;have Q:b.length<K.size:=O
         clear o;have b1:((w.alloc (Obj.cells #[I Zg 0,I Zg 0,I Zg 0,I Zg 0,I Zg 0,I Zg 0,I Zg 0,I Zg 0] 277)).alloc (Obj.cells K 277)).cell? ⟨w.heap.size+1,b.length,N⟩=S (K[b.length]'Q):=UB
         go_wp2;go_roundg (gk-1)
         case measure=>omega
         case rel =>refine⟨j+1,O,Vg,b++[(s[k].toNat:Int)],?_,WU,_,_,R,p.a.snoc P _⟩;rw[h.a,qS,<-List.replicate_succ']
        .have a7:j=1:=O
         clear o;go_wp2;go_roundg (s.size-k-1)
         case measure=>omega
         case rel =>have M:=h.a;rw[a7]at M;refine⟨k+1,O,Vg,b,Zl,?_,R,R,K,_,R,p.a,by rw[M];simp;omega⟩;rw[xi s k r,vj,H.a,M];unfold zZ;simp only[q.a,a8.a,qR,YH,YS,J];rfl
  .have ek:k=s.size:=O;subst ek;have a9:s.data.toList.take s.size=s.data.toList:=Yk WU;rw[a9]at H;clear a9;by_cases J:d.length=8
   .have F:=hR.a.done J;obtain⟨u,x,y,z,A,B,C,D,rfl⟩:=uU hR.a;have G:Y (yf s.data.toList (Zd (Ze #[Zc #[I Zg u,I Zg x,I Zg y,I Zg z,I Zg A,I Zg B,I Zg C,I Zg D],Za Zk]))) :=
     X (Zi ⟨d,by unfold jL;rw[H.a];simp[J],by rw[<-F]⟩)
    clear hR F H;go_wp2;refine ZS (v:=Ze #[Zc #[I Zg u,I Zg x,I Zg y,I Zg z,I Zg A,I Zg B,I Zg C,I Zg D],Za Zk]) Vr R ⟨G.a,?_⟩;exact OC
   .obtain⟨u,x,y,z,A,B,C,D,rfl⟩:=uU hR.a;have G:Y (yf s.data.toList (Zd (Ze #[Zc #[I Zg u,I Zg x,I Zg y,I Zg z,I Zg A,I Zg B,I Zg C,I Zg D],Za Zl]))) :=
     X (Zj ⟨by unfold jL;rw[H.a];simp[J],_,_,_,_,_,_,_,_,R⟩)
    have a4:((d.length:Int)==8)=Zl:=WX;clear hR H J;go_wp2;refine ZS (v:=Ze #[Zc #[I Zg u,I Zg x,I Zg y,I Zg z,I Zg A,I Zg B,I Zg C,I Zg D],Za Zl]) Vr R ⟨G.a,?_⟩;exact OC
end
section
attribute [local go_sem] qd qe
theorem qj5{P:Program}{q:Array Oper}{o:Oper}{a:Act}{w:I6}{K:Act->I6->Prop}{Q:Exit->Act->I6->Prop}{E:Prop}(u:o.guard=N)(d s:Operand)(dT sT:TypeId)
 (C:o.op=.call { callee:=.builtin .copy,args:=#[d,s],argTypes:=#[dT,sT] }) (e:TypeId) (F:P.underlying dT=S (.slice e)) (x:(P.info? e).map (·.size)=S 1)
 (g f b k:Nat) (r:Addr) (i l:Nat) (z:a.eval d=.slice (S ⟨g,f,N⟩) b k) (D:a.eval s=.slice (S r) i l)
 (cur:I0) (t:TypeId) (A:w.heap[g]?=S (Z cur t (0,0))) (cs:List I7) (B:cs.length=Nat.min i b)
 (p:∀j v,cs[j]?=S v->w.cell? (r.add j)=S v) (m:f+cs.length<=cur.size) (y:∀v∈cs,v.oneCell'=Zk)
 (h:K (a.put o.dst (goInt cs.length)) (w.setRow g (cur.toList.take f++(cs++cur.toList.drop (f+cs.length))).toArray)) :
 if Region.wanted o (yielded q a.tmps)=Zk then Oper.wp P o a w K Q else E:=by
 have G:Region.wanted o (yielded q a.tmps)=Zk:=by simp[Region.wanted,u]
 rw[qI G];have n:=run_copy_row (P:=P) w dT sT o.type e g f b k r i l cur t cs F x A B p m y;unfold Oper.wp;simp[execOp,C,resolve,invoke,builtin,z,D,n,Result.andThen];exact h
def jK(xs:I3):Option (List (List Int)) :=
 match xs with
 | []=>S []
 | x :: r=>match jL x.data.toList,jK r with
  | some a,S b=>S (a :: b)
  | _,_=>N
theorem uJ(d:I3)(x:I4):jK (d++[x])=match jK d,jL x.data.toList with
 | some a,S b=>S (a++[b])
 | _,_=>N:=by
 induction d with
 | nil=>simp only[Wj,jK];cases jL x.data.toList<;>rfl
 | cons y r ih =>
  simp only[YA,jK,ih];cases jL y.data.toList<;>cases jK r<;>cases jL x.data.toList<;>rfl
theorem eY(a:I3)(k:Nat)(h:k<a.length)(b:jL (a[k]).data.toList=N):jK a=N:=by
 induction a generalizing k with
 | nil=>simp at h
 | cons y r ih =>
  cases k with
  | zero=>simp only[jK];simp at b;rw[b]
  | succ k=>simp only[jK];rw[ih k Vq VE];cases jL y.data.toList<;>rfl
def xL(c:UInt8)(n:Nat)(s:I4):I3:=Lib.splitB ⟨#[c]⟩ 0 (min n (s.size+1)-1) s
def j7(s:I4):Option (List Int) :=
 if(xL 47 9 s).length=8 then match jK (xL 47 9 s)with
  | some rs=>S rs.reverse.flatten
  | none=>N
 else N
def iL(A:I0):Prop:=A.size=64/\A.all (·.oneCell')=Zk
def vm(s:I4)(e:Ending):Prop :=
 (∃b,j7 s=S b/\b.length=64/\e=Zd (Ze #[Zc (b.map (Value.int Zg)).toArray,Za Zk]))\/(j7 s=N/\∃A:I0,iL A/\e=Zd (Ze #[Zc A,Za Zl]))
def kH(rs:List (List Int)):List I7:=List.replicate (64-8*rs.length) (I Zg 0)++(rs.reverse.flatten).map (Value.int Zg)
def yw(rs:List (List Int)):Prop:=∀r∈rs,r.length=8
theorem qxe:∀(rs:List (List Int)),yw rs->rs.flatten.length=8*rs.length
 | [],_=>rfl
 | r :: t,h=>by
  rw[List.flatten_cons,qZ,qxe t (λx a=>h x VM),h r WU];simp;omega
theorem qvu{rs:List (List Int)}(h:yw rs):yw rs.reverse:=λr a=>h r VS
theorem tV(rs:List (List Int))(h:yw rs)(a:rs.length<=8):(kH rs).length=64:=by unfold kH;rw[qZ,YD,qxe _ (qvu h)];simp;omega
theorem gb(rs:List (List Int))(h:yw rs)(b:rs.length<=8):iL (kH rs).toArray:=by
 refine⟨by simpa using tV rs h b,?_⟩;rw[List.all_toArray,qW];intro v a;unfold kH at a;rw[Yi]at a;obtain a|a:=a
 .rw[(List.mem_replicate.mp a).2];rfl
 .obtain⟨z,_,rfl⟩:=YL.mp a;rfl
theorem m8(rs:List (List Int))(r:List Int)(b:rs.length<8)(a:r.length=8) :
 ((kH rs).toArray.toList.take (8*(7-rs.length))++(r.map (Value.int Zg)++(kH rs).toArray.toList.drop (8*(7-rs.length)+(r.map (Value.int Zg)).length)))=kH (rs++[r]):=by unfold kH;rw[YD,a];rw[Wg WX,List.take_replicate,show min (8*(7-rs.length)) (64-8*rs.length)=64-8*(rs++[r]).length from WX];rw[List.drop_append,List.drop_replicate,show 64-8*rs.length-(8*(7-rs.length)+8)=0 from O,List.length_replicate,show 8*(7-rs.length)+8-(64-8*rs.length)=0 from O];simp
theorem gB{l:I1}{a:List Int}(h:jL l=S a):a.length=8:=by grind[jL]
theorem jg:∀(g:I3) (rs:List (List Int)),jK g=S rs->yw rs/\rs.length=g.length
 | [],rs,h=>by simp[jK]at h;subst h;exact⟨λr d=>by simp at d,R⟩
 | x :: t,rs,h=>by
  unfold jK at h;cases e:jL x.data.toList with
  | none=>rw[e]at h;simp at h
  | some a =>
   cases f:jK t with
   | none=>rw[e,f]at h;simp at h
   | some b =>
    rw[e,f]at h;simp at h;subst h;obtain⟨i,j⟩:=jg t b f;exact⟨λr d=>by obtain rfl|d:=Yj.mp d;exact gB e;exact i r d,by simp[j]⟩
theorem zc(a:I4):∀(k:Nat)(s x:I4),x∈Lib.splitB a 0 k s->x.size<=s.size
 | 0,s,x,h=>by simp[Lib.splitB]at h;subst h;exact Zy
 | k+1,s,x,h=>by
  unfold Lib.splitB at h;split at h
  .simp at h;subst h;exact Zy
  .obtain rfl|h:=Yj.mp h
   .rw[Wu];omega
   .have:=zc a k _ x h;rw[Wu]at this;omega
theorem x7:(Tryz.prog.info? 67).map (·.size)=S 64:=WR
theorem EZ:(Tryz.prog.info? 5).map (·.size)=S 1:=WR
theorem qj{P:Program}{b:Func}{p q:Tmp}{ty:TypeId}(h:b.results=#[.cell p ty,.tmp q])(tmps:I0)(w:I6)(g:Nat)(t:TypeId)(cs:I0)(fr:Nat × Nat)(d:TypeDesc)
 (j:tmps.getD p undef=.pointer (S ⟨g,0,N⟩)) (f:w.heap[g]?=S (Z cs t fr))
 (k:P.underlying ty=S d) (e:(match d with|.struct _|.array _ _=>Zk|_=>Zl)=Zk) (i:(P.info? ty).map (·.size)=S cs.size) :
 (results b tmps).run P w=.ok (Ze #[Zc cs,tmps.getD q undef]) w:=by
 have a:tmps[p]?.getD undef=.pointer (S ⟨g,0,N⟩):=by simpa using j
 simp[results,h,a,asAddr,run_loadVar_row w g t ty cs fr d f k e i]
theorem lM(w:I6)(a b c:Obj):(((w.alloc a).alloc b).alloc c).heap[w.heap.size]?=S a/\(((w.alloc a).alloc b).alloc c).heap[w.heap.size+1]?=S b/\(((w.alloc a).alloc b).alloc c).heap[w.heap.size+2]?=S c:=by
 have e:(((w.alloc a).alloc b).alloc c).heap=((w.heap.push a).push b).push c:=R;rw[e];refine⟨?_,?_,?_⟩
 .simp only[Array.getElem?_push,Array.size_push];rw[qF O,qF O,qI trivial]
 .simp only[Array.getElem?_push,Array.size_push];rw[qF O,qI trivial]
 .simp only[Array.getElem?_push,Array.size_push];rw[qI trivial]
def BAt(w:I6)(N:Nat)(xs:I3)(sq:I0)(wr:I6):Prop :=
 (∃A,iL A/\wr.heap[w.heap.size]?=S (Z A 67))/\wr.heap[w.heap.size+1]?=S (Z sq 67)/\wr.heap[w.heap.size+2]?=S (Z (Lib.cellsOf xs N) 9)/\w.heap.size+3<=wr.heap.size/\Gr w wr
theorem iY(s:I4)(b:s.size<4294967281)(m:Int)(w:I6)(a:w.cell? ⟨4,0,N⟩=S (I L m)) :
 Calls Tryz.prog 136 #[Zb s,Zb ⟨#[47]⟩,I L 9] w λe w'=>e=Zd (Zq (S ⟨w.heap.size,0,N⟩) (xL 47 9 s).length (min 9 (s.size+1)))/\w'=w.alloc (Z (Lib.cellsOf (xL 47 9 s) (min 9 (s.size+1))) 9) :=
 Tryz.strings_SplitN s ⟨#[47]⟩ 9 m w b a WW O O
theorem qjn(a:I3)(b k:Nat)(h:k<a.length):(Lib.cellsOf a b)[k]?=S (Zb a[k]):=by unfold Lib.cellsOf;rw[Xu,List.getElem?_append_left Vq];simp[h]
def kQ:I0:=#[I Zg 0,I Zg 0,I Zg 0,I Zg 0,I Zg 0,I Zg 0,I Zg 0,I Zg 0,I Zg 0,I Zg 0,I Zg 0,I Zg 0,I Zg 0,I Zg 0,I Zg 0,I Zg 0,I Zg 0,I Zg 0,I Zg 0,I Zg 0,I Zg 0,I Zg 0,I Zg 0,I Zg 0,I Zg 0,I Zg 0,I Zg 0,I Zg 0,I Zg 0,I Zg 0,I Zg 0,I Zg 0,I Zg 0,I Zg 0,I Zg 0,I Zg 0,I Zg 0,I Zg 0,I Zg 0,I Zg 0,I Zg 0,I Zg 0,I Zg 0,I Zg 0,I Zg 0,I Zg 0,I Zg 0,I Zg 0,I Zg 0,I Zg 0,I Zg 0,I Zg 0,I Zg 0,I Zg 0,I Zg 0,I Zg 0,I Zg 0,I Zg 0,I Zg 0,I Zg 0,I Zg 0,I Zg 0,I Zg 0,I Zg 0]
theorem qk5:iL kQ:=⟨R,WS⟩
theorem Cu:kQ=(kH []).toArray:=WR
theorem Gr.setRow{a b:I6}(h:Gr a b)(g:Nat)(d:a.heap.size<=g)(cs:I0):Gr a (b.setRow g cs) :=
 Below.trans h ⟨R,R,R,by simp[World.setRow],λk e=>setRow_other b g k cs O⟩
theorem nO(s:I4)(y:s.size<4294967281)(m:Int)(w:I6)(u:w.cell? ⟨4,0,N⟩=S (I L m))(z:4<w.heap.size)(r:(xL 47 9 s).length≠8):Calls Tryz.prog 137 #[Zb s] w λe w'=>vm s e/\Gr w w':=by
 have p:=X u;clear u;have f:Y (vm s (Zd (Ze #[Zc kQ,Za Zl]))):=X (Zj ⟨by unfold j7;rw[qF r],kQ,qk5,R⟩);have x:(((xL 47 9 s).length:Int)==8)=Zl:=WX;clear r;go_enter Tryz.func137,Tryz.ntmps137;go_wp2_with fail;refine(iY s y m _ ?_).mono ?_
 .rw[YZ _ _ _ WX,YZ _ _ _ z];exact p.a
 rintro e q ⟨rfl,b⟩;have o:=lM w (Z kQ 67) (Z kQ 67) (Z (Lib.cellsOf (xL 47 9 s) (min 9 (s.size+1))) 9);have n:Gr w q:=by rw[b];exact ZN.al.al
 have g:q.heap[w.heap.size]?=S (Z kQ 67):=by rw[b];exact o.1
 have h:q.heap[w.heap.size+1]?=S (Z kQ 67):=by rw[b];exact o.2.1
 clear o b;generalize k:kQ=v at g h f;have j:v.size=64:=by rw[<-k];rfl
 have l:v.all (·.oneCell')=Zk:=by rw[<-k];exact qk5.2
 clear k;have d:=X g;have i:=X h;have a:=X j;clear g h j;go_wp2_with(first|(refine ZV R 67 _ R (w.heap.size+1) R 67 v (0,0) _ i.a Tryz.underlying67 rfl (by rw[a.a];exact x7) ?_)|(refine ZU R 67 _ _ R w.heap.size v R R 67 v d.a (by rw[a.a];exact x7) R l ?_));exact ZS (v:=Ze #[Zc v,Za Zl]) (qj Tryz.results137 _ _ w.heap.size 67 v (0,0) _ R (Zt d.a) Tryz.underlying67 rfl (by rw[a.a];exact x7)) R ⟨f.a,n.setRow _ Zy _⟩
theorem GJ(l:List Int)(h:l.length=8):∃a b c d e f g i,l=[a,b,c,d,e,f,g,i]:=by
 match l,h with
 | [a,b,c,d,e,f,g,i],_=>exact⟨a,b,c,d,e,f,g,i,R⟩
theorem nR(s:I4)(hs:s.size<4294967281)(m:Int)(w:I6)(hm:w.cell? ⟨4,0,N⟩=S (I .i64 m))(hz:4<w.heap.size)(L:(xL 47 9 s).length=8):Calls Tryz.prog 137 #[Zb s] w λe w'=>vm s e/\Gr w w':=by
 have b2:=X hm;clear hm;have q:Y (jK (xL 47 9 s)=N->∀A,iL A->vm s (Zd (Ze #[Zc A,Za Zl]))) :=
  X (λh A hA=>Zj ⟨by unfold j7;rw[qI L,h],A,hA,R⟩)
 have l:Y (∀rs,jK (xL 47 9 s)=S rs->vm s (Zd (Ze #[Zc (kH rs).toArray,Za Zk]))):=X (by
  intro rs h;obtain⟨e1,e2⟩:=jg _ _ h;refine Zi ⟨rs.reverse.flatten,by unfold j7;rw[qI L,h],?_,?_⟩
  .rw[qxe _ (qvu e1),List.length_reverse,e2,L]
  .unfold kH;rw[e2,L];simp)
 have d5:Y (∀x∈xL 47 9 s,x.size<=s.size):=X (λx hx=>zc _ _ _ _ hx);go_enter Tryz.func137,Tryz.ntmps137;go_wp2_with fail;refine(iY s hs m _ ?_).mono ?_
 .rw[YZ _ _ _ WX,YZ _ _ _ hz];exact b2.a
 rintro e w3 ⟨rfl,a9⟩;have d:BAt w (min 9 (s.size+1)) (xL 47 9 s) (kH []).toArray w3:=by have hh:=lM w (Z kQ 67) (Z kQ 67) (Z (Lib.cellsOf (xL 47 9 s) (min 9 (s.size+1))) 9);rw[a9];exact⟨⟨kQ,qk5,hh.1⟩,by rw[<-Cu];exact hh.2.1,hh.2.2,Nat.le_of_eq (by rw[Z3,Z3,Z3]),ZN.al.al⟩
 clear a9;generalize xL 47 9 s=D at L q l d5 d |-;generalize min 9 (s.size+1)=c5 at d |-;have F:=X d;have c6:=X L;clear d;go_wp2;go_loopg [18] 8 (λg i wr=>∃k:Nat,k+g=8/\i=I .i64 k/\∃rs,jK (D.take k)=S rs/\BAt w c5 D (kH rs).toArray wr)
 case atStart=>exact⟨0,R,R,[],R,F.a⟩
 case round=>
  clear F;obtain⟨k,k1,rfl,rs,C,⟨A0,P,Q⟩,d0,d4,a8,V⟩:=hrel;have E:=X C;have b:=X (jg _ _ C);have p:=X Q;have u:=X d0;have y:=X d4;have H:=X V;have r:=X P;clear C Q d0 d4 V P;by_cases W:k<8
  .have hk:k<D.length:=by rw[c6.a];exact W
   have J:wr.cell? ⟨w.heap.size+2,k,N⟩=S (Zb D[k]):=by rw[Zs y.a];exact qjn D c5 k hk
   have a:=X (gb rs b.a.1 UT);go_wp2_with fail;refine(rh D[k] (by have:=d5.a D[k] (Xs hk);unfold maxLen;omega) _).mono ?_;rintro e M ⟨hr,n⟩;have h0:Y (∀o,(M.alloc o).heap[w.heap.size]?=S (Obj.cells A0 67)):=X (λo=>by rw[heap_alloc_old _ _ Tu,Zz n O];exact p.a);have h1:Y (∀o,(M.alloc o).heap[w.heap.size+1]?=S (Obj.cells (kH rs).toArray 67)):=X (λo=>by rw[heap_alloc_old _ _ Tu,Zz n O];exact u.a);have h2:Y (∀o,(M.alloc o).heap[w.heap.size+2]?=S (Obj.cells (Lib.cellsOf D c5) 9)):=X (λo=>by rw[heap_alloc_old _ _ Tu,Zz n O];exact y.a);have T:Y (∀c,Gr w (M.alloc (Obj.cells c 277))):=X (λc=>(H.a.trans n).alloc _ _);have b6:w.heap.size+3<=M.heap.size:=Tu;clear p u y J a8;obtain⟨b0,ha,rfl⟩|⟨hn,a0,a1,a2,a3,a4,a5,a6,a7,rfl⟩:=hr
   .obtain⟨a0,a1,a2,a3,a4,a5,a6,a7,rfl⟩:=GJ b0 (gB ha);have b1:=X ha;clear ha;go_wp2;have d1:rs.length=k:=UT;have G:8*(7-k)+8<=(kH rs).toArray.size:=by rw[a.a.1];omega
    have d3:=X d1;clear d1;obtain⟨o,ho⟩:∃o:Nat,o=8*(7-k):=⟨_,R⟩;have b7:IntKind.i64.wrap (7-(k:Int))=7-(k:Int):=Vc;have c4:IntKind.i64.wrap (8*(7-(k:Int)))=(o:Int):=Vc;have b5:(o:Int)<=64:=O;have b4:o<=56:=O;have K:o+8<=(kH rs).toArray.size:=by rw[ho];exact G
    have b3:=X ho;clear ho G;go_region_law (refine qj5 R (.tmp 34) (.tmp 35) 145 145 rfl 5 Tryz.underlying145 EZ (w.heap.size+1) o (64-o) (64-o) ⟨M.heap.size,0,N⟩ 8 8 (by simp[Act.eval,Act.put];omega) (by simp[Act.eval,Act.put]) (kH rs).toArray 67 (h1.a _) [I Zg a0,I Zg a1,I Zg a2,I Zg a3,I Zg a4,I Zg a5,I Zg a6,I Zg a7] (Nat.min_eq_left (show 8<=64-o from O)).symm (by intro j v hj;rw[X2,Z2];show(World.alloc _ _).cell? _=_;rw[Z8 _ _ _ _ R];simpa using hj) K Vi ?_);go_wp2;go_roundg (gk-1)
    case measure=>omega
    case rel=>
     have d2:=m8 rs [a0,a1,a2,a3,a4,a5,a6,a7] (by rw[d3.a];exact W) R;rw[d3.a,<-b3.a]at d2;refine⟨k+1,O,Vg,rs++[[a0,a1,a2,a3,a4,a5,a6,a7]],?_,⟨A0,r.a,?_⟩,?_,?_,?_,?_⟩
     .rw[Yd hk,uJ,E.a,b1.a]
     .exact(Zu O).trans (h0.a _)
     .rw[<-d2];exact Zt (h1.a _)
     .exact(Zu O).trans (h2.a _)
     .rw[Xa];show _<=(World.alloc _ _).heap.size;rw[Z3];omega
     .exact(T.a _).drew.setRow _ O _
   .have z:=X (q.a (eY D k hk hn) _ a.a);clear hn q l;have f:=X a.a.1;go_wp2_with(first|(refine ZV R 67 _ R (w.heap.size+1) R 67 (kH rs).toArray (0,0) _ (h1.a _) Tryz.underlying67 rfl V7 ?_)|(refine ZU R 67 _ _ R w.heap.size (kH rs).toArray R R 67 A0 (h0.a _) V7 (by rw[r.a.1,f.a]) a.a.2 ?_));exact ZS (v:=Ze #[Zc (kH rs).toArray,Za Zl]) (qj Tryz.results137 _ _ w.heap.size 67 _ (0,0) _ R (Zt (h0.a _)) Tryz.underlying67 rfl V7) R ⟨z.a,(T.a _).setRow _ Zy _⟩
  .have ek:k=8:=O;subst ek;have B:D.take 8=D:=Yk (by rw[c6.a];exact Zy);rw[B]at E;have z:=X (l.a rs E.a);have a:=X (gb rs b.a.1 UT);have f:=X a.a.1;clear q l b E B;go_wp2_with(first|(refine ZV R 67 _ R (w.heap.size+1) R 67 (kH rs).toArray (0,0) _ u.a Tryz.underlying67 rfl V7 ?_)|(refine ZU R 67 _ _ R w.heap.size (kH rs).toArray R R 67 A0 p.a V7 (by rw[r.a.1,f.a]) a.a.2 ?_));exact ZS (v:=Ze #[Zc (kH rs).toArray,Za Zk]) (qj Tryz.results137 _ _ w.heap.size 67 _ (0,0) _ R (Zt p.a) Tryz.underlying67 rfl V7) R ⟨z.a,H.a.setRow _ Zy _⟩
theorem nQ(s:I4)(d:s.size<4294967281)(m:Int)(w:I6)(b:w.cell? ⟨4,0,N⟩=S (I L m))(f:4<w.heap.size):Calls Tryz.prog 137 #[Zb s] w λe w'=>vm s e/\Gr w w':=by
 by_cases a:(xL 47 9 s).length=8
 .exact nR s d m w b f a
 .exact nO s d m w b f a
end
abbrev ZL(F:Nat)(x:I0)(w:I6)(v:I7):Prop:=Calls Tryz.prog F x w λe W=>e=Zd v/\Gr w W
end Go.Proofs.YtnfakamfmkhlbabGreatDoor.C
