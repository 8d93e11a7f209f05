import Derived.Test.YtnfakamfmkhlbabGreatDoorUm10
import Derived.Stop.RegionWithIn
import Derived.Test.YtnfakamfmkhlbabGreatDoorUm4
import Derived.Test.YtnfakamfmkhlbabGreatDoorUm7
import Derived.ChangeKeysEq
import Derived.Test.YtnfakamfmkhlbabGreatDoorUm2
import Derived.Lib.IndexLaws
import Derived.LoopTactic
import Derived.Deep.LoopGhost
import Derived.Below
import Derived.Laws.Rows
import Derived.Deep.RegionHeld3
set_option maxRecDepth 100000
set_option maxHeartbeats 4000000
set_option linter.unusedSimpArgs false
namespace Go.Proofs.YtnfakamfmkhlbabGreatDoor.C
open Go.ChangeShapes Go.WideShapes Go.ChangeAt Go.RowKit Go.Shelf Go.Proofs.YtnfakamfmkhlbabGreatDoor.P
section
attribute [local go_sem] qd qe Oper.semAt_some
def pU(x:Mv):Array Value:=#[.int .i64 (x.1:Int),.int .i64 (x.2.1:Int),.int .u8 (x.2.2.toNat:Int)]
end
section
attribute [local go_sem] qd qe
theorem dV(g gf:Nat)(lb lf:Array Value)(w:World):Calls Tryz.prog 67 #[.func (.func g) #[] lb,.func (.func gf) #[] lf] w fun e w'=>e=.returned (.func (.func 155) #[] #[.pointer (some ⟨w.heap.size,0,none⟩),.pointer (some ⟨w.heap.size+1,0,none⟩)])/\w'.heap[w.heap.size]?=some (.cells #[.func (.func g) #[] lb] 141)/\w'.heap[w.heap.size+1]?=some (.cells #[.func (.func gf) #[] lf] 143)/\Gr w w':=by
 have hmf:∀(fn:Fn)(first cap:Array Value)(w:World),(Instr.makeFunc fn first cap).run Tryz.prog w=.ok (.func fn first cap) w:=fun _ _ _ _=>rfl
 go_enter Tryz.func67,Tryz.ntmps67;go_wp2;go_ret;obtain⟨h1,h2⟩:=x6 w (.cells #[.func (.func g) #[] lb] 141) (.cells #[.func (.func gf) #[] lf] 143);exact⟨rfl,h1,h2,((Gr.refl w).alloc _ _).alloc _ _⟩
def xC(z:Nat->UInt8)(wh:Bool)(fc:Nat->Bool)(b:Int):List Mv:=zH (xD z 64) wh (xZ (xD z 64) wh) (xZ (xD z 64) (!wh)) (vV b) fc 6
theorem qxq{z:Nat->UInt8}{wh:Bool}{fc:Nat->Bool}{b h g:Int}{PA:Array Value}(r:jE z wh fc b h g PA)(hok:xO z=true)(hb0:-1<=b)(hb1:b<=63)(Bp:Nat)(T:Obj->Prop)(hTm:∀o,T o->∃c fr,o=.cells c 87 fr)(w:World)
  (hp:w.heap[Bp]?=some (.cells PA 70)) (hT:jF w) (hC:jQ w) :
  It Tryz.prog 128 #[.pointer (some ⟨Bp,0,none⟩)] vr T (fun k=>k=Bp\/k=2\/k=3) (xC z wh fc b) w :=
 mY r.size (fun W=>aJ r hok hb0 hb1 W) Bp T hTm w hp hT hC
theorem zk(PA:Array Value)(w:World):Calls Tryz.prog 61 #[.agg PA] w fun e w'=>e=.returned (.func (.func 128) #[] #[.pointer (some ⟨w.heap.size,0,none⟩)])/\w'.heap[w.heap.size]?=some (.cells PA 70)/\Gr w w':=by
 have hmf:∀(fn:Fn)(first cap:Array Value)(w:World),(Instr.makeFunc fn first cap).run Tryz.prog w=.ok (.func fn first cap) w:=fun _ _ _ _=>rfl
 go_enter Tryz.func61,Tryz.ntmps61;go_wp2;go_ret;exact⟨rfl,World.alloc_heap_new _ _,(Gr.refl w).alloc _ _⟩
end
section
attribute [local go_sem] qd qe Oper.semAt_some
end
def nI(l:List UInt8):List Int:=l.map (fun c=>(c.toNat:Int))
def gx(st:List UInt8 × Nat)(c:UInt8):List UInt8 × Nat:=if c=46 then(st.1,st.2+1)else(st.1++ur st.2++[c],0)
def lh(zs:List UInt8):List UInt8 × Nat:=zs.foldl gx ([],0)
theorem qv3(zs:List UInt8)(c:UInt8):lh (zs++[c])=gx (lh zs) c:=by unfold lh;rw[List.foldl_append];rfl
theorem iR(z:Nat->UInt8):∀k,DV z k=lh ((List.range k).map z)
 | 0=>rfl
 | k+1=>by
   rw[List.range_succ,List.map_append,List.map_cons,List.map_nil,qv3,<-iR z k];rfl
theorem cZ(zs:List UInt8):∀d,lh (zs++List.replicate d 46)=((lh zs).1,(lh zs).2+d)
 | 0=>by simp
 | d+1=>by
   rw[List.replicate_succ',<-qS,qv3,cZ zs d];unfold gx;rw[qI rfl];rfl
def wj(c:UInt8):Bool:=c==46||bz c
theorem EI:bz 46=false:=by decide
theorem sM(a b:List UInt8):nI (a++b)=nI a++nI b:=List.map_append
theorem D6(d:Nat):nI (List.replicate d 46)=List.replicate d 46:=by unfold nI;rw[List.map_replicate];rfl
theorem D7(a:List UInt8):(nI a).length=a.length:=List.length_map _
theorem CK(c:UInt8)(h:uT c=true):1<=c.toNat-48/\c.toNat-48<=8/\UInt8.ofNat (48+(c.toNat-48))=c:=by
 unfold uT at h;simp only[qH,qG]at h;refine⟨by omega,by omega,?_⟩;rw[show 48+(c.toNat-48)=c.toNat from by omega];simp
theorem eW(l:List UInt8):∀acc a,vY l=some (acc,a)->∃zs,acc=nI zs/\zs.all wj=true/\(a=false->lh zs=(l,0))/\(a=true->∃t g,lh zs=(t,g)/\1<=g/\l=t++[UInt8.ofNat (48+g)]):=by
 induction hn:l.length generalizing l with
 | zero =>
  have:l=[]:=List.length_eq_zero_iff.mp hn;subst this;intro acc a h;unfold vY at h;simp at h;obtain⟨rfl,rfl⟩:=h;exact⟨[],rfl,rfl,fun _=>rfl,fun h=>by simp at h⟩
 | succ n ih =>
  have hne:l≠[]:=fun e=>by subst e;simp at hn
  obtain⟨m,c,rfl⟩:∃m c,l=m++[c]:=⟨l.dropLast,l.getLast hne,(List.dropLast_concat_getLast hne).symm⟩;intro acc a h;rw[vj]at h;cases hm:vY m with
  | none=>rw[hm]at h;simp[zZ]at h
  | some st =>
   obtain⟨acc0,a0⟩:=st;rw[hm]at h;obtain⟨zs,e1,e2,e3,e4⟩:=ih m (by simpa using hn) acc0 a0 hm;unfold zZ at h;simp only at h;by_cases hd:uT c=true
   ·rw[qI hd]at h;split at h
    ·simp at h
    ·rename_i hc;simp only[Bool.or_eq_true,qG,not_or]at hc;have ha0:a0=false:=by simpa using hc.1
     simp only[Option.some.injEq,Prod.mk.injEq]at h;obtain⟨h1,h2⟩:=h;obtain⟨d1,d2,d3⟩:=CK c hd;refine⟨zs++List.replicate (c.toNat-48) 46,by rw[sM,D6,<-e1];exact h1.symm,?_,fun h=>by rw[<-h2]at h;simp at h,fun _=>⟨m,c.toNat-48,?_,d1,by rw[d3]⟩⟩
     ·rw[List.all_append,e2];simp[wj]
     ·rw[cZ,e3 ha0];simp
   ·rw[qF hd]at h;by_cases hl:bz c=true
    ·rw[qI hl]at h;split at h
     ·simp at h
     ·simp only[Option.some.injEq,Prod.mk.injEq]at h;obtain⟨h1,h2⟩:=h;have hc46:¬ c=46:=fun e=>by rw[e,EI]at hl;simp at hl
      refine⟨zs++[c],by rw[sM,<-e1];exact h1.symm,?_,fun _=>?_,fun h=>by rw[<-h2]at h;simp at h⟩
      ·rw[List.all_append,e2];simp[wj,hl]
      ·rw[qv3];unfold gx;rw[qF hc46];cases ha:a0 with
       | false=>rw[e3 ha];simp[ur]
       | true =>
        obtain⟨t,g,k1,k2,k3⟩:=e4 ha;rw[k1,k3];have:ur g=[UInt8.ofNat (48+g)]:=by unfold ur;rw[qF (by omega)]
        simp[this]
    ·rw[qF hl]at h;simp at h
theorem gA(l:List UInt8)(r:List Int)(h:jL l=some r):∃zs,r=nI zs/\zs.length=8/\zs.all wj=true/\(lh zs).1++ur (lh zs).2=l:=by
 unfold jL at h;cases hf:vY l with
 | none=>rw[hf]at h;simp at h
 | some st =>
  obtain⟨acc,a⟩:=st;rw[hf]at h;simp only at h;split at h
  ·rename_i h8;simp at h;subst h;obtain⟨zs,e1,e2,e3,e4⟩:=eW l acc a hf;refine⟨zs,e1,by rw[e1,D7]at h8;exact h8,e2,?_⟩;cases a with
   | false=>rw[e3 rfl];simp[ur]
   | true =>
    obtain⟨t,g,k1,k2,k3⟩:=e4 rfl;rw[k1,k3];have:ur g=[UInt8.ofNat (48+g)]:=by unfold ur;rw[qF (by omega)]
    simp[this]
  ·simp at h
theorem qjx(c:UInt8):∀l:List UInt8,(Lib.indexByte l c=-1/\c∉l)\/∃a b,l=a++c :: b/\c∉a/\Lib.indexByte l c=(a.length:Int)
 | []=>Or.inl ⟨rfl,by simp⟩
 | x :: l=>by
   unfold Lib.indexByte;by_cases hx:x=c
   ·subst hx;right;exact⟨[],l,rfl,by simp,by simp⟩
   ·have hb:(x==c)=false:=by simpa using hx
    rw[hb];simp only[qR,if_false];rcases qjx c l with⟨h1,h2⟩|⟨a,b,h1,h2,h3⟩
    ·left;rw[h1];exact⟨by simp,by simp only[List.mem_cons,not_or];exact⟨fun e=>hx e.symm,h2⟩⟩
    ·right;refine⟨x :: a,b,by rw[h1];rfl,by simp only[List.mem_cons,not_or];exact⟨fun e=>hx e.symm,h2⟩,?_⟩;rw[h3];have:((a.length:Int)==-1)=false:=by simp
     rw[this];simp
theorem qva(c:UInt8)(k:Nat)(l:List UInt8)(h:c∉l):Lib.splitK [c] 0 k l=[l]:=by
 cases k with
 | zero=>rfl
 | succ k =>
  unfold Lib.splitK;rw[Lib.index_one];rcases qjx c l with⟨h1,_⟩|⟨a,b,h1,_,_⟩
  ·rw[h1];simp
  ·rw[h1]at h;simp at h
theorem qj6(c:UInt8)(k:Nat)(a b:List UInt8)(h:c∉a):Lib.splitK [c] 0 (k+1) (a++c :: b)=a :: Lib.splitK [c] 0 k b:=by
 conv=>lhs;unfold Lib.splitK
 rw[Lib.index_one];rcases qjx c (a++c :: b)with⟨_,h2⟩|⟨a',b',h1,h2,h3⟩
 ·simp at h2
 ·have ha:a'=a/\b'=b:=by
   have key:∀(p q p' q':List UInt8),p++c :: q=p'++c :: q'->c∉p->c∉p'->p=p'/\q=q':=by
    intro p;induction p with
    | nil =>
     intro q p' q' e _ h';cases p' with
     | nil=>simp at e;exact⟨rfl,e⟩
     | cons y p'=>simp at e h';exact absurd e.1 h'.1
    | cons x p ih =>
     intro q p' q' e h h';cases p' with
     | nil=>simp at e h;exact absurd e.1.symm h.1
     | cons y p' =>
      simp at e h h';obtain⟨e1,e2⟩:=ih q p' q' e.2 h.2 h'.2;exact⟨by rw[e.1,e1],e2⟩
   obtain⟨e1,e2⟩:=key a b a' b' h1 h h2;exact⟨e1.symm,e2.symm⟩
  rw[h3,ha.1];have:((a.length:Int)==-1)=false:=by simp
  rw[this];simp
theorem ve(x y:List UInt8)(r:List (List UInt8))(sep:List UInt8):Lib.join (x :: y :: r) sep=x++sep++Lib.join (y :: r) sep:=by
 simp[Lib.join,List.intercalate,List.intersperse]
theorem o9(c:UInt8)(k:Nat)(l:List UInt8):∃x r,Lib.splitK [c] 0 k l=x :: r:=by
 cases k with
 | zero=>exact⟨_,_,rfl⟩
 | succ k=>unfold Lib.splitK;split<;>exact⟨_,_,rfl⟩
theorem qvt(c:UInt8):∀(k:Nat)(l:List UInt8),Lib.join (Lib.splitK [c] 0 k l) [c]=l
 | 0,l=>Lib.join_one l [c]
 | k+1,l=>by
   rcases qjx c l with⟨_,h2⟩|⟨a,b,rfl,h2,_⟩
   ·rw[qva c _ l h2,Lib.join_one]
   ·rw[qj6 c k a b h2];obtain⟨x,r,e⟩:=o9 c k b;rw[e,ve,<-e,qvt c k b];simp
theorem qjc(c:UInt8)(n:Nat)(s:ByteArray):(xL c n s).map (·.data.toList)=Lib.splitK [c] 0 (min n (s.size+1)-1) s.data.toList:=by
 unfold xL;rw[Lib.splitB_data]
theorem qz5(c:UInt8)(n:Nat)(s:ByteArray):Lib.join ((xL c n s).map (·.data.toList)) [c]=s.data.toList:=by
 rw[qjc,qvt]
theorem mA(s:ByteArray)(b:Bool)(h:kO s=some b):s.data.toList=[if b then 119 else 98]:=by
 unfold kO at h;rw[Lib.toList_data]at h;by_cases h1:s.data.toList=[119]
 ·rw[qI h1]at h;simp at h;subst h;exact h1
 ·rw[qF h1]at h;by_cases h2:s.data.toList=[98]
  ·rw[qI h2]at h;simp at h;subst h;exact h2
  ·rw[qF h2]at h;simp at h
theorem mF(l:List UInt8)(i:Nat):jN l i=(if zW l i then[vn i]else[])++jN l (i+1):=by
 show jN l i=(if Lib.hasPrefix (jN l i) [vn i]then[vn i]else[])++Lib.trimPrefix (jN l i) [vn i];unfold Lib.trimPrefix;cases h:Lib.hasPrefix (jN l i) [vn i]with
 | false=>simp
 | true =>
  simp only[if_true];unfold Lib.hasPrefix at h;obtain⟨t,ht⟩:=List.isPrefixOf_iff_prefix.mp h;rw[<-ht];simp
theorem iU(l:List UInt8):∀i,l=E5 (zW l) i++jN l i
 | 0=>rfl
 | i+1=>by
   rw[oN,qS,<-mF];exact iU l i
theorem aU(l:List UInt8)(f:Nat->Bool)(h:vS l=some f):eE f=l:=by
 unfold vS at h;by_cases h1:l=[45]
 ·rw[qI h1]at h;simp at h;subst h;rw[h1];rfl
 ·rw[qF h1]at h;by_cases h2:(!l.isEmpty&&(jN l 4).isEmpty)=true
  ·rw[qI h2]at h;simp at h;subst h;simp only[qH,Bool.not_eq_true',List.isEmpty_iff]at h2;have:=iU l 4;rw[h2.2,List.append_nil]at this;unfold eE;rw[<-this];rw[h2.1];rfl
  ·rw[qF h2]at h;simp at h
theorem oY(s:ByteArray)(h:s.size=2):s.data.toList=[s[0],s[1]]:=by
 have a:=xi s 0 (by omega);have b:=xi s 1 (by omega);have c:s.data.toList.take 2=s.data.toList:=List.take_of_length_le (by simp[h]);rw[c,a]at b;simpa using b
theorem ag(s:ByteArray)(n:Int)(h:v8 s=some n):oO n=s.data.toList/\(n=-1\/(0<=n/\n<64)):=by
 unfold v8 at h;by_cases h1:s.toList=[45]
 ·rw[qI h1]at h;simp at h;subst h;rw[Lib.toList_data]at h1;rw[h1];exact⟨rfl,Or.inl rfl⟩
 ·rw[qF h1]at h;unfold uX at h;by_cases h2:s.size=2
  ·rw[dif_pos h2]at h;by_cases h3:97<=s[0].toNat/\s[0].toNat<=104/\49<=s[1].toNat/\s[1].toNat<=56
   ·rw[qI h3]at h;simp only[fA,Option.some.injEq]at h;subst h;refine⟨?_,Or.inr (by omega)⟩;unfold oO xQ;rw[qF (by omega),oY s h2,Int.toNat_natCast];rw[show 97+(s[0].toNat-97+8*(s[1].toNat-49))%8=s[0].toNat from by omega,show 49+(s[0].toNat-97+8*(s[1].toNat-49))/8=s[1].toNat from by omega];simp
   ·rw[qF h3]at h;simp[fA]at h
  ·rw[dif_neg h2]at h;simp[fA]at h
theorem fg:∀n,n<256->dg (UInt8.ofNat n)=true->UInt8.ofNat (48+(n-48))=UInt8.ofNat n/\48<=n/\n<=57:=by decide +kernel
theorem tR(c:UInt8)(h:dg c=true):UInt8.ofNat (48+(c.toNat-48))=c/\48<=c.toNat/\c.toNat<=57:=by
 have:=fg c.toNat c.toNat_lt;rw[UInt8.ofNat_toNat]at this;exact this h
theorem Ei:∀(l:List UInt8),l≠[]->l.all dg=true->l.head?≠some 48->1<=dv l:=by
 intro l;induction hn:l.length generalizing l with
 | zero=>intro h;exact absurd (List.length_eq_zero_iff.mp hn) h
 | succ n ih =>
  intro hne ha hh;obtain⟨m,c,rfl⟩:∃m c,l=m++[c]:=⟨l.dropLast,l.getLast hne,(List.dropLast_concat_getLast hne).symm⟩;rw[yz];rw[List.all_append]at ha;simp only[qH,List.all_cons,List.all_nil,Bool.and_true]at ha;by_cases hm:m=[]
  ·subst hm;have h48:c≠48:=by simpa using hh
   have:=tR c ha.2;have:c.toNat≠48:=fun e=>h48 (q6.mp (by simpa using e))
   omega
  ·have:=ih m (by simpa using hn) hm ha.1 (by
    cases m with
    | nil=>exact absurd rfl hm
    | cons x r=>simpa using hh)
   omega
theorem Ek:∀(l:List UInt8),l≠[]->l.all dg=true->(1<l.length->l.head?≠some 48)->Lib.decDigits (dv l)=l:=by
 intro l;induction hn:l.length generalizing l with
 | zero=>intro h;exact absurd (List.length_eq_zero_iff.mp hn) h
 | succ n ih =>
  intro hne ha hh;obtain⟨m,c,rfl⟩:∃m c,l=m++[c]:=⟨l.dropLast,l.getLast hne,(List.dropLast_concat_getLast hne).symm⟩;rw[yz];rw[List.all_append]at ha;simp only[qH,List.all_cons,List.all_nil,Bool.and_true]at ha;obtain⟨c1,c2,c3⟩:=tR c ha.2;by_cases hm:m=[]
  ·subst hm;unfold Lib.decDigits;rw[dif_pos (by simp[dv];omega)];simp[dv,c1]
  ·have hh':m.head?≠some 48:=by
    have:=hh (by
     have:0<m.length:=List.length_pos_iff.mpr hm;simp at hn;omega)
    cases m with
    | nil=>exact absurd rfl hm
    | cons x r=>simpa using this
   have hp:=Ei m hm ha.1 hh';unfold Lib.decDigits;rw[dif_neg (by omega),show(10*dv m+(c.toNat-48))/10=dv m from by omega,show(10*dv m+(c.toNat-48))%10=c.toNat-48 from by omega,c1,ih m (by simpa using hn) hm ha.1 (fun _=>hh')]
theorem qvv(l:List UInt8)(n:Nat)(h:vR l=some n):Lib.itoa (n:Int)=l/\n<=65535:=by
 unfold vR at h;split at h
 ·rename_i hc;simp at h;subst h;refine⟨?_,hc.2.2.2.2⟩;unfold Lib.itoa;rw[qF (by omega),Int.toNat_natCast];exact Ek l (fun e=>by subst e;simp at hc) hc.2.2.2.1 hc.2.2.1
 ·simp at h
def zB(B:List UInt8)(i:Nat):UInt8:=B.getD i 0
def dL(B:List UInt8)(j:Nat):List UInt8:=(B.drop (8*j)).take 8
def AQ(zs:List UInt8):List UInt8:=(lh zs).1++ur (lh zs).2
theorem Dh(B:List UInt8)(j:Nat)(h:8*j+8<=B.length):(List.range 8).map (fun f=>zB B (8*j+f))=dL B j:=by
 apply List.ext_getElem
 ·simp[dL];omega
 ·intro i h1 h2;have hi:i<8:=by simpa using h1
  simp[dL,zB,List.getElem?_eq_getElem (show 8*j+i<B.length by omega)]
theorem AP(B:List UInt8)(i:Nat)(h:8*(7-i)+8<=B.length):oH (zB B) i=AQ (dL B (7-i)):=by
 unfold oH oJ AQ;rw[iR,Dh B (7-i) h]
theorem oG(B:List UInt8)(h:B.length=64):(eB (zB B)).map (·.data.toList)=(List.range 8).map (fun i=>AQ (dL B (7-i))):=by
 unfold eB;rw[List.map_map];apply List.map_congr_left;intro i _;exact AP B i (by omega)
theorem HA(L:List (List UInt8))(h:∀r∈L,r.length=8):∀j (hj:j<L.length),dL L.flatten j=L[j]:=by
 induction L with
 | nil=>intro j hj;simp at hj
 | cons r t ih =>
  intro j hj;have hr:=h r (by simp);cases j with
  | zero=>simp[dL,hr]
  | succ j =>
   have:=ih (fun x hx=>h x (by simp[hx])) j (by simpa using hj);unfold dL at this ⊢;rw[List.flatten_cons,show 8*(j+1)=r.length+8*j from by omega,List.drop_length_add_append,this];rfl
theorem qvg:∀(xs:List ByteArray) (rs:List (List Int)),jK xs=some rs->∃zss:List (List UInt8),rs=zss.map nI/\(∀z∈zss,z.length=8/\z.all wj=true)/\zss.map AQ=xs.map (·.data.toList)
 | [],rs,h=>by simp[jK]at h;subst h;exact⟨[],rfl,by simp,rfl⟩
 | x :: t,rs,h=>by
   unfold jK at h;cases h1:jL x.data.toList with
   | none=>rw[h1]at h;simp at h
   | some a =>
    cases h2:jK t with
    | none=>rw[h1,h2]at h;simp at h
    | some b =>
     rw[h1,h2]at h;simp at h;subst h;obtain⟨zs,k1,k2,k3,k4⟩:=gA _ _ h1;obtain⟨zss,e1,e2,e3⟩:=qvg t b h2;refine⟨zs :: zss,by rw[k1,e1];rfl,?_,?_⟩
     ·intro z hz;rcases List.mem_cons.mp hz with rfl|hz
      ·exact⟨k2,k3⟩
      ·exact e2 z hz
     ·show AQ zs :: zss.map AQ=_ :: _;rw[e3];unfold AQ;rw[k4]
theorem tJ(L:List (List UInt8))(h:∀r∈L,r.length=8):L.flatten.length=8*L.length:=by
 induction L with
 | nil=>rfl
 | cons r t ih=>rw[List.flatten_cons,qZ,ih (fun x hx=>h x (by simp[hx])),h r (by simp)];simp;omega
theorem fz(x:ByteArray)(b:List Int)(h:j7 x=some b):∃B,b=nI B/\B.length=64/\B.all wj=true/\dA (zB B)=x.data.toList:=by
 unfold j7 at h;split at h
 ·rename_i h8;cases hr:jK (xL 47 9 x)with
  | none=>rw[hr]at h;simp at h
  | some rs =>
   rw[hr]at h;simp at h;obtain⟨zss,e1,e2,e3⟩:=qvg _ _ hr;have hl:zss.length=8:=by have:=congrArg List.length e3;simpa[h8]using this
   have hrev:∀r∈zss.reverse,r.length=8:=fun r hr=>(e2 r (by simpa using hr)).1
   have hB:zss.reverse.flatten.length=64:=by rw[tJ _ hrev];simp[hl]
   refine⟨zss.reverse.flatten,?_,hB,?_,?_⟩
   ·rw[<-h,e1];unfold nI;rw[List.map_flatten,List.map_reverse]
   ·rw[qW];intro c hc;obtain⟨r,hr,hcr⟩:=List.mem_flatten.mp hc;exact qW.mp (e2 r (by simpa using hr)).2 c hcr
   ·unfold dA;rw[oG _ hB]
    have:(List.range 8).map (fun i=>AQ (dL zss.reverse.flatten (7-i)))=zss.map AQ:=by
     apply List.ext_getElem
     ·simp[hl]
     ·intro i h1 h2;have hi:i<8:=by simpa using h1
      simp only[List.getElem_map,List.getElem_range];rw[HA _ hrev (7-i) (by simp[hl];omega),List.getElem_reverse];congr 2;omega
    rw[this,e3,qz5]
 ·simp at h
theorem FM(s:ByteArray)(p:pH)(h:xG s=some p):∃B,p.board=nI B/\B.length=64/\B.all wj=true/\(p.behind=-1\/(0<=p.behind/\p.behind<64))/\(0<=p.half/\p.half<=65535)/\(0<=p.full/\p.full<=65535) ∧
  oI (zB B) p.white p.castle p.behind p.half p.full=s.data.toList:=by
 unfold xG at h;split at h
 ·rename_i x0 x1 x2 x3 x4 x5 hw;unfold Ac at h;split at h
  ·rename_i b wh c e hh f k0 k1 k2 k3 k4 k5;simp at h;subst h;obtain⟨B,b1,b2,b3,b4⟩:=fz _ _ k0;obtain⟨e1,e2⟩:=ag _ _ k3;obtain⟨h1,h2⟩:=qvv _ _ k4;obtain⟨f1,f2⟩:=qvv _ _ k5;refine⟨B,b1,b2,b3,e2,by simp only;omega,by simp only;omega,?_⟩;have hj:=qz5 32 7 s;rw[hw]at hj;rw[<-hj];unfold oI;simp only[List.map_cons,List.map_nil];rw[b4,<-mA _ _ k1,aU _ _ k2,e1,h1,f1]
  ·simp at h
 ·simp at h
section
attribute [local go_sem] qd qe
def xM(p:pH)(i:Nat):UInt8:=UInt8.ofNat (p.board.getD i 0).toNat
def xP(p:pH):Bool:=k6 (xM p) p.white p.castle p.behind p.half p.full
theorem ip{p:pH}{B:List UInt8}(h:p.board=nI B):xM p=zB B:=by
 funext i;unfold xM zB nI at *;rw[h];rcases Nat.lt_or_ge i B.length with hi|hi
 ·rw[List.getD_eq_getElem?_getD,List.getElem?_map,List.getElem?_eq_getElem hi,List.getD_eq_getElem?_getD,List.getElem?_eq_getElem hi];simp
 ·rw[List.getD_eq_getElem?_getD,List.getElem?_map,List.getElem?_eq_none hi,List.getD_eq_getElem?_getD,List.getElem?_eq_none hi];rfl
theorem qkb(z:Nat->UInt8)(A:Array Value)(hs:A.size=64)(hA:∀i,i<64->A[i]?=some (.int .u8 ((z i).toNat:Int)))(wh:Bool)(f:Nat->Bool)(b h g:Int):jE z wh f b h g (kU A wh (f 0) (f 1) (f 2) (f 3) b h g):=by
 have hp:∀i,(kU A wh (f 0) (f 1) (f 2) (f 3) b h g)[i]?=if i<64 then A[i]? else(#[.bool wh,.bool (f 0),.bool (f 1),.bool (f 2),.bool (f 3),.int .i64 b,.int .i64 h,.int .i64 g]:Array Value)[i-64]?:=fun i=>by
  unfold kU;rw[Array.getElem?_append,hs]
 refine⟨by unfold kU;rw[Array.size_append,hs];rfl,fun i hi=>?_,?_,fun i hi=>?_,?_,?_,?_⟩
 ·rw[hp,qI hi];exact hA i hi
 ·rw[hp];rfl
 ·rw[hp,qF (by omega)];have:i=0\/i=1\/i=2\/i=3:=by omega
  rcases this with rfl|rfl|rfl|rfl<;>rfl
 ·rw[hp];rfl
 ·rw[hp];rfl
 ·rw[hp];rfl
theorem qzx{p:pH}{B:List UInt8}(h:p.board=nI B)(hl:B.length=64):((p.board.map (Value.int .u8)).toArray).size=64/\∀i,i<64->((p.board.map (Value.int .u8)).toArray)[i]?=some (.int .u8 ((xM p i).toNat:Int)):=by
 refine⟨by rw[h];simp[nI,hl],fun i hi=>?_⟩;rw[ip h,h];unfold nI zB;rw[List.getElem?_toArray,List.getElem?_map,List.getElem?_map,List.getElem?_eq_getElem (by omega),List.getD_eq_getElem?_getD,List.getElem?_eq_getElem (by omega)];rfl
theorem jo{s:ByteArray}{p:pH}(h:xG s=some p):jE (xM p) p.white p.castle p.behind p.half p.full (jV p):=by
 obtain⟨B,h1,h2,_⟩:=FM s p h;obtain⟨a1,a2⟩:=qzx h1 h2;exact qkb _ _ a1 a2 _ _ _ _ _
def zA(s:ByteArray)(e:Ending):Prop :=
 (∃p,xG s=some p/\xP p=true/\e=.returned (.tuple #[.agg (jV p),.int .i64 0])) ∨
 (∃p,xG s=some p/\xP p=false/\e=.returned (.tuple #[.agg Tryz.zeroCells70,.int .i64 2])) ∨
 (xG s=none/\e=.returned (.tuple #[.agg Tryz.zeroCells70,.int .i64 1]))
theorem gC{p:pH}{B:List UInt8}(h:p.board=nI B)(hl:B.length=64):(jV p).size=72/\(jV p).all (·.oneCell')=true:=by
 obtain⟨a1,a2⟩:=qzx h hl;refine qzd ⟨a1,?_⟩ _ _ _ _ _ _ _ _;rw[List.all_toArray,qW];intro v hv;obtain⟨z,_,rfl⟩:=List.mem_map.mp hv;rfl
theorem kS.plain{s:ByteArray}{e:Ending}(h:kS s e):∃A ok,e=.returned (.tuple #[.agg A,.bool ok])/\A.size=72/\A.all (·.oneCell')=true/\(ok=true->∃p,xG s=some p/\A=jV p)/\(ok=false->xG s=none):=by
 rcases h with⟨p,h1,h2,rfl⟩|⟨h1,rfl⟩
 ·obtain⟨B,b1,b2,_⟩:=FM s p h1;have:=gC b1 b2;exact⟨jV p,true,rfl,this.1,this.2,fun _=>⟨p,h1,rfl⟩,fun h=>by cases h⟩
 ·exact⟨Tryz.zeroCells70,false,rfl,xF,xH,(fun h=>by cases h),fun _=>h1⟩
structure Pp(w:World)(bp:Nat)(A:Array Value)(cur:World):Prop where
 res:cur.heap[w.heap.size]?=some (.cells Tryz.zeroCells70 70)
 p:cur.heap[bp]?=some (.cells A 70)
 lt:bp<cur.heap.size
 lr:w.heap.size<cur.heap.size
 gr:Gr w cur
 tab:jF cur
 homes:vJ cur
theorem Pp.next{w cur cur':World}{bp:Nat}{A:Array Value}(h:Pp w bp A cur)(g:Gr cur cur'):Pp w bp A cur' :=
 ⟨by rw[Below.block g _ h.lr];exact h.res,by rw[Below.block g _ h.lt];exact h.p,qN h.lt (Below.size g),qN h.lr (Below.size g),Gr.trans h.gr g,h.tab.gr g,h.homes.gr g⟩
theorem qzg(s:ByteArray)(hs:s.size<4294967281)(m:Int)(w:World)(hm:w.cell? ⟨4,0,none⟩=some (.int .i64 m))(hz:4<w.heap.size)(hT:jF w)(hH:vJ w):Calls Tryz.prog 34 #[.string s] w fun e w'=>zA s e/\Gr w w':=by
 have hg1:Gr w (w.alloc (.cells Tryz.zeroCells70 70)):=(Gr.refl w).alloc _ _;have hT1:=qC (hT.gr hg1);have hH1:=qC (hH.gr hg1)
 have hr:Hid (Calls Tryz.prog 62 #[.string s] (w.alloc (.cells Tryz.zeroCells70 70)) fun e w'=>∃A ok,e=.returned (.tuple #[.agg A,.bool ok])/\A.size=72/\A.all (·.oneCell')=true/\(ok=true->∃p,xG s=some p/\A=jV p)/\(ok=false->xG s=none)/\Gr (w.alloc (.cells Tryz.zeroCells70 70)) w'):=qC ((rY s hs m _ (by rw[World.cell?_alloc_past _ _ _ hz];exact hm) (by rw[World.size_alloc];omega)).mono fun e w' h=>by
  obtain⟨A,ok,h1,h2,h3,h4,h5⟩:=h.1.plain;exact⟨A,ok,h1,h2,h3,h4,h5,h.2⟩)
 have hb1:Hid ((w.alloc (.cells Tryz.zeroCells70 70)).heap[w.heap.size]?=some (.cells Tryz.zeroCells70 70)):=qC (heap_alloc_new _ _);have hl1:Hid (w.heap.size<(w.alloc (.cells Tryz.zeroCells70 70)).heap.size):=qC (by rw[World.size_alloc];omega);have hg1':=qC hg1;clear hg1 hT hH hm hz hs;go_enter Tryz.func34,Tryz.ntmps34
 go_upto_region 2 with(first
  | (go_at_call 62;refine(qa hr).mono ?_;rintro e w3 ⟨A,ok,rfl,hz,ho,hy,hn,hg3⟩)
  | (refine wpList_store_row rfl 70 _ _ rfl w3.heap.size A rfl rfl 70 _ (heap_alloc_new _ _) (by rw[hz];exact q9) (by rw[hz];exact xF.symm) ho ?_))
 generalize hw4:(w3.alloc (.cells Tryz.zeroCells70 70)).setRow w3.heap.size A=w4;have hg4:Gr w3 w4:=by rw[<-hw4];exact((Gr.refl w3).alloc _ _).setRow _ (qL _) _
 have hg14:=Gr.trans hg3 hg4;have hp:Pp w w3.heap.size A w4:=⟨by rw[Below.block hg14 _ (qa hl1)];exact qa hb1,by rw[<-hw4];exact setRow_heap _ _ _ _ _ _ (heap_alloc_new w3 _),by rw[<-hw4,size_setRow,World.size_alloc];omega,qN (qa hl1) (Below.size hg14),Gr.trans (qa hg1') hg14,(qa hT1).gr hg14,(qa hH1).gr hg14⟩;generalize w3.heap.size=bp at hp ⊢;clear hw4 hg4 hg14 hg3 hr hb1 hl1 hg1' hT1 hH1;cases ok
 ·have hend:Hid (zA s (.returned (.tuple #[.agg Tryz.zeroCells70,.int .i64 1]))):=qC (.inr (.inr ⟨hn rfl,rfl⟩));clear hn hy;go_wp2_with(refine wpList_store_row rfl 70 _ _ rfl w.heap.size Tryz.zeroCells70 rfl rfl 70 Tryz.zeroCells70 (Pp.res (bp:=bp) (A:=A) (by assumption)) (by rw[xF];exact q9) rfl xH ?_);exact bodyPost_ret (v:=.tuple #[.agg Tryz.zeroCells70,.int .i64 1]) (qj Tryz.results34 _ _ w.heap.size 70 _ (0,0) _ rfl (setRow_heap _ _ _ _ _ _ hp.res) Tryz.underlying70 rfl (by rw[xF];exact q9)) rfl ⟨qa hend,hp.gr.setRow _ (qL _) _⟩
 ·obtain⟨p,hp1,hp2⟩:=hy rfl;have hcan:Hid (∀W:World,jF W->vJ W->Calls Tryz.prog 63 #[.agg A] W fun e w'=>e=.returned (.bool (xP p))/\Gr W w'):=qC fun W t h=>by rw[hp2];exact CX (jo hp1) W t h
  clear hy hn;obtain⟨q,hq⟩:∃q,xP p=q:=⟨_,rfl⟩;cases q
  ·have hend:Hid (zA s (.returned (.tuple #[.agg Tryz.zeroCells70,.int .i64 2]))):=qC (.inr (.inl ⟨p,hp1,hq,rfl⟩));rw[hq]at hcan;clear hp1 hp2 hq;go_wp2_with(first|(refine wpList_store_row rfl 70 _ _ rfl w.heap.size Tryz.zeroCells70 rfl rfl 70 Tryz.zeroCells70 (Pp.res (bp:=bp) (A:=A) (by assumption)) (by rw[xF];exact q9) rfl xH ?_)|(refine wpList_load_row rfl 70 _ rfl bp rfl 70 A (0,0) _ (Pp.p (w:=w) (by assumption)) Tryz.underlying70 rfl (by rw[hz];exact q9) ?_)|(go_at_call 63;refine(qa hcan _ (Pp.tab (w:=w) (bp:=bp) (A:=A) (by assumption)) (Pp.homes (w:=w) (bp:=bp) (A:=A) (by assumption))).mono ?_;rintro e w5 ⟨rfl,hg5⟩;have hp5:=Pp.next (by assumption) hg5));exact bodyPost_ret (v:=.tuple #[.agg Tryz.zeroCells70,.int .i64 2]) (qj Tryz.results34 _ _ w.heap.size 70 _ (0,0) _ rfl (setRow_heap _ _ _ _ _ _ hp5.res) Tryz.underlying70 rfl (by rw[xF];exact q9)) rfl ⟨qa hend,hp5.gr.setRow _ (qL _) _⟩
  ·have hend:Hid (zA s (.returned (.tuple #[.agg A,.int .i64 0]))):=qC (.inl ⟨p,hp1,hq,by rw[hp2]⟩);rw[hq]at hcan;clear hp1 hp2 hq;go_wp2_with(first|(refine wpList_store_row rfl 70 _ _ rfl w.heap.size A rfl rfl 70 Tryz.zeroCells70 (Pp.res (bp:=bp) (A:=A) (by assumption)) (by rw[hz];exact q9) (by rw[hz];exact xF.symm) ho ?_)|(refine wpList_load_row rfl 70 _ rfl bp rfl 70 A (0,0) _ (Pp.p (w:=w) (by assumption)) Tryz.underlying70 rfl (by rw[hz];exact q9) ?_)|(go_at_call 63;refine(qa hcan _ (Pp.tab (w:=w) (bp:=bp) (A:=A) (by assumption)) (Pp.homes (w:=w) (bp:=bp) (A:=A) (by assumption))).mono ?_;rintro e w5 ⟨rfl,hg5⟩;have hp5:=Pp.next (by assumption) hg5));exact bodyPost_ret (v:=.tuple #[.agg A,.int .i64 0]) (qj Tryz.results34 _ _ w.heap.size 70 _ (0,0) _ rfl (setRow_heap _ _ _ _ _ _ hp5.res) Tryz.underlying70 rfl (by rw[hz];exact q9)) rfl ⟨qa hend,hp5.gr.setRow _ (qL _) _⟩
theorem Eu{z:Nat->UInt8}{wh:Bool}{b:Int}(h:xX z wh b=true):b=-1\/(0<=b/\b<64):=by
 unfold xX at h;cases wh<;>simp at h<;>omega
theorem tZ{h g:Int}(k:zP h g=true):(0<=h/\h<=65535)/\(1<=g/\g<=65535):=by
 unfold zP at k;simp at k;omega
theorem BP:∀c:UInt8,ew c=true->wj c=true:=by
 have:∀n:Fin 256,ew (UInt8.ofNat n.val)=true->wj (UInt8.ofNat n.val)=true:=by decide +kernel
 intro c;have:=this ⟨c.toNat,c.toNat_lt⟩;simpa using this
theorem nG{z:Nat->UInt8}{wh:Bool}{f:Nat->Bool}{b h g:Int}(k:k6 z wh f b h g=true):(∀i,i<64->wj (z i)=true)/\(b=-1\/(0<=b/\b<64))/\(0<=h/\h<=65535)/\(1<=g/\g<=65535):=by
 unfold k6 cK at k;simp only[qH]at k;obtain⟨k0,⟨⟨⟨⟨⟨_,_⟩,_⟩,k4⟩,k5⟩,_⟩⟩:=k;refine⟨fun i hi=>?_,Eu k4,(tZ k5).1,(tZ k5).2⟩;unfold xO at k0;exact BP _ (qW.1 k0 i (qK.2 hi))
theorem Aj{z:Nat->UInt8}{wh:Bool}{f:Nat->Bool}{b h g:Int}{PA:Array Value}(r:jE z wh f b h g PA):∃A,A.size=64/\(∀i,i<64->A[i]?=some (.int .u8 ((z i).toNat:Int)))/\PA=kU A wh (f 0) (f 1) (f 2) (f 3) b h g:=by
 have hs:(PA.extract 0 64).size=64:=by rw[Array.size_extract,r.size];rfl
 have ha:∀i,i<64->(PA.extract 0 64)[i]?=some (.int .u8 ((z i).toNat:Int)):=fun i hi=>by
  rw[Array.getElem?_extract,qI (by rw[r.size];omega),Nat.zero_add];exact r.sq i hi
 refine⟨PA.extract 0 64,hs,ha,?_⟩;have r2:=qkb z _ hs ha wh f b h g;apply Array.ext_getElem?;intro i;by_cases h0:i<64
 ·rw[r.sq i h0,r2.sq i h0]
 ·by_cases h1:i<72
  ·have:i=64\/i=65+0\/i=65+1\/i=65+2\/i=65+3\/i=69\/i=70\/i=71:=by omega
   rcases this with rfl|rfl|rfl|rfl|rfl|rfl|rfl|rfl
   ·rw[r.wh,r2.wh]
   ·rw[r.c 0 (by omega),r2.c 0 (by omega)]
   ·rw[r.c 1 (by omega),r2.c 1 (by omega)]
   ·rw[r.c 2 (by omega),r2.c 2 (by omega)]
   ·rw[r.c 3 (by omega),r2.c 3 (by omega)]
   ·rw[r.b,r2.b]
   ·rw[r.h,r2.h]
   ·rw[r.g,r2.g]
  ·rw[Array.getElem?_eq_none (by rw[r.size];omega),Array.getElem?_eq_none (by rw[r2.size];omega)]
end
theorem qy{b:Nat}{A:Array Value}{t:TypeId}{w:World}(h:w.heap[b]?=some (.cells A t)):zJ b A w :=
 ⟨(qB.1 h).1,fun j v hv=>by rw[cell_of_row _ _ _ _ _ _ h,Nat.zero_add,<-qO];exact hv⟩
theorem cG(z:Nat->UInt8){f f':Nat->Bool}(h:∀i,i<4->f i=f' i):jH z f=jH z f':=by
 have e:∀f:Nat->Bool,jH z f=(zX z f 0&&(zX z f 1&&(zX z f 2&&zX z f 3))):=fun f=>by
  show([0,1,2,3]:List Nat).all (zX z f)=_;simp[List.all_cons]
 rw[e,e];simp only[zX,xN,h 0 (by omega),h 1 (by omega),h 2 (by omega),h 3 (by omega)]
theorem fx(z:Nat->UInt8)(wh:Bool){f f':Nat->Bool}(b h g:Int)(k:∀i,i<4->f i=f' i):k6 z wh f b h g=k6 z wh f' b h g:=by
 unfold k6 cK;rw[cG z k]
theorem qx{z:Nat->UInt8}{wh:Bool}{f:Nat->Bool}{b h g:Int}{PA:Array Value}(r:jE z wh f b h g PA):PA.all (·.oneCell')=true:=by
 obtain⟨A,a1,a2,rfl⟩:=Aj r;refine(qzd ⟨a1,?_⟩ wh (f 0) (f 1) (f 2) (f 3) b h g).2;rw[Array.all_eq_true];intro i hi;have:=a2 i (by omega);rw[qQ hi]at this;simp only[Option.some.injEq]at this;rw[this];rfl
theorem sx:∀{l:List UInt8}{c:UInt8}{k:Nat},(∀j,j<k->l[j]?≠some c)->l[k]?=some c->Lib.indexByte l c=(k:Int)
 | [],_,_,_,h=>by simp at h
 | b :: l,c,0,_,h=>by
   have:b=c:=by simpa using h
   unfold Lib.indexByte;simp[this]
 | b :: l,c,k+1,hn,h=>by
   have hb:(b==c)=false:=by
    have:=hn 0 (by omega);simpa using this
   have ih:=sx (l:=l) (c:=c) (k:=k) (fun j hj=>by have:=hn (j+1) (by omega);simpa using this) (by simpa using h);unfold Lib.indexByte;rw[hb,ih];have:((k:Int)==-1)=false:=by simp
   simp[this]
theorem sw:∀{l:List UInt8}{c:UInt8},(∀j,j<l.length->l[j]?≠some c)->Lib.indexByte l c=-1
 | [],_,_=>rfl
 | b :: l,c,hn=>by
   have hb:(b==c)=false:=by
    have:=hn 0 (by simp);simpa using this
   have ih:=sw (l:=l) (c:=c) (fun j hj=>by have:=hn (j+1) (by simp;omega);simpa using this);unfold Lib.indexByte;rw[hb,ih];rfl
def yP(k:Nat)(b:Bool):UInt8:=xU.getD (if b then k else k+6) 0
def xY(i:Nat):Int:=if 2<=i then 60 else 4
def vN(i:Nat):Int:=(if 2<=i then 56 else 0)+(if i%2=0 then 6 else 2)
def zD(i:Nat):Int:=(if 2<=i then 56 else 0)+(if i%2=0 then 7 else 0)
section
attribute [local go_sem] qd qe
theorem CE{p:Nat->Bool}{k:Nat}(h:∀j,j<k->p j=false)(hk:p k=true)(h64:k<64):(List.range 64).find? p=some k:=by
 rw[List.find?_eq_some_iff_getElem];refine⟨hk,k,by simpa using h64,by simp,fun j hj=>by simp[h j hj]⟩
theorem CD{p:Nat->Bool}(h:∀j,j<64->p j=false):(List.range 64).find? p=none:=by
 rw[List.find?_eq_none];intro j hj;rw[h j (qK.1 hj)];decide
theorem qkm{z:Nat->UInt8}{b:Bool}{k:Nat}(h:∀j,j<k->(z j==vk b)=false)(hk:(z k==vk b)=true)(h64:k<64):xR z b=(k:Int):=by
 unfold xR;rw[CE h hk h64]
theorem aC{z:Nat->UInt8}{b:Bool}(h:∀j,j<64->(z j==vk b)=false):xR z b=-1:=by
 unfold xR;rw[CD h]
end
end Go.Proofs.YtnfakamfmkhlbabGreatDoor.C
