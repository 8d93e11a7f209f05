import Derived.Test.YtnfakamfmkhlbaaGreatDoorZf15
import Derived.Test.YtnfakamfmkhlbaaGreatDoorZf9
import Derived.ChangeKeysEq
set_option maxRecDepth 100000
set_option maxHeartbeats 4000000
set_option linter.unusedSimpArgs false
namespace Go.Proofs.YtnfakamfmkhlbaaGreatDoor.C
theorem qxq (c:UInt8):∀ l:List UInt8,(Lib.indexByte l c=-1/\c∉l)\/∃ a b,l=a++c :: b/\c∉a/\Lib.indexByte l c=(a.length:Int)
 | []=>Or.inl ⟨rfl,by simp⟩
 | x :: l=>by
   unfold Lib.indexByte;by_cases hx:x=c
   ·subst hx;right;exact ⟨[],l,rfl,by simp,by simp⟩
   ·have hb:(x==c)=false:=by simpa using hx
    rw [hb];simp only [Bool.false_eq_true,if_false];rcases qxq c l with ⟨h1,h2⟩|⟨a,b,h1,h2,h3⟩
    ·left;rw [h1];exact ⟨by simp,by simp only [List.mem_cons,not_or];exact ⟨fun e=>hx e.symm,h2⟩⟩
    ·right;refine ⟨x :: a,b,by rw [h1];rfl,by simp only [List.mem_cons,not_or];exact ⟨fun e=>hx e.symm,h2⟩,?_⟩;rw [h3];have:((a.length:Int)==-1)=false:=by simp
     rw [this];simp
theorem qj2 (c:UInt8) (k:Nat) (l:List UInt8) (h:c∉l):Lib.splitK [c] 0 k l=[l]:=by
 cases k with
 | zero=>rfl
 | succ k =>
  unfold Lib.splitK;rw [Lib.index_one];rcases qxq c l with ⟨h1,_⟩|⟨a,b,h1,_,_⟩
  ·rw [h1];simp
  ·rw [h1] at h;simp at h
theorem split_hit (c:UInt8) (k:Nat) (a b:List UInt8) (h:c∉a):Lib.splitK [c] 0 (k+1) (a++c :: b)=a :: Lib.splitK [c] 0 k b:=by
 conv=>lhs;unfold Lib.splitK
 rw [Lib.index_one];rcases qxq c (a++c :: b) with ⟨_,h2⟩|⟨a',b',h1,h2,h3⟩
 ·simp at h2
 ·have ha:a'=a/\b'=b:=by
   have key:∀ (p q p' q':List UInt8),p++c :: q=p'++c :: q'->c∉p->c∉p'->p=p'/\q=q':=by
    intro p;induction p with
    | nil =>
     intro q p' q' e _ h';cases p' with
     | nil=>simp at e;exact ⟨rfl,e⟩
     | cons y p'=>simp at e h';exact absurd e.1 h'.1
    | cons x p ih =>
     intro q p' q' e h h';cases p' with
     | nil=>simp at e h;exact absurd e.1.symm h.1
     | cons y p' =>
      simp at e h h';obtain ⟨e1,e2⟩:=ih q p' q' e.2 h.2 h'.2;exact ⟨by rw [e.1,e1],e2⟩
   obtain ⟨e1,e2⟩:=key a b a' b' h1 h h2;exact ⟨e1.symm,e2.symm⟩
  rw [h3,ha.1];have:((a.length:Int)==-1)=false:=by simp
  rw [this];simp
theorem join_cons2 (x y:List UInt8) (r:List (List UInt8)) (sep:List UInt8):Lib.join (x :: y :: r) sep=x++sep++Lib.join (y :: r) sep:=by
 simp [Lib.join,List.intercalate,List.intersperse]
theorem split_ne (c:UInt8) (k:Nat) (l:List UInt8):∃ x r,Lib.splitK [c] 0 k l=x :: r:=by
 cases k with
 | zero=>exact ⟨_,_,rfl⟩
 | succ k=>unfold Lib.splitK;split<;>exact ⟨_,_,rfl⟩
theorem qzd (c:UInt8):∀ (k:Nat) (l:List UInt8),Lib.join (Lib.splitK [c] 0 k l) [c]=l
 | 0,l=>Lib.join_one l [c]
 | k+1,l=>by
   rcases qxq c l with ⟨_,h2⟩|⟨a,b,rfl,h2,_⟩
   ·rw [qj2 c _ l h2,Lib.join_one]
   ·rw [split_hit c k a b h2];obtain ⟨x,r,e⟩:=split_ne c k b;rw [e,join_cons2,<-e,qzd c k b];simp
theorem qj3 (c:UInt8):∀ (k:Nat) (x:List UInt8) (r:List (List UInt8)),(∀ y∈x :: r,c∉y)->r.length<=k->Lib.splitK [c] 0 k (Lib.join (x :: r) [c])=x :: r
 | k,x,[],h,_=>by rw [Lib.join_one,qj2 c k x (h x (by simp))]
 | 0,x,y :: r,_,hk=>by simp at hk
 | k+1,x,y :: r,h,hk=>by
   rw [join_cons2,List.append_assoc];show Lib.splitK [c] 0 (k+1) (x++c :: Lib.join (y :: r) [c])=_;rw [split_hit c k x _ (h x (by simp)),qj3 c k y r (fun z hz=>h z (by simp at hz ⊢;right;exact hz)) (by simp at hk;omega)]
theorem qjx (c:UInt8) (n:Nat) (s:ByteArray):(wordsS c n s).map (·.data.toList)=Lib.splitK [c] 0 (min n (s.size+1)-1) s.data.toList:=by
 unfold wordsS;rw [Lib.splitB_data]
theorem qjw (c:UInt8) (n:Nat) (s:ByteArray):Lib.join ((wordsS c n s).map (·.data.toList)) [c]=s.data.toList:=by
 rw [qjx,qzd]
theorem join_size (sep:List UInt8):∀ (x:List UInt8) (r:List (List UInt8)),r.length*sep.length<=(Lib.join (x :: r) sep).length
 | x,[]=>by simp
 | x,y :: r=>by
   have:=join_size sep y r;rw [join_cons2,List.length_append,List.length_append,List.length_cons,Nat.add_mul];omega
theorem qqk (c:UInt8) (n:Nat) (x:List UInt8) (r:List (List UInt8)) (h:∀ y∈x :: r,c∉y) (hn:r.length+1<=n) (s:ByteArray) (hs:s.data.toList=Lib.join (x :: r) [c]):(wordsS c n s).map (·.data.toList)=x :: r:=by
 rw [qjx,hs];apply qj3 c _ x r h;have h1:=join_size [c] x r;rw [<-hs] at h1;simp at h1;omega
theorem side_back (s:ByteArray) (b:Bool) (h:sideS s=some b):s.data.toList=[if b then 119 else 98]:=by
 unfold sideS at h;rw [Lib.toList_data] at h;by_cases h1:s.data.toList=[119]
 ·rw [if_pos h1] at h;simp at h;subst h;exact h1
 ·rw [if_neg h1] at h;by_cases h2:s.data.toList=[98]
  ·rw [if_pos h2] at h;simp at h;subst h;exact h2
  ·rw [if_neg h2] at h;simp at h
theorem side_forth (s:ByteArray) (b:Bool) (h:s.data.toList=[if b then 119 else 98]):sideS s=some b:=by
 unfold sideS;rw [Lib.toList_data,h];cases b<;>rfl
theorem rest_step (l:List UInt8) (i:Nat):restS l i=(if leftS l i then [clc i] else [])++restS l (i+1):=by
 show restS l i=(if Lib.hasPrefix (restS l i) [clc i] then [clc i] else [])++Lib.trimPrefix (restS l i) [clc i];unfold Lib.trimPrefix;cases h:Lib.hasPrefix (restS l i) [clc i] with
 | false=>simp
 | true =>
  simp only [if_true];unfold Lib.hasPrefix at h;obtain ⟨t,ht⟩:=List.isPrefixOf_iff_prefix.mp h;rw [<-ht];simp
theorem wc_rest (l:List UInt8):∀ i,l=wcS (leftS l) i++restS l i
 | 0=>rfl
 | i+1=>by
   rw [xq,List.append_assoc,<-rest_step];exact wc_rest l i
theorem castle_back (l:List UInt8) (f:Nat->Bool) (h:castS l=some f):wcastS f=l:=by
 unfold castS at h;by_cases h1:l=[45]
 ·rw [if_pos h1] at h;simp at h;subst h;rw [h1];rfl
 ·rw [if_neg h1] at h;by_cases h2:(!l.isEmpty&&(restS l 4).isEmpty)=true
  ·rw [if_pos h2] at h;simp at h;subst h;simp only [Bool.and_eq_true,Bool.not_eq_true',List.isEmpty_iff] at h2;have:=wc_rest l 4;rw [h2.2,List.append_nil] at this;unfold wcastS;rw [<-this];rw [h2.1];rfl
  ·rw [if_neg h2] at h;simp at h
def castOk3 (b0 b1 b2 b3:Bool):Bool :=
 match castS (wcastS (fun i=>if i=0 then b0 else if i=1 then b1 else if i=2 then b2 else b3)) with
 | some g=>g 0==b0&&g 1==b1&&g 2==b2&&g 3==b3
 | none=>false
theorem cast_all:∀ b0 b1 b2 b3,castOk3 b0 b1 b2 b3=true:=by decide
theorem castle_forth (f:Nat->Bool):∃ g,castS (wcastS f)=some g/\g 0=f 0/\g 1=f 1/\g 2=f 2/\g 3=f 3:=by
 have h:=cast_all (f 0) (f 1) (f 2) (f 3);unfold castOk3 at h;have e:wcastS (fun i=>if i=0 then f 0 else if i=1 then f 1 else if i=2 then f 2 else f 3)=wcastS f:=rfl;rw [e] at h;cases hc:castS (wcastS f) with
 | none=>rw [hc] at h;simp at h
 | some g =>
  rw [hc] at h;simp only [Bool.and_eq_true,beq_iff_eq] at h;exact ⟨g,rfl,h.1.1.1,h.1.1.2,h.1.2,h.2⟩
theorem two_list (s:ByteArray) (h:s.size=2):s.data.toList=[s[0],s[1]]:=by
 have a:=xt s 0 (by omega);have b:=xt s 1 (by omega);have c:s.data.toList.take 2=s.data.toList:=List.take_of_length_le (by simp [h]);rw [c,a] at b;simpa using b
theorem behind_back (s:ByteArray) (n:Int) (h:behS s=some n):wbehS n=s.data.toList/\(n=-1\/(0<=n/\n<64)):=by
 unfold behS at h;by_cases h1:s.toList=[45]
 ·rw [if_pos h1] at h;simp at h;subst h;rw [Lib.toList_data] at h1;rw [h1];exact ⟨rfl,Or.inl rfl⟩
 ·rw [if_neg h1] at h;unfold sqS at h;by_cases h2:s.size=2
  ·rw [dif_pos h2] at h;by_cases h3:97<=s[0].toNat/\s[0].toNat<=104/\49<=s[1].toNat/\s[1].toNat<=56
   ·rw [if_pos h3] at h;simp only [natI,Option.some.injEq] at h;subst h;refine ⟨?_,Or.inr (by omega)⟩;unfold wbehS nameS;rw [if_neg (by omega),two_list s h2,Int.toNat_natCast];rw [show 97+(s[0].toNat-97+8*(s[1].toNat-49))%8=s[0].toNat from by omega,show 49+(s[0].toNat-97+8*(s[1].toNat-49))/8=s[1].toNat from by omega];simp
   ·rw [if_neg h3] at h;simp [natI] at h
  ·rw [dif_neg h2] at h;simp [natI] at h
theorem beh_names:∀ k,k<64->behS ⟨(nameS k).toArray⟩=some ((k:Nat):Int):=by decide +kernel
theorem beh_none:behS ⟨#[45]⟩=some (-1):=by decide +kernel
theorem behind_forth (n:Int) (h:n=-1\/(0<=n/\n<64)) (s:ByteArray) (hs:s.data.toList=wbehS n):behS s=some n:=by
 have e:s=⟨(wbehS n).toArray⟩:=by cases s with|mk d=>simp at hs ⊢;rw [<-hs]
 rw [e];rcases h with rfl|⟨h1,h2⟩
 ·exact beh_none
 ·obtain ⟨k,rfl⟩:=Int.eq_ofNat_of_zero_le h1;have:wbehS (k:Int)=nameS k:=by unfold wbehS;rw [if_neg (by omega)];simp
  rw [this];exact beh_names k (by omega)
theorem digit_back:∀ n,n<256->dg (UInt8.ofNat n)=true->UInt8.ofNat (48+(n-48))=UInt8.ofNat n/\48<=n/\n<=57:=by decide +kernel
theorem dg_val (c:UInt8) (h:dg c=true):UInt8.ofNat (48+(c.toNat-48))=c/\48<=c.toNat/\c.toNat<=57:=by
 have:=digit_back c.toNat c.toNat_lt;rw [UInt8.ofNat_toNat] at this;exact this h
theorem dv_pos:∀ (l:List UInt8),l≠[]->l.all dg=true->l.head?≠some 48->1<=dv l:=by
 intro l;induction hn:l.length generalizing l with
 | zero=>intro h;exact absurd (List.length_eq_zero_iff.mp hn) h
 | succ n ih =>
  intro hne ha hh;obtain ⟨m,c,rfl⟩:∃ m c,l=m++[c]:=⟨l.dropLast,l.getLast hne,(List.dropLast_concat_getLast hne).symm⟩;rw [dv_snoc];rw [List.all_append] at ha;simp only [Bool.and_eq_true,List.all_cons,List.all_nil,Bool.and_true] at ha;by_cases hm:m=[]
  ·subst hm;have h48:c≠48:=by simpa using hh
   have:=dg_val c ha.2;have:c.toNat≠48:=fun e=>h48 (UInt8.toNat_inj.mp (by simpa using e))
   omega
  ·have:=ih m (by simpa using hn) hm ha.1 (by
    cases m with
    | nil=>exact absurd rfl hm
    | cons x r=>simpa using hh)
   omega
theorem dec_dv:∀ (l:List UInt8),l≠[]->l.all dg=true->(1<l.length->l.head?≠some 48)->Lib.decDigits (dv l)=l:=by
 intro l;induction hn:l.length generalizing l with
 | zero=>intro h;exact absurd (List.length_eq_zero_iff.mp hn) h
 | succ n ih =>
  intro hne ha hh;obtain ⟨m,c,rfl⟩:∃ m c,l=m++[c]:=⟨l.dropLast,l.getLast hne,(List.dropLast_concat_getLast hne).symm⟩;rw [dv_snoc];rw [List.all_append] at ha;simp only [Bool.and_eq_true,List.all_cons,List.all_nil,Bool.and_true] at ha;obtain ⟨c1,c2,c3⟩:=dg_val c ha.2;by_cases hm:m=[]
  ·subst hm;unfold Lib.decDigits;rw [dif_pos (by simp [dv];omega)];simp [dv,c1]
  ·have hh':m.head?≠some 48:=by
    have:=hh (by
     have:0<m.length:=List.length_pos_iff.mpr hm;simp at hn;omega)
    cases m with
    | nil=>exact absurd rfl hm
    | cons x r=>simpa using this
   have hp:=dv_pos m hm ha.1 hh';unfold Lib.decDigits;rw [dif_neg (by omega),show (10*dv m+(c.toNat-48))/10=dv m from by omega,show (10*dv m+(c.toNat-48))%10=c.toNat-48 from by omega,c1,ih m (by simpa using hn) hm ha.1 (fun _=>hh')]
theorem qzg (l:List UInt8) (n:Nat) (h:clkS l=some n):Lib.itoa (n:Int)=l/\n<=65535:=by
 unfold clkS at h;split at h
 ·rename_i hc;simp at h;subst h;refine ⟨?_,hc.2.2.2.2⟩;unfold Lib.itoa;rw [if_neg (by omega),Int.toNat_natCast];exact dec_dv l (fun e=>by subst e;simp at hc) hc.2.2.2.1 hc.2.2.1
 ·simp at h
theorem dg_of:∀ d,d<10->dg (UInt8.ofNat (48+d))=true/\(UInt8.ofNat (48+d)).toNat-48=d:=by decide +kernel
theorem dv_dec:∀ k n,n<=k->dv (Lib.decDigits n)=n/\(Lib.decDigits n).all dg=true/\Lib.decDigits n≠[]/\(1<=n->(Lib.decDigits n).head?≠some 48):=by
 intro k;induction k with
 | zero =>
  intro n h;have:n=0:=by omega
  subst this;unfold Lib.decDigits;rw [dif_pos (by omega)];exact ⟨rfl,by decide,by simp,fun h=>by omega⟩
 | succ k ih =>
  intro n h;unfold Lib.decDigits;by_cases hn:n<10
  ·rw [dif_pos hn];obtain ⟨d1,d2⟩:=dg_of n hn;refine ⟨by show 10*0+((UInt8.ofNat (48+n)).toNat-48)=n;omega,by rw [List.all_cons,d1];rfl,by simp,fun h1=>?_⟩;simp only [List.head?_cons,ne_eq,Option.some.injEq];intro e;rw [e] at d2;simp at d2;omega
  ·rw [dif_neg hn];obtain ⟨i1,i2,i3,i4⟩:=ih (n/10) (by omega);obtain ⟨d1,d2⟩:=dg_of (n%10) (by omega);refine ⟨by rw [dv_snoc,i1,d2];omega,by rw [List.all_append,i2,List.all_cons,d1];rfl,by simp,fun _=>?_⟩;have:=i4 (by omega);cases hd:Lib.decDigits (n/10) with
   | nil=>exact absurd hd i3
   | cons x r=>rw [hd] at this;simpa using this
theorem dec_len:∀ k n,n<10 ^ (k+1)->(Lib.decDigits n).length<=k+1:=by
 intro k;induction k with
 | zero=>intro n h;unfold Lib.decDigits;rw [dif_pos (by simpa using h)];simp
 | succ k ih =>
  intro n h;unfold Lib.decDigits;by_cases hn:n<10
  ·rw [dif_pos hn];simp
  ·rw [dif_neg hn,List.length_append];have:=ih (n/10) (by rw [Nat.pow_succ] at h;omega);simp;omega
theorem qjm (n:Nat) (h:n<=65535):clkS (Lib.itoa (n:Int))=some n:=by
 have e:Lib.itoa (n:Int)=Lib.decDigits n:=by unfold Lib.itoa;rw [if_neg (by omega),Int.toNat_natCast]
 obtain ⟨i1,i2,i3,i4⟩:=dv_dec n n (Nat.le_refl _);have hl:=dec_len 4 n (by simp;omega);rw [e];unfold clkS;rw [if_pos,i1];refine ⟨List.length_pos_iff.mpr i3,hl,fun h1=>?_,i2,by rw [i1];exact h⟩;by_cases h0:1<=n
 ·exact i4 h0
 ·have:n=0:=by omega
  subst this;unfold Lib.decDigits at h1;rw [dif_pos (by omega)] at h1;simp at h1
def zB (B:List UInt8) (i:Nat):UInt8:=B.getD i 0
def rowL (B:List UInt8) (j:Nat):List UInt8:=(B.drop (8*j)).take 8
def wr1 (zs:List UInt8):List UInt8:=(wrL zs).1++gapS (wrL zs).2
theorem row_is (B:List UInt8) (j:Nat) (h:8*j+8<=B.length):(List.range 8).map (fun f=>zB B (8*j+f))=rowL B j:=by
 apply List.ext_getElem
 ·simp [rowL];omega
 ·intro i h1 h2;have hi:i<8:=by simpa using h1
  simp [rowL,zB,List.getElem?_eq_getElem (show 8*j+i<B.length by omega)]
theorem wrow_is (B:List UInt8) (i:Nat) (h:8*(7-i)+8<=B.length):wrowS (zB B) i=wr1 (rowL B (7-i)):=by
 unfold wrowS wrankS wr1;rw [wrK_wrL,row_is B (7-i) h]
theorem qzm (B:List UInt8) (h:B.length=64):(wrowsS (zB B)).map (·.data.toList)=(List.range 8).map (fun i=>wr1 (rowL B (7-i))):=by
 unfold wrowsS;rw [List.map_map];apply List.map_congr_left;intro i _;exact wrow_is B i (by omega)
theorem chunks (B:List UInt8):∀ k,((List.range k).map (rowL B)).flatten=B.take (8*k)
 | 0=>by simp
 | k+1=>by
   rw [List.range_succ,List.map_append,List.flatten_append,chunks B k];simp only [List.map_cons,List.map_nil,List.flatten_cons,List.flatten_nil,List.append_nil,rowL];rw [show 8*(k+1)=8*k+8 from by omega,List.take_add]
theorem chunk (L:List (List UInt8)) (h:∀ r∈L,r.length=8):∀ j (hj:j<L.length),rowL L.flatten j=L[j]:=by
 induction L with
 | nil=>intro j hj;simp at hj
 | cons r t ih =>
  intro j hj;have hr:=h r (by simp);cases j with
  | zero=>simp [rowL,hr]
  | succ j =>
   have:=ih (fun x hx=>h x (by simp [hx])) j (by simpa using hj);unfold rowL at this ⊢;rw [List.flatten_cons,show 8*(j+1)=r.length+8*j from by omega,List.drop_length_add_append,this];rfl
theorem qj6:∀ (xs:List ByteArray) (rs:List (List Int)),ranksS xs=some rs->∃ zss:List (List UInt8),rs=zss.map nI/\(∀ z∈zss,z.length=8/\z.all okL=true)/\zss.map wr1=xs.map (·.data.toList)
 | [],rs,h=>by simp [ranksS] at h;subst h;exact ⟨[],rfl,by simp,rfl⟩
 | x :: t,rs,h=>by
   unfold ranksS at h;cases h1:rankS x.data.toList with
   | none=>rw [h1] at h;simp at h
   | some a =>
    cases h2:ranksS t with
    | none=>rw [h1,h2] at h;simp at h
    | some b =>
     rw [h1,h2] at h;simp at h;subst h;obtain ⟨zs,k1,k2,k3,k4⟩:=rank_back _ _ h1;obtain ⟨zss,e1,e2,e3⟩:=qj6 t b h2;refine ⟨zs :: zss,by rw [k1,e1];rfl,?_,?_⟩
     ·intro z hz;rcases List.mem_cons.mp hz with rfl|hz
      ·exact ⟨k2,k3⟩
      ·exact e2 z hz
     ·show wr1 zs :: zss.map wr1=_ :: _;rw [e3];unfold wr1;rw [k4]
theorem flat_len (L:List (List UInt8)) (h:∀ r∈L,r.length=8):L.flatten.length=8*L.length:=by
 induction L with
 | nil=>rfl
 | cons r t ih=>rw [List.flatten_cons,List.length_append,ih (fun x hx=>h x (by simp [hx])),h r (by simp)];simp;omega
theorem board_back (x:ByteArray) (b:List Int) (h:boardS x=some b):∃ B,b=nI B/\B.length=64/\B.all okL=true/\wboardS (zB B)=x.data.toList:=by
 unfold boardS at h;split at h
 ·rename_i h8;cases hr:ranksS (wordsS 47 9 x) with
  | none=>rw [hr] at h;simp at h
  | some rs =>
   rw [hr] at h;simp at h;obtain ⟨zss,e1,e2,e3⟩:=qj6 _ _ hr;have hl:zss.length=8:=by have:=congrArg List.length e3;simpa [h8] using this
   have hrev:∀ r∈zss.reverse,r.length=8:=fun r hr=>(e2 r (by simpa using hr)).1
   have hB:zss.reverse.flatten.length=64:=by rw [flat_len _ hrev];simp [hl]
   refine ⟨zss.reverse.flatten,?_,hB,?_,?_⟩
   ·rw [<-h,e1];unfold nI;rw [List.map_flatten,List.map_reverse]
   ·rw [List.all_eq_true];intro c hc;obtain ⟨r,hr,hcr⟩:=List.mem_flatten.mp hc;exact List.all_eq_true.mp (e2 r (by simpa using hr)).2 c hcr
   ·unfold wboardS;rw [qzm _ hB]
    have:(List.range 8).map (fun i=>wr1 (rowL zss.reverse.flatten (7-i)))=zss.map wr1:=by
     apply List.ext_getElem
     ·simp [hl]
     ·intro i h1 h2;have hi:i<8:=by simpa using h1
      simp only [List.getElem_map,List.getElem_range];rw [chunk _ hrev (7-i) (by simp [hl];omega),List.getElem_reverse];congr 2;omega
    rw [this,e3,qjw]
 ·simp at h
def sgn (c:UInt8):Bool:=letS c||digS c
theorem gap_sgn (g:Nat) (h:g<=8):(gapS g).all sgn=true:=by
 unfold gapS;split
 ·rfl
 ·have:=(gap_dig g (by omega) (by omega)).1;rw [List.all_cons];unfold sgn;rw [this];simp
theorem wr_sgn (zs:List UInt8) (h:zs.all okL=true) (h8:zs.length<=8):(wrL zs).1.all sgn=true/\(wrL zs).2<=zs.length:=by
 induction hn:zs.length generalizing zs with
 | zero =>
  have:zs=[]:=List.length_eq_zero_iff.mp hn;subst this;exact ⟨rfl,Nat.le_refl _⟩
 | succ n ih =>
  have hne:zs≠[]:=fun e=>by subst e;simp at hn
  obtain ⟨m,c,rfl⟩:∃ m c,zs=m++[c]:=⟨zs.dropLast,zs.getLast hne,(List.dropLast_concat_getLast hne).symm⟩;rw [List.all_append] at h;simp only [Bool.and_eq_true,List.all_cons,List.all_nil,Bool.and_true] at h;have hm:m.length=n:=by simpa using hn
  obtain ⟨i1,i2⟩:=ih m h.1 (by simp at h8;omega) hm;rw [wrL_snoc];unfold wrStep;by_cases hc:c=46
  ·rw [if_pos hc];exact ⟨i1,by simp;omega⟩
  ·rw [if_neg hc];have hl:letS c=true:=by have:=h.2;unfold okL at this;simpa [hc] using this
   refine ⟨?_,by simp⟩;rw [List.all_append,List.all_append,i1,gap_sgn _ (by simp at h8;omega)];simp [sgn,hl]
theorem wr1_sgn (zs:List UInt8) (h:zs.all okL=true) (h8:zs.length<=8):(wr1 zs).all sgn=true:=by
 obtain ⟨i1,i2⟩:=wr_sgn zs h h8;unfold wr1;rw [List.all_append,i1,gap_sgn _ (by omega)];rfl
theorem sgn_47:sgn 47=false:=by decide
theorem sgn_32:sgn 32=false:=by decide
theorem not_in (l:List UInt8) (h:l.all sgn=true) (c:UInt8) (hc:sgn c=false):c∉l:=fun hm=>by
 have:=List.all_eq_true.mp h c hm;rw [hc] at this;exact absurd this (by decide)
theorem qx9:∀ (xs:List ByteArray) (zss:List (List UInt8)),xs.map (·.data.toList)=zss.map wr1->(∀ z∈zss,z.length=8/\z.all okL=true)->ranksS xs=some (zss.map nI)
 | [],[],_,_=>rfl
 | [],z :: t,h,_=>by simp at h
 | x :: t,[],h,_=>by simp at h
 | x :: t,z :: zt,h,hz=>by
   simp only [List.map_cons,List.cons.injEq] at h;have h1:rankS x.data.toList=some (nI z):=by rw [h.1];exact rank_forth z (hz z (by simp)).2 (hz z (by simp)).1
   have h2:=qx9 t zt h.2 (fun y hy=>hz y (by simp [hy]));unfold ranksS;rw [h1,h2];rfl
theorem row_ok (B:List UInt8) (hB:B.length=64) (h:B.all okL=true) (j:Nat) (hj:j<8):(rowL B j).length=8/\(rowL B j).all okL=true:=by
 refine ⟨by simp [rowL];omega,?_⟩;rw [List.all_eq_true] at h ⊢;intro c hc;exact h c (List.mem_of_mem_drop (List.mem_of_mem_take hc))
theorem board_forth (B:List UInt8) (hB:B.length=64) (h:B.all okL=true) (x:ByteArray) (hx:x.data.toList=wboardS (zB B)):boardS x=some (nI B):=by
 have hrows:=qzm B hB;have hj:x.data.toList=Lib.join ((List.range 8).map (fun i=>wr1 (rowL B (7-i)))) [47]:=by rw [hx];unfold wboardS;rw [hrows]
 have hw:=qqk 47 9 (wr1 (rowL B 7)) ((List.range 7).map (fun i=>wr1 (rowL B (6-i)))) (by
  intro y hy
  have:∃ j,j<8/\y=wr1 (rowL B j):=by
   rcases List.mem_cons.mp hy with rfl|hy
   ·exact ⟨7,by omega,rfl⟩
   ·obtain ⟨i,_,rfl⟩:=List.mem_map.mp hy;exact ⟨6-i,by omega,rfl⟩
  obtain ⟨j,hj,rfl⟩:=this;obtain ⟨k1,k2⟩:=row_ok B hB h j hj;exact not_in _ (wr1_sgn _ k2 (by omega)) 47 sgn_47) (by simp) x (by rw [hj];rfl)
 have hw':(wordsS 47 9 x).map (·.data.toList)=((List.range 8).map (fun i=>rowL B (7-i))).map wr1:=by rw [hw];rfl
 have h8:(wordsS 47 9 x).length=8:=by have:=congrArg List.length hw';simpa using this
 unfold boardS
 rw [if_pos h8,qx9 _ _ hw' (by
  intro z hz;obtain ⟨i,_,rfl⟩:=List.mem_map.mp hz;exact row_ok B hB h (7-i) (by omega))]
 simp only [Option.some.injEq];have e:(List.map nI ((List.range 8).map (fun i=>rowL B (7-i)))).reverse=((List.range 8).map (rowL B)).map nI:=rfl;rw [e];have:=chunks B 8;rw [List.take_of_length_le (by omega)] at this;unfold nI;rw [<-List.map_flatten,this]
theorem join_in (sep:List UInt8):∀ (xs:List (List UInt8)) (c:UInt8),c∈Lib.join xs sep->c∈sep\/∃ x∈xs,c∈x
 | [],c,h=>by simp [Lib.join,List.intercalate] at h
 | [x],c,h=>by rw [Lib.join_one] at h;exact Or.inr ⟨x,by simp,h⟩
 | x :: y :: r,c,h=>by
   rw [join_cons2,List.mem_append,List.mem_append] at h;rcases h with (h|h)|h
   ·exact Or.inr ⟨x,by simp,h⟩
   ·exact Or.inl h
   ·rcases join_in sep (y :: r) c h with h|⟨z,hz,hc⟩
    ·exact Or.inl h
    ·exact Or.inr ⟨z,by simp at hz ⊢;right;exact hz,hc⟩
theorem no32_board (B:List UInt8) (hB:B.length=64) (h:B.all okL=true):(32:UInt8)∉wboardS (zB B):=by
 intro hm;unfold wboardS at hm;rw [qzm B hB] at hm;rcases join_in _ _ _ hm with h'|⟨x,hx,hc⟩
 ·simp at h'
 ·obtain ⟨i,_,rfl⟩:=List.mem_map.mp hx;obtain ⟨k1,k2⟩:=row_ok B hB h (7-i) (by omega);exact not_in _ (wr1_sgn _ k2 (by omega)) 32 sgn_32 hc
theorem no32_side (b:Bool):(32:UInt8)∉([if b then 119 else 98]:List UInt8):=by cases b<;>decide
theorem no32_castle4:∀ b0 b1 b2 b3:Bool,(32:UInt8)∉wcastS (fun i=>if i=0 then b0 else if i=1 then b1 else if i=2 then b2 else b3):=by decide
theorem no32_castle (f:Nat->Bool):(32:UInt8)∉wcastS f:=no32_castle4 (f 0) (f 1) (f 2) (f 3)
theorem no32_names:∀ k,k<64->(32:UInt8)∉nameS k:=by decide +kernel
theorem no32_beh (b:Int) (h:b=-1\/(0<=b/\b<64)):(32:UInt8)∉wbehS b:=by
 rcases h with rfl|⟨h1,h2⟩
 ·decide
 ·obtain ⟨k,rfl⟩:=Int.eq_ofNat_of_zero_le h1;have:wbehS (k:Int)=nameS k:=by unfold wbehS;rw [if_neg (by omega)];simp
  rw [this];exact no32_names k (by omega)
theorem no32_itoa (n:Nat):(32:UInt8)∉Lib.itoa (n:Int):=by
 have e:Lib.itoa (n:Int)=Lib.decDigits n:=by unfold Lib.itoa;rw [if_neg (by omega),Int.toNat_natCast]
 rw [e];intro hm;have:=List.all_eq_true.mp (dv_dec n n (Nat.le_refl _)).2.1 32 hm;exact absurd this (by decide)
theorem qqm (s:ByteArray) (p:Pos) (h:readS s=some p):∃ B,p.board=nI B/\B.length=64/\B.all okL=true/\(p.behind=-1\/(0<=p.behind/\p.behind<64))/\(0<=p.half/\p.half<=65535)/\(0<=p.full/\p.full<=65535) ∧
  writeS (zB B) p.white p.castle p.behind p.half p.full=s.data.toList:=by
 unfold readS at h;split at h
 ·rename_i x0 x1 x2 x3 x4 x5 hw;unfold six at h;split at h
  ·rename_i b wh c e hh f k0 k1 k2 k3 k4 k5;simp at h;subst h;obtain ⟨B,b1,b2,b3,b4⟩:=board_back _ _ k0;obtain ⟨e1,e2⟩:=behind_back _ _ k3;obtain ⟨h1,h2⟩:=qzg _ _ k4;obtain ⟨f1,f2⟩:=qzg _ _ k5;refine ⟨B,b1,b2,b3,e2,by simp only;omega,by simp only;omega,?_⟩;have hj:=qjw 32 7 s;rw [hw] at hj;rw [<-hj];unfold writeS;simp only [List.map_cons,List.map_nil];rw [b4,<-side_back _ _ k1,castle_back _ _ k2,e1,h1,f1]
  ·simp at h
 ·simp at h
theorem write_forth (B:List UInt8) (hB:B.length=64) (hok:B.all okL=true) (wh:Bool) (f:Nat->Bool) (b:Int) (hb:b=-1\/(0<=b/\b<64)) (h g:Nat) (hh:h<=65535) (hg:g<=65535) (s:ByteArray)
  (hs:s.data.toList=writeS (zB B) wh f b h g):∃ p,readS s=some p/\p.board=nI B/\p.white=wh/\p.castle 0=f 0/\p.castle 1=f 1/\p.castle 2=f 2/\p.castle 3=f 3/\p.behind=b/\p.half=h/\p.full=g:=by
 have hw:=qqk 32 7 (wboardS (zB B)) [[if wh then 119 else 98],wcastS f,wbehS b,Lib.itoa (h:Int),Lib.itoa (g:Int)] (by
  intro y hy;simp only [List.mem_cons,List.mem_nil_iff,or_false] at hy;rcases hy with rfl|rfl|rfl|rfl|rfl|rfl
  ·exact no32_board B hB hok
  ·exact no32_side wh
  ·exact no32_castle f
  ·exact no32_beh b hb
  ·exact no32_itoa h
  ·exact no32_itoa g) (by simp) s hs
 unfold readS;have h6:(wordsS 32 7 s).length=6:=by have:=congrArg List.length hw;simpa using this
 match hx:wordsS 32 7 s,h6 with
 | [x0,x1,x2,x3,x4,x5],_ =>
  rw [hx] at hw;simp only [List.map_cons,List.map_nil,List.cons.injEq,and_true] at hw;obtain ⟨e0,e1,e2,e3,e4,e5⟩:=hw;obtain ⟨c,c0,c1,c2,c3,c4⟩:=castle_forth f;simp only;unfold six;rw [board_forth B hB hok x0 e0,side_forth x1 wh e1,e2,c0,behind_forth b hb x3 e3,e4,qjm h hh,e5,qjm g hg];exact ⟨_,rfl,rfl,rfl,c1,c2,c3,c4,rfl,rfl,rfl⟩
end Go.Proofs.YtnfakamfmkhlbaaGreatDoor.C
namespace Go.Proofs.YtnfakamfmkhlbaaGreatDoor.C
open Go.ChangeShapes Go.WideShapes Go.ChangeAt Go.RowKit
open Go.Proofs.YtnfakamfmkhlbaaGreatDoor.P
attribute [local go_sem] qb qd
def posZ (p:Pos) (i:Nat):UInt8:=UInt8.ofNat (p.board.getD i 0).toNat
def posCan (p:Pos):Bool:=canS (posZ p) p.white p.castle p.behind p.half p.full
theorem qzu {p:Pos} {B:List UInt8} (h:p.board=nI B):posZ p=zB B:=by
 funext i;unfold posZ zB nI at *;rw [h];rcases Nat.lt_or_ge i B.length with hi|hi
 ·rw [List.getD_eq_getElem?_getD,List.getElem?_map,List.getElem?_eq_getElem hi,List.getD_eq_getElem?_getD,List.getElem?_eq_getElem hi];simp
 ·rw [List.getD_eq_getElem?_getD,List.getElem?_map,List.getElem?_eq_none hi,List.getD_eq_getElem?_getD,List.getElem?_eq_none hi];rfl
theorem qxk (z:Nat->UInt8) (A:Array Value) (hs:A.size=64) (hA:∀ i,i<64->A[i]?=some (.int .u8 ((z i).toNat:Int))) (wh:Bool) (f:Nat->Bool) (b h g:Int):Row z wh f b h g (posA A wh (f 0) (f 1) (f 2) (f 3) b h g):=by
 have hp:∀ i,(posA A wh (f 0) (f 1) (f 2) (f 3) b h g)[i]?=if i<64 then A[i]? else (#[.bool wh,.bool (f 0),.bool (f 1),.bool (f 2),.bool (f 3),.int .i64 b,.int .i64 h,.int .i64 g]:Array Value)[i-64]?:=fun i=>by
  unfold posA;rw [Array.getElem?_append,hs]
 refine ⟨by unfold posA;rw [Array.size_append,hs];rfl,fun i hi=>?_,?_,fun i hi=>?_,?_,?_,?_⟩
 ·rw [hp,if_pos hi];exact hA i hi
 ·rw [hp];rfl
 ·rw [hp,if_neg (by omega)];have:i=0\/i=1\/i=2\/i=3:=by omega
  rcases this with rfl|rfl|rfl|rfl<;>rfl
 ·rw [hp];rfl
 ·rw [hp];rfl
 ·rw [hp];rfl
theorem boardA_at {p:Pos} {B:List UInt8} (h:p.board=nI B) (hl:B.length=64):((p.board.map (Value.int .u8)).toArray).size=64/\∀ i,i<64->((p.board.map (Value.int .u8)).toArray)[i]?=some (.int .u8 ((posZ p i).toNat:Int)):=by
 refine ⟨by rw [h];simp [nI,hl],fun i hi=>?_⟩;rw [qzu h,h];unfold nI zB;rw [List.getElem?_toArray,List.getElem?_map,List.getElem?_map,List.getElem?_eq_getElem (by omega),List.getD_eq_getElem?_getD,List.getElem?_eq_getElem (by omega)];rfl
theorem jh {s:ByteArray} {p:Pos} (h:readS s=some p):Row (posZ p) p.white p.castle p.behind p.half p.full (posV p):=by
 obtain ⟨B,h1,h2,_⟩:=qqm s p h;obtain ⟨a1,a2⟩:=boardA_at h1 h2;exact qxk _ _ a1 a2 _ _ _ _ _
def ParseEnd (s:ByteArray) (e:Ending):Prop :=
 (∃ p,readS s=some p/\posCan p=true/\e=.returned (.tuple #[.agg (posV p),.int .i64 0])) ∨
 (∃ p,readS s=some p/\posCan p=false/\e=.returned (.tuple #[.agg Tryz.zeroCells25,.int .i64 2])) ∨
 (readS s=none/\e=.returned (.tuple #[.agg Tryz.zeroCells25,.int .i64 1]))
theorem posV_ones {p:Pos} {B:List UInt8} (h:p.board=nI B) (hl:B.length=64):(posV p).size=72/\(posV p).all (·.oneCell')=true:=by
 obtain ⟨a1,a2⟩:=boardA_at h hl;refine qjb ⟨a1,?_⟩ _ _ _ _ _ _ _ _;rw [List.all_toArray,List.all_eq_true];intro v hv;obtain ⟨z,_,rfl⟩:=List.mem_map.mp hv;rfl
theorem ReadEnd.plain {s:ByteArray} {e:Ending} (h:ReadEnd s e):∃ A ok,e=.returned (.tuple #[.agg A,.bool ok])/\A.size=72/\A.all (·.oneCell')=true/\(ok=true->∃ p,readS s=some p/\A=posV p)/\(ok=false->readS s=none):=by
 rcases h with ⟨p,h1,h2,rfl⟩|⟨h1,rfl⟩
 ·obtain ⟨B,b1,b2,_⟩:=qqm s p h1;have:=posV_ones b1 b2;exact ⟨posV p,true,rfl,this.1,this.2,fun _=>⟨p,h1,rfl⟩,fun h=>by cases h⟩
 ·exact ⟨Tryz.zeroCells25,false,rfl,zeroP,zeroP_ones,(fun h=>by cases h),fun _=>h1⟩
structure Pp (w:World) (bp:Nat) (A:Array Value) (cur:World):Prop where
 res:cur.heap[w.heap.size]?=some (.cells Tryz.zeroCells25 25)
 p:cur.heap[bp]?=some (.cells A 25)
 lt:bp<cur.heap.size
 lr:w.heap.size<cur.heap.size
 gr:Gr w cur
 tab:TabIn cur
 homes:Homes cur
theorem Pp.next {w cur cur':World} {bp:Nat} {A:Array Value} (h:Pp w bp A cur) (g:Gr cur cur'):Pp w bp A cur' :=
 ⟨by rw [Below.block g _ h.lr];exact h.res,by rw [Below.block g _ h.lt];exact h.p,Nat.lt_of_lt_of_le h.lt (Below.size g),Nat.lt_of_lt_of_le h.lr (Below.size g),Gr.trans h.gr g,h.tab.gr g,h.homes.gr g⟩
theorem qjc (s:ByteArray) (hs:s.size<4294967281) (m:Int) (w:World) (hm:w.cell? ⟨4,0,none⟩=some (.int .i64 m)) (hz:4<w.heap.size) (hT:TabIn w) (hH:Homes w):Calls Tryz.prog 12 #[.string s] w fun e w'=>ParseEnd s e/\Gr w w':=by
 have hg1:Gr w (w.alloc (.cells Tryz.zeroCells25 25)):=(Gr.refl w).alloc _ _;have hT1:=hide (hT.gr hg1);have hH1:=hide (hH.gr hg1)
 have hr:Hid (Calls Tryz.prog 36 #[.string s] (w.alloc (.cells Tryz.zeroCells25 25)) fun e w'=>∃ A ok,e=.returned (.tuple #[.agg A,.bool ok])/\A.size=72/\A.all (·.oneCell')=true/\(ok=true->∃ p,readS s=some p/\A=posV p)/\(ok=false->readS s=none)/\Gr (w.alloc (.cells Tryz.zeroCells25 25)) w'):=hide ((read_any s hs m _ (by rw [World.cell?_alloc_past _ _ _ hz];exact hm) (by rw [World.size_alloc];omega)).mono fun e w' h=>by
  obtain ⟨A,ok,h1,h2,h3,h4,h5⟩:=h.1.plain;exact ⟨A,ok,h1,h2,h3,h4,h5,h.2⟩)
 have hb1:Hid ((w.alloc (.cells Tryz.zeroCells25 25)).heap[w.heap.size]?=some (.cells Tryz.zeroCells25 25)):=hide (heap_alloc_new _ _);have hl1:Hid (w.heap.size<(w.alloc (.cells Tryz.zeroCells25 25)).heap.size):=hide (by rw [World.size_alloc];omega);have hg1':=hide hg1;clear hg1 hT hH hm hz hs;go_enter Tryz.func12,Tryz.ntmps12
 go_upto_region 2 with (first
  | (go_at_call 36;refine (qa hr).mono ?_;rintro e w3 ⟨A,ok,rfl,hz,ho,hy,hn,hg3⟩)
  | (refine wpList_store_row rfl 25 _ _ rfl w3.heap.size A rfl rfl 25 _ (heap_alloc_new _ _) (by rw [hz];exact infoP) (by rw [hz];exact zeroP.symm) ho ?_))
 generalize hw4:(w3.alloc (.cells Tryz.zeroCells25 25)).setRow w3.heap.size A=w4;have hg4:Gr w3 w4:=by rw [<-hw4];exact ((Gr.refl w3).alloc _ _).setRow _ (Nat.le_refl _) _
 have hg14:=Gr.trans hg3 hg4;have hp:Pp w w3.heap.size A w4:=⟨by rw [Below.block hg14 _ (qa hl1)];exact qa hb1,by rw [<-hw4];exact setRow_heap _ _ _ _ _ _ (heap_alloc_new w3 _),by rw [<-hw4,size_setRow,World.size_alloc];omega,Nat.lt_of_lt_of_le (qa hl1) (Below.size hg14),Gr.trans (qa hg1') hg14,(qa hT1).gr hg14,(qa hH1).gr hg14⟩;generalize w3.heap.size=bp at hp ⊢;clear hw4 hg4 hg14 hg3 hr hb1 hl1 hg1' hT1 hH1;cases ok
 ·have hend:Hid (ParseEnd s (.returned (.tuple #[.agg Tryz.zeroCells25,.int .i64 1]))):=hide (.inr (.inr ⟨hn rfl,rfl⟩));clear hn hy;go_wp2_with (refine wpList_store_row rfl 25 _ _ rfl w.heap.size Tryz.zeroCells25 rfl rfl 25 Tryz.zeroCells25 (Pp.res (bp:=bp) (A:=A) (by assumption)) (by rw [zeroP];exact infoP) rfl zeroP_ones ?_);exact bodyPost_ret (v:=.tuple #[.agg Tryz.zeroCells25,.int .i64 1]) (qe Tryz.results12 _ _ w.heap.size 25 _ (0,0) _ rfl (setRow_heap _ _ _ _ _ _ hp.res) Tryz.underlying25 rfl (by rw [zeroP];exact infoP)) rfl ⟨qa hend,hp.gr.setRow _ (Nat.le_refl _) _⟩
 ·obtain ⟨p,hp1,hp2⟩:=hy rfl;have hcan:Hid (∀ W:World,TabIn W->Homes W->Calls Tryz.prog 37 #[.agg A] W fun e w'=>e=.returned (.bool (posCan p))/\Gr W w'):=hide fun W t h=>by rw [hp2];exact can_any (jh hp1) W t h
  clear hy hn;obtain ⟨q,hq⟩:∃ q,posCan p=q:=⟨_,rfl⟩;cases q
  ·have hend:Hid (ParseEnd s (.returned (.tuple #[.agg Tryz.zeroCells25,.int .i64 2]))):=hide (.inr (.inl ⟨p,hp1,hq,rfl⟩));rw [hq] at hcan;clear hp1 hp2 hq;go_wp2_with (first|(refine wpList_store_row rfl 25 _ _ rfl w.heap.size Tryz.zeroCells25 rfl rfl 25 Tryz.zeroCells25 (Pp.res (bp:=bp) (A:=A) (by assumption)) (by rw [zeroP];exact infoP) rfl zeroP_ones ?_)|(refine wpList_load_row rfl 25 _ rfl bp rfl 25 A (0,0) _ (Pp.p (w:=w) (by assumption)) Tryz.underlying25 rfl (by rw [hz];exact infoP) ?_)|(go_at_call 37;refine (qa hcan _ (Pp.tab (w:=w) (bp:=bp) (A:=A) (by assumption)) (Pp.homes (w:=w) (bp:=bp) (A:=A) (by assumption))).mono ?_;rintro e w5 ⟨rfl,hg5⟩;have hp5:=Pp.next (by assumption) hg5));exact bodyPost_ret (v:=.tuple #[.agg Tryz.zeroCells25,.int .i64 2]) (qe Tryz.results12 _ _ w.heap.size 25 _ (0,0) _ rfl (setRow_heap _ _ _ _ _ _ hp5.res) Tryz.underlying25 rfl (by rw [zeroP];exact infoP)) rfl ⟨qa hend,hp5.gr.setRow _ (Nat.le_refl _) _⟩
  ·have hend:Hid (ParseEnd s (.returned (.tuple #[.agg A,.int .i64 0]))):=hide (.inl ⟨p,hp1,hq,by rw [hp2]⟩);rw [hq] at hcan;clear hp1 hp2 hq;go_wp2_with (first|(refine wpList_store_row rfl 25 _ _ rfl w.heap.size A rfl rfl 25 Tryz.zeroCells25 (Pp.res (bp:=bp) (A:=A) (by assumption)) (by rw [hz];exact infoP) (by rw [hz];exact zeroP.symm) ho ?_)|(refine wpList_load_row rfl 25 _ rfl bp rfl 25 A (0,0) _ (Pp.p (w:=w) (by assumption)) Tryz.underlying25 rfl (by rw [hz];exact infoP) ?_)|(go_at_call 37;refine (qa hcan _ (Pp.tab (w:=w) (bp:=bp) (A:=A) (by assumption)) (Pp.homes (w:=w) (bp:=bp) (A:=A) (by assumption))).mono ?_;rintro e w5 ⟨rfl,hg5⟩;have hp5:=Pp.next (by assumption) hg5));exact bodyPost_ret (v:=.tuple #[.agg A,.int .i64 0]) (qe Tryz.results12 _ _ w.heap.size 25 _ (0,0) _ rfl (setRow_heap _ _ _ _ _ _ hp5.res) Tryz.underlying25 rfl (by rw [hz];exact infoP)) rfl ⟨qa hend,hp5.gr.setRow _ (Nat.le_refl _) _⟩
theorem beh_in {z:Nat->UInt8} {wh:Bool} {b:Int} (h:behOk z wh b=true):b=-1\/(0<=b/\b<64):=by
 unfold behOk at h;cases wh<;>simp at h<;>omega
theorem clk_in {h g:Int} (k:clkOk h g=true):(0<=h/\h<=65535)/\(1<=g/\g<=65535):=by
 unfold clkOk at k;simp at k;omega
theorem okY_okL:∀ c:UInt8,okY c=true->okL c=true:=by
 have:∀ n:Fin 256,okY (UInt8.ofNat n.val)=true->okL (UInt8.ofNat n.val)=true:=by decide +kernel
 intro c;have:=this ⟨c.toNat,c.toNat_lt⟩;simpa using this
theorem qjn {z:Nat->UInt8} {wh:Bool} {f:Nat->Bool} {b h g:Int} (k:canS z wh f b h g=true):(∀ i,i<64->okL (z i)=true)/\(b=-1\/(0<=b/\b<64))/\(0<=h/\h<=65535)/\(1<=g/\g<=65535):=by
 unfold canS canM at k;simp only [Bool.and_eq_true] at k;obtain ⟨k0,⟨⟨⟨⟨⟨_,_⟩,_⟩,k4⟩,k5⟩,_⟩⟩:=k;refine ⟨fun i hi=>?_,beh_in k4,(clk_in k5).1,(clk_in k5).2⟩;unfold layOk at k0;exact okY_okL _ (List.all_eq_true.1 k0 i (List.mem_range.2 hi))
theorem rowp_is {z:Nat->UInt8} {wh:Bool} {f:Nat->Bool} {b h g:Int} {PA:Array Value} (r:Row z wh f b h g PA):∃ A,A.size=64/\(∀ i,i<64->A[i]?=some (.int .u8 ((z i).toNat:Int)))/\PA=posA A wh (f 0) (f 1) (f 2) (f 3) b h g:=by
 have hs:(PA.extract 0 64).size=64:=by rw [Array.size_extract,r.size];rfl
 have ha:∀ i,i<64->(PA.extract 0 64)[i]?=some (.int .u8 ((z i).toNat:Int)):=fun i hi=>by
  rw [Array.getElem?_extract,if_pos (by rw [r.size];omega),Nat.zero_add];exact r.sq i hi
 refine ⟨PA.extract 0 64,hs,ha,?_⟩;have r2:=qxk z _ hs ha wh f b h g;apply Array.ext_getElem?;intro i;by_cases h0:i<64
 ·rw [r.sq i h0,r2.sq i h0]
 ·by_cases h1:i<72
  ·have:i=64\/i=65+0\/i=65+1\/i=65+2\/i=65+3\/i=69\/i=70\/i=71:=by omega
   rcases this with rfl|rfl|rfl|rfl|rfl|rfl|rfl|rfl
   ·rw [r.wh,r2.wh]
   ·rw [r.c 0 (by omega),r2.c 0 (by omega)]
   ·rw [r.c 1 (by omega),r2.c 1 (by omega)]
   ·rw [r.c 2 (by omega),r2.c 2 (by omega)]
   ·rw [r.c 3 (by omega),r2.c 3 (by omega)]
   ·rw [r.b,r2.b]
   ·rw [r.h,r2.h]
   ·rw [r.g,r2.g]
  ·rw [Array.getElem?_eq_none (by rw [r.size];omega),Array.getElem?_eq_none (by rw [r2.size];omega)]
end Go.Proofs.YtnfakamfmkhlbaaGreatDoor.C
namespace Go.Proofs.YtnfakamfmkhlbaaGreatDoor.C
open Go.ChangeShapes Go.WideShapes Go.ChangeAt Go.RowKit
open Go.Proofs.YtnfakamfmkhlbaaGreatDoor.P
theorem plain5:Tryz.prog.plainKey 5=true:=by kernel_rfl
theorem plain4:Tryz.prog.plainKey 4=true:=by kernel_rfl
theorem plain3:Tryz.prog.plainKey 3=true:=by kernel_rfl
theorem info5:∃ i,Tryz.prog.info? 5=some i:=Option.isSome_iff_exists.1 (show (Tryz.prog.info? 5).isSome=true by kernel_rfl)
theorem info4b:∃ i,Tryz.prog.info? 4=some i:=Option.isSome_iff_exists.1 (show (Tryz.prog.info? 4).isSome=true by kernel_rfl)
theorem cells5:Tryz.prog.cellsOf 5=1:=by kernel_rfl
theorem cells4:Tryz.prog.cellsOf 4=1:=by kernel_rfl
theorem under25:Tryz.prog.underlying 25=some (.struct (Tryz.prog.fieldsOf 25)):=by kernel_rfl
theorem stood25:Tryz.prog.stoodInHeld 25=false:=by kernel_rfl
theorem fields25 : (Tryz.prog.fieldsOf 25).toList.map (fun f => (f.name != "_", f.type, f.offset)) = [(true, 22, 0), (true, 4, 64), (true, 23, 65), (true, 3, 69), (true, 3, 70), (true, 3, 71)] := by kernel_rfl
theorem part64 (xs:Array Value) (w:World):(part 22 xs 0).run Tryz.prog w=.ok (.agg (xs.extract 0 64)) w:=by
 simp [part,isAgg,run_underlying Tryz.underlying22,sizeOf,typeInfo]
 kernel_rfl
theorem part4 (xs:Array Value) (w:World):(part 23 xs 65).run Tryz.prog w=.ok (.agg (xs.extract 65 69)) w:=by
 simp [part,isAgg,run_underlying Tryz.underlying23,sizeOf,typeInfo]
 kernel_rfl
theorem jx {b:Nat} {A:Array Value} {t:TypeId} {w:World} (h:w.heap[b]?=some (.cells A t)):RowAt b A w :=
 ⟨(Array.getElem?_eq_some_iff.1 h).1,fun j v hv=>by rw [cell_of_row _ _ _ _ _ _ h,Nat.zero_add,<-Array.getElem?_toList];exact hv⟩
end Go.Proofs.YtnfakamfmkhlbaaGreatDoor.C
