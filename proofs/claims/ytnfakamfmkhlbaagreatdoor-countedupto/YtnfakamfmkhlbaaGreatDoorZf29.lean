import Derived.Test.YtnfakamfmkhlbaaGreatDoorZf28
import Derived.Test.YtnfakamfmkhlbaaGreatDoorKz2
set_option maxRecDepth 100000
set_option maxHeartbeats 4000000
set_option linter.unusedSimpArgs false
namespace Go.Proofs.YtnfakamfmkhlbaaGreatDoor.C
open Go.RowKit
open Go.Proofs.YtnfakamfmkhlbaaGreatDoor.P
def past (i n:Nat):Bool:=if i%2=0 then decide (n<hK i) else decide (hK i<n)
theorem off_path:∀ i,i<4->∀ n,n<64->n/8≠casT i/8->(stI ((n:Nat):Int) ((casT i:Nat):Int)||slI ((n:Nat):Int) ((casT i:Nat):Int))=true->((List.range (LI ((n:Nat):Int) ((casT i:Nat):Int))).all fun j=>decide (j=0)||decide ((pI ((n:Nat):Int) ((casT i:Nat):Int) j).toNat/8≠casT i/8)&&decide ((pI ((n:Nat):Int) ((casT i:Nat):Int) j).toNat<64))=true:=by decide +kernel
theorem on_path:∀ i,i<4->∀ n,n<64->n/8=casT i/8->past i n=true->(stI ((n:Nat):Int) ((hK i:Nat):Int)&&decide (LI ((n:Nat):Int) ((hK i:Nat):Int)<=LI ((n:Nat):Int) ((casT i:Nat):Int))&&(List.range (LI ((n:Nat):Int) ((hK i:Nat):Int))).all fun j=>decide (j=0)||decide (pI ((n:Nat):Int) ((casT i:Nat):Int) j=pI ((n:Nat):Int) ((hK i:Nat):Int) j)&&past i (pI ((n:Nat):Int) ((hK i:Nat):Int) j).toNat&&decide ((pI ((n:Nat):Int) ((hK i:Nat):Int) j).toNat/8=casT i/8)&&decide ((pI ((n:Nat):Int) ((hK i:Nat):Int) j).toNat<64))=true:=by decide +kernel
theorem on_near:∀ i,i<4->∀ n,n<64->n/8=casT i/8->past i n=true->∀ bw:Bool,(attI (fun _=>46) 0 (sdb bw) ((n:Nat):Int) ((casT i:Nat):Int)||attI (fun _=>46) 1 (sdb bw) ((n:Nat):Int) ((casT i:Nat):Int)||attI (fun _=>46) 2 (sdb bw) ((n:Nat):Int) ((casT i:Nat):Int)||attI (fun _=>46) 5 (sdb bw) ((n:Nat):Int) ((casT i:Nat):Int))=false:=by decide +kernel
theorem qq4 {f:Nat->Int} {k:Nat} {s x y:Int} (h:attI f k s x y=true):attI (fun _=>46) k s x y=true/\((k=2\/k=3\/k=4)->(stI x y||slI x y)=true/\freeI f (pI x y) (LI x y)=true):=by
 have hfr:freeI (fun _=>46) (pI x y) (LI x y)=true:=by unfold freeI;exact decide_eq_true fun _ _ _=>rfl
 unfold attI at h ⊢;by_cases k0:k=0
 ·simp only [k0,if_true] at h ⊢;exact ⟨h,by omega⟩
 ·by_cases k1:k=1
  ·subst k1;simp only [k0,if_false,if_true] at h ⊢;exact ⟨h,by omega⟩
  ·by_cases k2:k=2
   ·subst k2;simp only [k0,k1,if_false,if_true,Bool.and_eq_true] at h ⊢;exact ⟨⟨h.1,hfr⟩,fun _=>⟨by rw [h.1];simp,h.2⟩⟩
   ·by_cases k3:k=3
    ·subst k3;simp only [k0,k1,k2,if_false,if_true,Bool.and_eq_true] at h ⊢;exact ⟨⟨h.1,hfr⟩,fun _=>⟨by rw [h.1];simp,h.2⟩⟩
    ·by_cases k4:k=4
     ·subst k4;simp only [k0,k1,k2,k3,if_false,if_true,Bool.and_eq_true] at h ⊢;exact ⟨⟨h.1,hfr⟩,fun _=>⟨h.1,h.2⟩⟩
     ·refine ⟨?_,fun hk=>by omega⟩;simp only [k0,k1,k2,k3,k4,if_false] at h ⊢;exact h
theorem attI_put {f:Nat->Int} {k:Nat} {s x y:Int} (h:attI (fun _=>46) k s x y=true) (hf:(k=2\/k=3\/k=4)->freeI f (pI x y) (LI x y)=true):attI f k s x y=true:=by
 unfold attI at h ⊢;by_cases k0:k=0
 ·simp only [k0,if_true] at h ⊢;exact h
 ·by_cases k1:k=1
  ·subst k1;simp only [k0,if_false,if_true] at h ⊢;exact h
  ·by_cases k2:k=2
   ·subst k2;simp only [k0,k1,if_false,if_true,Bool.and_eq_true] at h ⊢;exact ⟨h.1,hf (by omega)⟩
   ·by_cases k3:k=3
    ·subst k3;simp only [k0,k1,k2,if_false,if_true,Bool.and_eq_true] at h ⊢;exact ⟨h.1,hf (by omega)⟩
    ·by_cases k4:k=4
     ·subst k4;simp only [k0,k1,k2,k3,if_false,if_true,Bool.and_eq_true] at h ⊢;exact ⟨h.1,hf (by omega)⟩
     ·simp only [k0,k1,k2,k3,k4,if_false] at h ⊢;exact h
theorem cas_safe {z Zx:Nat->UInt8} (hok:layOk z=true) {wh:Bool} {i:Nat} (hi:i<4) (hm:mcA z wh (hK i) (hD i)=true)
  (ha:∀ n,n<64->n/8≠casT i/8->Zx n=z n) (hb:∀ n,n<64->n/8=casT i/8->past i n=true->Zx n=z n)
  (hc:∀ n,n<64->n/8=casT i/8->past i n=false->coc (Zx n)≠sdb (!wh)):attR Zx ((casT i:Nat):Int) (!wh)=false:=by
 have hKT:hK i<64/\casT i<64/\sqK (hK i) (hD i) 0=hK i/\sqK (hK i) (hD i) 2=casT i:=by
  have:i=0\/i=1\/i=2\/i=3:=by omega
  rcases this with rfl|rfl|rfl|rfl<;>decide
 unfold mcA at hm;rw [List.all_eq_true] at hm;have s0:=hm 0 (by decide);have s2:=hm 2 (by decide);rw [hKT.2.2.1,xc hok hKT.1,Bool.not_eq_true'] at s0;rw [hKT.2.2.2,xc hok hKT.2.1,Bool.not_eq_true'] at s2;cases hr:attR Zx ((casT i:Nat):Int) (!wh) with
 | false=>rfl
 | true =>
  exfalso
  unfold attR at hr;obtain ⟨n,hn,h⟩:=List.any_eq_true.1 hr;have hn:=List.mem_range.1 hn;rw [Bool.and_eq_true,decide_eq_true_eq] at h;obtain ⟨hco,hat⟩:=h;obtain ⟨at1,at2⟩:=qq4 hat
  have fin:∀ y:Nat,attR z (y:Int) (!wh)=false->Zx n=z n->attI (zI z) (kdc (Zx n)).toNat (sdb (!wh)) (n:Int) (y:Int)=true->False:=fun y hy e ha=>by
   have:attR z (y:Int) (!wh)=true:=by
    unfold attR;refine List.any_eq_true.2 ⟨n,List.mem_range.2 hn,?_⟩;rw [Bool.and_eq_true,decide_eq_true_eq];exact ⟨by rw [<-e];exact hco,by rw [<-e];exact ha⟩
   rw [hy] at this;cases this
  by_cases hrk:n/8=casT i/8
  ·cases hp:past i n with
   | false=>exact hc n hn hrk hp hco
   | true =>
    have e:=hb n hn hrk hp;have hnear:=on_near i hi n hn hrk hp (!wh);have honp:=on_path i hi n hn hrk hp;simp only [Bool.and_eq_true,List.all_eq_true,Bool.or_eq_true,decide_eq_true_eq,List.mem_range] at honp;simp only [Bool.or_eq_false_iff] at hnear
    have kk:(kdc (Zx n)).toNat=3\/(kdc (Zx n)).toNat=4:=by
     generalize (kdc (Zx n)).toNat=k at at1;have hk5:k=0\/k=1\/k=2\/k=3\/k=4\/5<=k:=by omega
     rcases hk5 with rfl|rfl|rfl|rfl|rfl|h5
     ·rw [hnear.1.1.1] at at1;cases at1
     ·rw [hnear.1.1.2] at at1;cases at1
     ·rw [hnear.1.2] at at1;cases at1
     ·exact .inl rfl
     ·exact .inr rfl
     ·have:attI (fun _=>46) k (sdb (!wh)) (n:Int) ((casT i:Nat):Int)=attI (fun _=>46) 5 (sdb (!wh)) (n:Int) ((casT i:Nat):Int):=by
       unfold attI;simp only [show ¬ k=0 from by omega,show ¬ k=1 from by omega,show ¬ k=2 from by omega,show ¬ k=3 from by omega,show ¬ k=4 from by omega,if_false];rfl
      rw [this,hnear.2] at at1;cases at1
    obtain ⟨_,hfree⟩:=at2 (by omega);refine fin (hK i) s0 e ?_
    have hfz:freeI (zI z) (pI (n:Int) ((hK i:Nat):Int)) (LI (n:Int) ((hK i:Nat):Int))=true:=by
     unfold freeI at hfree ⊢;rw [decide_eq_true_eq] at hfree ⊢;intro j hj j1;rcases honp.2 j hj with q|q
     ·omega
     ·have h1:=hfree j (by have:=honp.1.2;omega) j1;rw [q.1.1.1] at h1;unfold zI at h1 ⊢;rw [<-hb _ q.2 q.1.2 q.1.1.2];exact h1
    rcases kk with k|k<;>(rw [k];simp [attI,honp.1.1,hfz])
  ·have e:=ha n hn hrk;refine fin (casT i) s2 e (attI_put at1 fun hk=>?_);obtain ⟨hl,hfree⟩:=at2 hk;have hoff:=off_path i hi n hn hrk hl;simp only [List.all_eq_true,Bool.or_eq_true,Bool.and_eq_true,decide_eq_true_eq,List.mem_range] at hoff;unfold freeI at hfree ⊢;rw [decide_eq_true_eq] at hfree ⊢;intro j hj j1;rcases hoff j hj with q|q
   ·omega
   ·have h1:=hfree j hj j1;unfold zI at h1 ⊢;rw [<-ha _ q.2 q.1];exact h1
def hR (i:Nat):Nat:=if i=0 then 7 else if i=1 then 0 else if i=2 then 63 else 56
def rN (i:Nat):Nat:=if i=0 then 5 else if i=1 then 3 else if i=2 then 61 else 59
theorem qzh {z:Nat->UInt8} {b:Int} {i:Nat} (hi:i<4) (hp:pawnB (z (hK i))=false) (hk:kingB (z (hK i))=true) (n:Nat):plZ z b (hK i,casT i,0) n=if n=hR i then 46 else if n=rN i then z (hR i) else if n=casT i then z (hK i) else if n=hK i then 46 else z n:=by
 have ht:trn (z (hK i)) 0=z (hK i):=by unfold trn;rw [if_pos rfl]
 have:i=0\/i=1\/i=2\/i=3:=by omega
 unfold plZ;simp only;rw [hp,hk,ht,Bool.false_and,if_neg (by simp)];rcases this with rfl|rfl|rfl|rfl
 ·rw [if_pos (by decide)];rfl
 ·rw [if_neg (by decide),if_pos (by decide)];rfl
 ·rw [if_pos (by decide)];rfl
 ·rw [if_neg (by decide),if_pos (by decide)];rfl
theorem js:∀ i,i<4->hK i<64/\casT i<64/\hR i<64/\rN i<64/\casT i/8=hK i/8/\past i (hK i)=false/\past i (casT i)=false/\past i (hR i)=false/\past i (rN i)=false/\hR i/8=hK i/8/\rN i/8=hK i/8/\casT i≠hK i/\hR i≠hK i/\rN i≠hK i/\hR i≠casT i/\rN i≠casT i/\rN i≠hR i:=by decide +kernel
theorem cas_line:∀ i,i<4->∀ n,n<64->n/8=casT i/8->past i n=false->(decide (n=hK i)||decide (n=hR i)||(List.range (hN i)).any fun j=>decide (sqK (hK i) (hD i) (j+1)=n))=true:=by decide +kernel
theorem cas_in:∀ i,i<4->((List.range (hN i)).any fun j=>decide (sqK (hK i) (hD i) (j+1)=casT i))=true/\((List.range (hN i)).any fun j=>decide (sqK (hK i) (hD i) (j+1)=rN i))=true:=by decide +kernel
structure Cas (z:Nat->UInt8) (wh:Bool) (i:Nat):Prop where
 hi:i<4
 w:wh=decide (i<2)
 k:ixc (z (hK i))=((bg wh+5:Nat):Int)
 r:ixc (z (hR i))=((bg wh+3:Nat):Int)
 e:mcE z (hK i) (hD i) (hN i)=true
 a:mcA z wh (hK i) (hD i)=true
theorem cas_of {z:Nat->UInt8} {wh:Bool} {fc:Nat->Bool} {b:Int} (hC:Can z wh fc b) {i:Nat} (hi:i<4) (hw:wh=decide (i<2)) (hf:fc i=true) (hm:mcB z wh (hK i) (hD i) (hN i)=true):Cas z wh i:=by
 unfold mcB at hm;rw [Bool.and_eq_true] at hm;have k75:ixc 75=((bg true+5:Nat):Int):=by decide +kernel
 have k107:ixc 107=((bg false+5:Nat):Int):=by decide +kernel
 have k82:ixc 82=((bg true+3:Nat):Int):=by decide +kernel
 have k114:ixc 114=((bg false+3:Nat):Int):=by decide +kernel
 have:i=0\/i=1\/i=2\/i=3:=by omega
 subst hw;rcases this with rfl|rfl|rfl|rfl
 ·exact ⟨hi,rfl,by rw [show z (hK 0)=75 from (hC.c0 hf).1];exact k75,by rw [show z (hR 0)=82 from (hC.c0 hf).2];exact k82,hm.1,hm.2⟩
 ·exact ⟨hi,rfl,by rw [show z (hK 1)=75 from (hC.c1 hf).1];exact k75,by rw [show z (hR 1)=82 from (hC.c1 hf).2];exact k82,hm.1,hm.2⟩
 ·exact ⟨hi,rfl,by rw [show z (hK 2)=107 from (hC.c2 hf).1];exact k107,by rw [show z (hR 2)=114 from (hC.c2 hf).2];exact k114,hm.1,hm.2⟩
 ·exact ⟨hi,rfl,by rw [show z (hK 3)=107 from (hC.c3 hf).1];exact k107,by rw [show z (hR 3)=114 from (hC.c3 hf).2];exact k114,hm.1,hm.2⟩
theorem Cas.dot {z:Nat->UInt8} {wh:Bool} {i:Nat} (h:Cas z wh i) {n:Nat} (hn:((List.range (hN i)).any fun j=>decide (sqK (hK i) (hD i) (j+1)=n))=true):z n=46:=by
 obtain ⟨j,hj,e⟩:=List.any_eq_true.1 hn;rw [decide_eq_true_eq] at e;have:=h.e;unfold mcE at this;have:=List.all_eq_true.1 this j hj;rw [e] at this;simpa using this
theorem zu (b:Bool):coc 46≠sdb b:=by
 have:coc 46=0:=by decide +kernel
 rw [this];cases b<;>decide
theorem Cas.none {z:Nat->UInt8} {wh:Bool} {i:Nat} (h:Cas z wh i) {n:Nat} (hn:n<64) (hr:n/8=casT i/8) (hp:past i n=false):coc (z n)≠sdb (!wh):=by
 have:=cas_line i h.hi n hn hr hp;rw [Bool.or_eq_true,Bool.or_eq_true,decide_eq_true_eq,decide_eq_true_eq] at this;rcases this with (rfl|rfl)|e
 ·rw [xk (by omega) h.k];exact qz9 wh
 ·rw [xk (by omega) h.r];exact qz9 wh
 ·rw [h.dot e];exact zu _
theorem cas_sets {z:Nat->UInt8} {wh:Bool} {fc:Nat->Bool} {b:Int} (hC:Can z wh fc b) (h0:-1<=b) (h1:b<=63) {i:Nat} (h:Cas z wh i):legalB (layS z 64) wh (behB b) 5 (hK i) (casT i)=true:=by
 obtain ⟨f1,f2,f3,f4,f5,f6,f7,f8,f9,f10,f11,f12,f13,f14,f15,f16,f17⟩:=js i h.hi;have zt:z (casT i)=46:=h.dot (cas_in i h.hi).1;have htr:trn (z (hK i)) 0=z (hK i):=by unfold trn;rw [if_pos rfl]
 have hP:Plain z wh b 5 (hK i) (casT i) 0 (casT i):=⟨by omega,f1,f2,h.k,by rw [zt];exact zu _,fun _=>rfl,fun e=>by omega,⟨5,by omega,by rw [htr];exact h.k,Iff.rfl⟩⟩
 let Z:Nat->UInt8:=fun n=>if n=casT i then z (hK i) else if n=hK i then 46 else z n
 have hZ:Beh z (hK i) (casT i) 0 (casT i) Z:=fun n=>by
  show (if n=casT i then z (hK i) else if n=hK i then 46 else z n)=_;rw [htr];by_cases c:n=casT i
  ·rw [if_pos c,if_pos c]
  ·rw [if_neg c,if_neg c,if_neg c]
 obtain ⟨hok,y,hy,hR,e⟩:=legal_is hP hZ hC.ok (hC.k1 wh) h0 h1;have hk1:=kin_after hP hZ (hC.k1 wh) h0 h1;obtain ⟨y',hy',hs,hR'⟩:=jz hk1
 have hyt:y=casT i:=by
  have:casT i∈sqs (layS Z 64 (bg wh+5)):=by
   unfold sqs;rw [List.mem_filter,List.mem_range,lay64 _ _ _ f2];refine ⟨f2,decide_eq_true ?_⟩;show ixc (if casT i=casT i then z (hK i) else _)=_;rw [if_pos rfl];exact h.k
  rw [hs,List.mem_singleton] at this;omega
 rw [e,hyt,xc hok f2]
 have:attR Z ((casT i:Nat):Int) (!wh)=false:=by
  refine cas_safe hC.ok h.hi h.a (fun n hn hr=>?_) (fun n hn hr hp=>?_) (fun n hn hr hp=>?_)
  ·show (if n=casT i then z (hK i) else if n=hK i then 46 else z n)=_;rw [if_neg (fun e=>hr (by rw [e])),if_neg (fun e=>hr (by rw [e,f5]))]
  ·show (if n=casT i then z (hK i) else if n=hK i then 46 else z n)=_;rw [if_neg (fun e=>by rw [e,f7] at hp;cases hp),if_neg (fun e=>by rw [e,f6] at hp;cases hp)]
  ·show coc (if n=casT i then z (hK i) else if n=hK i then 46 else z n)≠_;split
   ·rw [xk (by omega) h.k];exact qz9 wh
   ·split
    ·exact zu _
    ·exact h.none hn hr hp
 rw [this];rfl
theorem cas_letters {z:Nat->UInt8} {wh:Bool} {fc:Nat->Bool} {b:Int} (hC:Can z wh fc b) {i:Nat} (h:Cas z wh i):kingR (plZ z b (hK i,casT i,0)) wh=((casT i:Nat):Int)/\letP z wh b (hK i,casT i,0)=true:=by
 obtain ⟨f1,f2,f3,f4,f5,f6,f7,f8,f9,f10,f11,f12,f13,f14,f15,f16,f17⟩:=js i h.hi;obtain ⟨hp,hk⟩:=jo (i:=5) (by omega) h.k;have hp:pawnB (z (hK i))=false:=by rw [hp];rfl
 have hk:kingB (z (hK i))=true:=by rw [hk];rfl
 have hat:=qzh (b:=b) h.hi hp hk;have zt:z (casT i)=46:=h.dot (cas_in i h.hi).1;generalize hZ:plZ z b (hK i,casT i,0)=Z at hat;have hT:Z (casT i)=z (hK i):=by rw [hat,if_neg (fun e=>f15 e.symm),if_neg (fun e=>f16 e.symm),if_pos rfl]
 have hoff:∀ n,n≠hR i->n≠rN i->n≠casT i->n≠hK i->Z n=z n:=fun n a1 a2 a3 a4=>by rw [hat,if_neg a1,if_neg a2,if_neg a3,if_neg a4]
 have hok:layOk Z=true:=by
  refine zp fun n hn=>?_
  rw [hat];split
  ·rfl
  ·split
   ·exact xw hC.ok f3
   ·split
    ·exact xw hC.ok f1
    ·split
     ·rfl
     ·exact xw hC.ok hn
 have hR:kingR Z wh=((casT i:Nat):Int):=by
  refine kingR_at (fun j hj=>?_) ?_ f2
  ·rw [king_ix,decide_eq_false_iff_not,hat];split
   ·rw [dot_ix];omega
   ·split
    ·rw [h.r];omega
    ·split
     ·omega
     ·split
      ·rw [dot_ix];omega
      ·rename_i e;intro k;exact e (qqr (hC.k1 wh) (by omega) f1 k h.k)
  ·rw [king_ix,hT,h.k];simp
 have hsafe:attR Z ((casT i:Nat):Int) (!wh)=false:=by
  refine cas_safe hC.ok h.hi h.a (fun n hn hr=>?_) (fun n hn hr hp=>?_) (fun n hn hr hp=>?_)
  ·exact hoff n (fun e=>hr (by rw [e,f10,f5])) (fun e=>hr (by rw [e,f11,f5])) (fun e=>hr (by rw [e])) (fun e=>hr (by rw [e,f5]))
  ·exact hoff n (fun e=>by rw [e,f8] at hp;cases hp) (fun e=>by rw [e,f9] at hp;cases hp) (fun e=>by rw [e,f7] at hp;cases hp) (fun e=>by rw [e,f6] at hp;cases hp)
  ·rw [hat];split
   ·exact zu _
   ·split
    ·rw [xk (by omega) h.r];exact qz9 wh
    ·split
     ·rw [xk (by omega) h.k];exact qz9 wh
     ·split
      ·exact zu _
      ·exact h.none hn hr hp
 refine ⟨hR,?_⟩;unfold letP;rw [hZ,hR];show (!(attLB Z (casT i) (!wh)))=true;rw [xc hok f2,hsafe];rfl
theorem tr_all:∀ wh:Bool,∀ u∈[(0,0),(113,4),(114,3),(98,2),(110,1)],ixc (trn (letr (bg wh)) (UInt8.ofNat u.1))=((bg wh+u.2:Nat):Int):=by decide +kernel
theorem qji:∀ f,f<64->∀ t,t<64->attI (fun _=>46) 5 1 ((f:Nat):Int) ((t:Nat):Int)=true->t≠f+2/\t+2≠f:=by decide +kernel
theorem pawn_step {f:Nat->Int} {s x y:Int} (h:attI f 0 s x y=true):y/8-x/8=s:=by
 unfold attI at h;rw [if_pos rfl,Bool.and_eq_true,beq_iff_eq,beq_iff_eq] at h;exact h.2
theorem qxz {p:Bool} {f t:Nat} {x:Mv} (h:x∈turnsB p f t):∃ u,x=(f,t,u)/\(p=false->u=0)/\(u=0\/u=113\/u=114\/u=98\/u=110):=by
 unfold turnsB at h;split at h
 ·rename_i hp;rw [Bool.and_eq_true] at hp;simp only [List.mem_cons,List.not_mem_nil,or_false] at h;rcases h with rfl|rfl|rfl|rfl
  ·exact ⟨113,rfl,(fun e=>by rw [hp.1] at e;cases e),by simp⟩
  ·exact ⟨114,rfl,(fun e=>by rw [hp.1] at e;cases e),by simp⟩
  ·exact ⟨98,rfl,(fun e=>by rw [hp.1] at e;cases e),by simp⟩
  ·exact ⟨110,rfl,(fun e=>by rw [hp.1] at e;cases e),by simp⟩
 ·rw [List.mem_singleton.1 h];exact ⟨0,rfl,fun _=>rfl,.inl rfl⟩
theorem tr_of {z:Nat->UInt8} {wh:Bool} {i f:Nat} {u:UInt8} (hi:i<6) (hc:ixc (z f)=((bg wh+i:Nat):Int)) (h0:i≠0->u=0) (hu:u=0\/u=113\/u=114\/u=98\/u=110):∃ q,q<6/\ixc (trn (z f) u)=((bg wh+q:Nat):Int)/\(q=5↔i=5):=by
 by_cases e:i=0
 ·subst e;have hz:=zc (by cases wh<;>decide) hc
  rw [hz,Nat.add_zero];rcases hu with rfl|rfl|rfl|rfl|rfl
  ·exact ⟨0,by omega,tr_all wh (0,0) (by simp),by omega⟩
  ·exact ⟨4,by omega,tr_all wh (113,4) (by simp),by omega⟩
  ·exact ⟨3,by omega,tr_all wh (114,3) (by simp),by omega⟩
  ·exact ⟨2,by omega,tr_all wh (98,2) (by simp),by omega⟩
  ·exact ⟨1,by omega,tr_all wh (110,1) (by simp),by omega⟩
 ·rw [h0 e];exact ⟨i,hi,by unfold trn;rw [if_pos rfl];exact hc,Iff.rfl⟩
theorem beh_w {z:Nat->UInt8} {wh:Bool} {b:Int} (h:behOk z wh b=true) {t:Nat} (ht:(t:Int)=b):z t=46/\(if wh then 40<=t/\t<48/\z (t-8)=112 else 16<=t/\t<24/\z (t+8)=80):=by
 unfold behOk at h;rw [Bool.or_eq_true,decide_eq_true_eq] at h;rcases h with h|h
 ·omega
 ·cases wh
  ·simp only [Bool.false_eq_true,if_false,Bool.and_eq_true,decide_eq_true_eq] at h ⊢;obtain ⟨⟨⟨⟨a,b1⟩,c⟩,_⟩,d⟩:=h;subst ht;rw [Int.toNat_natCast] at c;rw [show ((t:Int)+8).toNat=t+8 from by omega] at d;exact ⟨u8_of c rfl,by omega,by omega,u8_of d rfl⟩
  ·simp only [if_true,Bool.and_eq_true,decide_eq_true_eq] at h ⊢;obtain ⟨⟨⟨⟨a,b1⟩,c⟩,_⟩,d⟩:=h;subst ht;rw [Int.toNat_natCast] at c;rw [show ((t:Int)-8).toNat=t-8 from by omega] at d;exact ⟨u8_of c rfl,by omega,by omega,u8_of d rfl⟩
theorem qzv:ixc 112=((bg false:Nat):Int)/\ixc 80=((bg true:Nat):Int):=by decide +kernel
theorem ah_not {z:Nat->UInt8} {wh:Bool} {b:Int} (h:behOk z wh b=true) {f t:Nat} (_hf:f<64) (hc:ixc (z f)=((bg wh:Nat):Int)) (ha:AhP z wh f t) (_hr:¬ (f/8=0\/f/8=7)):(t:Int)≠b:=by
 intro ht;obtain ⟨_,h2⟩:=beh_w h ht;cases wh
 ·simp only [Bool.false_eq_true,if_false] at h2;rcases ha with ⟨e,_⟩|⟨hs,e,_⟩
  ·have e:t=f-8:=e;have:t+8=f:=by omega
   rw [this] at h2;rw [h2.2.2,qzv.2] at hc;exact absurd hc (by decide)
  ·have e:t=f-16:=e;have hs:f/8=6:=by simpa [startR] using hs
   omega
 ·simp only [if_true] at h2;rcases ha with ⟨e,_⟩|⟨hs,e,_⟩
  ·have e:t=f+8:=e;have:t-8=f:=by omega
   rw [this] at h2;rw [h2.2.2,qzv.1] at hc;exact absurd hc (by decide)
  ·have e:t=f+16:=e;have hs:f/8=1:=by simpa [startR] using hs
   omega
def csN (wh:Bool) (b:Int) (i t:Nat):Nat:=if i=0/\(t:Int)=b then (if wh then t-8 else t+8) else t
theorem classify {z:Nat->UInt8} {wh:Bool} {fc:Nat->Bool} {b:Int} (hC:Can z wh fc b) {i f t:Nat} {u:UInt8} (hi:i<6) (hf:f<64) (ht:t<64) (hc:ixc (z f)=((bg wh+i:Nat):Int)) (hm:t∈tgL z wh fc b f) (hu:(f,t,u)∈turnsB (decide (i=0)) f t) :
  (Plain z wh b i f t u (csN wh b i t)/\(i=5->t≠f+2/\t+2≠f))\/(∃ ci,Cas z wh ci/\f=hK ci/\t=casT ci/\u=0/\i=5):=by
 obtain ⟨u',e,u0,u1⟩:=qxz hu;have:u=u':=by injection e with _ e;injection e
 subst this;have htr:=tr_of hi hc (fun h=>u0 (decide_eq_false h)) u1;obtain ⟨hp,hk⟩:=jo hi hc;have hokt:=xw hC.ok ht;have nep:¬ (i=0/\(t:Int)=b)->csN wh b i t=t:=fun h=>by unfold csN;rw [if_neg h]
 have eph:(t:Int)/8-(f:Int)/8=sdb wh->i=0->(t:Int)=b->z t=46/\csN wh b i t<64/\csN wh b i t=f/8*8+t%8/\(if wh then csN wh b i t+8=t else csN wh b i t=t+8)/\ixc (z (csN wh b i t))=((bg (!wh):Nat):Int):=fun hd h0 hb=>by
  obtain ⟨z0,h2⟩:=beh_w hC.beh hb;unfold csN;rw [if_pos ⟨h0,hb⟩];cases wh
  ·simp only [Bool.false_eq_true,if_false,sdb] at h2 hd ⊢;exact ⟨z0,by omega,by omega,trivial,by rw [h2.2.2];exact qzv.2⟩
  ·simp only [if_true,sdb] at h2 hd ⊢;exact ⟨z0,by omega,by omega,by omega,by rw [h2.2.2];exact qzv.1⟩
 unfold tgL at hm;rw [List.mem_append,List.mem_filter] at hm;rcases hm with ⟨hm,hmay⟩|hm
 ·left;rw [qqh hf hi hc ht] at hm
  have hno:coc (z t)≠sdb wh:=by
   unfold mayB at hmay;rw [hp] at hmay;by_cases e0:i=0
   ·rw [decide_eq_true e0,if_pos rfl,Bool.or_eq_true,beq_iff_eq] at hmay;rcases hmay with hb|hb
    ·rw [(beh_w hC.beh hb).1];exact zu _
    ·rw [zn hokt,decide_eq_true_eq] at hb;rw [hb];exact fun k=>qz9 wh k.symm
   ·rw [decide_eq_false e0,if_neg (by simp),Bool.not_eq_true',zn hokt,decide_eq_false_iff_not] at hmay;exact hmay
  refine ⟨⟨hi,hf,ht,hc,hno,nep,fun h0 hb=>?_,htr⟩,fun h5=>?_⟩
  ·subst h0;exact eph (pawn_step hm) rfl hb
  ·subst h5;have:=(qq4 hm).1;rw [jv _ 5 (by omega) _ 1] at this;exact qji f hf t ht this
 ·rw [hp,hk] at hm;by_cases e0:i=0
  ·left;have hr:=hC.pw wh f hf (by rw [hc,e0];rfl);rw [decide_eq_true e0,if_pos rfl,qjs hf hr] at hm;have hne:=ah_not hC.beh hf (by rw [hc,e0];rfl) hm hr
   have hz:z t=46:=by
    rcases hm with ⟨e1,e2⟩|⟨_,e1,_,e2⟩
    ·rw [e1];exact e2
    ·rw [e1];exact e2
   exact ⟨⟨hi,hf,ht,hc,by rw [hz];exact zu _,nep,fun _ hb=>absurd hb hne,htr⟩,fun h5=>by omega⟩
  ·rw [decide_eq_false e0,if_neg (by simp)] at hm;by_cases e5:i=5
   ·right;subst e5;rw [decide_eq_true rfl,if_pos rfl] at hm;obtain ⟨h1,h2⟩:=jr hC hf hc;have hu0:=u0 (decide_eq_false e0);rcases List.mem_append.1 hm with hm|hm
    ·unfold cgR at hm;split at hm
     ·rename_i hh;rw [Bool.and_eq_true] at hh;have hfe:=h1 hh.1;have e:hK (cgF wh)+2=casT (cgF wh)/\hD (cgF wh)=1/\hN (cgF wh)=2:=by cases wh<;>decide
      refine ⟨cgF wh,cas_of hC (by cases wh<;>decide) (by cases wh<;>rfl) hh.1 ?_,hfe,?_,hu0,rfl⟩
      ·rw [e.2.1,e.2.2,<-hfe];exact hh.2
      ·rw [List.mem_singleton.1 hm,<-e.1,<-hfe]
     ·cases hm
    ·unfold cgM at hm;split at hm
     ·rename_i hh;rw [Bool.and_eq_true] at hh;have hfe:=h2 hh.1;have e:hK (cgF wh+1)-2=casT (cgF wh+1)/\hD (cgF wh+1)=-1/\hN (cgF wh+1)=3:=by cases wh<;>decide
      refine ⟨cgF wh+1,cas_of hC (by cases wh<;>decide) (by cases wh<;>rfl) hh.1 ?_,hfe,?_,hu0,rfl⟩
      ·rw [e.2.1,e.2.2,<-hfe];exact hh.2
      ·rw [List.mem_singleton.1 hm,<-e.1,<-hfe]
     ·cases hm
   ·rw [decide_eq_false e5,if_neg (by simp)] at hm;cases hm
theorem qqc {s:BitVec 64} {n:Nat}:n∈sqs s↔n<64/\s.getLsbD n=true:=by
 unfold sqs;rw [List.mem_filter,List.mem_range]
theorem qqi {z:Nat->UInt8} {wh:Bool} {fc:Nat->Bool} {b:Int} (hC:Can z wh fc b) {x:Mv}:x∈alU z wh fc b 64↔∃ i f t u,x=(f,t,u)/\i<6/\f<64/\t<64/\ixc (z f)=((bg wh+i:Nat):Int)/\t∈tgL z wh fc b f/\(f,t,u)∈turnsB (decide (i=0)) f t:=by
 unfold alU alS;rw [List.mem_flatMap];constructor
 ·rintro ⟨f,hf,h⟩;have hf:=List.mem_range.1 hf;split at h
  ·rename_i hm;rw [zn (xw hC.ok hf),decide_eq_true_eq] at hm;obtain ⟨i,hi,e1,_⟩:=zd hm;obtain ⟨t,ht,h⟩:=List.mem_flatMap.1 h;unfold alF at h;rw [(jo hi e1).1] at h;obtain ⟨u,rfl,_,_⟩:=qxz h
   have ht64:t<64:=by
    unfold tgL at ht;rw [List.mem_append,List.mem_filter] at ht;rcases ht with ⟨a,_⟩|ht
    ·exact att_lt hf a
    ·obtain ⟨hp,hk⟩:=jo hi e1;rw [hp,hk] at ht;by_cases e0:i=0
     ·rw [decide_eq_true e0,if_pos rfl,qjs hf (hC.pw wh f hf (by rw [e1,e0];rfl))] at ht;have hr:=hC.pw wh f hf (by rw [e1,e0];rfl);rcases ht with ⟨a,_⟩|⟨a,c,_⟩
      ·rw [a];unfold fw;split<;>omega
      ·rw [c];unfold startR at a;unfold fw;cases wh<;>simp at a<;>simp<;>omega
     ·rw [decide_eq_false e0,if_neg (by simp)] at ht;by_cases e5:i=5
      ·subst e5;rw [decide_eq_true rfl,if_pos rfl] at ht;obtain ⟨h1,h2⟩:=jr hC hf e1;rcases List.mem_append.1 ht with ht|ht
       ·unfold cgR at ht;split at ht
        ·rename_i hh;rw [Bool.and_eq_true] at hh;rw [List.mem_singleton.1 ht,h1 hh.1];cases wh<;>decide
        ·cases ht
       ·unfold cgM at ht;split at ht
        ·rw [List.mem_singleton.1 ht];omega
        ·cases ht
      ·rw [decide_eq_false e5,if_neg (by simp)] at ht;cases ht
   exact ⟨i,f,t,u,rfl,hi,hf,ht64,e1,ht,h⟩
  ·cases h
 ·rintro ⟨i,f,t,u,rfl,hi,hf,ht,hc,hm,hu⟩;refine ⟨f,List.mem_range.2 hf,?_⟩;rw [if_pos (by rw [zn (xw hC.ok hf)];exact decide_eq_true (xk hi hc))];refine List.mem_flatMap.2 ⟨t,hm,?_⟩;unfold alF;rw [(jo hi hc).1];exact hu
theorem jp {z:Nat->UInt8} {wh:Bool} {fc:Nat->Bool} {b:Int} (hC:Can z wh fc b) (h0:-1<=b) (h1:b<=63) {i f t:Nat} {u:UInt8} (hi:i<6) (hf:f<64) (ht:t<64) (hc:ixc (z f)=((bg wh+i:Nat):Int)) (hm:t∈tgL z wh fc b f) (hu:(f,t,u)∈turnsB (decide (i=0)) f t) :
  (∃ y:Nat,y<64/\kingR (plZ z b (f,t,u)) wh=(y:Int))/\legalB (layS z 64) wh (behB b) i f t=letP z wh b (f,t,u):=by
 rcases classify hC hi hf ht hc hm hu with ⟨hP,kg⟩|⟨ci,hK',e1,e2,e3,e4⟩
 ·exact legal_plain hP kg hC.ok (hC.k1 wh) h0 h1
 ·subst e1 e2 e3 e4;obtain ⟨a1,a2⟩:=cas_letters hC (b:=b) hK';exact ⟨⟨casT ci,ht,a1⟩,by rw [a2,cas_sets hC h0 h1 hK']⟩
theorem zx {z:Nat->UInt8} {wh:Bool} {fc:Nat->Bool} {b:Int} (hC:Can z wh fc b) (h0:-1<=b) (h1:b<=63):LetOk z wh fc b:=by
 have king:∀ f t u,(f,t,u)∈alU z wh fc b 64->kingB (z f)=true->(t=f+2\/t+2=f)->f=4\/f=60:=fun f t u hx hk he=>by
  obtain ⟨i,f',t',u',e,hi,hf,ht,hc,hm,hu⟩:=(qqi hC).1 hx;have e1:f=f':=by injection e
  have e2:t=t':=by injection e with _ e;injection e
  have e3:u=u':=by injection e with _ e;injection e
  subst e1 e2 e3;rcases classify hC hi hf ht hc hm hu with ⟨hP,kg⟩|⟨ci,hK',e1,_,_,_⟩
  ·rw [(jo hi hc).2,decide_eq_true_eq] at hk;have:=kg hk;omega
  ·rw [e1];unfold hK;split<;>omega
 refine ⟨fun f hf hm hk hfc=>?_,fun f t u hx hk he=>?_,fun f t u hx hk he=>?_,fun x hx=>?_⟩
 ·rw [zn (xw hC.ok hf),decide_eq_true_eq] at hm;obtain ⟨i,hi,e1,_⟩:=zd hm;rw [(jo hi e1).2,decide_eq_true_eq] at hk;subst hk;obtain ⟨h1,h2⟩:=jr hC hf e1;rw [Bool.or_eq_true] at hfc;rcases hfc with e|e
  ·rw [h1 e];cases wh<;>decide
  ·rw [h2 e];cases wh<;>decide
 ·have:=king f t u hx hk (.inl he);omega
 ·have:=king f t u hx hk (.inr he);omega
 ·obtain ⟨i,f,t,u,rfl,hi,hf,ht,hc,hm,hu⟩:=(qqi hC).1 hx;exact (jp hC h0 h1 hi hf ht hc hm hu).1
theorem jg {z:Nat->UInt8} {wh:Bool} {fc:Nat->Bool} {b:Int} (hC:Can z wh fc b) (h0:-1<=b) (h1:b<=63) (x:Mv):x∈letL z wh fc b↔x∈movS z wh fc b:=by
 have hbg:=jt wh;unfold letL movS uptoS placeS fromS toS;rw [List.mem_filter,qqi hC];simp only [List.mem_flatMap,List.mem_range,qqc];constructor
 ·rintro ⟨⟨i,f,t,u,rfl,hi,hf,ht,hc,hm,hu⟩,hl⟩;refine ⟨i,hi,f,⟨hf,by rw [lay64 z _ f hf];exact decide_eq_true hc⟩,t,⟨ht,(targ_same hC h0 h1 hi hf ht hc).1 hm⟩,?_⟩;rw [(jp hC h0 h1 hi hf ht hc hm hu).2,if_pos hl];exact hu
 ·rintro ⟨i,hi,f,⟨hf,hfb⟩,t,⟨ht,htb⟩,hx⟩;rw [lay64 z _ f hf,decide_eq_true_eq] at hfb;have hm:=(targ_same hC h0 h1 hi hf ht hfb).2 htb;split at hx
  ·rename_i hl;obtain ⟨u,rfl,_,_⟩:=qxz hx;refine ⟨⟨i,f,t,u,rfl,hi,hf,ht,hfb,hm,hx⟩,?_⟩;rw [<-(jp hC h0 h1 hi hf ht hfb hm hx).2];exact hl
  ·cases hx
theorem qzo {α β:Type} {A B:α->List β}:∀ l:List α,(∀ k∈l,(A k).Sublist (B k))->(l.flatMap A).Sublist (l.flatMap B)
 | [],_=>by simp
 | a :: r,h=>by
   rw [List.flatMap_cons,List.flatMap_cons];exact List.Sublist.append (h a (List.mem_cons_self ..)) (qzo r fun k hk=>h k (List.mem_cons_of_mem _ hk))
theorem up_sub (z:Nat->UInt8):∀ l:List Nat,(upT z l).Sublist l
 | []=>by simp [upT]
 | a :: r=>by
   unfold upT;split
   ·exact List.Sublist.cons_cons a (up_sub z r)
   ·exact List.Sublist.cons_cons a (List.nil_sublist r)
theorem far_nodup:∀ x,x<64->((List.range 16).flatMap fun k=>if k<8 then rr k x else []).Nodup:=by decide +kernel
theorem near_nodup:∀ x,x<64->((List.range 16).flatMap fun k=>if onB x (stN k) then [nx x (stN k)] else []).Nodup:=by decide +kernel
theorem attU_nodup {z:Nat->UInt8} {f:Nat} (hf:f<64) {bw:Bool} {i:Nat} (hi:i<6) (hc:ixc (z f)=((bg bw+i:Nat):Int)):(attU z f 16).Nodup:=by
 have hbg:bg bw=0\/bg bw=6:=by cases bw<;>simp [bg]
 have hp:bg bw+i<12:=by omega
 have hz:=zc hp hc;have hm:(bg bw+i)%6=i:=by omega
 have hF:=far_is (bg bw+i) hp;rw [hm] at hF;unfold attU;cases hfar:isFar i with
 | true =>
  have hG:=qxr (bg bw+i) hp (by rw [hm];exact hfar);refine List.Nodup.sublist (qzo _ fun k hk=>?_) (far_nodup f hf);have hk:=List.mem_range.1 hk;unfold attS;rw [hz,(hG k hk).1,hF,hfar,if_pos rfl];by_cases h8:k<8
  ·rw [if_pos h8];split
   ·unfold wkL;rw [wk_up];exact up_sub z _
   ·exact List.nil_sublist _
  ·rw [if_neg (by simp [h8]),if_neg h8];exact List.nil_sublist _
 | false =>
  refine List.Nodup.sublist (qzo _ fun k hk=>?_) (near_nodup f hf);unfold attS;rw [hz,hF,hfar,wk_take];split
  ·rw [if_neg (by simp)];exact List.Sublist.refl _
  ·exact List.nil_sublist _
theorem rr_nodup:∀ x,x<64->(rr 0 x).Nodup/\(rr 4 x).Nodup:=by decide +kernel
theorem pawn_file {f:Nat->Int} {s x y:Int} (h:attI f 0 s x y=true):y%8≠x%8:=by
 unfold attI at h;rw [if_pos rfl,Bool.and_eq_true,beq_iff_eq,beq_iff_eq] at h;intro e;rw [e] at h;have:=h.1;unfold ab at this;split at this<;>omega
theorem tgL_nodup {z:Nat->UInt8} {wh:Bool} {fc:Nat->Bool} {b:Int} (hC:Can z wh fc b) {f:Nat} (hf:f<64) {i:Nat} (hi:i<6) (hc:ixc (z f)=((bg wh+i:Nat):Int)):(tgL z wh fc b f).Nodup:=by
 obtain ⟨hp,hk⟩:=jo hi hc;have hA:=attU_nodup hf hi hc;unfold tgL;rw [hp,hk,List.nodup_append];refine ⟨List.Pairwise.filter _ hA,?_,?_⟩
 ·by_cases e0:i=0
  ·rw [decide_eq_true e0,if_pos rfl];unfold ahT;refine List.Nodup.sublist ((List.takeWhile_sublist _).trans (List.take_sublist _ _)) ?_;unfold wkL;rw [wk_up];refine List.Nodup.sublist (up_sub z _) ?_;cases wh
   ·exact (rr_nodup f hf).2
   ·exact (rr_nodup f hf).1
  ·rw [decide_eq_false e0,if_neg (by simp)];by_cases e5:i=5
   ·rw [decide_eq_true e5,if_pos rfl,List.nodup_append];refine ⟨by unfold cgR;split<;>simp,by unfold cgM;split<;>simp,fun a ha c hc e=>?_⟩
    unfold cgR at ha;unfold cgM at hc;split at ha
    ·split at hc
     ·simp at ha hc;omega
     ·cases hc
    ·cases ha
   ·rw [decide_eq_false e5,if_neg (by simp)];exact List.nodup_nil
 ·intro a ha c hc' e;subst e;have ha:=(List.mem_filter.1 ha).1;have ha64:=att_lt hf ha;rw [qqh hf hi hc ha64] at ha;by_cases e0:i=0
  ·subst e0;have hr:=hC.pw wh f hf hc;rw [decide_eq_true rfl,if_pos rfl,qjs hf hr] at hc';have h1:=pawn_file ha;rcases hc' with ⟨e,_⟩|⟨hs,e,_⟩
   ·unfold fw at e;cases wh<;>simp at e<;>omega
   ·unfold fw at e;unfold startR at hs;cases wh<;>simp at e hs<;>omega
  ·rw [decide_eq_false e0,if_neg (by simp)] at hc';by_cases e5:i=5
   ·subst e5;rw [decide_eq_true rfl,if_pos rfl] at hc';have:=(qq4 ha).1;rw [jv _ 5 (by omega) _ 1] at this;have hk2:=qji f hf a ha64 this;obtain ⟨h1,h2⟩:=jr hC hf hc;rcases List.mem_append.1 hc' with h|h
    ·unfold cgR at h;split at h
     ·simp at h;omega
     ·cases h
    ·unfold cgM at h;split at h
     ·rename_i hh;rw [Bool.and_eq_true] at hh;have hfe:=h2 hh.1;have:2<=f:=by rw [hfe];cases wh<;>decide
      simp at h;omega
     ·cases h
   ·rw [decide_eq_false e5,if_neg (by simp)] at hc';cases hc'
theorem qxy (p:Bool) (f t:Nat):(turnsB p f t).Nodup:=by
 unfold turnsB;split
 ·simp
 ·simp
theorem zv {p:Bool} {f t:Nat} {x:Mv} (h:x∈turnsB p f t):x.1=f/\x.2.1=t:=by
 obtain ⟨u,rfl,_⟩:=qxz h;exact ⟨rfl,rfl⟩
theorem qzb {z:Nat->UInt8} {wh:Bool} {fc:Nat->Bool} {b:Int} (hC:Can z wh fc b):(letL z wh fc b).Nodup:=by
 unfold letL;refine List.Pairwise.filter _ ?_;unfold alU;rw [List.pairwise_flatMap];constructor
 ·intro f hf;have hf:=List.mem_range.1 hf;unfold alS;split
  ·rename_i hm;rw [zn (xw hC.ok hf),decide_eq_true_eq] at hm;obtain ⟨i,hi,e1,_⟩:=zd hm;rw [List.pairwise_flatMap];refine ⟨fun t _=>qxy _ _ _,(tgL_nodup hC hf hi e1).imp fun {a c} hne x hx y hy e=>?_⟩;subst e;exact hne ((zv hx).2.symm.trans (zv hy).2)
  ·exact List.Pairwise.nil
 ·refine (List.nodup_range (n:=64)).imp fun {a c} hne x hx y hy e=>?_
  subst e
  have key:∀ f,x∈alS z wh fc b f->x.1=f:=fun f h=>by
   unfold alS at h;split at h
   ·obtain ⟨t,_,h⟩:=List.mem_flatMap.1 h;exact (zv h).1
   ·cases h
  exact hne ((key a hx).symm.trans (key c hy))
theorem sqs_nodup (s:BitVec 64):(sqs s).Nodup:=List.Pairwise.filter _ (List.nodup_range (n:=64))
theorem qza (z:Nat->UInt8) (wh:Bool) (fc:Nat->Bool) (b:Int):(movS z wh fc b).Nodup:=by
 have kf:∀ (m:Nat->BitVec 64) (own oth beh:BitVec 64) (k f:Nat) (x:Mv),x∈fromS m wh own oth beh fc k f->x.1=f:=fun m own oth beh k f x h=>by
  unfold fromS toS at h;obtain ⟨t,_,h⟩:=List.mem_flatMap.1 h;split at h
  ·exact (zv h).1
  ·cases h
 unfold movS uptoS List.Nodup;rw [List.pairwise_flatMap];constructor
 ·intro k _;unfold placeS;rw [List.pairwise_flatMap];constructor
  ·intro f _;unfold fromS;rw [List.pairwise_flatMap];constructor
   ·intro t _;unfold toS;split
    ·exact qxy _ _ _
    ·exact List.Pairwise.nil
   ·refine (sqs_nodup _).imp fun {a c} hne x hx y hy e=>?_
    subst e;unfold toS at hx hy;split at hx
    ·split at hy
     ·exact hne ((zv hx).2.symm.trans (zv hy).2)
     ·cases hy
    ·cases hx
  ·refine (sqs_nodup _).imp fun {a c} hne x hx y hy e=>?_
   subst e;exact hne ((kf _ _ _ _ _ _ _ hx).symm.trans (kf _ _ _ _ _ _ _ hy))
 ·refine (List.nodup_range (n:=6)).imp fun {a c} hne x hx y hy e=>?_
  subst e;unfold placeS at hx hy;obtain ⟨f,hf,hx⟩:=List.mem_flatMap.1 hx;obtain ⟨g,hg,hy⟩:=List.mem_flatMap.1 hy;have e1:=kf _ _ _ _ _ _ _ hx;have e2:=kf _ _ _ _ _ _ _ hy;rw [qqc] at hf hg;rw [lay64 z _ f hf.1,decide_eq_true_eq] at hf;rw [lay64 z _ g hg.1,decide_eq_true_eq] at hg;rw [<-e2,e1,hf.2] at hg;have:=hg.2;exact hne (by omega)
theorem nmq_inj:∀ f,f<64->∀ g,g<64->nameS f=nameS g->f=g:=by decide +kernel
theorem txtq_inj {x y:Mv} (hx:okM x) (hy:okM y) (h:txt x=txt y):x=y:=by
 obtain ⟨f,t,u⟩:=x;obtain ⟨f',t',u'⟩:=y;unfold txt mvS at h;simp only at h;rw [List.append_assoc,List.append_assoc] at h;obtain ⟨h1,h2⟩:=List.append_inj h rfl;obtain ⟨h2,h3⟩:=List.append_inj h2 rfl;have e1:=nmq_inj f hx.1 f' hy.1 h1;have e2:=nmq_inj t hx.2 t' hy.2 h2
 have e3:u=u':=by
  by_cases a:u=0
  ·by_cases c:u'=0
   ·rw [a,c]
   ·rw [if_pos a,if_neg c] at h3;cases h3
  ·by_cases c:u'=0
   ·rw [if_neg a,if_pos c] at h3;cases h3
   ·rw [if_neg a,if_neg c] at h3;injection h3
 rw [e1,e2,e3]
theorem zr {α:Type} {r:α->α->Prop} (asym:∀ a b,r a b->¬ r b a):∀ (l1 l2:List α),l1.Pairwise r->l2.Pairwise r->(∀ x,x∈l1↔x∈l2)->l1=l2
 | [],[],_,_,_=>rfl
 | [],b :: r2,_,_,h=>absurd ((h b).2 (List.mem_cons_self ..)) (by simp)
 | a :: r1,[],_,_,h=>absurd ((h a).1 (List.mem_cons_self ..)) (by simp)
 | a :: r1,b :: r2,h1,h2,h=>by
   rw [List.pairwise_cons] at h1 h2
   have hab:a=b:=by
    rcases List.mem_cons.1 ((h a).1 (List.mem_cons_self ..)) with e|e
    ·exact e
    ·rcases List.mem_cons.1 ((h b).2 (List.mem_cons_self ..)) with e'|e'
     ·exact e'.symm
     ·exact absurd (h1.1 b e') (asym _ _ (h2.1 a e))
   subst hab;have irr:¬ r a a:=fun k=>asym _ _ k k
   rw [zr asym r1 r2 h1.2 h2.2 fun x=>?_];constructor
   ·intro hx;rcases List.mem_cons.1 ((h x).1 (List.mem_cons_of_mem _ hx)) with e|e
    ·rw [e] at hx;exact absurd (h1.1 a hx) irr
    ·exact e
   ·intro hx;rcases List.mem_cons.1 ((h x).2 (List.mem_cons_of_mem _ hx)) with e|e
    ·rw [e] at hx;exact absurd (h2.1 a hx) irr
    ·exact e
theorem qj4 {xs:List Mv} (hn:xs.Nodup) (hok:∀ x∈xs,okM x):(sortM xs).Pairwise fun x y=>txt x<txt y:=by
 have h1:(sortM xs).Pairwise fun x y=>(!ltM y x)=true:=by
  unfold sortM;refine List.pairwise_mergeSort (fun a b c h1 h2=>?_) (fun a b=>?_) xs
  ·unfold ltM at *;simp only [Bool.not_eq_true',decide_eq_false_iff_not] at *;exact List.not_lt.2 (List.le_trans (List.not_lt.1 h1) (List.not_lt.1 h2))
  ·unfold ltM;rw [Bool.or_eq_true];simp only [Bool.not_eq_true',decide_eq_false_iff_not];rcases List.le_total (txt a) (txt b) with h|h
   ·exact .inl (List.not_lt.2 h)
   ·exact .inr (List.not_lt.2 h)
 have h2:(sortM xs).Nodup:=List.Nodup.perm hn (xn xs).symm;have hok':∀ x∈sortM xs,okM x:=fun x hx=>hok x ((xn xs).mem_iff.1 hx)
 have h3:(sortM xs).Pairwise fun x y=>(!ltM y x)=true/\x≠y:=List.Pairwise.and h1 h2
 refine List.Pairwise.imp_of_mem (fun {a c} ha hc h=>?_) h3;unfold ltM at h;simp only [Bool.not_eq_true',decide_eq_false_iff_not] at h;by_cases hlt:txt a<txt c
 ·exact hlt
 ·exact absurd (txtq_inj (hok' a ha) (hok' c hc) (List.le_antisymm (List.not_lt.1 h.1) (List.not_lt.1 hlt))) h.2
theorem twin {z:Nat->UInt8} {wh:Bool} {fc:Nat->Bool} {b:Int} (hC:Can z wh fc b) (h0:-1<=b) (h1:b<=63):sortM (letL z wh fc b)=sortM (movS z wh fc b)/\(sortM (movS z wh fc b)).Pairwise fun x y=>txt x<txt y:=by
 have hk:=zx hC h0 h1;have r1:=qj4 (qzb hC) (fun x hx=>alU_ok hk.home (List.mem_filter.1 hx).1);have r2:=qj4 (qza z wh fc b) (zb z wh fc b);refine ⟨zr (fun a c h=>List.lt_asymm h) _ _ r1 r2 fun x=>?_,r2⟩;rw [(xn _).mem_iff,(xn _).mem_iff];exact jg hC h0 h1 x
end Go.Proofs.YtnfakamfmkhlbaaGreatDoor.C
