import Derived.Test.YtnfakamfmkhlbabGreatDoorUm25
import Derived.Deep.QuietTactic
import Derived.BigQuiet
import Derived.Test.YtnfakamfmkhlbabGreatDoorKz2
set_option maxRecDepth 100000
set_option maxHeartbeats 4000000
set_option linter.unusedSimpArgs false
namespace Go.Proofs.YtnfakamfmkhlbabGreatDoor.C
open Go.ChangeShapes Go.WideShapes Go.ChangeAt Go.RowKit Go.Proofs.YtnfakamfmkhlbabGreatDoor.P
attribute [local go_sem] qd qe
theorem qxr(z:Nat->UInt8)(b:Bool)(k:Nat):ka z b (k+1)=ka z b k+(if vB (z k)=xK b then 1 else 0):=by
 unfold ka;rw[List.range_succ,List.filter_append,qZ];by_cases h:vB (z k)=xK b
 ·rw[qI h];simp[h]
 ·rw[qF h];simp[h]
theorem qxw(z:Nat->UInt8)(b:Bool)(k:Nat):vZ z b (k+1)=vZ z b k+(if jB (z k)=((bg b+5:Nat):Int)then 1 else 0):=by
 unfold vZ;rw[List.range_succ,List.filter_append,qZ];by_cases h:jB (z k)=((bg b+5:Nat):Int)
 ·rw[qI h];simp only[List.filter_cons,h,decide_true,if_true,List.filter_nil,List.length_cons,List.length_nil]
 ·rw[qF h];simp only[List.filter_cons,h,decide_false,qR,if_false,List.filter_nil,List.length_nil]
theorem cB{f:Nat->Bool}:∀k,((List.range k).filter f).length<=k:=fun k=>by
 have:=List.length_filter_le f (List.range k);simpa using this
theorem t8{z:Nat->UInt8}{k:Nat}(hk:k<64)(h:vf z k=true)(wh:Bool)(f:Nat->Bool)(b h' g:Int):zT z wh f b h' g=false:=by
 have:((List.range 64).all fun n=>!(vf z n))=false:=by
  rw[List.all_eq_false];exact⟨k,qK.2 hk,by rw[h];decide⟩
 unfold zT;rw[this];rfl
def au(z:Nat->UInt8)(k:Nat)(k0 k1 m0 m1:Nat):Prop:=k0=vZ z true k/\k1=vZ z false k/\m0=ka z true k/\m1=ka z false k
theorem au.le{z:Nat->UInt8}{k k0 k1 m0 m1:Nat}(h:au z k k0 k1 m0 m1):k0<=k/\k1<=k/\m0<=k/\m1<=k:=by
 obtain⟨rfl,rfl,rfl,rfl⟩:=h;exact⟨cB k,cB k,cB k,cB k⟩
theorem au.none{z:Nat->UInt8}{k k0 k1 m0 m1:Nat}(h:au z k k0 k1 m0 m1)(e:z k=46):au z (k+1) k0 k1 m0 m1:=by
 obtain⟨rfl,rfl,rfl,rfl⟩:=h;have e1:jB (z k)=-1:=by rw[e];exact uo
 have e2:vB (z k)=0:=by unfold vB;rw[qI (by omega)]
 refine⟨?_,?_,?_,?_⟩
 ·rw[qxw,qF (by omega)];rfl
 ·rw[qxw,qF (by omega)];rfl
 ·rw[qxr,qF (by rw[e2];decide)];rfl
 ·rw[qxr,qF (by rw[e2];decide)];rfl
theorem au.some{z:Nat->UInt8}{k k0 k1 m0 m1:Nat}(h:au z k k0 k1 m0 m1)(b:Bool)(hc:vB (z k)=xK b):au z (k+1) (k0+if b&&decide (vE (z k)=5)then 1 else 0) (k1+if !b&&decide (vE (z k)=5)then 1 else 0) (m0+if b then 1 else 0) (m1+if b then 0 else 1):=by
 obtain⟨rfl,rfl,rfl,rfl⟩:=h;obtain⟨i,hi,e1,e2⟩:=zq hc
 have hk:vE (z k)=(i:Int):=by
  have:=rn (z k);unfold vE at e2 ⊢;have hb:bg b=0\/bg b=6:=by cases b<;>simp[bg]
  split<;>split at e2<;>omega
 have b0:bg true=0:=rfl;have b6:bg false=6:=rfl;refine⟨?_,?_,?_,?_⟩
 ·rw[qxw,e1,hk];cases b
  ·rw[qF (show ¬ (((bg false+i:Nat):Int)=((bg true+5:Nat):Int)) by rw[b0,b6];omega)];rfl
  ·congr 1;by_cases h5:i=5
   ·subst h5;rfl
   ·rw[qF (show ¬ (((bg true+i:Nat):Int)=((bg true+5:Nat):Int)) by omega),qF (show ¬ ((true&&decide ((i:Int)=5))=true) by simp;omega)]
 ·rw[qxw,e1,hk];cases b
  ·congr 1;by_cases h5:i=5
   ·subst h5;rfl
   ·rw[qF (show ¬ (((bg false+i:Nat):Int)=((bg false+5:Nat):Int)) by omega),qF (show ¬ ((!false&&decide ((i:Int)=5))=true) by simp;omega)]
  ·rw[qF (show ¬ (((bg true+i:Nat):Int)=((bg false+5:Nat):Int)) by rw[b0,b6];omega)];rfl
 ·rw[qxr,hc];cases b<;>rfl
 ·rw[qxr,hc];cases b<;>rfl
theorem DW(w:World)(PA a b:Array Value)(t u:TypeId):zJ w.heap.size PA (((w.alloc (.cells PA 70)).alloc (.cells a t)).alloc (.cells b u)) :=
 zJ.gr (w:=w.alloc (.cells PA 70)) (qy (heap_alloc_new _ _)) (((Gr.refl _).alloc _ _).alloc _ _)
theorem AS(w:World)(PA a b:Array Value)(t u:TypeId)(o:Nat)(v:Value)(h:PA[o]?=some v):(((w.alloc (.cells PA 70)).alloc (.cells a t)).alloc (.cells b u)).cell? ⟨w.heap.size,o,none⟩=some v:=by
 rw[World.cell?_alloc_past _ _ _ (by rw[World.size_alloc,World.size_alloc];omega),World.cell?_alloc_past _ _ _ (by rw[World.size_alloc];omega),World.cell?_alloc_at _ _ _ _ rfl];exact h
theorem i7(b:Bool)(j:Int)(w:World)(hj:j=5\/j=3):Calls Tryz.prog 195 #[.int .i64 j,.int .i64 (xK b)] w fun e w'=>e=.returned (.int .u8 (fC b j))/\w'=w:=by
 rcases hj with rfl|rfl
 ·refine(DE b w).mono fun _ _ h=>⟨h.1.trans ?_,h.2⟩
  cases b<;>rfl
 ·refine(DF b w).mono fun _ _ h=>⟨h.1.trans ?_,h.2⟩
  cases b<;>rfl
attribute [local go_sem] i8 lA lB lC
def HH(w1:World)(b:Nat)(PA:Array Value)(w:World):Prop:=zJ b PA w/\Gr w1 w
theorem HH.gr{w1 w w':World}{b:Nat}{PA:Array Value}(h:HH w1 b PA w)(g:Gr w w'):HH w1 b PA w':=⟨h.1.gr g,Gr.trans h.2 g⟩
theorem si{z:Nat->UInt8}{k0 k1 m0 m1:Nat}(hc:au z 64 k0 k1 m0 m1)(h0:k0=1)(h1:k1=1)(b:Bool):∃y:Nat,y<64/\xR z b=(y:Int):=by
 obtain⟨e0,e1,_,_⟩:=hc;have:vZ z b 64=1:=by cases b<;>omega
 obtain⟨y,y1,_,y3⟩:=js this;exact⟨y,y1,y3⟩
theorem FN{z:Nat->UInt8}{wh:Bool}{f:Nat->Bool}{b h g:Int}{PA:Array Value}(r:jE z wh f b h g PA):(PA.toList.take 64).toArray.size=64/\∀i,i<64->(PA.toList.take 64).toArray[i]?=some (.int .u8 ((z i).toNat:Int)):=by
 refine⟨by simp[r.size],fun i hi=>?_⟩;rw[List.getElem?_toArray,List.getElem?_take,qI hi,qO];exact r.sq i hi
theorem DB{ops:Array Oper}{op:Oper}{a:Act}{PA:Array Value}(hz:PA.size=72){S:World->Prop}(hw:Region.wanted op (yielded ops a.tmps)=true)(x:Operand)(ho:op.op=.load 67 x)(b:Nat)(hx:a.eval x=.pointer (some ⟨b,0,none⟩))(hS:∀w,S w->zJ b PA w):YieldsIf Tryz.prog ops S op (.agg (PA.toList.take 64).toArray) a :=
 yieldsIf_load_mid (P:=Tryz.prog) hw 67 x ho b 0 hx (PA.toList.take 64) _ (fun w h=>fun j v hv=>(hS w h).2 j v (by
  rw[List.getElem?_take]at hv;split at hv
  ·exact hv
  ·cases hv)) Tryz.underlying67 rfl (by rw[x7];simp[hz])
theorem Dv{z:Nat->UInt8}{wh:Bool}{f:Nat->Bool}{b h g:Int}{PA:Array Value}(r:jE z wh f b h g PA)(w:World):Calls Tryz.prog 116 #[.agg PA] w fun e w'=>e=.returned (.int .i64 (xK wh))/\Gr w w':=by
 have hc:(w.alloc (.cells PA 70)).cell? ⟨w.heap.size,64,none⟩=some (.bool wh):=by rw[World.cell?_alloc_at _ _ _ _ rfl];exact r.wh
 cases wh
 ·go_enter Tryz.func116,Tryz.ntmps116;go_wp2;go_ret;exact⟨rfl,(Gr.refl w).alloc _ _⟩
 ·go_enter Tryz.func116,Tryz.ntmps116;go_wp2;go_ret;exact⟨rfl,(Gr.refl w).alloc _ _⟩
theorem nJ{z:Nat->UInt8}{k0 k1 m0 m1:Nat}(hc:au z 64 k0 k1 m0 m1)(hb:∀j,j<64->vf z j=false)(wh:Bool)(f:Nat->Bool)(b h g:Int):zT z wh f b h g=(decide (k0=1)&&decide (k1=1)&&decide (m0<=16)&&decide (m1<=16)&&jH z f&&xX z wh b&&!(zM z (xR z (!wh)) wh)&&zP h g):=by
 obtain⟨rfl,rfl,rfl,rfl⟩:=hc
 have:((List.range 64).all fun n=>!(vf z n))=true:=by
  rw[qW];intro j hj;rw[hb j (qK.1 hj)];rfl
 unfold zT;rw[this,Bool.true_and]
theorem tz{z:Nat->UInt8}{wh:Bool}{f:Nat->Bool}{b h g:Int}{PA:Array Value}(r:jE z wh f b h g PA)(w:World):Calls Tryz.prog 114 #[.agg PA] w fun e w'=>e=.returned (.bool (zT z wh f b h g))/\Gr w w':=by
 have hsq:=qC r.sq;have hend0:Hid (∀k,k<64->vf z k=true->zT z wh f b h g=false):=qC fun k hk hb=>t8 hk hb wh f b h g
 have hg3:Hid (∀o1 o2:Array Value,Gr w (((w.alloc (.cells PA 70)).alloc (.cells o1 281)).alloc (.cells o2 281))):=qC fun o1 o2=>(((Gr.refl w).alloc _ _).alloc _ _).alloc _ _
 go_enter Tryz.func114,Tryz.ntmps114;go_wp2;go_loopg [5] 64 (fun g n wr=>∃k:Nat,k+g=64/\n=.int .i64 k/\(∀j,j<k->vf z j=false)/\∃k0 k1 m0 m1:Nat,au z k k0 k1 m0 m1/\wr=((w.alloc (.cells PA 70)).alloc (.cells #[.int .i64 k0,.int .i64 k1] 281)).alloc (.cells #[.int .i64 m0,.int .i64 m1] 281))
 case atStart=>exact⟨0,rfl,rfl,fun j hj=>absurd hj (Nat.not_lt_zero j),0,0,0,0,⟨rfl,rfl,rfl,rfl⟩,rfl⟩
 case round =>
  obtain⟨k,k1',rfl,k3,k0,k1,m0,m1,hcnt,rfl⟩:=hrel;have k3':=qC k3;clear k3;have hle:=hcnt.le;have hcnt':=qC hcnt;clear hcnt;by_cases hlt:k<64
  ·have hcell:=AS w PA #[.int .i64 k0,.int .i64 k1] #[.int .i64 m0,.int .i64 m1] 281 281 k _ (qa hsq k hlt);by_cases hd:z k=46
   ·have hbad:Hid (vf z k=false):=qC (by unfold vf;rw[hd];rfl);have hcnt2:=qC ((qa hcnt').none hd);rw[hd]at hcell;go_wp2;go_roundg (gk-1)
    case measure=>omega
    case rel=>exact⟨k+1,by omega,by go_num,(by
     intro j hj;by_cases hjk:j=k
     ·subst hjk;exact qa hbad
     ·exact qa k3' j (by omega)),k0,k1,m0,m1,qa hcnt2,rfl⟩
   ·have hdI:(((z k).toNat:Int)==46)=false:=by
     rw[qM];intro h;exact hd (q6.1 (by show(z k).toNat=46;omega))
    have hbx:Hid (vf z k=(decide (vE (z k)<0)||(decide (vE (z k)=0)&&(decide (k/8=0)||decide (k/8=7))))):=qC (by
     unfold vf;have:(z k==46)=false:=by simpa using hd
     rw[this];rfl)
    have hcs:vB (z k)=0\/vB (z k)=xK true\/vB (z k)=xK false:=by
     unfold vB;split
     ·exact .inl rfl
     ·split
      ·exact .inr (.inl rfl)
      ·exact .inr (.inr rfl)
    have hc0:vB (z k)=0->vE (z k)<0:=by
     unfold vB vE;intro h;split at h
     ·rw[qF (by omega)];assumption
     ·split at h<;>omega
    have hkb:-1<=vE (z k)/\vE (z k)<=5:=by
     have:=rn (z k);unfold vE;split<;>omega
    have hkd:=qC (zp (z k));have hco:=qC (za (z k));have hct:=qC (fun b hc=>(qa hcnt').some b hc);have hend1:=qC (qa hend0 k hlt);clear hd;generalize vE (z k)=x at hbx hc0 hkb hkd hct;generalize vB (z k)=y at hcs hc0 hco hct;obtain⟨bv,hbv⟩:∃v,Hid (vf z k=v):=⟨_,qC rfl⟩;rw[qa hbv]at hbx hend1;by_cases hx:x<0
    ·have hend:=qC (qa hend1 (by rw[qa hbx,qJ hx];rfl));go_wp2_with(first|(go_at_call 107;refine(qa hkd _).mono ?_;rintro e w' ⟨rfl,hw'⟩;obtain rfl:=hw'.symm)|(go_at_call 115;refine(qa hco _).mono ?_;rintro e w' ⟨rfl,hw'⟩;obtain rfl:=hw'.symm));go_ret;exact⟨by rw[qa hend];rfl,qa hg3 _ _⟩
    ·have hkq:(k:Int)/8=((k/8:Nat):Int):=by omega
     have hq7:k/8<=7:=by omega
     by_cases hx0:x=0
     ·subst hx0;by_cases h8:k/8=0
      ·have hend:=qC (qa hend1 (by rw[qa hbx,h8];rfl));have h8i:(k:Int)/8=0:=by omega
       go_wp2_with(first|(go_at_call 107;refine(qa hkd _).mono ?_;rintro e w' ⟨rfl,hw'⟩;obtain rfl:=hw'.symm)|(go_at_call 115;refine(qa hco _).mono ?_;rintro e w' ⟨rfl,hw'⟩;obtain rfl:=hw'.symm));go_ret;exact⟨by rw[qa hend];rfl,qa hg3 _ _⟩
      ·by_cases h7:k/8=7
       ·have hend:=qC (qa hend1 (by rw[qa hbx,h7];rfl));have h7i:(k:Int)/8=7:=by omega
        go_wp2_with(first|(go_at_call 107;refine(qa hkd _).mono ?_;rintro e w' ⟨rfl,hw'⟩;obtain rfl:=hw'.symm)|(go_at_call 115;refine(qa hco _).mono ?_;rintro e w' ⟨rfl,hw'⟩;obtain rfl:=hw'.symm));go_ret;exact⟨by rw[qa hend];rfl,qa hg3 _ _⟩
       ·have hbad:Hid (bv=false):=qC (by rw[qa hbx,qE h8,qE h7];rfl);obtain⟨q,hq⟩:∃q:Int,(k:Int)/8=q:=⟨_,rfl⟩;have h8i:(q==0)=false:=by rw[qM];omega
        have h7i:(q==7)=false:=by rw[qM];omega
        clear hkq h8 h7 hq7;clear hend1 hbx;rcases hcs with hy|hy|hy
        ·exact absurd (hc0 hy) (by omega)
        ·have hcnt2:Hid (au z (k+1) (k0) (k1) (m0+1) (m1)):=qC (by have:=qa hct true hy;simpa using this);have hyv:y=1:=hy;subst hyv;clear hy hct hc0;go_wp2_with(first|(go_at_call 107;refine(qa hkd _).mono ?_;rintro e w' ⟨rfl,hw'⟩;obtain rfl:=hw'.symm)|(go_at_call 115;refine(qa hco _).mono ?_;rintro e w' ⟨rfl,hw'⟩;obtain rfl:=hw'.symm));go_roundg (gk-1)
         case measure=>omega
         case rel=>exact⟨k+1,by omega,by go_num,(by
          intro j hj;by_cases hjk:j=k
          ·subst hjk;exact(qa hbv).trans (qa hbad)
          ·exact qa k3' j (by omega)),k0,k1,m0+1,m1,qa hcnt2,by simp⟩
        ·have hcnt2:Hid (au z (k+1) (k0) (k1) (m0) (m1+1)):=qC (by have:=qa hct false hy;simpa using this);have hyv:y=-1:=hy;subst hyv;clear hy hct hc0;go_wp2_with(first|(go_at_call 107;refine(qa hkd _).mono ?_;rintro e w' ⟨rfl,hw'⟩;obtain rfl:=hw'.symm)|(go_at_call 115;refine(qa hco _).mono ?_;rintro e w' ⟨rfl,hw'⟩;obtain rfl:=hw'.symm));go_roundg (gk-1)
         case measure=>omega
         case rel=>exact⟨k+1,by omega,by go_num,(by
          intro j hj;by_cases hjk:j=k
          ·subst hjk;exact(qa hbv).trans (qa hbad)
          ·exact qa k3' j (by omega)),k0,k1,m0,m1+1,qa hcnt2,by simp⟩
     ·have hbad:Hid (bv=false):=qC (by rw[qa hbx,qE hx,qE hx0];rfl);have hx0i:(x==0)=false:=by simpa using hx0
      clear hend1 hbx;by_cases hx5:x=5
      ·subst hx5;rcases hcs with hy|hy|hy
       ·exact absurd (hc0 hy) (by omega)
       ·have hcnt2:Hid (au z (k+1) (k0+1) (k1) (m0+1) (m1)):=qC (by have:=qa hct true hy;simpa using this);have hyv:y=1:=hy;subst hyv;clear hy hct hc0;go_wp2_with(first|(go_at_call 107;refine(qa hkd _).mono ?_;rintro e w' ⟨rfl,hw'⟩;obtain rfl:=hw'.symm)|(go_at_call 115;refine(qa hco _).mono ?_;rintro e w' ⟨rfl,hw'⟩;obtain rfl:=hw'.symm));go_roundg (gk-1)
        case measure=>omega
        case rel=>exact⟨k+1,by omega,by go_num,(by
         intro j hj;by_cases hjk:j=k
         ·subst hjk;exact(qa hbv).trans (qa hbad)
         ·exact qa k3' j (by omega)),k0+1,k1,m0+1,m1,qa hcnt2,by simp⟩
       ·have hcnt2:Hid (au z (k+1) (k0) (k1+1) (m0) (m1+1)):=qC (by have:=qa hct false hy;simpa using this);have hyv:y=-1:=hy;subst hyv;clear hy hct hc0;go_wp2_with(first|(go_at_call 107;refine(qa hkd _).mono ?_;rintro e w' ⟨rfl,hw'⟩;obtain rfl:=hw'.symm)|(go_at_call 115;refine(qa hco _).mono ?_;rintro e w' ⟨rfl,hw'⟩;obtain rfl:=hw'.symm));go_roundg (gk-1)
        case measure=>omega
        case rel=>exact⟨k+1,by omega,by go_num,(by
         intro j hj;by_cases hjk:j=k
         ·subst hjk;exact(qa hbv).trans (qa hbad)
         ·exact qa k3' j (by omega)),k0,k1+1,m0,m1+1,qa hcnt2,by simp⟩
      ·have hx5i:(x==5)=false:=by simpa using hx5
       rcases hcs with hy|hy|hy
       ·exact absurd (hc0 hy) (by omega)
       ·have hcnt2:Hid (au z (k+1) (k0) (k1) (m0+1) (m1)):=qC (by have:=qa hct true hy;simpa[hx5]using this);have hyv:y=1:=hy;subst hyv;clear hy hct hc0;go_wp2_with(first|(go_at_call 107;refine(qa hkd _).mono ?_;rintro e w' ⟨rfl,hw'⟩;obtain rfl:=hw'.symm)|(go_at_call 115;refine(qa hco _).mono ?_;rintro e w' ⟨rfl,hw'⟩;obtain rfl:=hw'.symm));go_roundg (gk-1)
        case measure=>omega
        case rel=>exact⟨k+1,by omega,by go_num,(by
         intro j hj;by_cases hjk:j=k
         ·subst hjk;exact(qa hbv).trans (qa hbad)
         ·exact qa k3' j (by omega)),k0,k1,m0+1,m1,qa hcnt2,by simp⟩
       ·have hcnt2:Hid (au z (k+1) (k0) (k1) (m0) (m1+1)):=qC (by have:=qa hct false hy;simpa[hx5]using this);have hyv:y=-1:=hy;subst hyv;clear hy hct hc0;go_wp2_with(first|(go_at_call 107;refine(qa hkd _).mono ?_;rintro e w' ⟨rfl,hw'⟩;obtain rfl:=hw'.symm)|(go_at_call 115;refine(qa hco _).mono ?_;rintro e w' ⟨rfl,hw'⟩;obtain rfl:=hw'.symm));go_roundg (gk-1)
        case measure=>omega
        case rel=>exact⟨k+1,by omega,by go_num,(by
         intro j hj;by_cases hjk:j=k
         ·subst hjk;exact(qa hbv).trans (qa hbad)
         ·exact qa k3' j (by omega)),k0,k1,m0,m1+1,qa hcnt2,by simp⟩
  ·have ek:k=64:=by omega
   subst ek;have hrest:=qC (nJ (qa hcnt') (qa k3') wh f b h g);have hQcn:=hcnt';clear hcnt' k3' hend0;by_cases h0:k0=1
   ·by_cases h1:k1=1
    ·by_cases h2:m0<=16
     ·by_cases h3:m1<=16
      ·rw[qJ h0,qJ h1,qJ h2,qJ h3]at hrest;have hkings:Hid (∀bb:Bool,∃y:Nat,y<64/\xR z bb=(y:Int)):=qC (si (qa hQcn) h0 h1);clear hQcn;subst h0 h1;go_upto_region 19 with fail;generalize hW:((w.alloc (.cells PA 70)).alloc (.cells #[.int .i64 1,.int .i64 1] 281)).alloc (.cells #[.int .i64 m0,.int .i64 m1] 281)=w4;have hrow:Hid (zJ w.heap.size PA w4):=qC (by rw[<-hW];exact DW w PA _ _ _ _);have hgr4:Hid (Gr w w4):=qC (by rw[<-hW];exact qa hg3 _ _);clear hW hg3 hle;have hmt:Hid (∀(j:Int)(W:World),(j=5\/j=3)->Calls Tryz.prog 195 #[.int .i64 j,.int .i64 1] W fun e w'=>e=.returned (.int .u8 (fC true j))/\w'=W):=qC (i7 true);have hmf:Hid (∀(j:Int)(W:World),(j=5\/j=3)->Calls Tryz.prog 195 #[.int .i64 j,.int .i64 (-1)] W fun e w'=>e=.returned (.int .u8 (fC false j))/\w'=W):=qC (i7 false);have hh0:Hid (∀W:World,Calls Tryz.prog 196 #[.int .i64 0] W fun e w'=>e=.returned (.tuple #[.int .i64 4,.int .i64 6,.int .i64 7,.int .i64 1])/\w'=W):=qC (fun W=>zr 0 (by omega) W);have hh1:Hid (∀W:World,Calls Tryz.prog 196 #[.int .i64 1] W fun e w'=>e=.returned (.tuple #[.int .i64 4,.int .i64 2,.int .i64 0,.int .i64 1])/\w'=W):=qC (fun W=>zr 1 (by omega) W);have hh2:Hid (∀W:World,Calls Tryz.prog 196 #[.int .i64 2] W fun e w'=>e=.returned (.tuple #[.int .i64 60,.int .i64 62,.int .i64 63,.int .i64 (-1)])/\w'=W):=qC (fun W=>zr 2 (by omega) W);have hh3:Hid (∀W:World,Calls Tryz.prog 196 #[.int .i64 3] W fun e w'=>e=.returned (.tuple #[.int .i64 60,.int .i64 58,.int .i64 56,.int .i64 (-1)])/\w'=W):=qC (fun W=>zr 3 (by omega) W);have hcf:=qC r.c;have hcbad:Hid (∀k,k<4->zX z f k=false->zT z wh f b h g=false):=qC fun k hk hc=>by rw[qa hrest,xt hk hc];simp
       go_wp2;go_loopg [9] 4 (fun gg n wr=>∃k:Nat,k+gg=4/\n=.int .i64 k/\(∀j,j<k->zX z f j=true)/\Gr w4 wr)
       case atStart=>exact⟨0,rfl,rfl,fun j hj=>absurd hj (Nat.not_lt_zero j),Gr.refl _⟩
       case round =>
        obtain⟨k,k1',rfl,k3,hgr⟩:=hrel;have k3':=qC k3;have hgr':=qC hgr;clear k3;have hrw:=(qa hrow).gr hgr;clear hgr;by_cases hlt:k<4
        ·have hk4:k=0\/k=1\/k=2\/k=3:=by omega
         rcases hk4 with rfl|rfl|rfl|rfl
         ·have hfc:=hrw.at' (qa hcf 0 (by omega));have hkc:=hrw.at' (qa hsq 4 (by omega));have hrc:=hrw.at' (qa hsq 7 (by omega));have hcN:Hid (zX z f 0=(!(f 0)||(decide (((z 4).toNat:Int)=75)&&decide (((z 7).toNat:Int)=82)))):=qC rfl;obtain⟨fv,hfv⟩:∃v,Hid (f 0=v):=⟨_,qC rfl⟩;rw[qa hfv]at hfc hcN;obtain⟨kv,hkv⟩:∃v,Hid (((z 4).toNat:Int)=v):=⟨_,qC rfl⟩;obtain⟨rv,hrv⟩:∃v,Hid (((z 7).toNat:Int)=v):=⟨_,qC rfl⟩;rw[qa hkv]at hkc hcN;rw[qa hrv]at hrc hcN;clear hrw;cases fv
          ·have hok:Hid (zX z f 0=true):=qC (by rw[qa hcN];rfl);go_wp2_with(go_at_call 196;refine(qa hh0 _).mono ?_;rintro e w' ⟨rfl,hw'⟩;obtain rfl:=hw'.symm);go_quiet((go_at_call 195;exact Calls.quiet_of_same (qa hmt _ _ (by first|exact .inl rfl|exact .inr rfl))));go_wp2;go_roundg (gk-1)
           case measure=>omega
           case rel=>exact⟨0+1,by omega,by go_num,(by
            intro j hj;by_cases hjk:j=0
            ·subst hjk;exact qa hok
            ·exact qa k3' j (by omega)),Gr.drewN (qa hgr') _⟩
          ·by_cases h1:kv=75
           ·subst h1;by_cases h2:rv=82
            ·subst h2;have hok:Hid (zX z f 0=true):=qC (by rw[qa hcN];rfl);go_wp2_with(go_at_call 196;refine(qa hh0 _).mono ?_;rintro e w' ⟨rfl,hw'⟩;obtain rfl:=hw'.symm);go_quiet((go_at_call 195;exact Calls.quiet_of_same (qa hmt _ _ (by first|exact .inl rfl|exact .inr rfl))));go_wp2;go_roundg (gk-1)
             case measure=>omega
             case rel=>exact⟨0+1,by omega,by go_num,(by
              intro j hj;by_cases hjk:j=0
              ·subst hjk;exact qa hok
              ·exact qa k3' j (by omega)),Gr.drewN (qa hgr') _⟩
            ·have h2i:(rv != 82)=true:=qU.2 h2;have hend:Hid (zT z wh f b h g=false):=qC (qa hcbad 0 (by omega) (by rw[qa hcN,qE h2];simp));go_wp2_with(go_at_call 196;refine(qa hh0 _).mono ?_;rintro e w' ⟨rfl,hw'⟩;obtain rfl:=hw'.symm);go_quiet((go_at_call 195;exact Calls.quiet_of_same (qa hmt _ _ (by first|exact .inl rfl|exact .inr rfl))));go_wp2;go_ret;exact⟨by rw[qa hend];rfl,Gr.trans (qa hgr4) (Gr.drewN (qa hgr') _)⟩
           ·have h1i:(kv != 75)=true:=qU.2 h1;have hend:Hid (zT z wh f b h g=false):=qC (qa hcbad 0 (by omega) (by rw[qa hcN,qE h1];simp));go_wp2_with(go_at_call 196;refine(qa hh0 _).mono ?_;rintro e w' ⟨rfl,hw'⟩;obtain rfl:=hw'.symm);go_quiet((go_at_call 195;exact Calls.quiet_of_same (qa hmt _ _ (by first|exact .inl rfl|exact .inr rfl))));go_wp2;go_ret;exact⟨by rw[qa hend];rfl,Gr.trans (qa hgr4) (Gr.drewN (qa hgr') _)⟩
         ·have hfc:=hrw.at' (qa hcf 1 (by omega));have hkc:=hrw.at' (qa hsq 4 (by omega));have hrc:=hrw.at' (qa hsq 0 (by omega));have hcN:Hid (zX z f 1=(!(f 1)||(decide (((z 4).toNat:Int)=75)&&decide (((z 0).toNat:Int)=82)))):=qC rfl;obtain⟨fv,hfv⟩:∃v,Hid (f 1=v):=⟨_,qC rfl⟩;rw[qa hfv]at hfc hcN;obtain⟨kv,hkv⟩:∃v,Hid (((z 4).toNat:Int)=v):=⟨_,qC rfl⟩;obtain⟨rv,hrv⟩:∃v,Hid (((z 0).toNat:Int)=v):=⟨_,qC rfl⟩;rw[qa hkv]at hkc hcN;rw[qa hrv]at hrc hcN;clear hrw;cases fv
          ·have hok:Hid (zX z f 1=true):=qC (by rw[qa hcN];rfl);go_wp2_with(go_at_call 196;refine(qa hh1 _).mono ?_;rintro e w' ⟨rfl,hw'⟩;obtain rfl:=hw'.symm);go_quiet((go_at_call 195;exact Calls.quiet_of_same (qa hmt _ _ (by first|exact .inl rfl|exact .inr rfl))));go_wp2;go_roundg (gk-1)
           case measure=>omega
           case rel=>exact⟨1+1,by omega,by go_num,(by
            intro j hj;by_cases hjk:j=1
            ·subst hjk;exact qa hok
            ·exact qa k3' j (by omega)),Gr.drewN (qa hgr') _⟩
          ·by_cases h1:kv=75
           ·subst h1;by_cases h2:rv=82
            ·subst h2;have hok:Hid (zX z f 1=true):=qC (by rw[qa hcN];rfl);go_wp2_with(go_at_call 196;refine(qa hh1 _).mono ?_;rintro e w' ⟨rfl,hw'⟩;obtain rfl:=hw'.symm);go_quiet((go_at_call 195;exact Calls.quiet_of_same (qa hmt _ _ (by first|exact .inl rfl|exact .inr rfl))));go_wp2;go_roundg (gk-1)
             case measure=>omega
             case rel=>exact⟨1+1,by omega,by go_num,(by
              intro j hj;by_cases hjk:j=1
              ·subst hjk;exact qa hok
              ·exact qa k3' j (by omega)),Gr.drewN (qa hgr') _⟩
            ·have h2i:(rv != 82)=true:=qU.2 h2;have hend:Hid (zT z wh f b h g=false):=qC (qa hcbad 1 (by omega) (by rw[qa hcN,qE h2];simp));go_wp2_with(go_at_call 196;refine(qa hh1 _).mono ?_;rintro e w' ⟨rfl,hw'⟩;obtain rfl:=hw'.symm);go_quiet((go_at_call 195;exact Calls.quiet_of_same (qa hmt _ _ (by first|exact .inl rfl|exact .inr rfl))));go_wp2;go_ret;exact⟨by rw[qa hend];rfl,Gr.trans (qa hgr4) (Gr.drewN (qa hgr') _)⟩
           ·have h1i:(kv != 75)=true:=qU.2 h1;have hend:Hid (zT z wh f b h g=false):=qC (qa hcbad 1 (by omega) (by rw[qa hcN,qE h1];simp));go_wp2_with(go_at_call 196;refine(qa hh1 _).mono ?_;rintro e w' ⟨rfl,hw'⟩;obtain rfl:=hw'.symm);go_quiet((go_at_call 195;exact Calls.quiet_of_same (qa hmt _ _ (by first|exact .inl rfl|exact .inr rfl))));go_wp2;go_ret;exact⟨by rw[qa hend];rfl,Gr.trans (qa hgr4) (Gr.drewN (qa hgr') _)⟩
         ·have hfc:=hrw.at' (qa hcf 2 (by omega));have hkc:=hrw.at' (qa hsq 60 (by omega));have hrc:=hrw.at' (qa hsq 63 (by omega));have hcN:Hid (zX z f 2=(!(f 2)||(decide (((z 60).toNat:Int)=107)&&decide (((z 63).toNat:Int)=114)))):=qC rfl;obtain⟨fv,hfv⟩:∃v,Hid (f 2=v):=⟨_,qC rfl⟩;rw[qa hfv]at hfc hcN;obtain⟨kv,hkv⟩:∃v,Hid (((z 60).toNat:Int)=v):=⟨_,qC rfl⟩;obtain⟨rv,hrv⟩:∃v,Hid (((z 63).toNat:Int)=v):=⟨_,qC rfl⟩;rw[qa hkv]at hkc hcN;rw[qa hrv]at hrc hcN;clear hrw;cases fv
          ·have hok:Hid (zX z f 2=true):=qC (by rw[qa hcN];rfl);go_wp2_with(go_at_call 196;refine(qa hh2 _).mono ?_;rintro e w' ⟨rfl,hw'⟩;obtain rfl:=hw'.symm);go_quiet((go_at_call 195;exact Calls.quiet_of_same (qa hmf _ _ (by first|exact .inl rfl|exact .inr rfl))));go_wp2;go_roundg (gk-1)
           case measure=>omega
           case rel=>exact⟨2+1,by omega,by go_num,(by
            intro j hj;by_cases hjk:j=2
            ·subst hjk;exact qa hok
            ·exact qa k3' j (by omega)),Gr.drewN (qa hgr') _⟩
          ·by_cases h1:kv=107
           ·subst h1;by_cases h2:rv=114
            ·subst h2;have hok:Hid (zX z f 2=true):=qC (by rw[qa hcN];rfl);go_wp2_with(go_at_call 196;refine(qa hh2 _).mono ?_;rintro e w' ⟨rfl,hw'⟩;obtain rfl:=hw'.symm);go_quiet((go_at_call 195;exact Calls.quiet_of_same (qa hmf _ _ (by first|exact .inl rfl|exact .inr rfl))));go_wp2;go_roundg (gk-1)
             case measure=>omega
             case rel=>exact⟨2+1,by omega,by go_num,(by
              intro j hj;by_cases hjk:j=2
              ·subst hjk;exact qa hok
              ·exact qa k3' j (by omega)),Gr.drewN (qa hgr') _⟩
            ·have h2i:(rv != 114)=true:=qU.2 h2;have hend:Hid (zT z wh f b h g=false):=qC (qa hcbad 2 (by omega) (by rw[qa hcN,qE h2];simp));go_wp2_with(go_at_call 196;refine(qa hh2 _).mono ?_;rintro e w' ⟨rfl,hw'⟩;obtain rfl:=hw'.symm);go_quiet((go_at_call 195;exact Calls.quiet_of_same (qa hmf _ _ (by first|exact .inl rfl|exact .inr rfl))));go_wp2;go_ret;exact⟨by rw[qa hend];rfl,Gr.trans (qa hgr4) (Gr.drewN (qa hgr') _)⟩
           ·have h1i:(kv != 107)=true:=qU.2 h1;have hend:Hid (zT z wh f b h g=false):=qC (qa hcbad 2 (by omega) (by rw[qa hcN,qE h1];simp));go_wp2_with(go_at_call 196;refine(qa hh2 _).mono ?_;rintro e w' ⟨rfl,hw'⟩;obtain rfl:=hw'.symm);go_quiet((go_at_call 195;exact Calls.quiet_of_same (qa hmf _ _ (by first|exact .inl rfl|exact .inr rfl))));go_wp2;go_ret;exact⟨by rw[qa hend];rfl,Gr.trans (qa hgr4) (Gr.drewN (qa hgr') _)⟩
         ·have hfc:=hrw.at' (qa hcf 3 (by omega));have hkc:=hrw.at' (qa hsq 60 (by omega));have hrc:=hrw.at' (qa hsq 56 (by omega));have hcN:Hid (zX z f 3=(!(f 3)||(decide (((z 60).toNat:Int)=107)&&decide (((z 56).toNat:Int)=114)))):=qC rfl;obtain⟨fv,hfv⟩:∃v,Hid (f 3=v):=⟨_,qC rfl⟩;rw[qa hfv]at hfc hcN;obtain⟨kv,hkv⟩:∃v,Hid (((z 60).toNat:Int)=v):=⟨_,qC rfl⟩;obtain⟨rv,hrv⟩:∃v,Hid (((z 56).toNat:Int)=v):=⟨_,qC rfl⟩;rw[qa hkv]at hkc hcN;rw[qa hrv]at hrc hcN;clear hrw;cases fv
          ·have hok:Hid (zX z f 3=true):=qC (by rw[qa hcN];rfl);go_wp2_with(go_at_call 196;refine(qa hh3 _).mono ?_;rintro e w' ⟨rfl,hw'⟩;obtain rfl:=hw'.symm);go_quiet((go_at_call 195;exact Calls.quiet_of_same (qa hmf _ _ (by first|exact .inl rfl|exact .inr rfl))));go_wp2;go_roundg (gk-1)
           case measure=>omega
           case rel=>exact⟨3+1,by omega,by go_num,(by
            intro j hj;by_cases hjk:j=3
            ·subst hjk;exact qa hok
            ·exact qa k3' j (by omega)),Gr.drewN (qa hgr') _⟩
          ·by_cases h1:kv=107
           ·subst h1;by_cases h2:rv=114
            ·subst h2;have hok:Hid (zX z f 3=true):=qC (by rw[qa hcN];rfl);go_wp2_with(go_at_call 196;refine(qa hh3 _).mono ?_;rintro e w' ⟨rfl,hw'⟩;obtain rfl:=hw'.symm);go_quiet((go_at_call 195;exact Calls.quiet_of_same (qa hmf _ _ (by first|exact .inl rfl|exact .inr rfl))));go_wp2;go_roundg (gk-1)
             case measure=>omega
             case rel=>exact⟨3+1,by omega,by go_num,(by
              intro j hj;by_cases hjk:j=3
              ·subst hjk;exact qa hok
              ·exact qa k3' j (by omega)),Gr.drewN (qa hgr') _⟩
            ·have h2i:(rv != 114)=true:=qU.2 h2;have hend:Hid (zT z wh f b h g=false):=qC (qa hcbad 3 (by omega) (by rw[qa hcN,qE h2];simp));go_wp2_with(go_at_call 196;refine(qa hh3 _).mono ?_;rintro e w' ⟨rfl,hw'⟩;obtain rfl:=hw'.symm);go_quiet((go_at_call 195;exact Calls.quiet_of_same (qa hmf _ _ (by first|exact .inl rfl|exact .inr rfl))));go_wp2;go_ret;exact⟨by rw[qa hend];rfl,Gr.trans (qa hgr4) (Gr.drewN (qa hgr') _)⟩
           ·have h1i:(kv != 107)=true:=qU.2 h1;have hend:Hid (zT z wh f b h g=false):=qC (qa hcbad 3 (by omega) (by rw[qa hcN,qE h1];simp));go_wp2_with(go_at_call 196;refine(qa hh3 _).mono ?_;rintro e w' ⟨rfl,hw'⟩;obtain rfl:=hw'.symm);go_quiet((go_at_call 195;exact Calls.quiet_of_same (qa hmf _ _ (by first|exact .inl rfl|exact .inr rfl))));go_wp2;go_ret;exact⟨by rw[qa hend];rfl,Gr.trans (qa hgr4) (Gr.drewN (qa hgr') _)⟩
        ·have hok4:Hid (jH z f=true):=qC (qvw (by
          intro j hj;exact qa k3' j (by omega)))
         have ek:k=4:=by omega
         subst ek;clear hlt k3' hcbad hcf hh0 hh1 hh2 hh3 hmt hmf;rw[qa hok4]at hrest;have hbc:=qC r.b;have hzP:=r.size;have hbB:=qC r;clear r;have htu:=qC (fun W=>Dv (qa hbB) W);obtain⟨me,hme⟩:∃m,Hid (xK wh=m):=⟨_,qC rfl⟩;rw[qa hme]at htu;go_upto_region 26 with(first|(refine ql (by rfl) _ rfl w.heap.size rfl hzP hrw ?_)|(go_at_call 116;refine(qa htu _).mono ?_;rintro e w5 ⟨rfl,hg5⟩));have hrw5:=hrw.gr hg5;have hg5':=qC hg5;clear hrw hg5 htu;have hb69:=hrw5.at' (qa hbc);go_upto_if 117 with fail;go_cut [15]from 118 to 165 (fun _ wx=>(∃nq,wx=w5.drewN nq)/\xX z wh b=true)
         case first =>
          cases wh
          ·have hme2:me=-1:=(qa hme).symm;subst hme2;by_cases hb1:b=-1
           ·subst hb1;have hbe:Hid (xX z false (-1)=true):=qC (by unfold xX;simp);go_wp2_with fail;go_meet
            case rel=>exact⟨⟨0,rfl⟩,qa hbe⟩
           ·have hb1i:(b != -1)=true:=qU.2 hb1;by_cases hl:16<=b/\b<24
            ·obtain⟨hl0,hl1⟩:=hl;obtain⟨n,rfl⟩:∃n:Nat,b=n:=⟨b.toNat,by omega⟩;have hq:(n:Int)/8=2:=by omega
             have hbx:Hid (xX z false (n:Int)=(decide (((z n).toNat:Int)=46)&&decide (((z (n-8)).toNat:Int)=46)&&decide (((z (n+8)).toNat:Int)=80))):=qC (by
              have e1:((n:Int)-8).toNat=n-8:=by omega
              have e2:((n:Int)+8).toNat=n+8:=by omega
              have d0:decide ((n:Int)=-1)=false:=qE (by omega);have d1:decide ((16:Int)<=n)=true:=qJ (by omega);have d2:decide ((n:Int)<24)=true:=qJ (by omega);unfold xX;rw[d0,d1,d2,e1,e2,Int.toNat_natCast];simp only[Bool.false_or,Bool.true_and,if_true,if_false,qR])
             have x0c:=hrw5.at' (qa hsq n (by omega));have x1c:=hrw5.at' (qa hsq (n-8) (by omega));have x2c:=hrw5.at' (qa hsq (n+8) (by omega));have hn1:((n:Int)+-8).toNat=n-8:=by omega
             have hn2:((n:Int)-8).toNat=n-8:=by omega
             have hn3:((n:Int) - -8).toNat=n+8:=by omega
             have hm0:Hid (∀W:World,Calls Tryz.prog 195 #[.int .i64 0,.int .i64 1] W fun e w'=>e=.returned (.int .u8 80)/\w'=W):=qC (DG true);generalize ((z n).toNat:Int)=x0 at x0c hbx;generalize ((z (n-8)).toNat:Int)=x1 at x1c hbx;generalize ((z (n+8)).toNat:Int)=x2 at x2c hbx;by_cases k0:x0=46
             ·subst k0;by_cases k1:x1=46
              ·subst k1;by_cases k2:x2=80
               ·subst k2;have hbe:Hid (xX z false (n:Int)=true):=qC (by rw[qa hbx];rfl);go_wp2;go_quiet((go_at_call 195;exact Calls.quiet_of_same (qa hm0 _)));go_wp2_with fail;go_meet
                case rel=>exact⟨⟨nq,rfl⟩,qa hbe⟩
               ·have hend:Hid (zT z false f n h g=false):=qC (by rw[qa hrest,qa hbx,qE k2];simp);have k2i:(x2 != 80)=true:=qU.2 k2;go_wp2;go_quiet((go_at_call 195;exact Calls.quiet_of_same (qa hm0 _)));go_wp2;go_ret;exact⟨by rw[qa hend];rfl,Gr.trans (qa hgr4) (Gr.trans (qa hgr') (Gr.drewN (qa hg5') _))⟩
              ·have hend:Hid (zT z false f n h g=false):=qC (by rw[qa hrest,qa hbx,qE k1];simp);have k1i:(x1 != 46)=true:=qU.2 k1;go_wp2;go_quiet((go_at_call 195;exact Calls.quiet_of_same (qa hm0 _)));go_wp2;go_ret;exact⟨by rw[qa hend];rfl,Gr.trans (qa hgr4) (Gr.trans (qa hgr') (Gr.drewN (qa hg5') _))⟩
             ·have hend:Hid (zT z false f n h g=false):=qC (by rw[qa hrest,qa hbx,qE k0];simp);have k0i:(x0 != 46)=true:=qU.2 k0;go_wp2;go_quiet((go_at_call 195;exact Calls.quiet_of_same (qa hm0 _)));go_wp2;go_ret;exact⟨by rw[qa hend];rfl,Gr.trans (qa hgr4) (Gr.trans (qa hgr') (Gr.drewN (qa hg5') _))⟩
            ·have hend:Hid (zT z false f b h g=false):=qC (by
              have:xX z false b=false:=by unfold xX;simp[hb1];omega
              rw[qa hrest,this];simp)
             by_cases hl0:b<0
             ·go_wp2;go_ret;exact⟨by rw[qa hend];rfl,Gr.trans (qa hgr4) (Gr.trans (qa hgr') (qa hg5'))⟩
             ·by_cases hl1:63<b
              ·go_wp2;go_ret;exact⟨by rw[qa hend];rfl,Gr.trans (qa hgr4) (Gr.trans (qa hgr') (qa hg5'))⟩
              ·obtain⟨q,hq⟩:∃q:Int,b/8=q:=⟨_,rfl⟩;have hqi:(q != 2)=true:=qU.2 (by omega);clear hl;go_wp2;go_ret;exact⟨by rw[qa hend];rfl,Gr.trans (qa hgr4) (Gr.trans (qa hgr') (qa hg5'))⟩
          ·have hme2:me=1:=(qa hme).symm;subst hme2;by_cases hb1:b=-1
           ·subst hb1;have hbe:Hid (xX z true (-1)=true):=qC (by unfold xX;simp);go_wp2_with fail;go_meet
            case rel=>exact⟨⟨0,rfl⟩,qa hbe⟩
           ·have hb1i:(b != -1)=true:=qU.2 hb1;by_cases hl:40<=b/\b<48
            ·obtain⟨hl0,hl1⟩:=hl;obtain⟨n,rfl⟩:∃n:Nat,b=n:=⟨b.toNat,by omega⟩;have hq:(n:Int)/8=5:=by omega
             have hbx:Hid (xX z true (n:Int)=(decide (((z n).toNat:Int)=46)&&decide (((z (n+8)).toNat:Int)=46)&&decide (((z (n-8)).toNat:Int)=112))):=qC (by
              have e1:((n:Int)+8).toNat=n+8:=by omega
              have e2:((n:Int)-8).toNat=n-8:=by omega
              have d0:decide ((n:Int)=-1)=false:=qE (by omega);have d1:decide ((40:Int)<=n)=true:=qJ (by omega);have d2:decide ((n:Int)<48)=true:=qJ (by omega);unfold xX;rw[d0,d1,d2,e1,e2,Int.toNat_natCast];simp only[Bool.false_or,Bool.true_and,if_true,if_false,qR])
             have x0c:=hrw5.at' (qa hsq n (by omega));have x1c:=hrw5.at' (qa hsq (n+8) (by omega));have x2c:=hrw5.at' (qa hsq (n-8) (by omega));have hn1:((n:Int)+-8).toNat=n-8:=by omega
             have hn2:((n:Int)-8).toNat=n-8:=by omega
             have hn3:((n:Int) - -8).toNat=n+8:=by omega
             have hm0:Hid (∀W:World,Calls Tryz.prog 195 #[.int .i64 0,.int .i64 (-1)] W fun e w'=>e=.returned (.int .u8 112)/\w'=W):=qC (DG false);generalize ((z n).toNat:Int)=x0 at x0c hbx;generalize ((z (n+8)).toNat:Int)=x1 at x1c hbx;generalize ((z (n-8)).toNat:Int)=x2 at x2c hbx;by_cases k0:x0=46
             ·subst k0;by_cases k1:x1=46
              ·subst k1;by_cases k2:x2=112
               ·subst k2;have hbe:Hid (xX z true (n:Int)=true):=qC (by rw[qa hbx];rfl);go_wp2;go_quiet((go_at_call 195;exact Calls.quiet_of_same (qa hm0 _)));go_wp2_with fail;go_meet
                case rel=>exact⟨⟨nq,rfl⟩,qa hbe⟩
               ·have hend:Hid (zT z true f n h g=false):=qC (by rw[qa hrest,qa hbx,qE k2];simp);have k2i:(x2 != 112)=true:=qU.2 k2;go_wp2;go_quiet((go_at_call 195;exact Calls.quiet_of_same (qa hm0 _)));go_wp2;go_ret;exact⟨by rw[qa hend];rfl,Gr.trans (qa hgr4) (Gr.trans (qa hgr') (Gr.drewN (qa hg5') _))⟩
              ·have hend:Hid (zT z true f n h g=false):=qC (by rw[qa hrest,qa hbx,qE k1];simp);have k1i:(x1 != 46)=true:=qU.2 k1;go_wp2;go_quiet((go_at_call 195;exact Calls.quiet_of_same (qa hm0 _)));go_wp2;go_ret;exact⟨by rw[qa hend];rfl,Gr.trans (qa hgr4) (Gr.trans (qa hgr') (Gr.drewN (qa hg5') _))⟩
             ·have hend:Hid (zT z true f n h g=false):=qC (by rw[qa hrest,qa hbx,qE k0];simp);have k0i:(x0 != 46)=true:=qU.2 k0;go_wp2;go_quiet((go_at_call 195;exact Calls.quiet_of_same (qa hm0 _)));go_wp2;go_ret;exact⟨by rw[qa hend];rfl,Gr.trans (qa hgr4) (Gr.trans (qa hgr') (Gr.drewN (qa hg5') _))⟩
            ·have hend:Hid (zT z true f b h g=false):=qC (by
              have:xX z true b=false:=by unfold xX;simp[hb1];omega
              rw[qa hrest,this];simp)
             by_cases hl0:b<0
             ·go_wp2;go_ret;exact⟨by rw[qa hend];rfl,Gr.trans (qa hgr4) (Gr.trans (qa hgr') (qa hg5'))⟩
             ·by_cases hl1:63<b
              ·go_wp2;go_ret;exact⟨by rw[qa hend];rfl,Gr.trans (qa hgr4) (Gr.trans (qa hgr') (qa hg5'))⟩
              ·obtain⟨q,hq⟩:∃q:Int,b/8=q:=⟨_,rfl⟩;have hqi:(q != 5)=true:=qU.2 (by omega);clear hl;go_wp2;go_ret;exact⟨by rw[qa hend];rfl,Gr.trans (qa hgr4) (Gr.trans (qa hgr') (qa hg5'))⟩
         case rest =>
          obtain⟨⟨nq,hww⟩,hbe0⟩:=hcut;subst hww;have hbe:=qC hbe0;have hng:Hid (IntKind.i64.wrap (-me)=xK (!wh)):=qC (by rw[<-qa hme];cases wh<;>decide)
          clear hbe0 hb69;go_upto_region 34 with fail;obtain⟨y,hy64,hy⟩:=qa hkings (!wh);have hBd:=qC (FN (qa hbB))
          have hKi:Hid (∀W:World,Calls Tryz.prog 193 #[.agg (PA.toList.take 64).toArray,.int .i64 (xK (!wh))] W fun e w'=>e=.returned (.int .i64 (y:Int))/\Gr W w'):=qC fun W=>by
           rw[<-hy];exact qzo z _ (qa hBd).2 (!wh) W
          obtain⟨av,hav⟩:∃v,Hid (zM z (y:Int) wh=v):=⟨_,qC rfl⟩
          have hAt:Hid (∀W:World,Calls Tryz.prog 192 #[.agg (PA.toList.take 64).toArray,.int .i64 (y:Int),.int .i64 me] W fun e w'=>e=.returned (.bool av)/\Gr W w'):=qC fun W=>by
           rw[<-qa hav,<-qa hme];exact ju z _ (qa hBd).1 (qa hBd).2 (y:Int) (by omega) (by omega) wh W
          have hres:Hid (zT z wh f b h g=(!av&&zP h g)):=qC (by
           rw[qa hrest,qa hbe];show(true&&true&&true&&true&&true&&true&&!(zM z (xR z (!wh)) wh)&&zP h g)=_;rw[hy,qa hav];rfl)
          have hst:HH (w5.drewN nq) w.heap.size PA (w5.drewN nq).drew:=⟨(zJ.gr hrw5 (Gr.drewN (Gr.refl _) _)).gr (Gr.refl _).drew,(Gr.refl _).drew⟩;refine wp_region_held_drew (S:=HH (w5.drewN nq) w.heap.size PA) (by kernel_rfl) hst (fun qD=>?_);refine C.ty 0 (.pointer (some ⟨w.heap.size,0,none⟩)) rfl (Or.inl ⟨by rfl,fun w _=>?_⟩) qD ?_
          ·go_simp
          refine C.ty 1 (.agg (PA.toList.take 64).toArray) rfl (DB hzP (by rfl) _ rfl w.heap.size rfl (fun _ h=>h.1)) qD ?_;refine C.ty 2 (.pointer (some ⟨w.heap.size,0,none⟩)) rfl (Or.inl ⟨by rfl,fun w _=>?_⟩) qD ?_
          ·go_simp
          refine C.ty 3 (.agg (PA.toList.take 64).toArray) rfl (DB hzP (by rfl) _ rfl w.heap.size rfl (fun _ h=>h.1)) qD ?_;refine C.ty 4 (.int .i64 me) rfl (Or.inl ⟨by rfl,fun w _=>?_⟩) qD ?_
          ·go_simp
          refine C.ty 5 (.int .i64 (xK (!wh))) rfl (Or.inl ⟨by rfl,fun w _=>?_⟩) qD ?_
          ·go_simp;exact qa hng
          refine C.ty 7 (.int .i64 me) rfl (Or.inl ⟨by rfl,fun w _=>?_⟩) qD ?_
          ·go_simp
          refine C.rd 6 fun K hK=>?_
          go_simp;refine(qa hKi _).mono ?_;rintro e w6 ⟨rfl,hg6⟩;refine hK.out _ _ (qD.gr hg6) (fun qD=>?_);clear hK K hst hg6;refine C.rd 8 fun K hK=>?_
          go_simp;refine(qa hAt _).mono ?_;rintro e w7 ⟨rfl,hg7⟩;refine hK.out _ _ (qD.gr hg7) (fun qD=>?_);clear hK K hg7;refine C.rd 9 fun K hK=>?_
          go_simp;refine hK.out _ _ qD (fun qD=>?_);clear hK K;refine wpAnyH_done (by kernel_rfl) ?_ _;have hc70:=qD.1.at' (qa hbB).h;have hc71:=qD.1.at' (qa hbB).g;have hgF:Hid (Gr w w7):=qC (Gr.trans (Gr.trans (qa hgr4) (Gr.trans (qa hgr') (Gr.drewN (qa hg5') _))) qD.2);clear qD;cases av
          ·by_cases c1:0<=h
           ·by_cases c2:h<=65535
            ·by_cases c3:1<=g
             ·by_cases c4:g<=65535
              ·have hend:Hid (zT z wh f b h g=true):=qC (by rw[qa hres];unfold zP;simp[c1,c2,c3,c4]);go_wp2;go_ret;exact⟨by rw[qa hend];rfl,qa hgF⟩
              ·have hend:Hid (zT z wh f b h g=false):=qC (by rw[qa hres];unfold zP;simp[c4]);go_wp2;go_ret;exact⟨by rw[qa hend];rfl,qa hgF⟩
             ·have hend:Hid (zT z wh f b h g=false):=qC (by rw[qa hres];unfold zP;simp[c3]);go_wp2;go_ret;exact⟨by rw[qa hend];rfl,qa hgF⟩
            ·have hend:Hid (zT z wh f b h g=false):=qC (by rw[qa hres];unfold zP;simp[c2]);go_wp2;go_ret;exact⟨by rw[qa hend];rfl,qa hgF⟩
           ·have hend:Hid (zT z wh f b h g=false):=qC (by rw[qa hres];unfold zP;simp[c1]);go_wp2;go_ret;exact⟨by rw[qa hend];rfl,qa hgF⟩
          ·have hend:Hid (zT z wh f b h g=false):=qC (by rw[qa hres];rfl);go_wp2;go_ret;exact⟨by rw[qa hend];rfl,qa hgF⟩
      ·have hend:Hid (zT z wh f b h g=false):=qC (by rw[qa hrest,qE h3];simp);go_wp2;go_ret;exact⟨by rw[qa hend];rfl,qa hg3 _ _⟩
     ·have hend:Hid (zT z wh f b h g=false):=qC (by rw[qa hrest,qE h2];simp);go_wp2;go_ret;exact⟨by rw[qa hend];rfl,qa hg3 _ _⟩
    ·have h1i:((k1:Int)==1)=false:=by rw[qM];omega
     have hend:Hid (zT z wh f b h g=false):=qC (by rw[qa hrest,qE h1];simp);go_wp2;go_ret;exact⟨by rw[qa hend];rfl,qa hg3 _ _⟩
   ·have h0i:((k0:Int)==1)=false:=by rw[qM];omega
    have hend:Hid (zT z wh f b h g=false):=qC (by rw[qa hrest,qE h0];simp);go_wp2;go_ret;exact⟨by rw[qa hend];rfl,qa hg3 _ _⟩
end Go.Proofs.YtnfakamfmkhlbabGreatDoor.C
