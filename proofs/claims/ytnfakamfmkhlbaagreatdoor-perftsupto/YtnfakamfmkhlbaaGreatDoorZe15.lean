import Derived.Test.YtnfakamfmkhlbaaGreatDoorZe14
import Derived.Test.YtnfakamfmkhlbaaGreatDoorZe7
import Derived.Test.YtnfakamfmkhlbaaGreatDoorZe13
import Derived.Deep.QuietTactic
import Derived.BigQuiet
import Derived.Test.YtnfakamfmkhlbaaGreatDoorKz2
set_option maxRecDepth 100000
set_option maxHeartbeats 4000000
set_option linter.unusedSimpArgs false
namespace Go.Proofs.YtnfakamfmkhlbaaGreatDoor.C
open Go.ChangeShapes Go.WideShapes Go.ChangeAt Go.RowKit
open Go.Proofs.YtnfakamfmkhlbaaGreatDoor.P
attribute [local go_sem] qd qi
theorem qq4 (z:Nat->UInt8) (b:Bool) (k:Nat):menR z b (k+1)=menR z b k+(if coc (z k)=sdb b then 1 else 0):=by
 unfold menR;rw [List.range_succ,List.filter_append,List.length_append];by_cases h:coc (z k)=sdb b
 ·rw [if_pos h];simp [h]
 ·rw [if_neg h];simp [h]
theorem qq8 (z:Nat->UInt8) (b:Bool) (k:Nat):kinR z b (k+1)=kinR z b k+(if ixc (z k)=((bg b+5:Nat):Int) then 1 else 0):=by
 unfold kinR;rw [List.range_succ,List.filter_append,List.length_append];by_cases h:ixc (z k)=((bg b+5:Nat):Int)
 ·rw [if_pos h];simp only [List.filter_cons,h,decide_true,if_true,List.filter_nil,List.length_cons,List.length_nil]
 ·rw [if_neg h];simp only [List.filter_cons,h,decide_false,Bool.false_eq_true,if_false,List.filter_nil,List.length_nil]
theorem cnt_le {f:Nat->Bool}:∀ k,((List.range k).filter f).length<=k:=fun k=>by
 have:=List.length_filter_le f (List.range k);simpa using this
theorem canR_bad {z:Nat->UInt8} {k:Nat} (hk:k<64) (h:badR z k=true) (wh:Bool) (f:Nat->Bool) (b h' g:Int):canR z wh f b h' g=false:=by
 have:((List.range 64).all fun n=>!(badR z n))=false:=by
  rw [List.all_eq_false];exact ⟨k,List.mem_range.2 hk,by rw [h];decide⟩
 unfold canR;rw [this];rfl
def Cnt (z:Nat->UInt8) (k:Nat) (k0 k1 m0 m1:Nat):Prop:=k0=kinR z true k/\k1=kinR z false k/\m0=menR z true k/\m1=menR z false k
theorem Cnt.le {z:Nat->UInt8} {k k0 k1 m0 m1:Nat} (h:Cnt z k k0 k1 m0 m1):k0<=k/\k1<=k/\m0<=k/\m1<=k:=by
 obtain ⟨rfl,rfl,rfl,rfl⟩:=h;exact ⟨cnt_le k,cnt_le k,cnt_le k,cnt_le k⟩
theorem Cnt.none {z:Nat->UInt8} {k k0 k1 m0 m1:Nat} (h:Cnt z k k0 k1 m0 m1) (e:z k=46):Cnt z (k+1) k0 k1 m0 m1:=by
 obtain ⟨rfl,rfl,rfl,rfl⟩:=h;have e1:ixc (z k)=-1:=by rw [e];exact ib_dot
 have e2:coc (z k)=0:=by unfold coc;rw [if_pos (by omega)]
 refine ⟨?_,?_,?_,?_⟩
 ·rw [qq8,if_neg (by omega)];rfl
 ·rw [qq8,if_neg (by omega)];rfl
 ·rw [qq4,if_neg (by rw [e2];decide)];rfl
 ·rw [qq4,if_neg (by rw [e2];decide)];rfl
theorem Cnt.some {z:Nat->UInt8} {k k0 k1 m0 m1:Nat} (h:Cnt z k k0 k1 m0 m1) (b:Bool) (hc:coc (z k)=sdb b):Cnt z (k+1) (k0+if b&&decide (kdc (z k)=5) then 1 else 0) (k1+if !b&&decide (kdc (z k)=5) then 1 else 0) (m0+if b then 1 else 0) (m1+if b then 0 else 1):=by
 obtain ⟨rfl,rfl,rfl,rfl⟩:=h;obtain ⟨i,hi,e1,e2⟩:=zh hc
 have hk:kdc (z k)=(i:Int):=by
  have:=qxx (z k);unfold kdc at e2 ⊢;have hb:bg b=0\/bg b=6:=by cases b<;>simp [bg]
  split<;>split at e2<;>omega
 have b0:bg true=0:=rfl;have b6:bg false=6:=rfl;refine ⟨?_,?_,?_,?_⟩
 ·rw [qq8,e1,hk];cases b
  ·rw [if_neg (show ¬ (((bg false+i:Nat):Int)=((bg true+5:Nat):Int)) by rw [b0,b6];omega)];rfl
  ·congr 1;by_cases h5:i=5
   ·subst h5;rfl
   ·rw [if_neg (show ¬ (((bg true+i:Nat):Int)=((bg true+5:Nat):Int)) by omega),if_neg (show ¬ ((true&&decide ((i:Int)=5))=true) by simp;omega)]
 ·rw [qq8,e1,hk];cases b
  ·congr 1;by_cases h5:i=5
   ·subst h5;rfl
   ·rw [if_neg (show ¬ (((bg false+i:Nat):Int)=((bg false+5:Nat):Int)) by omega),if_neg (show ¬ ((!false&&decide ((i:Int)=5))=true) by simp;omega)]
  ·rw [if_neg (show ¬ (((bg true+i:Nat):Int)=((bg false+5:Nat):Int)) by rw [b0,b6];omega)];rfl
 ·rw [qq4,hc];cases b<;>rfl
 ·rw [qq4,hc];cases b<;>rfl
def W3 (w:World) (PA:Array Value) (k0 k1 m0 m1:Nat):World:=((w.alloc (.cells PA 25)).alloc (.cells #[.int .i64 k0,.int .i64 k1] 160)).alloc (.cells #[.int .i64 m0,.int .i64 m1] 160)
theorem w3_row (w:World) (PA a b:Array Value) (t u:TypeId):RowAt w.heap.size PA (((w.alloc (.cells PA 25)).alloc (.cells a t)).alloc (.cells b u)) :=
 RowAt.gr (w:=w.alloc (.cells PA 25)) (xr (heap_alloc_new _ _)) (((Gr.refl _).alloc _ _).alloc _ _)
theorem w3_cell (w:World) (PA a b:Array Value) (t u:TypeId) (o:Nat) (v:Value) (h:PA[o]?=some v):(((w.alloc (.cells PA 25)).alloc (.cells a t)).alloc (.cells b u)).cell? ⟨w.heap.size,o,none⟩=some v:=by
 rw [World.cell?_alloc_past _ _ _ (by rw [World.size_alloc,World.size_alloc];omega),World.cell?_alloc_past _ _ _ (by rw [World.size_alloc];omega),World.cell?_alloc_at _ _ _ _ rfl];exact h
theorem RowAt.at' {b:Nat} {A:Array Value} {w:World} (h:RowAt b A w) {i:Nat} {v:Value} (hv:A[i]?=some v):w.cell? ⟨b,i,none⟩=some v:=by
 have:=h.2 i v (by rw [Array.getElem?_toList];exact hv)
 rwa [Nat.zero_add] at this
def manI (b:Bool) (j:Int):Int:=if j=5 then (if b then 75 else 107) else if j=3 then (if b then 82 else 114) else (if b then 80 else 112)
theorem man_two (b:Bool) (j:Int) (w:World) (hj:j=5\/j=3):Calls Tryz.prog 89 #[.int .i64 j,.int .i64 (sdb b)] w fun e w'=>e=.returned (.int .u8 (manI b j))/\w'=w:=by
 rcases hj with rfl|rfl
 ·refine (man_5 b w).mono fun _ _ h=>⟨h.1.trans ?_,h.2⟩
  cases b<;>rfl
 ·refine (man_3 b w).mono fun _ _ h=>⟨h.1.trans ?_,h.2⟩
  cases b<;>rfl
theorem manI_t5:manI true 5=75:=rfl
theorem manI_t3:manI true 3=82:=rfl
theorem manI_f5:manI false 5=107:=rfl
theorem manI_f3:manI false 3=114:=rfl
attribute [local go_sem] manI_t5 manI_t3 manI_f5 manI_f3
def StR (w1:World) (b:Nat) (PA:Array Value) (w:World):Prop:=RowAt b PA w/\Gr w1 w
theorem StR.gr {w1 w w':World} {b:Nat} {PA:Array Value} (h:StR w1 b PA w) (g:Gr w w'):StR w1 b PA w':=⟨h.1.gr g,Gr.trans h.2 g⟩
theorem kings_at {z:Nat->UInt8} {k0 k1 m0 m1:Nat} (hc:Cnt z 64 k0 k1 m0 m1) (h0:k0=1) (h1:k1=1) (b:Bool):∃ y:Nat,y<64/\kingR z b=(y:Int):=by
 obtain ⟨e0,e1,_,_⟩:=hc;have:kinR z b 64=1:=by cases b<;>omega
 obtain ⟨y,y1,_,y3⟩:=zg this;exact ⟨y,y1,y3⟩
theorem qjd {z:Nat->UInt8} {wh:Bool} {f:Nat->Bool} {b h g:Int} {PA:Array Value} (r:Row z wh f b h g PA):(PA.toList.take 64).toArray.size=64/\∀ i,i<64->(PA.toList.take 64).toArray[i]?=some (.int .u8 ((z i).toNat:Int)):=by
 refine ⟨by simp [r.size],fun i hi=>?_⟩;rw [List.getElem?_toArray,List.getElem?_take,if_pos hi,Array.getElem?_toList];exact r.sq i hi
theorem qvh {ops:Array Oper} {op:Oper} {a:Act} {PA:Array Value} (hz:PA.size=72) {S:World->Prop} (hw:Region.wanted op (yielded ops a.tmps)=true) (x:Operand) (ho:op.op=.load 22 x) (b:Nat) (hx:a.eval x=.pointer (some ⟨b,0,none⟩)) (hS:∀ w,S w->RowAt b PA w):YieldsIf Tryz.prog ops S op (.agg (PA.toList.take 64).toArray) a :=
 yieldsIf_load_mid (P:=Tryz.prog) hw 22 x ho b 0 hx (PA.toList.take 64) _ (fun w h=>fun j v hv=>(hS w h).2 j v (by
  rw [List.getElem?_take] at hv;split at hv
  ·exact hv
  ·cases hv)) Tryz.underlying22 rfl (by rw [info64];simp [hz])
theorem qqo {z:Nat->UInt8} {wh:Bool} {f:Nat->Bool} {b h g:Int} {PA:Array Value} (r:Row z wh f b h g PA) (w:World):Calls Tryz.prog 90 #[.agg PA] w fun e w'=>e=.returned (.int .i64 (sdb wh))/\Gr w w':=by
 have hc:(w.alloc (.cells PA 25)).cell? ⟨w.heap.size,64,none⟩=some (.bool wh):=by rw [World.cell?_alloc_at _ _ _ _ rfl];exact r.wh
 cases wh
 ·go_enter Tryz.func90,Tryz.ntmps90;go_wp2;go_ret;exact ⟨rfl,(Gr.refl w).alloc _ _⟩
 ·go_enter Tryz.func90,Tryz.ntmps90;go_wp2;go_ret;exact ⟨rfl,(Gr.refl w).alloc _ _⟩
theorem canR_rest {z:Nat->UInt8} {k0 k1 m0 m1:Nat} (hc:Cnt z 64 k0 k1 m0 m1) (hb:∀ j,j<64->badR z j=false) (wh:Bool) (f:Nat->Bool) (b h g:Int):canR z wh f b h g=(decide (k0=1)&&decide (k1=1)&&decide (m0<=16)&&decide (m1<=16)&&castOk z f&&behOk z wh b&&!(attR z (kingR z (!wh)) wh)&&clkOk h g):=by
 obtain ⟨rfl,rfl,rfl,rfl⟩:=hc
 have:((List.range 64).all fun n=>!(badR z n))=true:=by
  rw [List.all_eq_true];intro j hj;rw [hb j (List.mem_range.1 hj)];rfl
 unfold canR;rw [this,Bool.true_and]
theorem canr_any {z:Nat->UInt8} {wh:Bool} {f:Nat->Bool} {b h g:Int} {PA:Array Value} (r:Row z wh f b h g PA) (w:World):Calls Tryz.prog 40 #[.agg PA] w fun e w'=>e=.returned (.bool (canR z wh f b h g))/\Gr w w':=by
 have hsq:=hide r.sq;have hend0:Hid (∀ k,k<64->badR z k=true->canR z wh f b h g=false):=hide fun k hk hb=>canR_bad hk hb wh f b h g
 have hg3:Hid (∀ o1 o2:Array Value,Gr w (((w.alloc (.cells PA 25)).alloc (.cells o1 160)).alloc (.cells o2 160))):=hide fun o1 o2=>(((Gr.refl w).alloc _ _).alloc _ _).alloc _ _
 go_enter Tryz.func40,Tryz.ntmps40;go_wp2;go_loopg [5] 64 (fun g n wr=>∃ k:Nat,k+g=64/\n=.int .i64 k/\(∀ j,j<k->badR z j=false)/\∃ k0 k1 m0 m1:Nat,Cnt z k k0 k1 m0 m1/\wr=((w.alloc (.cells PA 25)).alloc (.cells #[.int .i64 k0,.int .i64 k1] 160)).alloc (.cells #[.int .i64 m0,.int .i64 m1] 160))
 case atStart=>exact ⟨0,rfl,rfl,fun j hj=>absurd hj (Nat.not_lt_zero j),0,0,0,0,⟨rfl,rfl,rfl,rfl⟩,rfl⟩
 case round =>
  obtain ⟨k,k1',rfl,k3,k0,k1,m0,m1,hcnt,rfl⟩:=hrel;have k3':=hide k3;clear k3;have hle:=hcnt.le;have hcnt':=hide hcnt;clear hcnt;by_cases hlt:k<64
  ·have hcell:=w3_cell w PA #[.int .i64 k0,.int .i64 k1] #[.int .i64 m0,.int .i64 m1] 160 160 k _ (qa hsq k hlt);by_cases hd:z k=46
   ·have hbad:Hid (badR z k=false):=hide (by unfold badR;rw [hd];rfl);have hcnt2:=hide ((qa hcnt').none hd);rw [hd] at hcell;go_wp2;go_roundg (gk-1)
    case measure=>omega
    case rel=>exact ⟨k+1,by omega,by go_num,(by
     intro j hj;by_cases hjk:j=k
     ·subst hjk;exact qa hbad
     ·exact qa k3' j (by omega)),k0,k1,m0,m1,qa hcnt2,rfl⟩
   ·have hdI:(((z k).toNat:Int)==46)=false:=by
     rw [beq_eq_false_iff_ne];intro h;exact hd (UInt8.toNat_inj.1 (by show (z k).toNat=46;omega))
    have hbx:Hid (badR z k=(decide (kdc (z k)<0)||(decide (kdc (z k)=0)&&(decide (k/8=0)||decide (k/8=7))))):=hide (by
     unfold badR;have:(z k==46)=false:=by simpa using hd
     rw [this];rfl)
    have hcs:coc (z k)=0\/coc (z k)=sdb true\/coc (z k)=sdb false:=by
     unfold coc;split
     ·exact .inl rfl
     ·split
      ·exact .inr (.inl rfl)
      ·exact .inr (.inr rfl)
    have hc0:coc (z k)=0->kdc (z k)<0:=by
     unfold coc kdc;intro h;split at h
     ·rw [if_neg (by omega)];assumption
     ·split at h<;>omega
    have hkb:-1<=kdc (z k)/\kdc (z k)<=5:=by
     have:=qxx (z k);unfold kdc;split<;>omega
    have hkd:=hide (qqr (z k));have hco:=hide (jt (z k));have hct:=hide (fun b hc=>(qa hcnt').some b hc);have hend1:=hide (qa hend0 k hlt);clear hd;generalize kdc (z k)=x at hbx hc0 hkb hkd hct;generalize coc (z k)=y at hcs hc0 hco hct;obtain ⟨bv,hbv⟩:∃ v,Hid (badR z k=v):=⟨_,hide rfl⟩;rw [qa hbv] at hbx hend1;by_cases hx:x<0
    ·have hend:=hide (qa hend1 (by rw [qa hbx,decide_eq_true hx];rfl));go_wp2_with (first|(go_at_call 86;refine (qa hkd _).mono ?_;rintro e w' ⟨rfl,hw'⟩;obtain rfl:=hw'.symm)|(go_at_call 87;refine (qa hco _).mono ?_;rintro e w' ⟨rfl,hw'⟩;obtain rfl:=hw'.symm));go_ret;exact ⟨by rw [qa hend];rfl,qa hg3 _ _⟩
    ·have hkq:(k:Int)/8=((k/8:Nat):Int):=by omega
     have hq7:k/8<=7:=by omega
     by_cases hx0:x=0
     ·subst hx0;by_cases h8:k/8=0
      ·have hend:=hide (qa hend1 (by rw [qa hbx,h8];rfl));have h8i:(k:Int)/8=0:=by omega
       go_wp2_with (first|(go_at_call 86;refine (qa hkd _).mono ?_;rintro e w' ⟨rfl,hw'⟩;obtain rfl:=hw'.symm)|(go_at_call 87;refine (qa hco _).mono ?_;rintro e w' ⟨rfl,hw'⟩;obtain rfl:=hw'.symm));go_ret;exact ⟨by rw [qa hend];rfl,qa hg3 _ _⟩
      ·by_cases h7:k/8=7
       ·have hend:=hide (qa hend1 (by rw [qa hbx,h7];rfl));have h7i:(k:Int)/8=7:=by omega
        go_wp2_with (first|(go_at_call 86;refine (qa hkd _).mono ?_;rintro e w' ⟨rfl,hw'⟩;obtain rfl:=hw'.symm)|(go_at_call 87;refine (qa hco _).mono ?_;rintro e w' ⟨rfl,hw'⟩;obtain rfl:=hw'.symm));go_ret;exact ⟨by rw [qa hend];rfl,qa hg3 _ _⟩
       ·have hbad:Hid (bv=false):=hide (by rw [qa hbx,decide_eq_false h8,decide_eq_false h7];rfl);obtain ⟨q,hq⟩:∃ q:Int,(k:Int)/8=q:=⟨_,rfl⟩;have h8i:(q==0)=false:=by rw [beq_eq_false_iff_ne];omega
        have h7i:(q==7)=false:=by rw [beq_eq_false_iff_ne];omega
        clear hkq h8 h7 hq7;clear hend1 hbx;rcases hcs with hy|hy|hy
        ·exact absurd (hc0 hy) (by omega)
        ·have hcnt2:Hid (Cnt z (k+1) (k0) (k1) (m0+1) (m1)):=hide (by have:=qa hct true hy;simpa using this);have hyv:y=1:=hy;subst hyv;clear hy hct hc0;go_wp2_with (first|(go_at_call 86;refine (qa hkd _).mono ?_;rintro e w' ⟨rfl,hw'⟩;obtain rfl:=hw'.symm)|(go_at_call 87;refine (qa hco _).mono ?_;rintro e w' ⟨rfl,hw'⟩;obtain rfl:=hw'.symm));go_roundg (gk-1)
         case measure=>omega
         case rel=>exact ⟨k+1,by omega,by go_num,(by
          intro j hj;by_cases hjk:j=k
          ·subst hjk;exact (qa hbv).trans (qa hbad)
          ·exact qa k3' j (by omega)),k0,k1,m0+1,m1,qa hcnt2,by simp⟩
        ·have hcnt2:Hid (Cnt z (k+1) (k0) (k1) (m0) (m1+1)):=hide (by have:=qa hct false hy;simpa using this);have hyv:y=-1:=hy;subst hyv;clear hy hct hc0;go_wp2_with (first|(go_at_call 86;refine (qa hkd _).mono ?_;rintro e w' ⟨rfl,hw'⟩;obtain rfl:=hw'.symm)|(go_at_call 87;refine (qa hco _).mono ?_;rintro e w' ⟨rfl,hw'⟩;obtain rfl:=hw'.symm));go_roundg (gk-1)
         case measure=>omega
         case rel=>exact ⟨k+1,by omega,by go_num,(by
          intro j hj;by_cases hjk:j=k
          ·subst hjk;exact (qa hbv).trans (qa hbad)
          ·exact qa k3' j (by omega)),k0,k1,m0,m1+1,qa hcnt2,by simp⟩
     ·have hbad:Hid (bv=false):=hide (by rw [qa hbx,decide_eq_false hx,decide_eq_false hx0];rfl);have hx0i:(x==0)=false:=by simpa using hx0
      clear hend1 hbx;by_cases hx5:x=5
      ·subst hx5;rcases hcs with hy|hy|hy
       ·exact absurd (hc0 hy) (by omega)
       ·have hcnt2:Hid (Cnt z (k+1) (k0+1) (k1) (m0+1) (m1)):=hide (by have:=qa hct true hy;simpa using this);have hyv:y=1:=hy;subst hyv;clear hy hct hc0;go_wp2_with (first|(go_at_call 86;refine (qa hkd _).mono ?_;rintro e w' ⟨rfl,hw'⟩;obtain rfl:=hw'.symm)|(go_at_call 87;refine (qa hco _).mono ?_;rintro e w' ⟨rfl,hw'⟩;obtain rfl:=hw'.symm));go_roundg (gk-1)
        case measure=>omega
        case rel=>exact ⟨k+1,by omega,by go_num,(by
         intro j hj;by_cases hjk:j=k
         ·subst hjk;exact (qa hbv).trans (qa hbad)
         ·exact qa k3' j (by omega)),k0+1,k1,m0+1,m1,qa hcnt2,by simp⟩
       ·have hcnt2:Hid (Cnt z (k+1) (k0) (k1+1) (m0) (m1+1)):=hide (by have:=qa hct false hy;simpa using this);have hyv:y=-1:=hy;subst hyv;clear hy hct hc0;go_wp2_with (first|(go_at_call 86;refine (qa hkd _).mono ?_;rintro e w' ⟨rfl,hw'⟩;obtain rfl:=hw'.symm)|(go_at_call 87;refine (qa hco _).mono ?_;rintro e w' ⟨rfl,hw'⟩;obtain rfl:=hw'.symm));go_roundg (gk-1)
        case measure=>omega
        case rel=>exact ⟨k+1,by omega,by go_num,(by
         intro j hj;by_cases hjk:j=k
         ·subst hjk;exact (qa hbv).trans (qa hbad)
         ·exact qa k3' j (by omega)),k0,k1+1,m0,m1+1,qa hcnt2,by simp⟩
      ·have hx5i:(x==5)=false:=by simpa using hx5
       rcases hcs with hy|hy|hy
       ·exact absurd (hc0 hy) (by omega)
       ·have hcnt2:Hid (Cnt z (k+1) (k0) (k1) (m0+1) (m1)):=hide (by have:=qa hct true hy;simpa [hx5] using this);have hyv:y=1:=hy;subst hyv;clear hy hct hc0;go_wp2_with (first|(go_at_call 86;refine (qa hkd _).mono ?_;rintro e w' ⟨rfl,hw'⟩;obtain rfl:=hw'.symm)|(go_at_call 87;refine (qa hco _).mono ?_;rintro e w' ⟨rfl,hw'⟩;obtain rfl:=hw'.symm));go_roundg (gk-1)
        case measure=>omega
        case rel=>exact ⟨k+1,by omega,by go_num,(by
         intro j hj;by_cases hjk:j=k
         ·subst hjk;exact (qa hbv).trans (qa hbad)
         ·exact qa k3' j (by omega)),k0,k1,m0+1,m1,qa hcnt2,by simp⟩
       ·have hcnt2:Hid (Cnt z (k+1) (k0) (k1) (m0) (m1+1)):=hide (by have:=qa hct false hy;simpa [hx5] using this);have hyv:y=-1:=hy;subst hyv;clear hy hct hc0;go_wp2_with (first|(go_at_call 86;refine (qa hkd _).mono ?_;rintro e w' ⟨rfl,hw'⟩;obtain rfl:=hw'.symm)|(go_at_call 87;refine (qa hco _).mono ?_;rintro e w' ⟨rfl,hw'⟩;obtain rfl:=hw'.symm));go_roundg (gk-1)
        case measure=>omega
        case rel=>exact ⟨k+1,by omega,by go_num,(by
         intro j hj;by_cases hjk:j=k
         ·subst hjk;exact (qa hbv).trans (qa hbad)
         ·exact qa k3' j (by omega)),k0,k1,m0,m1+1,qa hcnt2,by simp⟩
  ·have ek:k=64:=by omega
   subst ek;have hrest:=hide (canR_rest (qa hcnt') (qa k3') wh f b h g);have hQcn:=hcnt';clear hcnt' k3' hend0;by_cases h0:k0=1
   ·by_cases h1:k1=1
    ·by_cases h2:m0<=16
     ·by_cases h3:m1<=16
      ·rw [decide_eq_true h0,decide_eq_true h1,decide_eq_true h2,decide_eq_true h3] at hrest;have hkings:Hid (∀ bb:Bool,∃ y:Nat,y<64/\kingR z bb=(y:Int)):=hide (kings_at (qa hQcn) h0 h1);clear hQcn;subst h0 h1;go_upto_region 19 with fail;generalize hW:((w.alloc (.cells PA 25)).alloc (.cells #[.int .i64 1,.int .i64 1] 160)).alloc (.cells #[.int .i64 m0,.int .i64 m1] 160)=w4;have hrow:Hid (RowAt w.heap.size PA w4):=hide (by rw [<-hW];exact w3_row w PA _ _ _ _);have hgr4:Hid (Gr w w4):=hide (by rw [<-hW];exact qa hg3 _ _);clear hW hg3 hle;have hmt:Hid (∀ (j:Int) (W:World),(j=5\/j=3)->Calls Tryz.prog 89 #[.int .i64 j,.int .i64 1] W fun e w'=>e=.returned (.int .u8 (manI true j))/\w'=W):=hide (man_two true);have hmf:Hid (∀ (j:Int) (W:World),(j=5\/j=3)->Calls Tryz.prog 89 #[.int .i64 j,.int .i64 (-1)] W fun e w'=>e=.returned (.int .u8 (manI false j))/\w'=W):=hide (man_two false);have hh0:Hid (∀ W:World,Calls Tryz.prog 88 #[.int .i64 0] W fun e w'=>e=.returned (.tuple #[.int .i64 4,.int .i64 6,.int .i64 7,.int .i64 1])/\w'=W):=hide (fun W=>zi 0 (by omega) W);have hh1:Hid (∀ W:World,Calls Tryz.prog 88 #[.int .i64 1] W fun e w'=>e=.returned (.tuple #[.int .i64 4,.int .i64 2,.int .i64 0,.int .i64 1])/\w'=W):=hide (fun W=>zi 1 (by omega) W);have hh2:Hid (∀ W:World,Calls Tryz.prog 88 #[.int .i64 2] W fun e w'=>e=.returned (.tuple #[.int .i64 60,.int .i64 62,.int .i64 63,.int .i64 (-1)])/\w'=W):=hide (fun W=>zi 2 (by omega) W);have hh3:Hid (∀ W:World,Calls Tryz.prog 88 #[.int .i64 3] W fun e w'=>e=.returned (.tuple #[.int .i64 60,.int .i64 58,.int .i64 56,.int .i64 (-1)])/\w'=W):=hide (fun W=>zi 3 (by omega) W);have hcf:=hide r.c;have hcbad:Hid (∀ k,k<4->castN z f k=false->canR z wh f b h g=false):=hide fun k hk hc=>by rw [qa hrest,xq hk hc];simp
       go_wp2;go_loopg [9] 4 (fun gg n wr=>∃ k:Nat,k+gg=4/\n=.int .i64 k/\(∀ j,j<k->castN z f j=true)/\Gr w4 wr)
       case atStart=>exact ⟨0,rfl,rfl,fun j hj=>absurd hj (Nat.not_lt_zero j),Gr.refl _⟩
       case round =>
        obtain ⟨k,k1',rfl,k3,hgr⟩:=hrel;have k3':=hide k3;have hgr':=hide hgr;clear k3;have hrw:=(qa hrow).gr hgr;clear hgr;by_cases hlt:k<4
        ·have hk4:k=0\/k=1\/k=2\/k=3:=by omega
         rcases hk4 with rfl|rfl|rfl|rfl
         ·have hfc:=hrw.at' (qa hcf 0 (by omega));have hkc:=hrw.at' (qa hsq 4 (by omega));have hrc:=hrw.at' (qa hsq 7 (by omega));have hcN:Hid (castN z f 0=(!(f 0)||(decide (((z 4).toNat:Int)=75)&&decide (((z 7).toNat:Int)=82)))):=hide rfl;obtain ⟨fv,hfv⟩:∃ v,Hid (f 0=v):=⟨_,hide rfl⟩;rw [qa hfv] at hfc hcN;obtain ⟨kv,hkv⟩:∃ v,Hid (((z 4).toNat:Int)=v):=⟨_,hide rfl⟩;obtain ⟨rv,hrv⟩:∃ v,Hid (((z 7).toNat:Int)=v):=⟨_,hide rfl⟩;rw [qa hkv] at hkc hcN;rw [qa hrv] at hrc hcN;clear hrw;cases fv
          ·have hok:Hid (castN z f 0=true):=hide (by rw [qa hcN];rfl);go_wp2_with (go_at_call 88;refine (qa hh0 _).mono ?_;rintro e w' ⟨rfl,hw'⟩;obtain rfl:=hw'.symm);go_quiet ((go_at_call 89;exact Calls.quiet_of_same (qa hmt _ _ (by first|exact .inl rfl|exact .inr rfl))));go_wp2;go_roundg (gk-1)
           case measure=>omega
           case rel=>exact ⟨0+1,by omega,by go_num,(by
            intro j hj;by_cases hjk:j=0
            ·subst hjk;exact qa hok
            ·exact qa k3' j (by omega)),Gr.drewN (qa hgr') _⟩
          ·by_cases h1:kv=75
           ·subst h1;by_cases h2:rv=82
            ·subst h2;have hok:Hid (castN z f 0=true):=hide (by rw [qa hcN];rfl);go_wp2_with (go_at_call 88;refine (qa hh0 _).mono ?_;rintro e w' ⟨rfl,hw'⟩;obtain rfl:=hw'.symm);go_quiet ((go_at_call 89;exact Calls.quiet_of_same (qa hmt _ _ (by first|exact .inl rfl|exact .inr rfl))));go_wp2;go_roundg (gk-1)
             case measure=>omega
             case rel=>exact ⟨0+1,by omega,by go_num,(by
              intro j hj;by_cases hjk:j=0
              ·subst hjk;exact qa hok
              ·exact qa k3' j (by omega)),Gr.drewN (qa hgr') _⟩
            ·have h2i:(rv != 82)=true:=bne_iff_ne.2 h2;have hend:Hid (canR z wh f b h g=false):=hide (qa hcbad 0 (by omega) (by rw [qa hcN,decide_eq_false h2];simp));go_wp2_with (go_at_call 88;refine (qa hh0 _).mono ?_;rintro e w' ⟨rfl,hw'⟩;obtain rfl:=hw'.symm);go_quiet ((go_at_call 89;exact Calls.quiet_of_same (qa hmt _ _ (by first|exact .inl rfl|exact .inr rfl))));go_wp2;go_ret;exact ⟨by rw [qa hend];rfl,Gr.trans (qa hgr4) (Gr.drewN (qa hgr') _)⟩
           ·have h1i:(kv != 75)=true:=bne_iff_ne.2 h1;have hend:Hid (canR z wh f b h g=false):=hide (qa hcbad 0 (by omega) (by rw [qa hcN,decide_eq_false h1];simp));go_wp2_with (go_at_call 88;refine (qa hh0 _).mono ?_;rintro e w' ⟨rfl,hw'⟩;obtain rfl:=hw'.symm);go_quiet ((go_at_call 89;exact Calls.quiet_of_same (qa hmt _ _ (by first|exact .inl rfl|exact .inr rfl))));go_wp2;go_ret;exact ⟨by rw [qa hend];rfl,Gr.trans (qa hgr4) (Gr.drewN (qa hgr') _)⟩
         ·have hfc:=hrw.at' (qa hcf 1 (by omega));have hkc:=hrw.at' (qa hsq 4 (by omega));have hrc:=hrw.at' (qa hsq 0 (by omega));have hcN:Hid (castN z f 1=(!(f 1)||(decide (((z 4).toNat:Int)=75)&&decide (((z 0).toNat:Int)=82)))):=hide rfl;obtain ⟨fv,hfv⟩:∃ v,Hid (f 1=v):=⟨_,hide rfl⟩;rw [qa hfv] at hfc hcN;obtain ⟨kv,hkv⟩:∃ v,Hid (((z 4).toNat:Int)=v):=⟨_,hide rfl⟩;obtain ⟨rv,hrv⟩:∃ v,Hid (((z 0).toNat:Int)=v):=⟨_,hide rfl⟩;rw [qa hkv] at hkc hcN;rw [qa hrv] at hrc hcN;clear hrw;cases fv
          ·have hok:Hid (castN z f 1=true):=hide (by rw [qa hcN];rfl);go_wp2_with (go_at_call 88;refine (qa hh1 _).mono ?_;rintro e w' ⟨rfl,hw'⟩;obtain rfl:=hw'.symm);go_quiet ((go_at_call 89;exact Calls.quiet_of_same (qa hmt _ _ (by first|exact .inl rfl|exact .inr rfl))));go_wp2;go_roundg (gk-1)
           case measure=>omega
           case rel=>exact ⟨1+1,by omega,by go_num,(by
            intro j hj;by_cases hjk:j=1
            ·subst hjk;exact qa hok
            ·exact qa k3' j (by omega)),Gr.drewN (qa hgr') _⟩
          ·by_cases h1:kv=75
           ·subst h1;by_cases h2:rv=82
            ·subst h2;have hok:Hid (castN z f 1=true):=hide (by rw [qa hcN];rfl);go_wp2_with (go_at_call 88;refine (qa hh1 _).mono ?_;rintro e w' ⟨rfl,hw'⟩;obtain rfl:=hw'.symm);go_quiet ((go_at_call 89;exact Calls.quiet_of_same (qa hmt _ _ (by first|exact .inl rfl|exact .inr rfl))));go_wp2;go_roundg (gk-1)
             case measure=>omega
             case rel=>exact ⟨1+1,by omega,by go_num,(by
              intro j hj;by_cases hjk:j=1
              ·subst hjk;exact qa hok
              ·exact qa k3' j (by omega)),Gr.drewN (qa hgr') _⟩
            ·have h2i:(rv != 82)=true:=bne_iff_ne.2 h2;have hend:Hid (canR z wh f b h g=false):=hide (qa hcbad 1 (by omega) (by rw [qa hcN,decide_eq_false h2];simp));go_wp2_with (go_at_call 88;refine (qa hh1 _).mono ?_;rintro e w' ⟨rfl,hw'⟩;obtain rfl:=hw'.symm);go_quiet ((go_at_call 89;exact Calls.quiet_of_same (qa hmt _ _ (by first|exact .inl rfl|exact .inr rfl))));go_wp2;go_ret;exact ⟨by rw [qa hend];rfl,Gr.trans (qa hgr4) (Gr.drewN (qa hgr') _)⟩
           ·have h1i:(kv != 75)=true:=bne_iff_ne.2 h1;have hend:Hid (canR z wh f b h g=false):=hide (qa hcbad 1 (by omega) (by rw [qa hcN,decide_eq_false h1];simp));go_wp2_with (go_at_call 88;refine (qa hh1 _).mono ?_;rintro e w' ⟨rfl,hw'⟩;obtain rfl:=hw'.symm);go_quiet ((go_at_call 89;exact Calls.quiet_of_same (qa hmt _ _ (by first|exact .inl rfl|exact .inr rfl))));go_wp2;go_ret;exact ⟨by rw [qa hend];rfl,Gr.trans (qa hgr4) (Gr.drewN (qa hgr') _)⟩
         ·have hfc:=hrw.at' (qa hcf 2 (by omega));have hkc:=hrw.at' (qa hsq 60 (by omega));have hrc:=hrw.at' (qa hsq 63 (by omega));have hcN:Hid (castN z f 2=(!(f 2)||(decide (((z 60).toNat:Int)=107)&&decide (((z 63).toNat:Int)=114)))):=hide rfl;obtain ⟨fv,hfv⟩:∃ v,Hid (f 2=v):=⟨_,hide rfl⟩;rw [qa hfv] at hfc hcN;obtain ⟨kv,hkv⟩:∃ v,Hid (((z 60).toNat:Int)=v):=⟨_,hide rfl⟩;obtain ⟨rv,hrv⟩:∃ v,Hid (((z 63).toNat:Int)=v):=⟨_,hide rfl⟩;rw [qa hkv] at hkc hcN;rw [qa hrv] at hrc hcN;clear hrw;cases fv
          ·have hok:Hid (castN z f 2=true):=hide (by rw [qa hcN];rfl);go_wp2_with (go_at_call 88;refine (qa hh2 _).mono ?_;rintro e w' ⟨rfl,hw'⟩;obtain rfl:=hw'.symm);go_quiet ((go_at_call 89;exact Calls.quiet_of_same (qa hmf _ _ (by first|exact .inl rfl|exact .inr rfl))));go_wp2;go_roundg (gk-1)
           case measure=>omega
           case rel=>exact ⟨2+1,by omega,by go_num,(by
            intro j hj;by_cases hjk:j=2
            ·subst hjk;exact qa hok
            ·exact qa k3' j (by omega)),Gr.drewN (qa hgr') _⟩
          ·by_cases h1:kv=107
           ·subst h1;by_cases h2:rv=114
            ·subst h2;have hok:Hid (castN z f 2=true):=hide (by rw [qa hcN];rfl);go_wp2_with (go_at_call 88;refine (qa hh2 _).mono ?_;rintro e w' ⟨rfl,hw'⟩;obtain rfl:=hw'.symm);go_quiet ((go_at_call 89;exact Calls.quiet_of_same (qa hmf _ _ (by first|exact .inl rfl|exact .inr rfl))));go_wp2;go_roundg (gk-1)
             case measure=>omega
             case rel=>exact ⟨2+1,by omega,by go_num,(by
              intro j hj;by_cases hjk:j=2
              ·subst hjk;exact qa hok
              ·exact qa k3' j (by omega)),Gr.drewN (qa hgr') _⟩
            ·have h2i:(rv != 114)=true:=bne_iff_ne.2 h2;have hend:Hid (canR z wh f b h g=false):=hide (qa hcbad 2 (by omega) (by rw [qa hcN,decide_eq_false h2];simp));go_wp2_with (go_at_call 88;refine (qa hh2 _).mono ?_;rintro e w' ⟨rfl,hw'⟩;obtain rfl:=hw'.symm);go_quiet ((go_at_call 89;exact Calls.quiet_of_same (qa hmf _ _ (by first|exact .inl rfl|exact .inr rfl))));go_wp2;go_ret;exact ⟨by rw [qa hend];rfl,Gr.trans (qa hgr4) (Gr.drewN (qa hgr') _)⟩
           ·have h1i:(kv != 107)=true:=bne_iff_ne.2 h1;have hend:Hid (canR z wh f b h g=false):=hide (qa hcbad 2 (by omega) (by rw [qa hcN,decide_eq_false h1];simp));go_wp2_with (go_at_call 88;refine (qa hh2 _).mono ?_;rintro e w' ⟨rfl,hw'⟩;obtain rfl:=hw'.symm);go_quiet ((go_at_call 89;exact Calls.quiet_of_same (qa hmf _ _ (by first|exact .inl rfl|exact .inr rfl))));go_wp2;go_ret;exact ⟨by rw [qa hend];rfl,Gr.trans (qa hgr4) (Gr.drewN (qa hgr') _)⟩
         ·have hfc:=hrw.at' (qa hcf 3 (by omega));have hkc:=hrw.at' (qa hsq 60 (by omega));have hrc:=hrw.at' (qa hsq 56 (by omega));have hcN:Hid (castN z f 3=(!(f 3)||(decide (((z 60).toNat:Int)=107)&&decide (((z 56).toNat:Int)=114)))):=hide rfl;obtain ⟨fv,hfv⟩:∃ v,Hid (f 3=v):=⟨_,hide rfl⟩;rw [qa hfv] at hfc hcN;obtain ⟨kv,hkv⟩:∃ v,Hid (((z 60).toNat:Int)=v):=⟨_,hide rfl⟩;obtain ⟨rv,hrv⟩:∃ v,Hid (((z 56).toNat:Int)=v):=⟨_,hide rfl⟩;rw [qa hkv] at hkc hcN;rw [qa hrv] at hrc hcN;clear hrw;cases fv
          ·have hok:Hid (castN z f 3=true):=hide (by rw [qa hcN];rfl);go_wp2_with (go_at_call 88;refine (qa hh3 _).mono ?_;rintro e w' ⟨rfl,hw'⟩;obtain rfl:=hw'.symm);go_quiet ((go_at_call 89;exact Calls.quiet_of_same (qa hmf _ _ (by first|exact .inl rfl|exact .inr rfl))));go_wp2;go_roundg (gk-1)
           case measure=>omega
           case rel=>exact ⟨3+1,by omega,by go_num,(by
            intro j hj;by_cases hjk:j=3
            ·subst hjk;exact qa hok
            ·exact qa k3' j (by omega)),Gr.drewN (qa hgr') _⟩
          ·by_cases h1:kv=107
           ·subst h1;by_cases h2:rv=114
            ·subst h2;have hok:Hid (castN z f 3=true):=hide (by rw [qa hcN];rfl);go_wp2_with (go_at_call 88;refine (qa hh3 _).mono ?_;rintro e w' ⟨rfl,hw'⟩;obtain rfl:=hw'.symm);go_quiet ((go_at_call 89;exact Calls.quiet_of_same (qa hmf _ _ (by first|exact .inl rfl|exact .inr rfl))));go_wp2;go_roundg (gk-1)
             case measure=>omega
             case rel=>exact ⟨3+1,by omega,by go_num,(by
              intro j hj;by_cases hjk:j=3
              ·subst hjk;exact qa hok
              ·exact qa k3' j (by omega)),Gr.drewN (qa hgr') _⟩
            ·have h2i:(rv != 114)=true:=bne_iff_ne.2 h2;have hend:Hid (canR z wh f b h g=false):=hide (qa hcbad 3 (by omega) (by rw [qa hcN,decide_eq_false h2];simp));go_wp2_with (go_at_call 88;refine (qa hh3 _).mono ?_;rintro e w' ⟨rfl,hw'⟩;obtain rfl:=hw'.symm);go_quiet ((go_at_call 89;exact Calls.quiet_of_same (qa hmf _ _ (by first|exact .inl rfl|exact .inr rfl))));go_wp2;go_ret;exact ⟨by rw [qa hend];rfl,Gr.trans (qa hgr4) (Gr.drewN (qa hgr') _)⟩
           ·have h1i:(kv != 107)=true:=bne_iff_ne.2 h1;have hend:Hid (canR z wh f b h g=false):=hide (qa hcbad 3 (by omega) (by rw [qa hcN,decide_eq_false h1];simp));go_wp2_with (go_at_call 88;refine (qa hh3 _).mono ?_;rintro e w' ⟨rfl,hw'⟩;obtain rfl:=hw'.symm);go_quiet ((go_at_call 89;exact Calls.quiet_of_same (qa hmf _ _ (by first|exact .inl rfl|exact .inr rfl))));go_wp2;go_ret;exact ⟨by rw [qa hend];rfl,Gr.trans (qa hgr4) (Gr.drewN (qa hgr') _)⟩
        ·have hok4:Hid (castOk z f=true):=hide (qva (by
          intro j hj;exact qa k3' j (by omega)))
         have ek:k=4:=by omega
         subst ek;clear hlt k3' hcbad hcf hh0 hh1 hh2 hh3 hmt hmf;rw [qa hok4] at hrest;have hbc:=hide r.b;have hzP:=r.size;have hbB:=hide r;clear r;have htu:=hide (fun W=>qqo (qa hbB) W);obtain ⟨me,hme⟩:∃ m,Hid (sdb wh=m):=⟨_,hide rfl⟩;rw [qa hme] at htu;go_upto_region 26 with (first|(refine ql (by rfl) _ rfl w.heap.size rfl hzP hrw ?_)|(go_at_call 90;refine (qa htu _).mono ?_;rintro e w5 ⟨rfl,hg5⟩));have hrw5:=hrw.gr hg5;have hg5':=hide hg5;clear hrw hg5 htu;have hb69:=hrw5.at' (qa hbc);go_upto_if 117 with fail;go_cut [15] from 118 to 165 (fun _ wx=>(∃ nq,wx=w5.drewN nq)/\behOk z wh b=true)
         case first =>
          cases wh
          ·have hme2:me=-1:=(qa hme).symm;subst hme2;by_cases hb1:b=-1
           ·subst hb1;have hbe:Hid (behOk z false (-1)=true):=hide (by unfold behOk;simp);go_wp2_with fail;go_meet
            case rel=>exact ⟨⟨0,rfl⟩,qa hbe⟩
           ·have hb1i:(b != -1)=true:=bne_iff_ne.2 hb1;by_cases hl:16<=b/\b<24
            ·obtain ⟨hl0,hl1⟩:=hl;obtain ⟨n,rfl⟩:∃ n:Nat,b=n:=⟨b.toNat,by omega⟩;have hq:(n:Int)/8=2:=by omega
             have hbx:Hid (behOk z false (n:Int)=(decide (((z n).toNat:Int)=46)&&decide (((z (n-8)).toNat:Int)=46)&&decide (((z (n+8)).toNat:Int)=80))):=hide (by
              have e1:((n:Int)-8).toNat=n-8:=by omega
              have e2:((n:Int)+8).toNat=n+8:=by omega
              have d0:decide ((n:Int)=-1)=false:=decide_eq_false (by omega);have d1:decide ((16:Int)<=n)=true:=decide_eq_true (by omega);have d2:decide ((n:Int)<24)=true:=decide_eq_true (by omega);unfold behOk;rw [d0,d1,d2,e1,e2,Int.toNat_natCast];simp only [Bool.false_or,Bool.true_and,if_true,if_false,Bool.false_eq_true])
             have x0c:=hrw5.at' (qa hsq n (by omega));have x1c:=hrw5.at' (qa hsq (n-8) (by omega));have x2c:=hrw5.at' (qa hsq (n+8) (by omega));have hn1:((n:Int)+-8).toNat=n-8:=by omega
             have hn2:((n:Int)-8).toNat=n-8:=by omega
             have hn3:((n:Int) - -8).toNat=n+8:=by omega
             have hm0:Hid (∀ W:World,Calls Tryz.prog 89 #[.int .i64 0,.int .i64 1] W fun e w'=>e=.returned (.int .u8 80)/\w'=W):=hide (man_0 true);generalize ((z n).toNat:Int)=x0 at x0c hbx;generalize ((z (n-8)).toNat:Int)=x1 at x1c hbx;generalize ((z (n+8)).toNat:Int)=x2 at x2c hbx;by_cases k0:x0=46
             ·subst k0;by_cases k1:x1=46
              ·subst k1;by_cases k2:x2=80
               ·subst k2;have hbe:Hid (behOk z false (n:Int)=true):=hide (by rw [qa hbx];rfl);go_wp2;go_quiet ((go_at_call 89;exact Calls.quiet_of_same (qa hm0 _)));go_wp2_with fail;go_meet
                case rel=>exact ⟨⟨nq,rfl⟩,qa hbe⟩
               ·have hend:Hid (canR z false f n h g=false):=hide (by rw [qa hrest,qa hbx,decide_eq_false k2];simp);have k2i:(x2 != 80)=true:=bne_iff_ne.2 k2;go_wp2;go_quiet ((go_at_call 89;exact Calls.quiet_of_same (qa hm0 _)));go_wp2;go_ret;exact ⟨by rw [qa hend];rfl,Gr.trans (qa hgr4) (Gr.trans (qa hgr') (Gr.drewN (qa hg5') _))⟩
              ·have hend:Hid (canR z false f n h g=false):=hide (by rw [qa hrest,qa hbx,decide_eq_false k1];simp);have k1i:(x1 != 46)=true:=bne_iff_ne.2 k1;go_wp2;go_quiet ((go_at_call 89;exact Calls.quiet_of_same (qa hm0 _)));go_wp2;go_ret;exact ⟨by rw [qa hend];rfl,Gr.trans (qa hgr4) (Gr.trans (qa hgr') (Gr.drewN (qa hg5') _))⟩
             ·have hend:Hid (canR z false f n h g=false):=hide (by rw [qa hrest,qa hbx,decide_eq_false k0];simp);have k0i:(x0 != 46)=true:=bne_iff_ne.2 k0;go_wp2;go_quiet ((go_at_call 89;exact Calls.quiet_of_same (qa hm0 _)));go_wp2;go_ret;exact ⟨by rw [qa hend];rfl,Gr.trans (qa hgr4) (Gr.trans (qa hgr') (Gr.drewN (qa hg5') _))⟩
            ·have hend:Hid (canR z false f b h g=false):=hide (by
              have:behOk z false b=false:=by unfold behOk;simp [hb1];omega
              rw [qa hrest,this];simp)
             by_cases hl0:b<0
             ·go_wp2;go_ret;exact ⟨by rw [qa hend];rfl,Gr.trans (qa hgr4) (Gr.trans (qa hgr') (qa hg5'))⟩
             ·by_cases hl1:63<b
              ·go_wp2;go_ret;exact ⟨by rw [qa hend];rfl,Gr.trans (qa hgr4) (Gr.trans (qa hgr') (qa hg5'))⟩
              ·obtain ⟨q,hq⟩:∃ q:Int,b/8=q:=⟨_,rfl⟩;have hqi:(q != 2)=true:=bne_iff_ne.2 (by omega);clear hl;go_wp2;go_ret;exact ⟨by rw [qa hend];rfl,Gr.trans (qa hgr4) (Gr.trans (qa hgr') (qa hg5'))⟩
          ·have hme2:me=1:=(qa hme).symm;subst hme2;by_cases hb1:b=-1
           ·subst hb1;have hbe:Hid (behOk z true (-1)=true):=hide (by unfold behOk;simp);go_wp2_with fail;go_meet
            case rel=>exact ⟨⟨0,rfl⟩,qa hbe⟩
           ·have hb1i:(b != -1)=true:=bne_iff_ne.2 hb1;by_cases hl:40<=b/\b<48
            ·obtain ⟨hl0,hl1⟩:=hl;obtain ⟨n,rfl⟩:∃ n:Nat,b=n:=⟨b.toNat,by omega⟩;have hq:(n:Int)/8=5:=by omega
             have hbx:Hid (behOk z true (n:Int)=(decide (((z n).toNat:Int)=46)&&decide (((z (n+8)).toNat:Int)=46)&&decide (((z (n-8)).toNat:Int)=112))):=hide (by
              have e1:((n:Int)+8).toNat=n+8:=by omega
              have e2:((n:Int)-8).toNat=n-8:=by omega
              have d0:decide ((n:Int)=-1)=false:=decide_eq_false (by omega);have d1:decide ((40:Int)<=n)=true:=decide_eq_true (by omega);have d2:decide ((n:Int)<48)=true:=decide_eq_true (by omega);unfold behOk;rw [d0,d1,d2,e1,e2,Int.toNat_natCast];simp only [Bool.false_or,Bool.true_and,if_true,if_false,Bool.false_eq_true])
             have x0c:=hrw5.at' (qa hsq n (by omega));have x1c:=hrw5.at' (qa hsq (n+8) (by omega));have x2c:=hrw5.at' (qa hsq (n-8) (by omega));have hn1:((n:Int)+-8).toNat=n-8:=by omega
             have hn2:((n:Int)-8).toNat=n-8:=by omega
             have hn3:((n:Int) - -8).toNat=n+8:=by omega
             have hm0:Hid (∀ W:World,Calls Tryz.prog 89 #[.int .i64 0,.int .i64 (-1)] W fun e w'=>e=.returned (.int .u8 112)/\w'=W):=hide (man_0 false);generalize ((z n).toNat:Int)=x0 at x0c hbx;generalize ((z (n+8)).toNat:Int)=x1 at x1c hbx;generalize ((z (n-8)).toNat:Int)=x2 at x2c hbx;by_cases k0:x0=46
             ·subst k0;by_cases k1:x1=46
              ·subst k1;by_cases k2:x2=112
               ·subst k2;have hbe:Hid (behOk z true (n:Int)=true):=hide (by rw [qa hbx];rfl);go_wp2;go_quiet ((go_at_call 89;exact Calls.quiet_of_same (qa hm0 _)));go_wp2_with fail;go_meet
                case rel=>exact ⟨⟨nq,rfl⟩,qa hbe⟩
               ·have hend:Hid (canR z true f n h g=false):=hide (by rw [qa hrest,qa hbx,decide_eq_false k2];simp);have k2i:(x2 != 112)=true:=bne_iff_ne.2 k2;go_wp2;go_quiet ((go_at_call 89;exact Calls.quiet_of_same (qa hm0 _)));go_wp2;go_ret;exact ⟨by rw [qa hend];rfl,Gr.trans (qa hgr4) (Gr.trans (qa hgr') (Gr.drewN (qa hg5') _))⟩
              ·have hend:Hid (canR z true f n h g=false):=hide (by rw [qa hrest,qa hbx,decide_eq_false k1];simp);have k1i:(x1 != 46)=true:=bne_iff_ne.2 k1;go_wp2;go_quiet ((go_at_call 89;exact Calls.quiet_of_same (qa hm0 _)));go_wp2;go_ret;exact ⟨by rw [qa hend];rfl,Gr.trans (qa hgr4) (Gr.trans (qa hgr') (Gr.drewN (qa hg5') _))⟩
             ·have hend:Hid (canR z true f n h g=false):=hide (by rw [qa hrest,qa hbx,decide_eq_false k0];simp);have k0i:(x0 != 46)=true:=bne_iff_ne.2 k0;go_wp2;go_quiet ((go_at_call 89;exact Calls.quiet_of_same (qa hm0 _)));go_wp2;go_ret;exact ⟨by rw [qa hend];rfl,Gr.trans (qa hgr4) (Gr.trans (qa hgr') (Gr.drewN (qa hg5') _))⟩
            ·have hend:Hid (canR z true f b h g=false):=hide (by
              have:behOk z true b=false:=by unfold behOk;simp [hb1];omega
              rw [qa hrest,this];simp)
             by_cases hl0:b<0
             ·go_wp2;go_ret;exact ⟨by rw [qa hend];rfl,Gr.trans (qa hgr4) (Gr.trans (qa hgr') (qa hg5'))⟩
             ·by_cases hl1:63<b
              ·go_wp2;go_ret;exact ⟨by rw [qa hend];rfl,Gr.trans (qa hgr4) (Gr.trans (qa hgr') (qa hg5'))⟩
              ·obtain ⟨q,hq⟩:∃ q:Int,b/8=q:=⟨_,rfl⟩;have hqi:(q != 5)=true:=bne_iff_ne.2 (by omega);clear hl;go_wp2;go_ret;exact ⟨by rw [qa hend];rfl,Gr.trans (qa hgr4) (Gr.trans (qa hgr') (qa hg5'))⟩
         case rest =>
          obtain ⟨⟨nq,hww⟩,hbe0⟩:=hcut;subst hww;have hbe:=hide hbe0;have hng:Hid (IntKind.i64.wrap (-me)=sdb (!wh)):=hide (by rw [<-qa hme];cases wh<;>decide)
          clear hbe0 hb69;go_upto_region 34 with fail;obtain ⟨y,hy64,hy⟩:=qa hkings (!wh);have hBd:=hide (qjd (qa hbB))
          have hKi:Hid (∀ W:World,Calls Tryz.prog 92 #[.agg (PA.toList.take 64).toArray,.int .i64 (sdb (!wh))] W fun e w'=>e=.returned (.int .i64 (y:Int))/\Gr W w'):=hide fun W=>by
           rw [<-hy];exact kingR_any z _ (qa hBd).2 (!wh) W
          obtain ⟨av,hav⟩:∃ v,Hid (attR z (y:Int) wh=v):=⟨_,hide rfl⟩
          have hAt:Hid (∀ W:World,Calls Tryz.prog 91 #[.agg (PA.toList.take 64).toArray,.int .i64 (y:Int),.int .i64 me] W fun e w'=>e=.returned (.bool av)/\Gr W w'):=hide fun W=>by
           rw [<-qa hav,<-qa hme];exact qqb z _ (qa hBd).1 (qa hBd).2 (y:Int) (by omega) (by omega) wh W
          have hres:Hid (canR z wh f b h g=(!av&&clkOk h g)):=hide (by
           rw [qa hrest,qa hbe];show (true&&true&&true&&true&&true&&true&&!(attR z (kingR z (!wh)) wh)&&clkOk h g)=_;rw [hy,qa hav];rfl)
          have hst:StR (w5.drewN nq) w.heap.size PA (w5.drewN nq).drew:=⟨(RowAt.gr hrw5 (Gr.drewN (Gr.refl _) _)).gr (Gr.refl _).drew,(Gr.refl _).drew⟩;refine wp_region_held_drew (S:=StR (w5.drewN nq) w.heap.size PA) (by kernel_rfl) hst (fun hHeld=>?_);refine C.ty 0 (.pointer (some ⟨w.heap.size,0,none⟩)) rfl (Or.inl ⟨by rfl,fun w _=>?_⟩) hHeld ?_
          ·go_simp
          refine C.ty 1 (.agg (PA.toList.take 64).toArray) rfl (qvh hzP (by rfl) _ rfl w.heap.size rfl (fun _ h=>h.1)) hHeld ?_;refine C.ty 2 (.pointer (some ⟨w.heap.size,0,none⟩)) rfl (Or.inl ⟨by rfl,fun w _=>?_⟩) hHeld ?_
          ·go_simp
          refine C.ty 3 (.agg (PA.toList.take 64).toArray) rfl (qvh hzP (by rfl) _ rfl w.heap.size rfl (fun _ h=>h.1)) hHeld ?_;refine C.ty 4 (.int .i64 me) rfl (Or.inl ⟨by rfl,fun w _=>?_⟩) hHeld ?_
          ·go_simp
          refine C.ty 5 (.int .i64 (sdb (!wh))) rfl (Or.inl ⟨by rfl,fun w _=>?_⟩) hHeld ?_
          ·go_simp;exact qa hng
          refine C.ty 7 (.int .i64 me) rfl (Or.inl ⟨by rfl,fun w _=>?_⟩) hHeld ?_
          ·go_simp
          refine C.rd 6 fun K hK=>?_
          go_simp;refine (qa hKi _).mono ?_;rintro e w6 ⟨rfl,hg6⟩;refine hK.out _ _ (hHeld.gr hg6) (fun hHeld=>?_);clear hK K hst hg6;refine C.rd 8 fun K hK=>?_
          go_simp;refine (qa hAt _).mono ?_;rintro e w7 ⟨rfl,hg7⟩;refine hK.out _ _ (hHeld.gr hg7) (fun hHeld=>?_);clear hK K hg7;refine C.rd 9 fun K hK=>?_
          go_simp;refine hK.out _ _ hHeld (fun hHeld=>?_);clear hK K;refine wpAnyH_done (by kernel_rfl) ?_ _;have hc70:=hHeld.1.at' (qa hbB).h;have hc71:=hHeld.1.at' (qa hbB).g;have hgF:Hid (Gr w w7):=hide (Gr.trans (Gr.trans (qa hgr4) (Gr.trans (qa hgr') (Gr.drewN (qa hg5') _))) hHeld.2);clear hHeld;cases av
          ·by_cases c1:0<=h
           ·by_cases c2:h<=65535
            ·by_cases c3:1<=g
             ·by_cases c4:g<=65535
              ·have hend:Hid (canR z wh f b h g=true):=hide (by rw [qa hres];unfold clkOk;simp [c1,c2,c3,c4]);go_wp2;go_ret;exact ⟨by rw [qa hend];rfl,qa hgF⟩
              ·have hend:Hid (canR z wh f b h g=false):=hide (by rw [qa hres];unfold clkOk;simp [c4]);go_wp2;go_ret;exact ⟨by rw [qa hend];rfl,qa hgF⟩
             ·have hend:Hid (canR z wh f b h g=false):=hide (by rw [qa hres];unfold clkOk;simp [c3]);go_wp2;go_ret;exact ⟨by rw [qa hend];rfl,qa hgF⟩
            ·have hend:Hid (canR z wh f b h g=false):=hide (by rw [qa hres];unfold clkOk;simp [c2]);go_wp2;go_ret;exact ⟨by rw [qa hend];rfl,qa hgF⟩
           ·have hend:Hid (canR z wh f b h g=false):=hide (by rw [qa hres];unfold clkOk;simp [c1]);go_wp2;go_ret;exact ⟨by rw [qa hend];rfl,qa hgF⟩
          ·have hend:Hid (canR z wh f b h g=false):=hide (by rw [qa hres];rfl);go_wp2;go_ret;exact ⟨by rw [qa hend];rfl,qa hgF⟩
      ·have hend:Hid (canR z wh f b h g=false):=hide (by rw [qa hrest,decide_eq_false h3];simp);go_wp2;go_ret;exact ⟨by rw [qa hend];rfl,qa hg3 _ _⟩
     ·have hend:Hid (canR z wh f b h g=false):=hide (by rw [qa hrest,decide_eq_false h2];simp);go_wp2;go_ret;exact ⟨by rw [qa hend];rfl,qa hg3 _ _⟩
    ·have h1i:((k1:Int)==1)=false:=by rw [beq_eq_false_iff_ne];omega
     have hend:Hid (canR z wh f b h g=false):=hide (by rw [qa hrest,decide_eq_false h1];simp);go_wp2;go_ret;exact ⟨by rw [qa hend];rfl,qa hg3 _ _⟩
   ·have h0i:((k0:Int)==1)=false:=by rw [beq_eq_false_iff_ne];omega
    have hend:Hid (canR z wh f b h g=false):=hide (by rw [qa hrest,decide_eq_false h0];simp);go_wp2;go_ret;exact ⟨by rw [qa hend];rfl,qa hg3 _ _⟩
end Go.Proofs.YtnfakamfmkhlbaaGreatDoor.C
