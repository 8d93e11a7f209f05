import Derived.Test.YtnfakamfmkhlbaaGreatDoorZs37
import Derived.Test.YtnfakamfmkhlbaaGreatDoorZs25
import Derived.Test.YtnfakamfmkhlbaaGreatDoorZs23
set_option maxRecDepth 100000
set_option maxHeartbeats 4000000
set_option linter.unusedSimpArgs false
namespace Go.Proofs.YtnfakamfmkhlbaaGreatDoor.C
open Go.ChangeShapes Go.WideShapes Go.ChangeAt Go.RowKit Go.Shelf
open Go.Proofs.YtnfakamfmkhlbaaGreatDoor.P
attribute [local go_sem] qd qi Oper.semAt_some
def El (p:Option Addr) (T:List ByteArray) (W:World):Prop:=∀ i (hi:i<T.length),∃ g,p=some ⟨g,0,none⟩/\W.cell? ⟨g,i,none⟩=some (.string T[i])
theorem El.gr {T:List ByteArray} {p:Option Addr} {W W':World} (h:El p T W) (hg:Gr W W'):El p T W':=el_gr h hg
theorem qvh (T:List ByteArray) (hT:T.length<=1000000) (p1 p2:Option Addr) (c1 c2:Nat) (w:World) (h1:El p1 T w) (h2:El p2 T w):Calls Tryz.prog 42 #[.slice p1 T.length c1,.slice p2 T.length c2] w fun e w'=>e=.returned (.bool true)/\Gr w w':=by
 have h1':=hide h1;have h2':=hide h2;clear h1 h2;obtain ⟨N,hN⟩:∃ N,N=T.length:=⟨_,rfl⟩;rw [<-hN] at hT ⊢;go_enter Tryz.func42,Tryz.ntmps42;go_upto_region 3 with fail;go_wp2_with fail;go_loopg [5] N (fun g v wr=>∃ (j d:Nat),j+g=N/\v=.int .i64 (j:Int)/\wr=w.drewN d)
 case atStart=>exact ⟨0,0,by omega,rfl,rfl⟩
 case round =>
  obtain ⟨j,d,k1,rfl,rfl⟩:=hrel;by_cases hlt:j<N
  ·obtain ⟨g1,rfl,x1⟩:=qa h1' j (by omega);obtain ⟨g2,rfl,x2⟩:=qa h2' j (by omega);have hj0:(0:Int)<=(j:Int):=by omega
   have hjN:(j:Int)<(N:Int):=by omega
   generalize T[j]'(by omega)=X at x1 x2;have f1:=neq_run X;go_upto_region 6 with fail;go_quiet (fail)
   all_goals
    go_wp2;go_roundg (gk-1)
    case measure=>omega
    case rel=>exact ⟨j+1,_,by omega,by go_num,rfl⟩
  ·have ej:j=N:=by omega
   go_wp2;go_ret;exact ⟨rfl,Gr.drewN (Gr.refl w) _⟩
def kingsE:List Mv:=[(4,12,0),(4,13,0),(4,5,0),(4,3,0),(4,11,0)]
def kingsS:List Mv:=[(4,3,0),(4,11,0),(4,12,0),(4,5,0),(4,13,0)]
theorem kings_let:(readS kingsB).map (fun p=>letL (posZ p) p.white p.castle p.behind)=some kingsE:=by decide +kernel
theorem kings_rise:kingsS.Pairwise fun x y=>txt x<txt y:=by decide +kernel
theorem qz0:(kingsE.all fun x=>kingsS.contains x)=true/\(kingsS.all fun x=>kingsE.contains x)=true:=by decide +kernel
def kingsT:List ByteArray:=[⟨#[101,49,100,49]⟩,⟨#[101,49,100,50]⟩,⟨#[101,49,101,50]⟩,⟨#[101,49,102,49]⟩,⟨#[101,49,102,50]⟩]
theorem kings_txt:txts kingsS=kingsT:=by decide +kernel
theorem kings_is:∃ p,readS kingsB=some p/\posCan p=true/\sortM (waL p 1)=kingsS/\sortM (waL p 2)=kingsS:=by
 obtain ⟨p,h1,h2⟩:=kings_read;have hl:=kings_let;rw [h1] at hl;have hl:letL (posZ p) p.white p.castle p.behind=kingsE:=by simpa using hl
 obtain ⟨hC,hb0,hb1⟩:=qqs h1 h2;have hk:=qx3 hC hb0 hb1;obtain ⟨t1,t2⟩:=pos_twin h1 h2
 have e1:sortM (waL p 1)=kingsS:=by
  refine za (fun a c h=>List.lt_asymm h) _ _ (by rw [t1];exact t2) kings_rise fun x=>?_
  rw [(xv _).mem_iff];show x∈letL (posZ p) p.white p.castle p.behind↔_;rw [hl];constructor
  ·intro hx;have:=List.all_eq_true.1 qz0.1 x hx;simpa using this
  ·intro hx;have:=List.all_eq_true.1 qz0.2 x hx;simpa using this
 exact ⟨p,h1,h2,e1,by rw [<-t1];exact e1⟩
theorem kingsMoves (n:Int) (hn:n=1\/n=2) (m:Int) (w:World) (hc:Ct m w) (ht:Tabs w):Calls Tryz.prog 20 #[.string kingsB,.int .i64 n] w fun e w'=>MoEnd kingsT 0 e w'/\Gr w w':=by
 obtain ⟨p,h1,h2,h3,h4⟩:=kings_is;refine (qvj kingsB (by decide +kernel) n (fun q a b=>pos_let a b) m w hc ht).mono fun e w' h=>⟨?_,h.2⟩
 have hs:sortM (waL p n)=kingsS:=by rcases hn with rfl|rfl;exact h3;exact h4
 rcases h.1 with ⟨a,_⟩|⟨q,a,b,_⟩|⟨q,_,_,a,_⟩|⟨q,v,a,_,_,rfl,hv⟩
 ·rw [h1] at a;cases a
 ·rw [h1] at a;rw [<-Option.some.inj a,h2] at b;cases b
 ·exact absurd hn a
 ·rw [h1] at a;rw [<-Option.some.inj a,hs,kings_txt] at hv;obtain ⟨pp,cap,rfl,hcap,hel⟩:=strs_form hv;exact ⟨pp,cap,rfl,hcap,hel⟩
end Go.Proofs.YtnfakamfmkhlbaaGreatDoor.C
namespace Go.Proofs.YtnfakamfmkhlbaaGreatDoor.C
open Go.RowKit
open Go.Proofs.YtnfakamfmkhlbaaGreatDoor.P
def lastR (t:Nat):Bool:=decide (t/8=0)||decide (t/8=7)
def upR (f t:Nat):Int:=((t/8:Nat):Int)-((f/8:Nat):Int)
def pwU (z:Nat->UInt8) (wh:Bool) (f t:Nat):Bool:=decide (upR f t=sdb wh)||(decide (upR f t=2*sdb wh)&&decide (f/8=(if wh then 1 else 6))&&decide (z (if wh then f+8 else f-8)=46))
def pwR (z:Nat->UInt8) (wh:Bool) (b:Int) (f t:Nat):Bool :=
 if attI (zI z) 0 (sdb wh) (f:Int) (t:Int) then decide (coc (z t)=sdb (!wh))||decide ((t:Int)=b)
 else decide (f%8=t%8)&&decide (z t=46)&&pwU z wh f t
def mnR (z:Nat->UInt8) (wh:Bool) (fc:Nat->Bool) (k f t:Nat) (u:UInt8):Bool :=
 if attI (zI z) k (sdb wh) (f:Int) (t:Int) then true
 else decide (k=5)&&decide (0<=casR wh fc f t u)&&freeC z (casR wh fc f t u).toNat
def goesR (z:Nat->UInt8) (wh:Bool) (fc:Nat->Bool) (b:Int) (f t:Nat) (u:UInt8):Bool :=
 decide (coc (z f)=sdb wh)&&!decide (coc (z t)=sdb wh)&&(decide (u≠0)==(decide (kdc (z f)=0)&&lastR t))&&(if kdc (z f)=0 then pwR z wh b f t else mnR z wh fc (kdc (z f)).toNat f t u)
def U5:List UInt8:=[0,98,110,113,114]
end Go.Proofs.YtnfakamfmkhlbaaGreatDoor.C
namespace Go.Proofs.YtnfakamfmkhlbaaGreatDoor.C
open Go.ChangeShapes Go.WideShapes Go.ChangeAt Go.RowKit
open Go.Proofs.YtnfakamfmkhlbaaGreatDoor.P
attribute [local go_sem] qd qi
structure Pm (w:World) (PA:Array Value) (f t:Nat) (u:UInt8) (W:World):Prop where
 pa:W.heap[w.heap.size]?=some (.cells PA 25)
 mv:W.heap[w.heap.size+1]?=some (.cells #[.int .i64 (f:Int),.int .i64 (t:Int),.int .u8 (u.toNat:Int)] 171)
 lt:w.heap.size+1<W.heap.size
 gr:Gr w W
theorem Pm.next {w W W':World} {PA:Array Value} {f t:Nat} {u:UInt8} (h:Pm w PA f t u W) (g:Gr W W'):Pm w PA f t u W' :=
 ⟨(Below.block g _ (Nat.lt_of_succ_lt h.lt)).trans h.pa,(Below.block g _ h.lt).trans h.mv,Nat.lt_of_lt_of_le h.lt (Below.size g),Gr.trans h.gr g⟩
theorem Pm.start (w:World) (PA:Array Value) (f t:Nat) (u:UInt8):Pm w PA f t u ((w.alloc (.cells PA 25)).alloc (.cells #[.int .i64 (f:Int),.int .i64 (t:Int),.int .u8 (u.toNat:Int)] 171)):=by
 obtain ⟨e1,e2⟩:=row_at (w:=w) (PA:=PA) (o:=#[.int .i64 (f:Int),.int .i64 (t:Int),.int .u8 (u.toNat:Int)]) (ty:=25) (ty2:=171) (Gr.refl _);exact ⟨e1,e2,by rw [World.size_alloc,World.size_alloc];omega,((Gr.refl w).alloc _ _).alloc _ _⟩
theorem Pm.cells {w W:World} {PA:Array Value} {f t:Nat} {u:UInt8} (h:Pm w PA f t u W):W.cell? ⟨w.heap.size+1,0,none⟩=some (.int .i64 (f:Int))/\W.cell? ⟨w.heap.size+1,1,none⟩=some (.int .i64 (t:Int))/\W.cell? ⟨w.heap.size+1,2,none⟩=some (.int .u8 (u.toNat:Int)) :=
 ⟨by rw [qm h.mv];rfl,by rw [qm h.mv];rfl,by rw [qm h.mv];rfl⟩
theorem Pm.at {w W:World} {PA:Array Value} {f t:Nat} {u:UInt8} (h:Pm w PA f t u W) {k:Nat} {v:Value} (hv:PA[k]?=some v):W.cell? ⟨w.heap.size,k,none⟩=some v:=by
 rw [qm h.pa];exact hv
theorem qz7 (wh:Bool) (fc:Nat->Bool) (f t:Nat) (u:UInt8):casR wh fc f t u=-1\/∃ i:Nat,i<4/\casR wh fc f t u=(i:Int):=by
 have hu:casR wh fc f t u=if casB wh fc f t u 0 then 0 else if casB wh fc f t u 1 then 1 else if casB wh fc f t u 2 then 2 else if casB wh fc f t u 3 then 3 else -1:=rfl;rw [hu];split
 ·exact .inr ⟨0,by omega,rfl⟩
 ·split
  ·exact .inr ⟨1,by omega,rfl⟩
  ·split
   ·exact .inr ⟨2,by omega,rfl⟩
   ·split
    ·exact .inr ⟨3,by omega,rfl⟩
    ·exact .inl rfl
theorem goesR_any {z:Nat->UInt8} {wh:Bool} {fc:Nat->Bool} {b h g:Int} {PA:Array Value} (r:Row z wh fc b h g PA) (f t:Nat) (hf:f<64) (ht:t<64) (u:UInt8) (w:World):Calls Tryz.prog 231 #[.agg PA,.agg #[.int .i64 (f:Int),.int .i64 (t:Int),.int .u8 (u.toNat:Int)]] w fun e w'=>e=.returned (.bool (goesR z wh fc b f t u))/\Gr w w':=by
 have hz:=r.size;have hP0:=Pm.start w PA f t u;have htu:=hide (fun W=>zn r W);have hcf:=hide (fun (c:UInt8) W=>jo c W);have hkf:=hide (fun W=>zu (z f) W);have hf0:(0:Int)<=(f:Int):=by omega
 have hf1:(f:Int)<64:=by omega
 have ht0:(0:Int)<=(t:Int):=by omega
 have ht1:(t:Int)<64:=by omega
 have hvf:=r.sq f hf;have hvt:=r.sq t ht;have hrow:=hide (rowOf hP0.pa);obtain ⟨bs,bA⟩:=zw r;have hatt:=hide (fun (k:Nat) (hk:k<=5) W=>qj6 _ (zI z) bA bs k hk (sdb wh) (f:Int) (t:Int) (by omega) (by omega) (by omega) (by omega) W);have hcas:=hide (fun W=>qj0 r f t u W);have hfree:=hide (fun i hi W=>free_any r i hi W);have hmid:=hide (fun W (h:RowAt w.heap.size PA W)=>mid_at h);have hi64:(Tryz.prog.info? 22).map (·.size)=some (PA.toList.take 64).length:=by rw [info64];simp [r.size]
 have hi64':=hide hi64;have hvb:=r.b;have hsq:=hide r.sq;clear bs bA hi64;generalize (PA.toList.take 64)=L at hatt hmid hi64';obtain ⟨V,hV⟩:∃ V,Hid (V=goesR z wh fc b f t u):=⟨_,hide rfl⟩;rw [<-qa hV];go_enter Tryz.func231,Tryz.ntmps231
 go_upto_region 2 with (first
  | (go_at_call 90;refine (qa htu _).mono ?_;rintro e w1 ⟨rfl,hg1⟩)
  | (refine ql (by rfl) _ rfl w.heap.size rfl hz (qa hrow) ?_))
 have hP1:=hP0.next hg1;clear hP0 hg1 hrow htu;obtain ⟨m0,m1,m2⟩:=hP1.cells;have cf:=hP1.at hvf;have ct:=hP1.at hvt;clear ct cf m0 m1 m2;have hcl:=hide (fun W (h:Pm w PA f t u W)=>h.cells);have hbd:=hide (fun W (h:Pm w PA f t u W)=>(⟨h.at hvf,h.at hvt⟩:_/\_));have hgw:=hide hP1.gr;by_cases c1:coc (z f)=sdb wh
 case neg =>
  have hV1:Hid (V=false):=hide (by rw [qa hV];unfold goesR;rw [decide_eq_false c1];simp);have d1:(coc (z f) != sdb wh)=true:=bne_iff_ne.2 c1;obtain ⟨m0,m1,m2⟩:=qa hcl _ hP1;obtain ⟨cf,ct⟩:=qa hbd _ hP1;clear c1
  go_wp2_with (first
   | (go_at_call 87;refine (qa hcf _ _).mono ?_;rintro e w' ⟨rfl,hww⟩;have hww':=hww.symm;subst hww';clear hww))
  go_ret;exact ⟨by rw [qa hV1];rfl,qa hgw⟩
 case pos =>
  have d1:(coc (z f) != sdb wh)=false:=by rw [c1];simp
  by_cases c2:coc (z t)=sdb wh
  case pos =>
   have hV1:Hid (V=false):=hide (by rw [qa hV];unfold goesR;rw [decide_eq_true c2];simp);have d2:(coc (z t)==sdb wh)=true:=beq_iff_eq.2 c2;obtain ⟨m0,m1,m2⟩:=qa hcl _ hP1;obtain ⟨cf,ct⟩:=qa hbd _ hP1;clear c1 c2
   go_wp2_with (first
    | (go_at_call 87;refine (qa hcf _ _).mono ?_;rintro e w' ⟨rfl,hww⟩;have hww':=hww.symm;subst hww';clear hww))
   go_ret;exact ⟨by rw [qa hV1];rfl,qa hgw⟩
  case neg =>
   have d2:(coc (z t)==sdb wh)=false:=by rw [beq_eq_false_iff_ne];exact c2
   obtain ⟨m0,m1,m2⟩:=qa hcl _ hP1;obtain ⟨cf,ct⟩:=qa hbd _ hP1
   have hl0:Hid (lastR t=(((t:Int)/8==0)||((t:Int)/8==7))):=hide (by
    unfold lastR
    have e0:decide (t/8=0)=((t:Int)/8==0):=by
     by_cases q:t/8=0
     ·rw [decide_eq_true q];symm;rw [beq_iff_eq];omega
     ·rw [decide_eq_false q];symm;rw [beq_eq_false_iff_ne];omega
    have e7:decide (t/8=7)=((t:Int)/8==7):=by
     by_cases q:t/8=7
     ·rw [decide_eq_true q];symm;rw [beq_iff_eq];omega
     ·rw [decide_eq_false q];symm;rw [beq_eq_false_iff_ne];omega
    rw [e0,e7])
   have hnu:((u.toNat:Int) != 0)=decide (u≠0):=by
    by_cases e:u=0
    ·subst e;rfl
    ·have:(u.toNat:Int)≠0:=fun h=>e (UInt8.toNat_inj.1 (by simpa using h))
     rw [bne_iff_ne.2 this,decide_eq_true e]
   obtain ⟨k,hk5,hkd⟩:=kd_of_co c1;rw [hkd] at hkf;by_cases k0:k=0
   ·subst k0;have hkf:Hid (∀ W,Calls Tryz.prog 86 #[.int .u8 ((z f).toNat:Int)] W fun e w'=>e=.returned (.int .i64 0)/\w'=W):=hkf;have hV2:∀ a l,decide (u≠0)=a->lastR t=l->V=((a==l)&&pwR z wh b f t):=fun a l ea el=>by rw [qa hV];unfold goesR;rw [decide_eq_true c1,decide_eq_false c2,ea,el,hkd];simp
    have hV2:=hide hV2
    go_upto_region 6 with (first
     | (go_at_call 87;refine (qa hcf _ _).mono ?_;rintro e w' ⟨rfl,hww⟩;have hww':=hww.symm;subst hww';clear hww)
     | (go_at_call 86;refine (qa hkf _).mono ?_;rintro e w' ⟨rfl,hww⟩;have hww':=hww.symm;subst hww';clear hww))
    clear hkf;go_cut [8] from 37 (fun s8 wx=>s8=.bool (lastR t)/\wx=w1)
    case first =>
     clear hatt hcas hfree hmid hi64' hcl hbd hV;go_wp2_with fail
     all_goals
      go_meet
      case rel=>exact ⟨by first|(rw [qa hl0];done)|(rw [qa hl0];simp [*]),rfl⟩
    case rest =>
     obtain ⟨rfl,rfl⟩:=hcut;obtain ⟨a,ha⟩:∃ a,Hid (decide (u≠0)=a):=⟨_,hide rfl⟩;obtain ⟨l,hl⟩:∃ l,Hid (lastR t=l):=⟨_,hide rfl⟩;rw [qa ha] at hnu;rw [qa hl];clear hl0;have hV3:=hide (qa hV2 a l (qa ha) (qa hl));clear hV hV2 ha hl hkd;have hat:Hid (∀ W,Calls Tryz.prog 156 #[.agg L.toArray,.int .i64 0,.int .i64 (sdb wh),.int .i64 (f:Int),.int .i64 (t:Int)] W fun e w'=>e=.returned (.bool (attI (zI z) 0 (sdb wh) (f:Int) (t:Int)))/\Gr W w'):=hide (qa hatt 0 (by omega));obtain ⟨AT,hAT⟩:∃ x,Hid (attI (zI z) 0 (sdb wh) (f:Int) (t:Int)=x):=⟨_,hide rfl⟩;rw [qa hAT] at hat;clear hatt hcas hfree;by_cases hal:a=l
     case neg =>
      have hne:(!a==l)=true:=by cases a<;>cases l<;>simp at hal ⊢
      have hV4:Hid (V=false):=hide (by rw [qa hV3,beq_eq_false_iff_ne.2 hal];rfl);go_wp2_with fail;go_ret;exact ⟨by rw [qa hV4];rfl,qa hgw⟩
     case pos =>
      subst hal;have hne:(!a==a)=false:=by cases a<;>rfl
      have hV4:Hid (V=pwR z wh b f t):=hide (by rw [qa hV3];simp);have hV5:Hid (V=if AT then decide (coc (z t)=sdb (!wh))||decide ((t:Int)=b) else decide (f%8=t%8)&&decide (z t=46)&&pwU z wh f t):=hide (by rw [qa hV4,<-qa hAT];rfl);clear hV3 hV4 hAT;have hrow:=hide (rowOf hP1.pa)
      go_upto_region 10 with (first
       | (go_at_call 156;refine (qa hat _).mono ?_;rintro e w2 ⟨rfl,hg2⟩)
       | (refine wpList_load_mid rfl 22 _ rfl w.heap.size 0 rfl L _ (qa hmid _ (qa hrow)) Tryz.underlying22 rfl (qa hi64') ?_))
      have hP2:=hP1.next hg2;clear hP1 hg2 hrow hat hmid hi64' m0 m1 m2 cf ct hgw;have hgw:=hide hP2.gr;obtain ⟨m0,m1,m2⟩:=qa hcl _ hP2;obtain ⟨cf,ct⟩:=qa hbd _ hP2;have cb:=hP2.at hvb;cases AT
      ·have hV6:Hid (V=(decide (f%8=t%8)&&decide (z t=46)&&pwU z wh f t)):=hV5;clear hV5 hcf;by_cases s1:f%8=t%8
       case neg =>
        have hs1:((f:Int)%8==(t:Int)%8)=false:=by rw [beq_eq_false_iff_ne];omega
        have hs2:((f:Int)%8 != (t:Int)%8)=true:=by rw [bne_iff_ne];omega
        have hV7:Hid (V=false):=hide (by rw [qa hV6,decide_eq_false s1];rfl);clear s1;go_wp2_with fail;go_ret;exact ⟨by rw [qa hV7];rfl,qa hgw⟩
       case pos =>
        have hs1:((f:Int)%8==(t:Int)%8)=true:=by rw [beq_iff_eq];omega
        have hs2:((f:Int)%8 != (t:Int)%8)=false:=by
         have:(f:Int)%8=(t:Int)%8:=by omega
         rw [this];simp
        by_cases s2:z t=46
        case neg =>
         have hs3:(((z t).toNat:Int) != 46)=true:=by rw [bne_iff_ne];intro e;exact s2 (UInt8.toNat_inj.1 (by show (z t).toNat=46;omega))
         have hs4:(((z t).toNat:Int)==46)=false:=by rw [beq_eq_false_iff_ne];intro e;exact s2 (UInt8.toNat_inj.1 (by show (z t).toNat=46;omega))
         have hV7:Hid (V=false):=hide (by rw [qa hV6,decide_eq_false s2];simp);clear s1 s2;go_wp2_with fail;go_ret;exact ⟨by rw [qa hV7];rfl,qa hgw⟩
        case pos =>
         have hs3:(z t).toNat=46:=by rw [s2];rfl
         rw [hs3] at ct;have hV7:Hid (V=pwU z wh f t):=hide (by rw [qa hV6,decide_eq_true s1,decide_eq_true s2];rfl);clear hV6 s1 s2;have hV8:Hid (V=(decide (upR f t=sdb wh)||(decide (upR f t=2*sdb wh)&&decide (f/8=(if wh then 1 else 6))&&decide (z (if wh then f+8 else f-8)=46)))):=hV7;have hup:Hid (upR f t=(t:Int)/8-(f:Int)/8):=hide (by unfold upR;omega);have hwr:IntKind.i64.wrap ((t:Int)/8-(f:Int)/8)=(t:Int)/8-(f:Int)/8:=by rw [IntKind.wrap_i64];omega
         rw [qa hup] at hV8;clear hV7 hup hcl hbd;obtain ⟨d,hd⟩:∃ d,Hid ((t:Int)/8-(f:Int)/8=d):=⟨_,hide rfl⟩;cases wh
         ·have hV9:Hid (V=(decide (d=-1)||(decide (d=-2)&&decide (f/8=6)&&decide (z (f-8)=46)))):=hide (by rw [qa hV8,qa hd];rfl);clear hV8;have hme:sdb false=-1:=rfl;rw [hme];go_upto_region 26 with fail;rw [qa hd];have hsd:=hide (show (t:Int)/8-(f:Int)/8=d from qa hd);by_cases d1:d=-1
          case pos =>
           have hVa:Hid (V=true):=hide (by rw [qa hV9,d1];rfl);subst d1;go_wp2_with fail;go_ret;exact ⟨by rw [qa hVa];rfl,qa hgw⟩
          case neg =>
           have e1:(d==-1)=false:=by rw [beq_eq_false_iff_ne];exact d1
           by_cases d2:d=-2
           case neg =>
            have e2:(d==-2)=false:=by rw [beq_eq_false_iff_ne];exact d2
            have hVa:Hid (V=false):=hide (by rw [qa hV9,decide_eq_false d1,decide_eq_false d2];rfl);clear d1 d2;go_wp2_with fail;go_ret;exact ⟨by rw [qa hVa];rfl,qa hgw⟩
           case pos =>
            subst d2;by_cases d3:f/8=6
            case neg =>
             have e3:((f:Int)/8==6)=false:=by rw [beq_eq_false_iff_ne];omega
             have hVa:Hid (V=false):=hide (by rw [qa hV9,decide_eq_false d3];rfl);clear d3 d1;go_wp2_with fail;go_ret;exact ⟨by rw [qa hVa];rfl,qa hgw⟩
            case pos =>
             have e3:((f:Int)/8==6)=true:=by rw [beq_iff_eq];omega
             obtain ⟨n,hn⟩:∃ n,Hid (f-8=n):=⟨_,hide rfl⟩;have hn1:n<64:=by have:=qa hn;omega
             have e4:IntKind.i64.wrap ((f:Int)+(-8))=(n:Int):=by rw [IntKind.wrap_i64];have:=qa hn;omega
             have e5:(0:Int)<=(n:Int):=by omega
             have e6:(n:Int)<64:=by omega
             have cn:=hP2.at (qa hsq n hn1)
             have hVa:Hid (V=(((z n).toNat:Int)==46)):=hide (by
              rw [qa hV9,decide_eq_true d3,qa hn];by_cases e:z n=46
              ·rw [e];rfl
              ·have:¬ ((z n).toNat:Int)=46:=fun q=>e (UInt8.toNat_inj.1 (by show (z n).toNat=46;omega))
               rw [decide_eq_false e,beq_eq_false_iff_ne.2 this];rfl)
             clear d3 d1 hn;go_wp2_with fail;go_ret;exact ⟨by rw [qa hVa];rfl,qa hgw⟩
         ·have hV9:Hid (V=(decide (d=1)||(decide (d=2)&&decide (f/8=1)&&decide (z (f+8)=46)))):=hide (by rw [qa hV8,qa hd];rfl);clear hV8;have hme:sdb true=1:=rfl;rw [hme];go_upto_region 26 with fail;rw [qa hd];have hsd:=hide (show (t:Int)/8-(f:Int)/8=d from qa hd);by_cases d1:d=1
          case pos =>
           have hVa:Hid (V=true):=hide (by rw [qa hV9,d1];rfl);subst d1;go_wp2_with fail;go_ret;exact ⟨by rw [qa hVa];rfl,qa hgw⟩
          case neg =>
           have e1:(d==1)=false:=by rw [beq_eq_false_iff_ne];exact d1
           by_cases d2:d=2
           case neg =>
            have e2:(d==2)=false:=by rw [beq_eq_false_iff_ne];exact d2
            have hVa:Hid (V=false):=hide (by rw [qa hV9,decide_eq_false d1,decide_eq_false d2];rfl);clear d1 d2;go_wp2_with fail;go_ret;exact ⟨by rw [qa hVa];rfl,qa hgw⟩
           case pos =>
            subst d2;by_cases d3:f/8=1
            case neg =>
             have e3:((f:Int)/8==1)=false:=by rw [beq_eq_false_iff_ne];omega
             have hVa:Hid (V=false):=hide (by rw [qa hV9,decide_eq_false d3];rfl);clear d3 d1;go_wp2_with fail;go_ret;exact ⟨by rw [qa hVa];rfl,qa hgw⟩
            case pos =>
             have e3:((f:Int)/8==1)=true:=by rw [beq_iff_eq];omega
             obtain ⟨n,hn⟩:∃ n,Hid (f+8=n):=⟨_,hide rfl⟩;have hn1:n<64:=by have:=qa hn;omega
             have e4:IntKind.i64.wrap ((f:Int)+8)=(n:Int):=by rw [IntKind.wrap_i64];have:=qa hn;omega
             have e5:(0:Int)<=(n:Int):=by omega
             have e6:(n:Int)<64:=by omega
             have cn:=hP2.at (qa hsq n hn1)
             have hVa:Hid (V=(((z n).toNat:Int)==46)):=hide (by
              rw [qa hV9,decide_eq_true d3,qa hn];by_cases e:z n=46
              ·rw [e];rfl
              ·have:¬ ((z n).toNat:Int)=46:=fun q=>e (UInt8.toNat_inj.1 (by show (z n).toNat=46;omega))
               rw [decide_eq_false e,beq_eq_false_iff_ne.2 this];rfl)
             clear d3 d1 hn;go_wp2_with fail;go_ret;exact ⟨by rw [qa hVa];rfl,qa hgw⟩
      ·have hV6:Hid (V=(decide (coc (z t)=sdb (!wh))||decide ((t:Int)=b))):=hV5;clear hV5;have hng:IntKind.i64.wrap (-(sdb wh))=sdb (!wh):=by cases wh<;>decide
       by_cases s1:coc (z t)=sdb (!wh)
       case pos =>
        have hs1:(coc (z t)==sdb (!wh))=true:=beq_iff_eq.2 s1;have hV7:Hid (V=true):=hide (by rw [qa hV6,decide_eq_true s1];rfl);clear s1 hV6;go_wp2_with (go_at_call 87;refine (qa hcf _ _).mono ?_;rintro e w' ⟨rfl,hww⟩;have hww':=hww.symm;subst hww';clear hww);go_ret;exact ⟨by rw [qa hV7];rfl,qa hgw⟩
       case neg =>
        have hs1:(coc (z t)==sdb (!wh))=false:=by rw [beq_eq_false_iff_ne];exact s1
        have hV7:Hid (V=((t:Int)==b)):=hide (by rw [qa hV6,decide_eq_false s1,Bool.false_or];by_cases e:(t:Int)=b<;>simp [e])
        clear s1 hV6;go_wp2_with (go_at_call 87;refine (qa hcf _ _).mono ?_;rintro e w' ⟨rfl,hww⟩;have hww':=hww.symm;subst hww';clear hww);go_ret;exact ⟨by rw [qa hV7];rfl,qa hgw⟩
   ·have hk1:((k:Int)==0)=false:=by rw [beq_eq_false_iff_ne];omega
    have hk2:((k:Int) != 0)=true:=by rw [bne_iff_ne];omega
    have hV2:∀ a,decide (u≠0)=a->V=(!a&&mnR z wh fc k f t u):=fun a ea=>by
     rw [qa hV];unfold goesR;rw [decide_eq_true c1,decide_eq_false c2,ea,hkd,decide_eq_false (show ¬ ((k:Int)=0) by omega),if_neg (show ¬ ((k:Int)=0) by omega)];cases a<;>simp
    have hV2:=hide hV2
    go_upto_region 6 with (first
     | (go_at_call 87;refine (qa hcf _ _).mono ?_;rintro e w' ⟨rfl,hww⟩;have hww':=hww.symm;subst hww';clear hww)
     | (go_at_call 86;refine (qa hkf _).mono ?_;rintro e w' ⟨rfl,hww⟩;have hww':=hww.symm;subst hww';clear hww))
    clear hkf;go_cut [8] from 37 (fun s8 wx=>s8=.bool (lastR t)/\wx=w1)
    case first =>
     clear hatt hcas hfree hmid hi64' hcl hbd hV;go_wp2_with fail
     all_goals
      go_meet
      case rel=>exact ⟨by first|(rw [qa hl0];done)|(rw [qa hl0];simp [*]),rfl⟩
    case rest =>
     obtain ⟨rfl,rfl⟩:=hcut;obtain ⟨a,ha⟩:∃ a,Hid (decide (u≠0)=a):=⟨_,hide rfl⟩;obtain ⟨l,hl⟩:∃ l,Hid (lastR t=l):=⟨_,hide rfl⟩;rw [qa ha] at hnu;rw [qa hl];clear hl0;have hV3:=hide (qa hV2 a (qa ha));clear hV hV2 ha hl hkd;have hat:=hide (qa hatt k hk5);obtain ⟨AT,hAT⟩:∃ x,Hid (attI (zI z) k (sdb wh) (f:Int) (t:Int)=x):=⟨_,hide rfl⟩;rw [qa hAT] at hat;clear hatt;cases a
     case true =>
      have hV4:Hid (V=false):=hide (by rw [qa hV3];rfl);clear hcas hfree hat;go_wp2_with fail;go_ret;exact ⟨by rw [qa hV4];rfl,qa hgw⟩
     case false =>
      have hV4:Hid (V=if AT then true else decide (k=5)&&decide (0<=casR wh fc f t u)&&freeC z (casR wh fc f t u).toNat):=hide (by rw [qa hV3,<-qa hAT];rfl);clear hV3 hAT;have hrow:=hide (rowOf hP1.pa)
      go_upto_region 11 with (first
       | (go_at_call 156;refine (qa hat _).mono ?_;rintro e w2 ⟨rfl,hg2⟩)
       | (refine wpList_load_mid rfl 22 _ rfl w.heap.size 0 rfl L _ (qa hmid _ (qa hrow)) Tryz.underlying22 rfl (qa hi64') ?_))
      have hP2:=hP1.next hg2;clear hP1 hg2 hrow hat hmid hi64' m0 m1 m2 cf ct hgw;have hgw:=hide hP2.gr;obtain ⟨m0,m1,m2⟩:=qa hcl _ hP2;have hrow:=hide (rowOf hP2.pa);cases AT
      case true =>
       have hV5:Hid (V=true):=hV4;clear hcas hfree;go_wp2_with fail;go_ret;exact ⟨by rw [qa hV5];rfl,qa hgw⟩
      case false =>
       have hV5:Hid (V=(decide (k=5)&&decide (0<=casR wh fc f t u)&&freeC z (casR wh fc f t u).toNat)):=hV4;clear hV4;have hcc:=qz7 wh fc f t u;obtain ⟨C,hCc⟩:∃ C,Hid (casR wh fc f t u=C):=⟨_,hide rfl⟩;rw [qa hCc] at hcas hV5 hcc
       go_upto_region 14 with (first
        | (go_at_call 196;refine (qa hcas _).mono ?_;rintro e w3 ⟨rfl,hg3⟩)
        | (refine ql (by rfl) _ rfl w.heap.size rfl hz (qa hrow) ?_))
       have hP3:=hP2.next hg3;clear hP2 hg3 hrow hgw m0 m1 m2 hcas hCc;have hgw:=hide hP3.gr;have hrow:=hide (rowOf hP3.pa);by_cases k5:k=5
       case neg =>
        have hk6:((k:Int) != 5)=true:=by rw [bne_iff_ne];omega
        have hk7:((k:Int)==5)=false:=by rw [beq_eq_false_iff_ne];omega
        have hV6:Hid (V=false):=hide (by rw [qa hV5,decide_eq_false k5];rfl);clear hfree;go_wp2_with fail;go_ret;exact ⟨by rw [qa hV6];rfl,qa hgw⟩
       case pos =>
        have hk6:((k:Int) != 5)=false:=by rw [k5];rfl
        have hk7:((k:Int)==5)=true:=by rw [k5];rfl
        rcases hcc with rfl|⟨i,hi,rfl⟩
        ·have hV6:Hid (V=false):=hide (by rw [qa hV5];simp);clear hfree;go_wp2_with fail;go_ret;exact ⟨by rw [qa hV6];rfl,qa hgw⟩
        ·have hV6:Hid (V=freeC z i):=hide (by rw [qa hV5,decide_eq_true k5];simp);have hlt:((i:Int)<0)=False:=by simp
         have hfr:=hide (qa hfree i hi);clear hV5 hfree
         go_wp2_with (first
          | (go_at_call 278;refine (qa hfr _).mono ?_;rintro e w4 ⟨rfl,hg4⟩;have hgx:=hide (Gr.trans (qa hgw) hg4))
          | (refine ql (by rfl) _ rfl w.heap.size rfl hz (qa hrow) ?_))
         go_ret;exact ⟨by rw [qa hV6];rfl,qa hgx⟩
end Go.Proofs.YtnfakamfmkhlbaaGreatDoor.C
