import Derived.Test.YtnfakamfmkhlbaaGreatDoorZe31
import Derived.Test.YtnfakamfmkhlbaaGreatDoorKz2
set_option maxRecDepth 100000
set_option maxHeartbeats 4000000
set_option linter.unusedSimpArgs false
namespace Go.Proofs.YtnfakamfmkhlbaaGreatDoor.C
open Go.ChangeShapes Go.WideShapes Go.ChangeAt Go.RowKit
open Go.Proofs.YtnfakamfmkhlbaaGreatDoor.P
attribute [local go_sem] qd qi
structure Pm (w:World) (PA:Array Value) (f t:Nat) (u:UInt8) (W:World):Prop where
 pa:W.heap[w.heap.size]?=some (.cells PA 25)
 mv:W.heap[w.heap.size+1]?=some (.cells #[.int .i64 (f:Int),.int .i64 (t:Int),.int .u8 (u.toNat:Int)] 171)
 lt:w.heap.size+1<W.heap.size
 gr:Gr w W
theorem Pm.next {w W W':World} {PA:Array Value} {f t:Nat} {u:UInt8} (h:Pm w PA f t u W) (g:Gr W W'):Pm w PA f t u W' :=
 ⟨(Below.block g _ (Nat.lt_of_succ_lt h.lt)).trans h.pa,(Below.block g _ h.lt).trans h.mv,Nat.lt_of_lt_of_le h.lt (Below.size g),Gr.trans h.gr g⟩
theorem Pm.start (w:World) (PA:Array Value) (f t:Nat) (u:UInt8):Pm w PA f t u ((w.alloc (.cells PA 25)).alloc (.cells #[.int .i64 (f:Int),.int .i64 (t:Int),.int .u8 (u.toNat:Int)] 171)):=by
 obtain ⟨e1,e2⟩:=row_at (w:=w) (PA:=PA) (o:=#[.int .i64 (f:Int),.int .i64 (t:Int),.int .u8 (u.toNat:Int)]) (ty:=25) (ty2:=171) (Gr.refl _);exact ⟨e1,e2,by rw [World.size_alloc,World.size_alloc];omega,((Gr.refl w).alloc _ _).alloc _ _⟩
theorem Pm.cells {w W:World} {PA:Array Value} {f t:Nat} {u:UInt8} (h:Pm w PA f t u W):W.cell? ⟨w.heap.size+1,0,none⟩=some (.int .i64 (f:Int))/\W.cell? ⟨w.heap.size+1,1,none⟩=some (.int .i64 (t:Int))/\W.cell? ⟨w.heap.size+1,2,none⟩=some (.int .u8 (u.toNat:Int)) :=
 ⟨by rw [qm h.mv];rfl,by rw [qm h.mv];rfl,by rw [qm h.mv];rfl⟩
theorem Pm.at {w W:World} {PA:Array Value} {f t:Nat} {u:UInt8} (h:Pm w PA f t u W) {k:Nat} {v:Value} (hv:PA[k]?=some v):W.cell? ⟨w.heap.size,k,none⟩=some v:=by
 rw [qm h.pa];exact hv
theorem qvc (wh:Bool) (fc:Nat->Bool) (f t:Nat) (u:UInt8):casR wh fc f t u=-1\/∃ i:Nat,i<4/\casR wh fc f t u=(i:Int):=by
 have hu:casR wh fc f t u=if casB wh fc f t u 0 then 0 else if casB wh fc f t u 1 then 1 else if casB wh fc f t u 2 then 2 else if casB wh fc f t u 3 then 3 else -1:=rfl;rw [hu];split
 ·exact .inr ⟨0,by omega,rfl⟩
 ·split
  ·exact .inr ⟨1,by omega,rfl⟩
  ·split
   ·exact .inr ⟨2,by omega,rfl⟩
   ·split
    ·exact .inr ⟨3,by omega,rfl⟩
    ·exact .inl rfl
theorem goesR_any {z:Nat->UInt8} {wh:Bool} {fc:Nat->Bool} {b h g:Int} {PA:Array Value} (r:Row z wh fc b h g PA) (f t:Nat) (hf:f<64) (ht:t<64) (u:UInt8) (w:World):Calls Tryz.prog 231 #[.agg PA,.agg #[.int .i64 (f:Int),.int .i64 (t:Int),.int .u8 (u.toNat:Int)]] w fun e w'=>e=.returned (.bool (goesR z wh fc b f t u))/\Gr w w':=by
 have hz:=r.size;have hP0:=Pm.start w PA f t u;have htu:=hide (fun W=>qqo r W);have hcf:=hide (fun (c:UInt8) W=>jt c W);have hkf:=hide (fun W=>qqr (z f) W);have hf0:(0:Int)<=(f:Int):=by omega
 have hf1:(f:Int)<64:=by omega
 have ht0:(0:Int)<=(t:Int):=by omega
 have ht1:(t:Int)<64:=by omega
 have hvf:=r.sq f hf;have hvt:=r.sq t ht;have hrow:=hide (rowOf hP0.pa);obtain ⟨bs,bA⟩:=qjd r;have hatt:=hide (fun (k:Nat) (hk:k<=5) W=>qj9 _ (zI z) bA bs k hk (sdb wh) (f:Int) (t:Int) (by omega) (by omega) (by omega) (by omega) W);have hcas:=hide (fun W=>qj3 r f t u W);have hfree:=hide (fun i hi W=>free_any r i hi W);have hmid:=hide (fun W (h:RowAt w.heap.size PA W)=>mid_at h);have hi64:(Tryz.prog.info? 22).map (·.size)=some (PA.toList.take 64).length:=by rw [info64];simp [r.size]
 have hi64':=hide hi64;have hvb:=r.b;have hsq:=hide r.sq;clear bs bA hi64;generalize (PA.toList.take 64)=L at hatt hmid hi64';obtain ⟨V,hV⟩:∃ V,Hid (V=goesR z wh fc b f t u):=⟨_,hide rfl⟩;rw [<-qa hV];go_enter Tryz.func231,Tryz.ntmps231
 go_upto_region 2 with (first
  | (go_at_call 90;refine (qa htu _).mono ?_;rintro e w1 ⟨rfl,hg1⟩)
  | (refine ql (by rfl) _ rfl w.heap.size rfl hz (qa hrow) ?_))
 have hP1:=hP0.next hg1;clear hP0 hg1 hrow htu;obtain ⟨m0,m1,m2⟩:=hP1.cells;have cf:=hP1.at hvf;have ct:=hP1.at hvt;clear ct cf m0 m1 m2;have hcl:=hide (fun W (h:Pm w PA f t u W)=>h.cells);have hbd:=hide (fun W (h:Pm w PA f t u W)=>(⟨h.at hvf,h.at hvt⟩:_/\_));have hgw:=hide hP1.gr;by_cases c1:coc (z f)=sdb wh
 case neg =>
  have hV1:Hid (V=false):=hide (by rw [qa hV];unfold goesR;rw [decide_eq_false c1];simp);have d1:(coc (z f) != sdb wh)=true:=bne_iff_ne.2 c1;obtain ⟨m0,m1,m2⟩:=qa hcl _ hP1;obtain ⟨cf,ct⟩:=qa hbd _ hP1;clear c1
  go_wp2_with (first
   | (go_at_call 87;refine (qa hcf _ _).mono ?_;rintro e w' ⟨rfl,hww⟩;have hww':=hww.symm;subst hww';clear hww))
  go_ret;exact ⟨by rw [qa hV1];rfl,qa hgw⟩
 case pos =>
  have d1:(coc (z f) != sdb wh)=false:=by rw [c1];simp
  by_cases c2:coc (z t)=sdb wh
  case pos =>
   have hV1:Hid (V=false):=hide (by rw [qa hV];unfold goesR;rw [decide_eq_true c2];simp);have d2:(coc (z t)==sdb wh)=true:=beq_iff_eq.2 c2;obtain ⟨m0,m1,m2⟩:=qa hcl _ hP1;obtain ⟨cf,ct⟩:=qa hbd _ hP1;clear c1 c2
   go_wp2_with (first
    | (go_at_call 87;refine (qa hcf _ _).mono ?_;rintro e w' ⟨rfl,hww⟩;have hww':=hww.symm;subst hww';clear hww))
   go_ret;exact ⟨by rw [qa hV1];rfl,qa hgw⟩
  case neg =>
   have d2:(coc (z t)==sdb wh)=false:=by rw [beq_eq_false_iff_ne];exact c2
   obtain ⟨m0,m1,m2⟩:=qa hcl _ hP1;obtain ⟨cf,ct⟩:=qa hbd _ hP1
   have hl0:Hid (lastR t=(((t:Int)/8==0)||((t:Int)/8==7))):=hide (by
    unfold lastR
    have e0:decide (t/8=0)=((t:Int)/8==0):=by
     by_cases q:t/8=0
     ·rw [decide_eq_true q];symm;rw [beq_iff_eq];omega
     ·rw [decide_eq_false q];symm;rw [beq_eq_false_iff_ne];omega
    have e7:decide (t/8=7)=((t:Int)/8==7):=by
     by_cases q:t/8=7
     ·rw [decide_eq_true q];symm;rw [beq_iff_eq];omega
     ·rw [decide_eq_false q];symm;rw [beq_eq_false_iff_ne];omega
    rw [e0,e7])
   have hnu:((u.toNat:Int) != 0)=decide (u≠0):=by
    by_cases e:u=0
    ·subst e;rfl
    ·have:(u.toNat:Int)≠0:=fun h=>e (UInt8.toNat_inj.1 (by simpa using h))
     rw [bne_iff_ne.2 this,decide_eq_true e]
   obtain ⟨k,hk5,hkd⟩:=kd_of_co c1;rw [hkd] at hkf;by_cases k0:k=0
   ·subst k0;have hkf:Hid (∀ W,Calls Tryz.prog 86 #[.int .u8 ((z f).toNat:Int)] W fun e w'=>e=.returned (.int .i64 0)/\w'=W):=hkf;have hV2:∀ a l,decide (u≠0)=a->lastR t=l->V=((a==l)&&pwR z wh b f t):=fun a l ea el=>by rw [qa hV];unfold goesR;rw [decide_eq_true c1,decide_eq_false c2,ea,el,hkd];simp
    have hV2:=hide hV2
    go_upto_region 6 with (first
     | (go_at_call 87;refine (qa hcf _ _).mono ?_;rintro e w' ⟨rfl,hww⟩;have hww':=hww.symm;subst hww';clear hww)
     | (go_at_call 86;refine (qa hkf _).mono ?_;rintro e w' ⟨rfl,hww⟩;have hww':=hww.symm;subst hww';clear hww))
    clear hkf;go_cut [8] from 37 (fun s8 wx=>s8=.bool (lastR t)/\wx=w1)
    case first =>
     clear hatt hcas hfree hmid hi64' hcl hbd hV;go_wp2_with fail
     all_goals
      go_meet
      case rel=>exact ⟨by first|(rw [qa hl0];done)|(rw [qa hl0];simp [*]),rfl⟩
    case rest =>
     obtain ⟨rfl,rfl⟩:=hcut;obtain ⟨a,ha⟩:∃ a,Hid (decide (u≠0)=a):=⟨_,hide rfl⟩;obtain ⟨l,hl⟩:∃ l,Hid (lastR t=l):=⟨_,hide rfl⟩;rw [qa ha] at hnu;rw [qa hl];clear hl0;have hV3:=hide (qa hV2 a l (qa ha) (qa hl));clear hV hV2 ha hl hkd;have hat:Hid (∀ W,Calls Tryz.prog 156 #[.agg L.toArray,.int .i64 0,.int .i64 (sdb wh),.int .i64 (f:Int),.int .i64 (t:Int)] W fun e w'=>e=.returned (.bool (attI (zI z) 0 (sdb wh) (f:Int) (t:Int)))/\Gr W w'):=hide (qa hatt 0 (by omega));obtain ⟨AT,hAT⟩:∃ x,Hid (attI (zI z) 0 (sdb wh) (f:Int) (t:Int)=x):=⟨_,hide rfl⟩;rw [qa hAT] at hat;clear hatt hcas hfree;by_cases hal:a=l
     case neg =>
      have hne:(!a==l)=true:=by cases a<;>cases l<;>simp at hal ⊢
      have hV4:Hid (V=false):=hide (by rw [qa hV3,beq_eq_false_iff_ne.2 hal];rfl);go_wp2_with fail;go_ret;exact ⟨by rw [qa hV4];rfl,qa hgw⟩
     case pos =>
      subst hal;have hne:(!a==a)=false:=by cases a<;>rfl
      have hV4:Hid (V=pwR z wh b f t):=hide (by rw [qa hV3];simp);have hV5:Hid (V=if AT then decide (coc (z t)=sdb (!wh))||decide ((t:Int)=b) else decide (f%8=t%8)&&decide (z t=46)&&pwU z wh f t):=hide (by rw [qa hV4,<-qa hAT];rfl);clear hV3 hV4 hAT;have hrow:=hide (rowOf hP1.pa)
      go_upto_region 10 with (first
       | (go_at_call 156;refine (qa hat _).mono ?_;rintro e w2 ⟨rfl,hg2⟩)
       | (refine wpList_load_mid rfl 22 _ rfl w.heap.size 0 rfl L _ (qa hmid _ (qa hrow)) Tryz.underlying22 rfl (qa hi64') ?_))
      have hP2:=hP1.next hg2;clear hP1 hg2 hrow hat hmid hi64' m0 m1 m2 cf ct hgw;have hgw:=hide hP2.gr;obtain ⟨m0,m1,m2⟩:=qa hcl _ hP2;obtain ⟨cf,ct⟩:=qa hbd _ hP2;have cb:=hP2.at hvb;cases AT
      ·have hV6:Hid (V=(decide (f%8=t%8)&&decide (z t=46)&&pwU z wh f t)):=hV5;clear hV5 hcf;by_cases s1:f%8=t%8
       case neg =>
        have hs1:((f:Int)%8==(t:Int)%8)=false:=by rw [beq_eq_false_iff_ne];omega
        have hs2:((f:Int)%8 != (t:Int)%8)=true:=by rw [bne_iff_ne];omega
        have hV7:Hid (V=false):=hide (by rw [qa hV6,decide_eq_false s1];rfl);clear s1;go_wp2_with fail;go_ret;exact ⟨by rw [qa hV7];rfl,qa hgw⟩
       case pos =>
        have hs1:((f:Int)%8==(t:Int)%8)=true:=by rw [beq_iff_eq];omega
        have hs2:((f:Int)%8 != (t:Int)%8)=false:=by
         have:(f:Int)%8=(t:Int)%8:=by omega
         rw [this];simp
        by_cases s2:z t=46
        case neg =>
         have hs3:(((z t).toNat:Int) != 46)=true:=by rw [bne_iff_ne];intro e;exact s2 (UInt8.toNat_inj.1 (by show (z t).toNat=46;omega))
         have hs4:(((z t).toNat:Int)==46)=false:=by rw [beq_eq_false_iff_ne];intro e;exact s2 (UInt8.toNat_inj.1 (by show (z t).toNat=46;omega))
         have hV7:Hid (V=false):=hide (by rw [qa hV6,decide_eq_false s2];simp);clear s1 s2;go_wp2_with fail;go_ret;exact ⟨by rw [qa hV7];rfl,qa hgw⟩
        case pos =>
         have hs3:(z t).toNat=46:=by rw [s2];rfl
         rw [hs3] at ct;have hV7:Hid (V=pwU z wh f t):=hide (by rw [qa hV6,decide_eq_true s1,decide_eq_true s2];rfl);clear hV6 s1 s2;have hV8:Hid (V=(decide (upR f t=sdb wh)||(decide (upR f t=2*sdb wh)&&decide (f/8=(if wh then 1 else 6))&&decide (z (if wh then f+8 else f-8)=46)))):=hV7;have hup:Hid (upR f t=(t:Int)/8-(f:Int)/8):=hide (by unfold upR;omega);have hwr:IntKind.i64.wrap ((t:Int)/8-(f:Int)/8)=(t:Int)/8-(f:Int)/8:=by rw [IntKind.wrap_i64];omega
         rw [qa hup] at hV8;clear hV7 hup hcl hbd;obtain ⟨d,hd⟩:∃ d,Hid ((t:Int)/8-(f:Int)/8=d):=⟨_,hide rfl⟩;cases wh
         ·have hV9:Hid (V=(decide (d=-1)||(decide (d=-2)&&decide (f/8=6)&&decide (z (f-8)=46)))):=hide (by rw [qa hV8,qa hd];rfl);clear hV8;have hme:sdb false=-1:=rfl;rw [hme];go_upto_region 26 with fail;rw [qa hd];have hsd:=hide (show (t:Int)/8-(f:Int)/8=d from qa hd);by_cases d1:d=-1
          case pos =>
           have hVa:Hid (V=true):=hide (by rw [qa hV9,d1];rfl);subst d1;go_wp2_with fail;go_ret;exact ⟨by rw [qa hVa];rfl,qa hgw⟩
          case neg =>
           have e1:(d==-1)=false:=by rw [beq_eq_false_iff_ne];exact d1
           by_cases d2:d=-2
           case neg =>
            have e2:(d==-2)=false:=by rw [beq_eq_false_iff_ne];exact d2
            have hVa:Hid (V=false):=hide (by rw [qa hV9,decide_eq_false d1,decide_eq_false d2];rfl);clear d1 d2;go_wp2_with fail;go_ret;exact ⟨by rw [qa hVa];rfl,qa hgw⟩
           case pos =>
            subst d2;by_cases d3:f/8=6
            case neg =>
             have e3:((f:Int)/8==6)=false:=by rw [beq_eq_false_iff_ne];omega
             have hVa:Hid (V=false):=hide (by rw [qa hV9,decide_eq_false d3];rfl);clear d3 d1;go_wp2_with fail;go_ret;exact ⟨by rw [qa hVa];rfl,qa hgw⟩
            case pos =>
             have e3:((f:Int)/8==6)=true:=by rw [beq_iff_eq];omega
             obtain ⟨n,hn⟩:∃ n,Hid (f-8=n):=⟨_,hide rfl⟩;have hn1:n<64:=by have:=qa hn;omega
             have e4:IntKind.i64.wrap ((f:Int)+(-8))=(n:Int):=by rw [IntKind.wrap_i64];have:=qa hn;omega
             have e5:(0:Int)<=(n:Int):=by omega
             have e6:(n:Int)<64:=by omega
             have cn:=hP2.at (qa hsq n hn1)
             have hVa:Hid (V=(((z n).toNat:Int)==46)):=hide (by
              rw [qa hV9,decide_eq_true d3,qa hn];by_cases e:z n=46
              ·rw [e];rfl
              ·have:¬ ((z n).toNat:Int)=46:=fun q=>e (UInt8.toNat_inj.1 (by show (z n).toNat=46;omega))
               rw [decide_eq_false e,beq_eq_false_iff_ne.2 this];rfl)
             clear d3 d1 hn;go_wp2_with fail;go_ret;exact ⟨by rw [qa hVa];rfl,qa hgw⟩
         ·have hV9:Hid (V=(decide (d=1)||(decide (d=2)&&decide (f/8=1)&&decide (z (f+8)=46)))):=hide (by rw [qa hV8,qa hd];rfl);clear hV8;have hme:sdb true=1:=rfl;rw [hme];go_upto_region 26 with fail;rw [qa hd];have hsd:=hide (show (t:Int)/8-(f:Int)/8=d from qa hd);by_cases d1:d=1
          case pos =>
           have hVa:Hid (V=true):=hide (by rw [qa hV9,d1];rfl);subst d1;go_wp2_with fail;go_ret;exact ⟨by rw [qa hVa];rfl,qa hgw⟩
          case neg =>
           have e1:(d==1)=false:=by rw [beq_eq_false_iff_ne];exact d1
           by_cases d2:d=2
           case neg =>
            have e2:(d==2)=false:=by rw [beq_eq_false_iff_ne];exact d2
            have hVa:Hid (V=false):=hide (by rw [qa hV9,decide_eq_false d1,decide_eq_false d2];rfl);clear d1 d2;go_wp2_with fail;go_ret;exact ⟨by rw [qa hVa];rfl,qa hgw⟩
           case pos =>
            subst d2;by_cases d3:f/8=1
            case neg =>
             have e3:((f:Int)/8==1)=false:=by rw [beq_eq_false_iff_ne];omega
             have hVa:Hid (V=false):=hide (by rw [qa hV9,decide_eq_false d3];rfl);clear d3 d1;go_wp2_with fail;go_ret;exact ⟨by rw [qa hVa];rfl,qa hgw⟩
            case pos =>
             have e3:((f:Int)/8==1)=true:=by rw [beq_iff_eq];omega
             obtain ⟨n,hn⟩:∃ n,Hid (f+8=n):=⟨_,hide rfl⟩;have hn1:n<64:=by have:=qa hn;omega
             have e4:IntKind.i64.wrap ((f:Int)+8)=(n:Int):=by rw [IntKind.wrap_i64];have:=qa hn;omega
             have e5:(0:Int)<=(n:Int):=by omega
             have e6:(n:Int)<64:=by omega
             have cn:=hP2.at (qa hsq n hn1)
             have hVa:Hid (V=(((z n).toNat:Int)==46)):=hide (by
              rw [qa hV9,decide_eq_true d3,qa hn];by_cases e:z n=46
              ·rw [e];rfl
              ·have:¬ ((z n).toNat:Int)=46:=fun q=>e (UInt8.toNat_inj.1 (by show (z n).toNat=46;omega))
               rw [decide_eq_false e,beq_eq_false_iff_ne.2 this];rfl)
             clear d3 d1 hn;go_wp2_with fail;go_ret;exact ⟨by rw [qa hVa];rfl,qa hgw⟩
      ·have hV6:Hid (V=(decide (coc (z t)=sdb (!wh))||decide ((t:Int)=b))):=hV5;clear hV5;have hng:IntKind.i64.wrap (-(sdb wh))=sdb (!wh):=by cases wh<;>decide
       by_cases s1:coc (z t)=sdb (!wh)
       case pos =>
        have hs1:(coc (z t)==sdb (!wh))=true:=beq_iff_eq.2 s1;have hV7:Hid (V=true):=hide (by rw [qa hV6,decide_eq_true s1];rfl);clear s1 hV6;go_wp2_with (go_at_call 87;refine (qa hcf _ _).mono ?_;rintro e w' ⟨rfl,hww⟩;have hww':=hww.symm;subst hww';clear hww);go_ret;exact ⟨by rw [qa hV7];rfl,qa hgw⟩
       case neg =>
        have hs1:(coc (z t)==sdb (!wh))=false:=by rw [beq_eq_false_iff_ne];exact s1
        have hV7:Hid (V=((t:Int)==b)):=hide (by rw [qa hV6,decide_eq_false s1,Bool.false_or];by_cases e:(t:Int)=b<;>simp [e])
        clear s1 hV6;go_wp2_with (go_at_call 87;refine (qa hcf _ _).mono ?_;rintro e w' ⟨rfl,hww⟩;have hww':=hww.symm;subst hww';clear hww);go_ret;exact ⟨by rw [qa hV7];rfl,qa hgw⟩
   ·have hk1:((k:Int)==0)=false:=by rw [beq_eq_false_iff_ne];omega
    have hk2:((k:Int) != 0)=true:=by rw [bne_iff_ne];omega
    have hV2:∀ a,decide (u≠0)=a->V=(!a&&mnR z wh fc k f t u):=fun a ea=>by
     rw [qa hV];unfold goesR;rw [decide_eq_true c1,decide_eq_false c2,ea,hkd,decide_eq_false (show ¬ ((k:Int)=0) by omega),if_neg (show ¬ ((k:Int)=0) by omega)];cases a<;>simp
    have hV2:=hide hV2
    go_upto_region 6 with (first
     | (go_at_call 87;refine (qa hcf _ _).mono ?_;rintro e w' ⟨rfl,hww⟩;have hww':=hww.symm;subst hww';clear hww)
     | (go_at_call 86;refine (qa hkf _).mono ?_;rintro e w' ⟨rfl,hww⟩;have hww':=hww.symm;subst hww';clear hww))
    clear hkf;go_cut [8] from 37 (fun s8 wx=>s8=.bool (lastR t)/\wx=w1)
    case first =>
     clear hatt hcas hfree hmid hi64' hcl hbd hV;go_wp2_with fail
     all_goals
      go_meet
      case rel=>exact ⟨by first|(rw [qa hl0];done)|(rw [qa hl0];simp [*]),rfl⟩
    case rest =>
     obtain ⟨rfl,rfl⟩:=hcut;obtain ⟨a,ha⟩:∃ a,Hid (decide (u≠0)=a):=⟨_,hide rfl⟩;obtain ⟨l,hl⟩:∃ l,Hid (lastR t=l):=⟨_,hide rfl⟩;rw [qa ha] at hnu;rw [qa hl];clear hl0;have hV3:=hide (qa hV2 a (qa ha));clear hV hV2 ha hl hkd;have hat:=hide (qa hatt k hk5);obtain ⟨AT,hAT⟩:∃ x,Hid (attI (zI z) k (sdb wh) (f:Int) (t:Int)=x):=⟨_,hide rfl⟩;rw [qa hAT] at hat;clear hatt;cases a
     case true =>
      have hV4:Hid (V=false):=hide (by rw [qa hV3];rfl);clear hcas hfree hat;go_wp2_with fail;go_ret;exact ⟨by rw [qa hV4];rfl,qa hgw⟩
     case false =>
      have hV4:Hid (V=if AT then true else decide (k=5)&&decide (0<=casR wh fc f t u)&&freeC z (casR wh fc f t u).toNat):=hide (by rw [qa hV3,<-qa hAT];rfl);clear hV3 hAT;have hrow:=hide (rowOf hP1.pa)
      go_upto_region 11 with (first
       | (go_at_call 156;refine (qa hat _).mono ?_;rintro e w2 ⟨rfl,hg2⟩)
       | (refine wpList_load_mid rfl 22 _ rfl w.heap.size 0 rfl L _ (qa hmid _ (qa hrow)) Tryz.underlying22 rfl (qa hi64') ?_))
      have hP2:=hP1.next hg2;clear hP1 hg2 hrow hat hmid hi64' m0 m1 m2 cf ct hgw;have hgw:=hide hP2.gr;obtain ⟨m0,m1,m2⟩:=qa hcl _ hP2;have hrow:=hide (rowOf hP2.pa);cases AT
      case true =>
       have hV5:Hid (V=true):=hV4;clear hcas hfree;go_wp2_with fail;go_ret;exact ⟨by rw [qa hV5];rfl,qa hgw⟩
      case false =>
       have hV5:Hid (V=(decide (k=5)&&decide (0<=casR wh fc f t u)&&freeC z (casR wh fc f t u).toNat)):=hV4;clear hV4;have hcc:=qvc wh fc f t u;obtain ⟨C,hCc⟩:∃ C,Hid (casR wh fc f t u=C):=⟨_,hide rfl⟩;rw [qa hCc] at hcas hV5 hcc
       go_upto_region 14 with (first
        | (go_at_call 196;refine (qa hcas _).mono ?_;rintro e w3 ⟨rfl,hg3⟩)
        | (refine ql (by rfl) _ rfl w.heap.size rfl hz (qa hrow) ?_))
       have hP3:=hP2.next hg3;clear hP2 hg3 hrow hgw m0 m1 m2 hcas hCc;have hgw:=hide hP3.gr;have hrow:=hide (rowOf hP3.pa);by_cases k5:k=5
       case neg =>
        have hk6:((k:Int) != 5)=true:=by rw [bne_iff_ne];omega
        have hk7:((k:Int)==5)=false:=by rw [beq_eq_false_iff_ne];omega
        have hV6:Hid (V=false):=hide (by rw [qa hV5,decide_eq_false k5];rfl);clear hfree;go_wp2_with fail;go_ret;exact ⟨by rw [qa hV6];rfl,qa hgw⟩
       case pos =>
        have hk6:((k:Int) != 5)=false:=by rw [k5];rfl
        have hk7:((k:Int)==5)=true:=by rw [k5];rfl
        rcases hcc with rfl|⟨i,hi,rfl⟩
        ·have hV6:Hid (V=false):=hide (by rw [qa hV5];simp);clear hfree;go_wp2_with fail;go_ret;exact ⟨by rw [qa hV6];rfl,qa hgw⟩
        ·have hV6:Hid (V=freeC z i):=hide (by rw [qa hV5,decide_eq_true k5];simp);have hlt:((i:Int)<0)=False:=by simp
         have hfr:=hide (qa hfree i hi);clear hV5 hfree
         go_wp2_with (first
          | (go_at_call 278;refine (qa hfr _).mono ?_;rintro e w4 ⟨rfl,hg4⟩;have hgx:=hide (Gr.trans (qa hgw) hg4))
          | (refine ql (by rfl) _ rfl w.heap.size rfl hz (qa hrow) ?_))
         go_ret;exact ⟨by rw [qa hV6];rfl,qa hgx⟩
end Go.Proofs.YtnfakamfmkhlbaaGreatDoor.C
namespace Go.Proofs.YtnfakamfmkhlbaaGreatDoor.C
open Go.RowKit
open Go.Proofs.YtnfakamfmkhlbaaGreatDoor.P
theorem lastR_bit:∀ t,t<64->lastB.getLsbD t=lastR t:=by decide +kernel
theorem turns_iff {p:Bool} {f t:Nat} (ht:t<64) {u:UInt8} (hu:u∈U5):(f,t,u)∈turnsB p f t↔(decide (u≠0)==(p&&lastR t))=true:=by
 unfold turnsB;rw [lastR_bit t ht];unfold U5 at hu;simp only [List.mem_cons,List.not_mem_nil,or_false] at hu;cases p&&lastR t
 ·rw [if_neg (by simp)];rcases hu with rfl|rfl|rfl|rfl|rfl<;>simp
 ·rw [if_pos rfl];rcases hu with rfl|rfl|rfl|rfl|rfl<;>simp
theorem kd_ix {c:UInt8} {wh:Bool} {i:Nat} (hi:i<6) (h:ixc c=((bg wh+i:Nat):Int)):kdc c=(i:Int):=by
 unfold kdc;rw [h];unfold bg;cases wh
 ·simp only [Bool.false_eq_true,if_false];rw [if_pos (by omega)];omega
 ·simp only [if_true];rw [if_neg (by omega)];omega
theorem pawn_ah {z:Nat->UInt8} {wh:Bool} {f t:Nat} (hf:f<64) (_ht:t<64) (hr:¬ (f/8=0\/f/8=7)):(decide (f%8=t%8)&&decide (z t=46)&&pwU z wh f t)=true↔AhP z wh f t:=by
 unfold pwU upR AhP startR;simp only [Bool.and_eq_true,Bool.or_eq_true,decide_eq_true_eq];cases wh
 ·have e1:fw false f 1=f-8:=rfl;have e2:fw false f 2=f-16:=rfl;rw [e1,e2];simp only [sdb,Bool.false_eq_true,if_false];constructor
  ·rintro ⟨⟨h1,h2⟩,h3|⟨⟨h3,h4⟩,h5⟩⟩
   ·have:t=f-8:=by omega
    exact .inl ⟨this,by rw [<-this];exact h2⟩
   ·have:t=f-16:=by omega
    exact .inr ⟨h4,this,h5,by rw [<-this];exact h2⟩
  ·rintro (⟨h1,h2⟩|⟨h1,h2,h3,h4⟩)
   ·exact ⟨⟨by omega,by rw [h1];exact h2⟩,.inl (by omega)⟩
   ·exact ⟨⟨by omega,by rw [h2];exact h4⟩,.inr ⟨⟨by omega,h1⟩,h3⟩⟩
 ·have e1:fw true f 1=f+8:=rfl;have e2:fw true f 2=f+16:=rfl;rw [e1,e2];simp only [sdb,if_true];constructor
  ·rintro ⟨⟨h1,h2⟩,h3|⟨⟨h3,h4⟩,h5⟩⟩
   ·have:t=f+8:=by omega
    exact .inl ⟨this,by rw [<-this];exact h2⟩
   ·have:t=f+16:=by omega
    exact .inr ⟨h4,this,h5,by rw [<-this];exact h2⟩
  ·rintro (⟨h1,h2⟩|⟨h1,h2,h3,h4⟩)
   ·exact ⟨⟨by omega,by rw [h1];exact h2⟩,.inl (by omega)⟩
   ·exact ⟨⟨by omega,by rw [h2];exact h4⟩,.inr ⟨⟨by omega,h1⟩,h3⟩⟩
theorem ah_no {z:Nat->UInt8} {wh:Bool} {f t:Nat} (hr:¬ (f/8=0\/f/8=7)) (h:AhP z wh f t):z t=46/\attI (zI z) 0 (sdb wh) (f:Int) (t:Int)=false:=by
 have e:t%8=f%8:=by
  unfold AhP startR fw at h;cases wh<;>simp at h<;>omega
 refine ⟨?_,?_⟩
 ·rcases h with ⟨h1,h2⟩|⟨_,h1,_,h2⟩
  ·rw [h1];exact h2
  ·rw [h1];exact h2
 ·cases ha:attI (zI z) 0 (sdb wh) (f:Int) (t:Int) with
  | false=>rfl
  | true=>exact absurd (by omega) (pawn_file ha)
theorem home_hK:∀ i,i<4->homeK i=((hK i:Nat):Int)/\homeT i=((casT i:Nat):Int)/\homeR i=((hR i:Nat):Int):=by decide +kernel
theorem clr_same {z:Nat->UInt8} {i:Nat} (hi:i<4):clrH z i=mcE z (hK i) (hD i) (hN i):=by
 have z46:∀ n,(((z n).toNat:Int)=46)↔(z n==46)=true:=fun n=>by
  constructor
  ·intro h;have:z n=46:=u8_of h rfl;simp [this]
  ·intro h;have:z n=46:=by simpa using h
   rw [this];rfl
 unfold clrH freeI mcE;rw [Bool.eq_iff_iff,decide_eq_true_eq,List.all_eq_true];have hc:i=0\/i=1\/i=2\/i=3:=by omega
 constructor
 ·intro h j hj;have hj:=List.mem_range.1 hj;rw [<-z46]
  have e:sqK (hK i) (hD i) (j+1)=(wayP i (j+1)).toNat:=by
   unfold sqK wayP homeK hD hK;rcases hc with rfl|rfl|rfl|rfl<;>simp<;>omega
  rw [e];refine h (j+1) ?_ (by omega);unfold hN at hj;unfold wayL;rcases hc with rfl|rfl|rfl|rfl<;>simp at hj ⊢<;>omega
 ·intro h j hj h1
  have:=h (j-1) (List.mem_range.2 (by
   unfold wayL at hj;unfold hN;rcases hc with rfl|rfl|rfl|rfl<;>simp at hj ⊢<;>omega))
  rw [<-z46] at this;rw [<-this]
  have e:sqK (hK i) (hD i) (j-1+1)=(wayP i j).toNat:=by
   unfold sqK wayP homeK hD hK;rcases hc with rfl|rfl|rfl|rfl<;>simp<;>omega
  rw [e]
theorem qqk {z:Nat->UInt8} (hok:layOk z=true) {i:Nat} (hi:i<4):freeC z i=mcB z (decide (i<2)) (hK i) (hD i) (hN i):=by
 unfold freeC mcB;rw [clr_same hi];unfold mcA;have e3:∀ p:Nat->Bool,(List.range 3).all p=(p 0&&(p 1&&(p 2&&true))):=fun p=>rfl
 rw [e3];have key:∀ j,j<3->attLB z (sqK (hK i) (hD i) j) (!decide (i<2))=attR z (((sqK (hK i) (hD i) j:Nat)):Int) (!decide (i<2)):=fun j hj=>jb hok (wit_lt i hi j (by omega) (by unfold hN;split<;>omega)) _
 rw [key 0 (by omega),key 1 (by omega),key 2 (by omega)]
 have q:homeK i=((sqK (hK i) (hD i) 0:Nat):Int)/\(homeK i+homeT i).tdiv 2=((sqK (hK i) (hD i) 1:Nat):Int)/\homeT i=((sqK (hK i) (hD i) 2:Nat):Int):=by
  have hc:i=0\/i=1\/i=2\/i=3:=by omega
  rcases hc with rfl|rfl|rfl|rfl<;>decide
 rw [<-q.1,<-q.2.1,<-q.2.2];cases mcE z (hK i) (hD i) (hN i)<;>cases attR z (homeK i) (!decide (i<2))<;>cases attR z ((homeK i+homeT i).tdiv 2) (!decide (i<2))<;>cases attR z (homeT i) (!decide (i<2))<;>rfl
theorem qjc {wh:Bool} {fc:Nat->Bool} {f t:Nat} {i:Nat} (hi:i<4):casB wh fc f t 0 i=true↔fc i=true/\wh=decide (i<2)/\f=hK i/\t=casT i:=by
 obtain ⟨e1,e2,_⟩:=home_hK i hi;unfold casB;rw [e1,e2];simp only [Bool.and_eq_true,beq_iff_eq];constructor
 ·rintro ⟨⟨⟨⟨h1,h2⟩,h3⟩,h4⟩,_⟩;refine ⟨h1,?_,by omega,by omega⟩
  revert h2
  cases wh<;>cases decide (i<2)<;>simp [sdb]
 ·rintro ⟨h1,h2,h3,h4⟩;exact ⟨⟨⟨⟨h1,by rw [h2]⟩,by omega⟩,by omega⟩,rfl⟩
theorem qxi {z:Nat->UInt8} {wh:Bool} {fc:Nat->Bool} {f t:Nat}:(decide (0<=casR wh fc f t 0)&&freeC z (casR wh fc f t 0).toNat)=true↔∃ i,i<4/\wh=decide (i<2)/\fc i=true/\f=hK i/\t=casT i/\freeC z i=true/\casR wh fc f t 0=(i:Int):=by
 have hu:casR wh fc f t 0=if casB wh fc f t 0 0 then 0 else if casB wh fc f t 0 1 then 1 else if casB wh fc f t 0 2 then 2 else if casB wh fc f t 0 3 then 3 else -1:=rfl;constructor
 ·intro h;rw [Bool.and_eq_true,decide_eq_true_eq] at h;obtain ⟨h1,h2⟩:=h
  have go:∀ i,i<4->casB wh fc f t 0 i=true->casR wh fc f t 0=(i:Int)->∃ i,i<4/\wh=decide (i<2)/\fc i=true/\f=hK i/\t=casT i/\freeC z i=true/\casR wh fc f t 0=(i:Int):=fun i hi hc he=>by
   obtain ⟨a1,a2,a3,a4⟩:=(qjc hi).1 hc;rw [he] at h2;exact ⟨i,hi,a2,a1,a3,a4,h2,he⟩
  by_cases c0:casB wh fc f t 0 0=true
  ·exact go 0 (by omega) c0 (by rw [hu,if_pos c0];rfl)
  ·by_cases c1:casB wh fc f t 0 1=true
   ·exact go 1 (by omega) c1 (by rw [hu,if_neg c0,if_pos c1];rfl)
   ·by_cases c2:casB wh fc f t 0 2=true
    ·exact go 2 (by omega) c2 (by rw [hu,if_neg c0,if_neg c1,if_pos c2];rfl)
    ·by_cases c3:casB wh fc f t 0 3=true
     ·exact go 3 (by omega) c3 (by rw [hu,if_neg c0,if_neg c1,if_neg c2,if_pos c3];rfl)
     ·rw [hu,if_neg c0,if_neg c1,if_neg c2,if_neg c3] at h1;omega
 ·rintro ⟨i,hi,a1,a2,a3,a4,a5,a6⟩;rw [a6,Bool.and_eq_true,decide_eq_true_eq];exact ⟨by omega,a5⟩
theorem casR_is {wh:Bool} {fc:Nat->Bool} {f t i:Nat} (hi:i<4) (h1:fc i=true) (h2:wh=decide (i<2)) (h3:f=hK i) (h4:t=casT i):casR wh fc f t 0=(i:Int):=by
 have hu:casR wh fc f t 0=if casB wh fc f t 0 0 then 0 else if casB wh fc f t 0 1 then 1 else if casB wh fc f t 0 2 then 2 else if casB wh fc f t 0 3 then 3 else -1:=rfl;have hp:casB wh fc f t 0 i=true:=(qjc hi).2 ⟨h1,h2,h3,h4⟩
 have hn:∀ j,j<4->j≠i->¬ casB wh fc f t 0 j=true:=fun j hj hne h=>by
  have:=((qjc hj).1 h).2.2.2;rw [h4] at this
  revert this
  unfold casT;have hc:i=0\/i=1\/i=2\/i=3:=by omega
  have hd:j=0\/j=1\/j=2\/j=3:=by omega
  rcases hc with rfl|rfl|rfl|rfl<;>rcases hd with rfl|rfl|rfl|rfl<;>simp at hne ⊢
 rw [hu];have hc:i=0\/i=1\/i=2\/i=3:=by omega
 rcases hc with rfl|rfl|rfl|rfl
 ·rw [if_pos hp];rfl
 ·rw [if_neg (hn 0 (by omega) (by omega)),if_pos hp];rfl
 ·rw [if_neg (hn 0 (by omega) (by omega)),if_neg (hn 1 (by omega) (by omega)),if_pos hp];rfl
 ·rw [if_neg (hn 0 (by omega) (by omega)),if_neg (hn 1 (by omega) (by omega)),if_neg (hn 2 (by omega) (by omega)),if_pos hp];rfl
theorem cg_iff {z:Nat->UInt8} {wh:Bool} {fc:Nat->Bool} {b:Int} (hC:Can z wh fc b) {f t:Nat} (hf:f<64) (hc:ixc (z f)=((bg wh+5:Nat):Int)):t∈cgR z wh fc f++cgM z wh fc f↔(decide (0<=casR wh fc f t 0)&&freeC z (casR wh fc f t 0).toNat)=true:=by
 obtain ⟨k1,k2⟩:=zr hC hf hc;rw [qxi,List.mem_append];have e:(hK (cgF wh)+2=casT (cgF wh)/\hD (cgF wh)=1/\hN (cgF wh)=2/\cgF wh<4/\decide (cgF wh<2)=wh)/\(hK (cgF wh+1)-2=casT (cgF wh+1)/\hD (cgF wh+1)=-1/\hN (cgF wh+1)=3/\cgF wh+1<4/\decide (cgF wh+1<2)=wh):=by cases wh<;>decide
 obtain ⟨⟨a1,a2,a3,a4,a5⟩,⟨b1,b2,b3,b4,b5⟩⟩:=e;constructor
 ·rintro (h|h)
  ·unfold cgR at h;split at h
   ·rename_i hh;rw [Bool.and_eq_true] at hh;have hfe:=k1 hh.1;have ht:t=casT (cgF wh):=by rw [List.mem_singleton.1 h,<-a1,<-hfe]
    exact ⟨cgF wh,a4,a5.symm,hh.1,hfe,ht,by rw [qqk hC.ok a4,a5,a2,a3,<-hfe];exact hh.2,casR_is a4 hh.1 a5.symm hfe ht⟩
   ·cases h
  ·unfold cgM at h;split at h
   ·rename_i hh;rw [Bool.and_eq_true] at hh;have hfe:=k2 hh.1;have ht:t=casT (cgF wh+1):=by rw [List.mem_singleton.1 h,<-b1,<-hfe]
    exact ⟨cgF wh+1,b4,b5.symm,hh.1,hfe,ht,by rw [qqk hC.ok b4,b5,b2,b3,<-hfe];exact hh.2,casR_is b4 hh.1 b5.symm hfe ht⟩
   ·cases h
 ·rintro ⟨i,hi,h1,h2,h3,h4,h5,_⟩;rw [qqk hC.ok hi,<-h1] at h5
  have:i=cgF wh\/i=cgF wh+1:=by
   have hh:i=0\/i=1\/i=2\/i=3:=by omega
   rcases hh with rfl|rfl|rfl|rfl<;>(subst h1;decide)
  rcases this with rfl|rfl
  ·left;unfold cgR;rw [a2,a3,<-h3] at h5;rw [if_pos (by rw [h2,h5];rfl),h4,<-a1,h3];exact List.mem_singleton.2 rfl
  ·right;unfold cgM;rw [b2,b3,<-h3] at h5;rw [if_pos (by rw [h2,h5];rfl),h4,<-b1,h3];exact List.mem_singleton.2 rfl
theorem qv2 {z:Nat->UInt8} {wh:Bool} {fc:Nat->Bool} {b:Int} (hC:Can z wh fc b) {f t:Nat} {u:UInt8} (hf:f<64) (ht:t<64) (hu:u∈U5) :
  goesR z wh fc b f t u=true↔∃ i,i<6/\ixc (z f)=((bg wh+i:Nat):Int)/\t∈tgL z wh fc b f/\(f,t,u)∈turnsB (decide (i=0)) f t:=by
 have hokt:=ji hC.ok ht;by_cases hco:coc (z f)=sdb wh
 case neg =>
  constructor
  ·intro h;unfold goesR at h;rw [decide_eq_false hco] at h;simp at h
  ·rintro ⟨i,hi,hc,_⟩;exact absurd (xt hi hc) hco
 obtain ⟨i,hi,hc,_⟩:=zh hco;have hk:=kd_ix hi hc;obtain ⟨hp,hkg⟩:=zp hi hc
 have uniq:(∃ i,i<6/\ixc (z f)=((bg wh+i:Nat):Int)/\t∈tgL z wh fc b f/\(f,t,u)∈turnsB (decide (i=0)) f t)↔(t∈tgL z wh fc b f/\(f,t,u)∈turnsB (decide (i=0)) f t):=by
  constructor
  ·rintro ⟨j,hj,e,h⟩;have:j=i:=by rw [hc] at e;omega
   rw [this] at h;exact h
  ·intro h;exact ⟨i,hi,hc,h⟩
 rw [uniq,turns_iff ht hu];unfold goesR;rw [decide_eq_true hco,hk,Bool.true_and,Bool.and_eq_true,Bool.and_eq_true]
 have e0:decide ((i:Int)=0)=decide (i=0):=by
  by_cases h:i=0
  ·simp [h]
  ·rw [decide_eq_false h,decide_eq_false (by omega)]
 rw [e0]
 have key:∀ (hU:(decide (u≠0)==(decide (i=0)&&lastR t))=true),((!decide (coc (z t)=sdb wh))=true/\(if (i:Int)=0 then pwR z wh b f t else mnR z wh fc (i:Int).toNat f t u)=true)↔t∈tgL z wh fc b f:=by
  intro hU;rw [Bool.not_eq_true',decide_eq_false_iff_not];unfold tgL;rw [List.mem_append,List.mem_filter,qqy hf hi hc ht,hp,hkg];unfold mayB;rw [hp,qqg hokt,qqg hokt];by_cases i0:i=0
  ·subst i0;have hr:=hC.pw wh f hf hc;rw [decide_eq_true rfl,if_pos rfl,if_pos rfl,if_pos (show ((0:Nat):Int)=0 from rfl),qzc hf hr];unfold pwR;rw [Bool.or_eq_true,beq_iff_eq,decide_eq_true_eq];cases ha:attI (zI z) 0 (sdb wh) (f:Int) (t:Int) with
   | true =>
    rw [if_pos rfl,Bool.or_eq_true,decide_eq_true_eq,decide_eq_true_eq];constructor
    ·rintro ⟨_,h|h⟩
     ·exact .inl ⟨rfl,.inr h⟩
     ·exact .inl ⟨rfl,.inl h⟩
    ·rintro (⟨_,h|h⟩|h)
     ·exact ⟨by rw [(beh_w hC.beh h).1];exact qql _,.inr h⟩
     ·exact ⟨by rw [h];exact fun e=>qv7 wh e.symm,.inl h⟩
     ·rw [(ah_no hr h).2] at ha;cases ha
   | false =>
    rw [if_neg (by simp),pawn_ah hf ht hr];constructor
    ·rintro ⟨_,h⟩;exact .inr h
    ·rintro (⟨h,_⟩|h)
     ·cases h
     ·exact ⟨by rw [(ah_no hr h).1];exact qql _,h⟩
  ·rw [decide_eq_false i0,if_neg (by omega),if_neg (by simp),if_neg (by simp),Int.toNat_natCast,Bool.not_eq_true',decide_eq_false_iff_not];unfold mnR;by_cases i5:i=5
   ·subst i5
    have u0:u=0:=by
     rw [beq_iff_eq] at hU;have:decide (u≠0)=false:=hU;simpa using this
    subst u0;rw [decide_eq_true rfl,if_pos rfl,cg_iff hC hf hc,Bool.true_and];cases ha:attI (zI z) 5 (sdb wh) (f:Int) (t:Int) with
    | true =>
     rw [if_pos rfl];constructor
     ·rintro ⟨h,_⟩;exact .inl ⟨rfl,h⟩
     ·rintro (⟨_,h⟩|h)
      ·exact ⟨h,rfl⟩
      ·obtain ⟨ci,hci,c1,c2,c3,c4,c5,_⟩:=qxi.1 h;rw [qqk hC.ok hci,<-c1] at c5;have hcas:=cas_of hC hci c1 c2 c5;refine ⟨?_,rfl⟩;rw [c4,hcas.dot (cas_in ci hci).1];exact qql _
    | false =>
     rw [if_neg (by simp)];constructor
     ·rintro ⟨_,h⟩;exact .inr h
     ·rintro (⟨h,_⟩|h)
      ·cases h
      ·refine ⟨?_,h⟩;obtain ⟨ci,hci,c1,c2,c3,c4,c5,_⟩:=qxi.1 h;rw [qqk hC.ok hci,<-c1] at c5;have hcas:=cas_of hC hci c1 c2 c5;rw [c4,hcas.dot (cas_in ci hci).1];exact qql _
   ·rw [decide_eq_false i5];cases ha:attI (zI z) i (sdb wh) (f:Int) (t:Int) with
    | true=>simp
    | false=>simp
 constructor
 ·rintro ⟨⟨h1,h2⟩,h3⟩;exact ⟨(key h2).1 ⟨h1,h3⟩,h2⟩
 ·rintro ⟨h1,h2⟩;have:=(key h2).2 h1;exact ⟨⟨this.1,h2⟩,this.2⟩
end Go.Proofs.YtnfakamfmkhlbaaGreatDoor.C
