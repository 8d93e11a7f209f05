import Derived.Test.YtnfakamfmkhlbabGreatDoorUm28
set_option maxRecDepth 100000
set_option maxHeartbeats 4000000
set_option linter.unusedSimpArgs false
namespace Go.Proofs.YtnfakamfmkhlbabGreatDoor.C
open Go.ChangeShapes Go.WideShapes Go.ChangeAt Go.RowKit Go.Shelf Go.Proofs.YtnfakamfmkhlbabGreatDoor.P
section
attribute [local go_sem] qd qe Oper.semAt_some
theorem dU{w w':World}{base n s:Nat}{e:TypeId}{v:Value}{xs:List Value}(h:w.ownsRow base e s v n xs)(g:Gr w w'):w'.ownsRow base e s v n xs:=by
 refine⟨h.1,?_⟩;rcases h.2 with h2|⟨k,cap,cur,hv,h3,hk,rest⟩
 ·exact .inl h2
 ·exact .inr ⟨k,cap,cur,hv,h3,(Below.block g _ (qB.1 hk).1).trans hk,rest⟩
def ud(xs:List Mv):List ByteArray:=xs.map fun x=>xJ (yJ x)
theorem qxz{ga gm gi:Nat}{PA:Array Value}{xs:List Mv}{w:World}(hsz:PA.size=72)(m:iM gm gi PA xs w) :
  Calls Tryz.prog 36 #[.agg (zG ga gm),.agg PA] w fun e w'=>∃v,e=.returned v/\yt w.heap.size v (ud (jI xs)) w'/\Gr w w':=by
 obtain⟨i0,hi,hz0,hz1,hz2⟩:=info_parts DH;have hi':=qC hi;clear hi;have hm:=qC m;clear m
 have hA0:Ig w gm PA ((w.alloc (.cells (zG ga gm) 74)).alloc (.cells PA 70)):=by
  obtain⟨e1,e2⟩:=x6 w (.cells (zG ga gm) 74) (.cells PA 70);exact⟨by rw[cell_of_row _ _ _ _ _ _ e1];rfl,e2,((Gr.refl w).alloc _ _).alloc _ _⟩
 have hc0:((w.alloc (.cells (zG ga gm) 74)).alloc (.cells PA 70)).cell? ⟨w.heap.size,0,none⟩=some (.func (.func ga) #[] #[]):=by
  obtain⟨e1,e2⟩:=x6 w (.cells (zG ga gm) 74) (.cells PA 70);rw[cell_of_row _ _ _ _ _ _ e1];rfl
 simp only[zG]at ⊢;go_enter Tryz.func36,Tryz.ntmps36;go_upto_region 1 with fail;show Code.wp _ _ _ _ ((w.alloc (.cells (zG ga gm) 74)).alloc (.cells PA 70));generalize ((w.alloc (.cells (zG ga gm) 74)).alloc (.cells PA 70))=wA at hA0 hc0 ⊢;have c1:=hA0.q;have kpa:=hA0.pa;have hgA:=qC hA0.gr;have hgm:Hid (Calls Tryz.prog 49 #[.agg #[.func (.func ga) #[] #[],.func (.func gm) #[] #[]],.agg PA] wA fun e w'=>∃v,e=.returned v/\w'.ownsRow wA.heap.size 87 3 v xs.length (vO (jI xs))/\Gr wA w'):=qC (qko hsz ((qa hm).gr hA0.gr));have hok:∀x∈jI xs,bi x:=fun x hx=>(qa hm).ok x ((xq xs).mem_iff.1 hx)
 have hys:(jI xs).length=xs.length:=qj7 xs;have hlen:=(qa hm).len;obtain⟨ys,hYS⟩:∃ys,Hid (ys=jI xs):=⟨_,qC rfl⟩;rw[<-qa hYS]at hgm hok hys;clear hA0 hm
 go_wp2_with(first
  | (refine wpList_load_row rfl 70 _ rfl (w.heap.size+1) rfl 70 PA (0,0) _ kpa Tryz.underlying70 rfl (by rw[hsz];exact q9) ?_)
  | (go_at_call 49;refine(qa hgm).mono ?_;rintro e w1 ⟨v,rfl,hv,hg1⟩;obtain⟨p,cap,rfl,hcap,hel⟩:=rJ hv))
 have hgw:=qC (Gr.trans (qa hgA) hg1);have hel':=qC hel;clear hgm hv hg1 hgA kpa c1 hc0 hel;go_loopg [5,7,12] xs.length (fun g v _ i wr=>∃k:Nat,k+g=xs.length/\i=.int .i64 (k:Int)/\yt w1.heap.size v (ud (ys.take k)) wr/\Gr w1 wr)
 case atStart=>exact⟨0,by omega,rfl,⟨rfl,.inl ⟨rfl,rfl⟩⟩,Gr.refl _⟩
 case round =>
  obtain⟨k,k1,rfl,hst,hgr⟩:=hrel;by_cases hlt:k<xs.length
  ·obtain⟨g,rfl,x0,x1,x2⟩:=qa hel' k hlt (by omega);have hblt:g<w1.heap.size:=World.block_lt_of_cell? _ _ x0;have x0:=(Below.cell hgr hblt).trans x0;have x1:=(Below.cell hgr hblt).trans x1;have x2:=(Below.cell hgr hblt).trans x2;have hyk:bi ys[k]:=hok _ (List.getElem_mem _);have htk:Hid (ys.take (k+1)=ys.take k++[ys[k]]):=qC (List.take_succ_eq_append_getElem (by omega));generalize ys[k]=y at x0 x1 x2 hyk htk;obtain⟨f,t,u⟩:=y;have hst':=qC hst;have hgr':=qC hgr;have hwz:=Below.size hgr;obtain⟨S,hS⟩:∃S,Hid (S=xJ (yJ (f,t,u))):=⟨_,qC rfl⟩;have hN:Hid (∀W,Calls Tryz.prog 38 #[.agg #[.int .i64 (f:Int),.int .i64 (t:Int),.int .u8 (u.toNat:Int)]] W fun e w'=>e=.returned (.string S)/\Gr W w'):=qC (fun W=>by rw[qa hS];exact gK f t hyk.1 hyk.2 u W);have hga:Hid (Gr wr (wr.alloc (.cells #[.int .i64 (f:Int),.int .i64 (t:Int),.int .u8 (u.toNat:Int)] 87))):=qC ((Gr.refl _).alloc _ _);clear hst hgr hok hyk;go_upto_region 5 with fail;have hx:=World.alloc_heap_new wr (.cells #[.int .i64 (f:Int),.int .i64 (t:Int),.int .u8 (u.toNat:Int)] 87);generalize (wr.alloc (.cells #[.int .i64 (f:Int),.int .i64 (t:Int),.int .u8 (u.toNat:Int)] 87))=wb at hga hx ⊢;obtain⟨y0,y1,y2⟩:=qm hx;clear hx x0 x1 x2
   go_upto_region 6 with(first
    | (go_at_call 38;refine(qa hN _).mono ?_;rintro e w2 ⟨rfl,hg2⟩;have hg3:=Gr.trans (qa hgr') (Gr.trans (qa hga) hg2);have hs3:=Below.size hg3;have hst2:=qC (dU (qa hst') (Gr.trans (qa hga) hg2)))
    | (at_builtin;refine wpList_append_own _ rfl (.tmp 16) (.tmp 19) 43 rfl w1.heap.size 9 i0 (.string ⟨#[]⟩) 1 16 Tryz.underlying43 (qa hi') hz0 hz1 hz2 rfl (by decide) u5 (ud (ys.take k)).length ((ud (ys.take k)).map Value.string) rfl ((qa hst2).alloc _) ⟨w2.heap.size,0,none⟩ 1 1 [.string S] rfl rfl (cell_one_new _ _ _) (by simp[Value.oneCell']) (by unfold maxLen;rw[ud,List.length_map,List.length_take];omega) (by rw[ud,List.length_map,List.length_take];omega) (by simp;omega) ?_;intro v' w3 hown' hgrow hnil))
   go_wp2_with fail;go_roundg (gk-1)
   case measure=>omega
   case rel =>
    refine⟨k+1,by omega,by go_num,?_,?_⟩
    ·unfold yt;rw[qa htk,ud,List.map_append,List.map_append,qZ];rw[qa hS]at hown';exact hown'
    ·exact(hg3.alloc _ _).grown hgrow (by simp;omega) (qjd (qa hst2))
  ·have ek:k=xs.length:=by omega
   rw[ek,<-hys,List.take_length,qa hYS]at hst;have hst':=qC hst;have hgr':=qC hgr;clear hst hgr hok hel';subst ek;go_wp2_with fail;go_ret;exact⟨_,rfl,qxn (qa hst') (Below.size (qa hgw)),Gr.trans (qa hgw) (qa hgr')⟩
end
section
attribute [local go_sem] qd qe
theorem bZ{z:Nat->UInt8}{wh:Bool}{fc:Nat->Bool}{b h g:Int}{PA:Array Value}(r:jE z wh fc b h g PA)(f t:Nat)(hf:f<64)(ht:t<64)(u:UInt8)(w:World):Calls Tryz.prog 194 #[.agg PA,.agg #[.int .i64 (f:Int),.int .i64 (t:Int),.int .u8 (u.toNat:Int)]] w fun e w'=>e=.returned (.bool (decide (vE (z f)=0)&&decide ((t:Int)=b)&&decide (f%8≠t%8)))/\Gr w w':=by
 have hsq:=r.sq f hf;have hb:=r.b;have ef:(f:Int).tmod 8=((f%8:Nat):Int):=by rw[Int.tmod_eq_emod_of_nonneg (by omega)];omega
 have et:(t:Int).tmod 8=((t%8:Nat):Int):=by rw[Int.tmod_eq_emod_of_nonneg (by omega)];omega
 have hk:=qC (fun W=>zp (z f) W);have hg2:Hid (∀o:Array Value,Gr w ((w.alloc (.cells PA 70)).alloc (.cells o 125))):=qC (fun o=>((Gr.refl w).alloc _ _).alloc _ _);generalize vE (z f)=kd at hk ⊢
 have hne:Hid (((((f%8:Nat):Int) != ((t%8:Nat):Int)))=decide (f%8≠t%8)):=qC (by
  by_cases e:f%8=t%8
  ·simp[e]
  ·have:((f%8:Nat):Int)≠((t%8:Nat):Int):=by omega
   simp only[qU,ne_eq,this,e,not_false_eq_true,decide_true])
 obtain⟨q,hq⟩:∃q,Hid (decide (f%8≠t%8)=q):=⟨_,qC rfl⟩;rw[qa hq];have hne':=qa hne;rw[qa hq]at hne';clear hq hne;generalize f%8=fm at ef hne';generalize t%8=tm at et hne';by_cases k0:kd=0
 ·have k1:(kd==0)=true:=by simp[k0]
  rw[qJ k0];clear k0;by_cases t0:(t:Int)=b
  ·have t1:((t:Int)==b)=true:=by simp[t0]
   rw[qJ t0];clear t0;go_enter Tryz.func194,Tryz.ntmps194;go_wp2_with(go_at_call 107;refine(qa hk _).mono ?_;rintro e w' ⟨rfl,rfl⟩);go_ret;exact⟨rfl,qa hg2 _⟩
  ·have t1:((t:Int)==b)=false:=by rw[qM];exact t0
   rw[qE t0];clear t0;go_enter Tryz.func194,Tryz.ntmps194;go_wp2_with(go_at_call 107;refine(qa hk _).mono ?_;rintro e w' ⟨rfl,rfl⟩);go_ret;exact⟨rfl,qa hg2 _⟩
 ·have k1:(kd==0)=false:=by rw[qM];exact k0
  rw[qE k0];clear k0;go_enter Tryz.func194,Tryz.ntmps194;go_wp2_with(go_at_call 107;refine(qa hk _).mono ?_;rintro e w' ⟨rfl,rfl⟩);go_ret;exact⟨rfl,qa hg2 _⟩
theorem qxf{z:Nat->UInt8}{wh:Bool}{fc:Nat->Bool}{b h g:Int}{PA:Array Value}(r:jE z wh fc b h g PA)(f t:Nat)(u:UInt8)(w:World):Calls Tryz.prog 108 #[.agg PA,.agg #[.int .i64 (f:Int),.int .i64 (t:Int),.int .u8 (u.toNat:Int)]] w fun e w'=>e=.returned (.int .i64 (zK wh fc f t u))/\Gr w w':=by
 have hz:=r.size;have hca:=qC r.c;have htu:=qC (fun W=>Dv r W);have hho:=qC (fun i hi W=>zr i hi W);have hg2:Hid (∀o:Array Value,Gr w ((w.alloc (.cells PA 70)).alloc (.cells o 125))):=qC (fun o=>((Gr.refl w).alloc _ _).alloc _ _);have hin:Hid (∀w',Gr ((w.alloc (.cells PA 70)).alloc (.cells #[.int .i64 (f:Int),.int .i64 (t:Int),.int .u8 (u.toNat:Int)] 125)) w'->_):=qC (fun w' g=>eQ g);unfold zK;go_enter Tryz.func108,Tryz.ntmps108;go_wp2_with fail;have hgw:=qC (qa hg2 #[.int .i64 (f:Int),.int .i64 (t:Int),.int .u8 (u.toNat:Int)]);generalize ((w.alloc (.cells PA 70)).alloc (.cells #[.int .i64 (f:Int),.int .i64 (t:Int),.int .u8 (u.toNat:Int)] 125))=w2 at hin hgw ⊢;clear hg2;go_loopg [5] 4 (fun gm i wr=>∃d:Nat,d+gm=4/\i=.int .i64 (d:Int)/\Gr w2 wr/\gh (jZ wh fc f t u) gm d=gh (jZ wh fc f t u) 4 0)
 case atStart=>exact⟨0,by omega,rfl,Gr.refl _,rfl⟩
 case round =>
  obtain⟨d,d1,rfl,hG,hcf⟩:=hrel;have hG':=qC hG;have hcf':=qC hcf;clear hG hcf;by_cases hd:d<4
  ·obtain⟨hP,hm⟩:=qa hin _ (qa hG');have hrow:=qC (vF hP);have hcd:wr.cell? ⟨w.heap.size,65+d,none⟩=some (.bool (fc d)):=by rw[qn hP];exact qa hca d hd
   have m0:wr.cell? ⟨w.heap.size+1,0,none⟩=some (.int .i64 (f:Int)):=by rw[qn hm];rfl
   have m1:wr.cell? ⟨w.heap.size+1,1,none⟩=some (.int .i64 (t:Int)):=by rw[qn hm];rfl
   have m2:wr.cell? ⟨w.heap.size+1,2,none⟩=some (.int .u8 (u.toNat:Int)):=by rw[qn hm];rfl
   clear hP hm
   have hmv:Hid (∀w',Gr w2 w'->w'.cell? ⟨w.heap.size+1,0,none⟩=some (.int .i64 (f:Int))/\w'.cell? ⟨w.heap.size+1,1,none⟩=some (.int .i64 (t:Int))/\w'.cell? ⟨w.heap.size+1,2,none⟩=some (.int .u8 (u.toNat:Int))):=qC (fun w' g=>by
    have hm:=(qa hin w' g).2;exact⟨by rw[qn hm];rfl,by rw[qn hm];rfl,by rw[qn hm];rfl⟩)
   obtain⟨gg,rfl⟩:∃gg,gk=gg+1:=⟨gk-1,by omega⟩;have hst:Hid (gh (jZ wh fc f t u) (gg+1) d=if fc d&&(xK (decide (d<2))==xK wh)&&((f:Int)==xY d)&&((t:Int)==vN d)&&((u.toNat:Int)==0)then(d:Int)else gh (jZ wh fc f t u) gg (d+1)):=qC rfl;obtain⟨x1,e1⟩:∃x,(xK (decide (d<2))==xK wh)=x:=⟨_,rfl⟩;obtain⟨x2,e2⟩:∃x,((f:Int)==xY d)=x:=⟨_,rfl⟩;obtain⟨x3,e3⟩:∃x,((t:Int)==vN d)=x:=⟨_,rfl⟩;obtain⟨x4,e4⟩:∃x,((u.toNat:Int)==0)=x:=⟨_,rfl⟩;generalize fc d=x0 at hcd hst;rw[e1,e2,e3,e4]at hst;have hcf2:=qC ((qa hst).symm.trans (qa hcf'));clear hst hcf' hin hca m0 m1 m2;cases x0
   ·clear e1 e2 e3 e4
    go_wp2_with(first
     | (go_at_call 196;refine(qa hho d hd _).mono ?_;rintro e w' ⟨rfl,hww⟩;have hww':=hww.symm;subst hww';clear hww)
     | (go_at_call 116;refine(qa htu _).mono ?_;rintro e w6 ⟨rfl,hg6⟩;obtain⟨m0,m1,m2⟩:=qa hmv _ (Gr.trans (qa hG') hg6);have hG6:=qC (Gr.trans (qa hG') hg6);clear hg6)
     | (refine ql (by rfl) _ rfl w.heap.size rfl hz (qa hrow) ?_))
    go_roundg gg
    case measure=>omega
    case rel=>exact⟨d+1,by omega,rfl,qa hG',qa hcf2⟩
   ·cases x1
    ·skip
     go_wp2_with(first
      | (go_at_call 196;refine(qa hho d hd _).mono ?_;rintro e w' ⟨rfl,hww⟩;have hww':=hww.symm;subst hww';clear hww)
      | (go_at_call 116;refine(qa htu _).mono ?_;rintro e w6 ⟨rfl,hg6⟩;obtain⟨m0,m1,m2⟩:=qa hmv _ (Gr.trans (qa hG') hg6);have hG6:=qC (Gr.trans (qa hG') hg6);clear hg6)
      | (refine ql (by rfl) _ rfl w.heap.size rfl hz (qa hrow) ?_))
     go_roundg gg
     case measure=>omega
     case rel=>exact⟨d+1,by omega,rfl,qa hG6,qa hcf2⟩
    ·cases x2
     ·skip
      go_wp2_with(first
       | (go_at_call 196;refine(qa hho d hd _).mono ?_;rintro e w' ⟨rfl,hww⟩;have hww':=hww.symm;subst hww';clear hww)
       | (go_at_call 116;refine(qa htu _).mono ?_;rintro e w6 ⟨rfl,hg6⟩;obtain⟨m0,m1,m2⟩:=qa hmv _ (Gr.trans (qa hG') hg6);have hG6:=qC (Gr.trans (qa hG') hg6);clear hg6)
       | (refine ql (by rfl) _ rfl w.heap.size rfl hz (qa hrow) ?_))
      go_roundg gg
      case measure=>omega
      case rel=>exact⟨d+1,by omega,rfl,qa hG6,qa hcf2⟩
     ·cases x3
      ·skip
       go_wp2_with(first
        | (go_at_call 196;refine(qa hho d hd _).mono ?_;rintro e w' ⟨rfl,hww⟩;have hww':=hww.symm;subst hww';clear hww)
        | (go_at_call 116;refine(qa htu _).mono ?_;rintro e w6 ⟨rfl,hg6⟩;obtain⟨m0,m1,m2⟩:=qa hmv _ (Gr.trans (qa hG') hg6);have hG6:=qC (Gr.trans (qa hG') hg6);clear hg6)
        | (refine ql (by rfl) _ rfl w.heap.size rfl hz (qa hrow) ?_))
       go_roundg gg
       case measure=>omega
       case rel=>exact⟨d+1,by omega,rfl,qa hG6,qa hcf2⟩
      ·cases x4
       ·skip
        go_wp2_with(first
         | (go_at_call 196;refine(qa hho d hd _).mono ?_;rintro e w' ⟨rfl,hww⟩;have hww':=hww.symm;subst hww';clear hww)
         | (go_at_call 116;refine(qa htu _).mono ?_;rintro e w6 ⟨rfl,hg6⟩;obtain⟨m0,m1,m2⟩:=qa hmv _ (Gr.trans (qa hG') hg6);have hG6:=qC (Gr.trans (qa hG') hg6);clear hg6)
         | (refine ql (by rfl) _ rfl w.heap.size rfl hz (qa hrow) ?_))
        go_roundg gg
        case measure=>omega
        case rel=>exact⟨d+1,by omega,rfl,qa hG6,qa hcf2⟩
       ·skip
        go_wp2_with(first
         | (go_at_call 196;refine(qa hho d hd _).mono ?_;rintro e w' ⟨rfl,hww⟩;have hww':=hww.symm;subst hww';clear hww)
         | (go_at_call 116;refine(qa htu _).mono ?_;rintro e w6 ⟨rfl,hg6⟩;obtain⟨m0,m1,m2⟩:=qa hmv _ (Gr.trans (qa hG') hg6);have hG6:=qC (Gr.trans (qa hG') hg6);clear hg6)
         | (refine ql (by rfl) _ rfl w.heap.size rfl hz (qa hrow) ?_))
        go_ret;exact⟨by rw[<-qa hcf2];rfl,Gr.trans (qa hgw) (qa hG6)⟩
  ·have ed:d=4:=by omega
   subst ed;obtain rfl:gk=0:=by omega
   clear hin hca;go_wp2_with fail;go_ret;exact⟨by rw[<-qa hcf'];rfl,Gr.trans (qa hgw) (qa hG')⟩
theorem fj(z:Nat->UInt8)(A:Array Value)(hA:∀i,i<64->A[i]?=some (.int .u8 ((z i).toNat:Int)))(i:Nat)(hi:i<4)(w:World):Calls Tryz.prog 299 #[.agg A,.int .i64 (xY i),.int .i64 (zD i)] w fun e w'=>e=.returned (.bool (nB z i))/\Gr w w':=by
 have hc:i=0\/i=1\/i=2\/i=3:=by omega
 refine zh A (fun n=>((z n).toNat:Int)) hA (xY i) (zD i) ?_ ?_ ?_ ?_ (ll i) (AR i) ?_ ?_ ?_ ?_ ?_ ?_ w
 ·rcases hc with rfl|rfl|rfl|rfl<;>decide
 ·rcases hc with rfl|rfl|rfl|rfl<;>decide
 ·rcases hc with rfl|rfl|rfl|rfl<;>decide
 ·rcases hc with rfl|rfl|rfl|rfl<;>decide
 ·rcases hc with rfl|rfl|rfl|rfl<;>decide
 ·rcases hc with rfl|rfl|rfl|rfl<;>decide
 ·intro j;rcases hc with rfl|rfl|rfl|rfl
  ·show(4:Int)+((j+1:Nat):Int)=4+(j:Int)+8*0+1;omega
  ·show(4:Int)-((j+1:Nat):Int)=4-(j:Int)+8*0+(-1);omega
  ·show(60:Int)+((j+1:Nat):Int)=60+(j:Int)+8*0+1;omega
  ·show(60:Int)-((j+1:Nat):Int)=60-(j:Int)+8*0+(-1);omega
 ·rcases hc with rfl|rfl|rfl|rfl<;>decide
 ·intro j hj;rcases hc with rfl|rfl|rfl|rfl
  ·have:j<=3:=hj;show 0<=(4:Int)+(j:Int)/\(4:Int)+(j:Int)<=63;omega
  ·have:j<=4:=hj;show 0<=(4:Int)-(j:Int)/\(4:Int)-(j:Int)<=63;omega
  ·have:j<=3:=hj;show 0<=(60:Int)+(j:Int)/\(60:Int)+(j:Int)<=63;omega
  ·have:j<=4:=hj;show 0<=(60:Int)-(j:Int)/\(60:Int)-(j:Int)<=63;omega
 ·intro j h1 hj;rcases hc with rfl|rfl|rfl|rfl
  ·have:j<3:=hj;show(4:Int)+(j:Int)≠7;omega
  ·have:j<4:=hj;show(4:Int)-(j:Int)≠0;omega
  ·have:j<3:=hj;show(60:Int)+(j:Int)≠63;omega
  ·have:j<4:=hj;show(60:Int)-(j:Int)≠56;omega
theorem s3(i:Nat)(hi:i<4):0<=xY i/\xY i<=63/\0<=vN i/\vN i<=63/\IntKind.i64.wrap (xY i+vN i)=xY i+vN i/\0<=(xY i+vN i).tdiv 2/\(xY i+vN i).tdiv 2<=63/\IntKind.i64.wrap (-(xK (decide (i<2))))=xK (!decide (i<2)):=by
 have hc:i=0\/i=1\/i=2\/i=3:=by omega
 rcases hc with rfl|rfl|rfl|rfl<;>decide +kernel
theorem sP{W:World}{b:Nat}{A:Array Value}(h:zJ b A W):W.rangeAt b 0 (A.toList.take 64):=fun j v hv=>h.2 j v (by
 rw[List.getElem?_take]at hv;split at hv
 ·exact hv
 ·cases hv)
theorem tF{z:Nat->UInt8}{wh:Bool}{fc:Nat->Bool}{b h g:Int}{PA:Array Value}(r:jE z wh fc b h g PA)(i:Nat)(hi:i<4)(w:World):Calls Tryz.prog 248 #[.agg PA,.int .i64 (i:Int)] w fun e w'=>e=.returned (.bool (km z i))/\Gr w w':=by
 have hho:=qC (fun W=>zr i hi W);obtain⟨bs,bA⟩:=FN r;obtain⟨k0,k1,t0,t1,kt,q0,q1,hs⟩:=s3 i hi;have hclr:=qC (fun W=>fj z _ bA i hi W);have hatt:=qC (fun y y0 y1 W=>ju z _ bs bA y y0 y1 (!decide (i<2)) W);have hmid:=qC (fun W (h:zJ w.heap.size PA W)=>sP h);have hrow:Hid (∀W,Gr (w.alloc (.cells PA 70)) W->zJ w.heap.size PA W):=qC (fun W g=>vF ((Below.block g _ (by rw[World.size_alloc];omega)).trans (World.alloc_heap_new w _)));have hg0:=qC ((Gr.refl w).alloc PA 70);have hi64:(Tryz.prog.info? 67).map (·.size)=some (PA.toList.take 64).length:=by rw[x7];simp[r.size]
 have hi64':=qC hi64;have hfr:Hid (km z i=(nB z i&&!(zM z (xY i) (!decide (i<2)))&&!(zM z ((xY i+vN i).tdiv 2) (!decide (i<2)))&&!(zM z (vN i) (!decide (i<2))))):=qC rfl;generalize km z i=F at hfr ⊢;generalize (PA.toList.take 64)=L at hclr hatt hmid hi64';clear bs bA hi64;generalize xY i=K at *;generalize vN i=T at *;generalize zD i=R at *;generalize xK (decide (i<2))=sd at *;go_enter Tryz.func248,Tryz.ntmps248;go_upto_region 2 with(go_at_call 196;refine(qa hho _).mono ?_;rintro e w' ⟨rfl,hww⟩;have hww':=hww.symm;subst hww';clear hww);have hga:=qC (Gr.refl (w.alloc (.cells PA 70)));generalize w.alloc (.cells PA 70)=wa at hga hrow hg0 ⊢
 go_upto_region 3 with(first
  | (go_at_call 299;refine(qa hclr _).mono ?_;rintro e w3 ⟨rfl,hg3⟩)
  | (refine wpList_load_mid rfl 67 _ rfl w.heap.size 0 rfl L _ (qa hmid _ (qa hrow _ (qa hga))) Tryz.underlying67 rfl (qa hi64') ?_))
 have hgb:=qC (Gr.trans (qa hga) hg3);clear hga hg3 hclr
 go_upto_region 4 with(first
  | (go_at_call 192;refine(qa hatt _ k0 k1 _).mono ?_;rintro e w4 ⟨rfl,hg4⟩)
  | (refine wpList_load_mid rfl 67 _ rfl w.heap.size 0 rfl L _ (qa hmid _ (qa hrow _ (qa hgb))) Tryz.underlying67 rfl (qa hi64') ?_))
 have hgc:=qC (Gr.trans (qa hgb) hg4);clear hgb hg4;have kt':IntKind.i64.wrap ((K+T).tdiv 2)=(K+T).tdiv 2:=by rw[IntKind.wrap_i64];omega
 go_upto_region 5 with(first
  | (go_at_call 192;refine(qa hatt _ q0 q1 _).mono ?_;rintro e w5 ⟨rfl,hg5⟩)
  | (refine wpList_load_mid rfl 67 _ rfl w.heap.size 0 rfl L _ (qa hmid _ (qa hrow _ (qa hgc))) Tryz.underlying67 rfl (qa hi64') ?_))
 have hgd:=qC (Gr.trans (qa hgc) hg5);clear hgc hg5 kt' kt;generalize (K+T).tdiv 2=M at q0 q1 hfr ⊢
 go_upto_region 6 with(first
  | (go_at_call 192;refine(qa hatt _ t0 t1 _).mono ?_;rintro e w6 ⟨rfl,hg6⟩)
  | (refine wpList_load_mid rfl 67 _ rfl w.heap.size 0 rfl L _ (qa hmid _ (qa hrow _ (qa hgd))) Tryz.underlying67 rfl (qa hi64') ?_))
 have hge:=qC (Gr.trans (qa hg0) (Gr.trans (qa hgd) hg6));clear hgd hg6 hatt hmid hrow hg0 hi64' hho;generalize zM z K (!decide (i<2))=a1 at hfr ⊢;generalize zM z M (!decide (i<2))=a2 at hfr ⊢;generalize zM z T (!decide (i<2))=a3 at hfr ⊢;generalize nB z i=c1 at hfr ⊢;cases c1<;>cases a1<;>cases a2<;>cases a3
 all_goals
  go_wp2_with fail;go_ret;exact⟨by rw[qa hfr];rfl,qa hge⟩
end
end Go.Proofs.YtnfakamfmkhlbabGreatDoor.C
