import Derived.Test.YtnfakamfmkhlbabGreatDoorUm29
import Derived.Deep.QuietTactic
import Derived.BigQuiet
import Derived.Shelf.RegionOpen
import Derived.LoopNIn
import Derived.LoopIn
import Derived.Test.YtnfakamfmkhlbabGreatDoorKz2
import Derived.Test.YtnfakamfmkhlbabGreatDoorKz3
set_option maxRecDepth 100000
set_option maxHeartbeats 4000000
set_option linter.unusedSimpArgs false
namespace Go.Proofs.YtnfakamfmkhlbabGreatDoor.C
open Go.ChangeShapes Go.WideShapes Go.ChangeAt Go.RowKit Go.Proofs.YtnfakamfmkhlbabGreatDoor.P Go.Shelf
section
attribute [local go_sem] qd qe
theorem tH(s:ByteArray)(hs:s.size<4294967281)(w:World):Calls Tryz.prog 113 #[.string s] w fun e w'=>kT s e/\Gr w w':=by
  have hpc:=qC (fun W=>qvl s hs 32 W)
  have hz0:=pr.size
  have ho0:=qC (qx pr)
  go_enter Tryz.func113,Tryz.ntmps113
  go_upto_region 2 with(first
    | (refine qqq rfl 70 #[(3,.const (.int .i64 (-1)))] rfl gq ?_ ?_;focus (exact CZ))
    | (refine wpList_store_row rfl 70 _ _ rfl (w.heap.size+1) gq rfl rfl 70 _ (heap_alloc2_new _ _ _) (by rw[hz0];exact q9) (by rw[hz0];exact xF.symm) (qa ho0) ?_))
  generalize hw3:((w.alloc (.cells Tryz.zeroCells70 70)).alloc (.cells Tryz.zeroCells70 70)).setRow (w.heap.size+1) gq=w3
  have hf3:Fo w (w.heap.size+1) gq w3:=by
    rw[<-hw3]
    exact⟨by rw[Below.block (show Gr (w.alloc (.cells Tryz.zeroCells70 70)) _ from((Gr.refl _).alloc _ _).setRow _ (by rw[World.size_alloc];omega) _) _ (by rw[World.size_alloc];omega)];exact heap_alloc_new _ _,setRow_heap _ _ _ _ _ _ (heap_alloc2_new _ _ _),by omega,by rw[size_setRow,World.size_alloc,World.size_alloc];omega,(((Gr.refl w).alloc _ _).alloc _ _).setRow _ (by omega) _⟩
  clear hw3
  generalize w.heap.size+1=bp at hf3 ⊢
  go_upto_region 3 with(go_at_call 71;refine(qa hpc _).mono ?_;rintro e w4 ⟨v,xs,rfl,hst,hx1,hx2,hx3,hg4⟩)
  obtain⟨gw,cap,rfl,hgb,hcap,hwd⟩:=C1 hst hx2
  have hf4:=hf3.next hg4
  have hne:gw≠bp:=by have:=hf3.lp;omega
  have hgwn0:Hid (gw≠w.heap.size):=qC (by have:=hf3.lp;have:=hf3.ne;omega)
  obtain⟨hp1,hp2⟩:=qvk 32 7 (by omega) s xs hx1 hx2 hx3 6 (by omega)
  clear hf3 hg4 hst hgb hpc
  by_cases h6:xs.length=6
  · have hw6:=hp1 h6
    match xs,h6 with
    | [x0,x1,x2,x3,x4,x5],_ =>
      have hr:=qC (rW hw6)
      have hszs:∀x∈xL 32 7 s,x.size<=s.size:=fun x hx=>zc _ _ _ _ hx
      rw[hw6]at hszs
      have z0:=hszs x0 (by simp)
      have z2:=hszs x2 (by simp)
      have z3:=hszs x3 (by simp)
      have z4:=hszs x4 (by simp)
      have z5:=hszs x5 (by simp)
      have c1:=hwd.at' 1 (by simp)
      simp only[List.getElem_cons_succ,List.getElem_cons_zero]at c1
      have hwd':=qC hwd
      clear hszs hw6 hp1 hp2 hx1 hx2 hx3 hwd
      simp only[List.length_cons,List.length_nil]at hcap ⊢
      by_cases hsd:(kO x1).isSome=true
      · have hs2:=(Fu x1).1
        rw[hsd]at hs2
        obtain⟨wt,hwt⟩:=Option.isSome_iff_exists.1 hsd
        have hs3:=(Fu x1).2 wt hwt
        have hwt':=qC hwt
        have hwc:=hf4.cell (PA:=gq) pr.wh
        have hsf:=hf4.soft 64
        have hr5:=qC (pr.setWh wt)
        have hf5:=hf4.put 64 (.bool wt)
        have hwd5:=(qa hwd').far hne (i:=64) (v:=.bool wt)
        have c0:=hwd5.at' 0 (by simp)
        simp only[List.getElem_cons_zero]at c0
        have hz5:=(pr.setWh wt).size
        have ho5:=qC (qx (pr.setWh wt))
        have hpc:=qC (fun W=>qvl x0 (by omega) 47 W)
        generalize gq.setIfInBounds 64 (.bool wt)=PA5 at hr5 hf5 hz5 ho5
        have hb:((x1.toList==[119])=true/\wt=true)\/((x1.toList==[119])=false/\(x1.toList==[98])=true/\wt=false):=by
          cases wt
          · right;rw[hs3]at hs2;exact⟨hs3,by simpa using hs2,rfl⟩
          · left;exact⟨hs3,rfl⟩
        have hwd5':=qC hwd5
        clear hs2 hsd hwt hs3 hwd5 hwd'
        rcases hb with⟨h1,rfl⟩|⟨h1,h2,rfl⟩
        all_goals
          go_upto_region 7 with(first
            | (go_at_call 71;refine(qa hpc _).mono ?_;rintro e w6 ⟨v,ys,rfl,hst,hy1,hy2,hy3,hg6⟩))
          obtain⟨gr,rcap,rfl,hgb,hrc,hrd⟩:=C1 hst hy2
          have hf6:=hf5.next hg6
          have hwd6:=qC ((qa hwd5').next hg6)
          have hnr:gr≠bp:=by have:=hf5.lp;omega
          obtain⟨hp1,hp2⟩:=qvk 47 9 (by omega) x0 ys hy1 hy2 hy3 8 (by omega)
          clear hf5 hg6 hst hgb hpc hwd5' hf4 c0 c1 hwc hsf h1
          by_cases h8:ys.length=8
          · have h8i:((ys.length:Int) != 8)=false:=by rw[h8];rfl
            have hrd':=qC hrd
            have hyz:∀y∈ys,y.size<=x0.size:=fun y hy=>zc _ _ _ _ (by have:=hp1 h8;unfold xL at this;rw[this];exact hy)
            clear hrd
            go_wp2_with(fail)
            go_loopg [7] 8 (fun g i wr=>∃k:Nat,k+g=8/\i=.int .i64 k/\∃PA z rs,HN w bp PA wr z _ ys k rs/\Wd gr ys wr/\Wd gw [x0,x1,x2,x3,x4,x5] wr)
            case atStart=>exact⟨0,by omega,rfl,PA5,_,[],⟨hf6,qa hr5,rfl,fun i f hi=>absurd hi (Nat.not_lt_zero _)⟩,qa hrd',qa hwd6⟩
            case round =>
              clear hrd' hwd6 hf6 hr5
              obtain⟨k,k1,rfl,PA,z,rs,hB,hrd,hwd⟩:=hrel
              have hsz:=hB.row.size
              have hon:=qC (qx hB.row)
              have hB':=qC hB
              have hwd':=qC hwd
              by_cases hlt:k<8
              · have hk:k<ys.length:=by omega
                have hcell:=hrd.at' k hk
                have hrd':=qC hrd
                clear hrd hwd hB
                go_wp2_with fail
                refine(mK ys[k] (by have:=hyz ys[k] (List.getElem_mem hk);unfold maxLen;omega) _).mono ?_
                rintro e w7 ⟨hrk,hg7⟩
                have hfo:=(qa hB').fo.next hg7
                rcases hrk with⟨acc,ha,rfl⟩|⟨hn,a0,a1,a2,a3,a4,a5,a6,a7,rfl⟩
                · obtain⟨zs,rfl,hz8,-,-⟩:=gA _ _ ha
                  match zs,hz8 with
                  | [b0,b1,b2,b3,b4,b5,b6,b7],_ =>
                    have ha':=qC ha
                    have hwd7:=qC ((qa hwd').next hg7)
                    have hrd7:=qC ((qa hrd').next hg7)
                    clear ha hcell
                    simp only[nI,List.map_cons,List.map_nil]
                    go_wp2_with fail
                    have hrb:(w7.alloc (.cells #[.int .u8 (b0.toNat:Int),.int .u8 (b1.toNat:Int),.int .u8 (b2.toNat:Int),.int .u8 (b3.toNat:Int),.int .u8 (b4.toNat:Int),.int .u8 (b5.toNat:Int),.int .u8 (b6.toNat:Int),.int .u8 (b7.toNat:Int)] 277)).heap[w7.heap.size]?=_:=heap_alloc_new _ _
                    have hg8:Gr w7 (w7.alloc (.cells #[.int .u8 (b0.toNat:Int),.int .u8 (b1.toNat:Int),.int .u8 (b2.toNat:Int),.int .u8 (b3.toNat:Int),.int .u8 (b4.toNat:Int),.int .u8 (b5.toNat:Int),.int .u8 (b6.toNat:Int),.int .u8 (b7.toNat:Int)] 277)):=(Gr.refl w7).alloc _ _
                    have hf8:=hfo.next hg8
                    have hwd8:=qC ((qa hwd7).next hg8)
                    have hrd8:=qC ((qa hrd7).next hg8)
                    have hnb:w7.heap.size≠bp:=by have:=hfo.lp;omega
                    generalize w7.alloc _=w8 at hrb hg8 hf8 hwd8 hrd8 ⊢
                    generalize w7.heap.size=rb at hrb hnb ⊢
                    have hrb':=qC hrb
                    clear hwd7 hrd7 hfo hg7 hg8 hrb
                    go_loopg [10] 8 (fun g f wr=>∃j:Nat,j+g=8/\f=.int .i64 j/\∃PA' z',DR w bp PA' wr z z' _ [b0,b1,b2,b3,b4,b5,b6,b7] k j rb 277/\Wd gr ys wr/\Wd gw [x0,x1,x2,x3,x4,x5] wr)
                    case atStart=>exact⟨0,by omega,rfl,PA,z,⟨hf8,(qa hB').row,qa hrb',fun f hf=>absurd hf (Nat.not_lt_zero _),fun _ _=>rfl⟩,qa hrd8,qa hwd8⟩
                    case round =>
                      clear hrb' hwd8 hrd8 hf8
                      obtain⟨j,j1,rfl,PA',z',hI,hrd,hwd⟩:=hrel
                      by_cases hj:j<8
                      · have hcj:=hI.rcell hj
                        have hp2:=hI.fo.cell (hI.row.sq (8*(7-k)+j) (by omega))
                        have hsf:=hI.fo.soft (8*(7-k)+j)
                        have hI':=qC (hI.step hj hj hlt hnb)
                        have hrd2:=qC (hrd.far hnr (i:=8*(7-k)+j) (v:=.int .u8 (([b0,b1,b2,b3,b4,b5,b6,b7][j]).toNat:Int)))
                        have hwd2:=qC (hwd.far hne (i:=8*(7-k)+j) (v:=.int .u8 (([b0,b1,b2,b3,b4,b5,b6,b7][j]).toNat:Int)))
                        generalize ([b0,b1,b2,b3,b4,b5,b6,b7][j])=bj at hcj hI' hrd2 hwd2
                        clear hI hrd hwd
                        go_wp2_with fail
                        go_roundg (gk-1)
                        case measure=>omega
                        case rel=>exact⟨j+1,by omega,rfl,_,_,qa hI',qa hrd2,qa hwd2⟩
                      · have hj8:j=8:=by omega
                        subst hj8
                        have hI':=qC (hI.done (qa hB') hk hlt (qa ha'))
                        have hrd2:=qC hrd
                        have hwd2:=qC hwd
                        clear hI hrd hwd
                        go_wp2_with fail
                        go_roundg (8-k-1)
                        case measure=>omega
                        case rel =>
                          obtain⟨rs',hrs'⟩:=qa hI'
                          exact⟨k+1,by omega,rfl,_,_,rs',hrs',qa hrd2,qa hwd2⟩
                · have hno:Hid (xG s=none):=qC (by rw[qa hr];exact jr (.inl (nP (hp1 h8) hk hn)))
                  have hfo':∀c t,Fo w bp PA (w7.alloc (.cells c t)):=fun c t=>hfo.next ((Gr.refl _).alloc _ _)
                  go_wp2_with(first
                    | (refine wpList_load_row rfl 70 _ rfl bp rfl 70 PA (0,0) _ (Fo.p (w:=w) (hfo' _ _)) Tryz.underlying70 rfl (by rw[hsz];exact q9) ?_)
                    | (refine wpList_store_row rfl 70 _ _ rfl w.heap.size PA rfl rfl 70 Tryz.zeroCells70 (Fo.res (bp:=bp) (PA:=PA) (hfo' _ _)) (by rw[hsz];exact q9) (by rw[hsz];exact xF.symm) (qa hon) ?_))
                  exact bodyPost_ret (v:=.tuple #[.agg PA,.bool false]) (qj Tryz.results113 _ _ w.heap.size 70 _ (0,0) _ rfl (setRow_heap _ _ _ _ _ _ (hfo' _ _).res) Tryz.underlying70 rfl (by rw[hsz];exact q9)) rfl ⟨.inr ⟨qa hno,PA,hsz,(qa hon),rfl⟩,(hfo' _ _).gr.setRow _ (qL _) _⟩
              · have hk8:k=8:=by omega
                subst hk8
                have hbd:=qC (hB.board (hp1 h8) h8)
                have hfo:=qC hB.fo
                have hro:=qC hB.row
                clear hrd hB' hwd'
                clear hB
                have hwd':=qC hwd
                clear hwd hp1 hp2 hy1 hy2 hy3
                go_wp2_with fail
                simp only[h8,Int.cast_ofNat_Int]
                clear h8 h8i hyz
                go_loopg [11,12] x2.size (fun g la i wr=>∃k:Nat,k+g=x2.size/\i=.int .i64 k/\la=.int .i64 (yR x2.data.toList k)/\∃PA,Fo w bp PA wr/\jE z _ (yq x2.data.toList k) (-1) 0 0 PA/\(x2.data.toList=[45]\/j8 x2.data.toList (-1)=j8 (x2.data.toList.drop k) (yR x2.data.toList k))/\Wd gw [x0,x1,x2,x3,x4,x5] wr)
                case atStart=>exact⟨0,by omega,rfl,rfl,PA,qa hfo,(qa hro).congr (fun _ _=>rfl) (fun i _=>by simp[yq]),.inr rfl,qa hwd'⟩
                case round =>
                  clear hfo hro hwd' hon hsz
                  obtain⟨k,k1,rfl,rfl,PA,hfo,hrow,hri,hwd⟩:=hrel
                  have hsz:=hrow.size
                  have hon:=qC (qx hrow)
                  have c2:=hwd.at' 2 (by simp)
                  simp only[List.getElem_cons_succ,List.getElem_cons_zero]at c2
                  have hwd':=qC hwd
                  have hrow':=qC hrow
                  have hri':=qC hri
                  clear hwd hrow hri
                  by_cases hlt:k<x2.size
                  · have hbk:=qC (cL x2 k hlt)
                    have hpl:Hid (∀W:World,Calls Tryz.prog 111 #[.string ⟨#[75,81,107,113]⟩,.int .u8 (x2[k].toNat:Int)] W fun e w'=>e=.returned (.int .i64 (kY x2[k]))/\w'=W):=qC (fun W=>xa ⟨#[75,81,107,113]⟩ (by decide) x2[k] W)
                    have hra:=qC (rO x2.data.toList k x2[k] (qa hbk))
                    have hls:=qC (lF x2.data.toList k x2[k] (qa hbk))
                    have hno:Hid (x2.data.toList≠[45]->kY x2[k]<=yR x2.data.toList k->xG s=none):=qC (fun hn hle=>by
                      rw[qa hr]
                      refine jr (.inr (.inr (.inl (ti hn ?_))))
                      rw[(qa hri').resolve_left hn,qa hra,qE (by omega)];rfl)
                    have hnx:Hid (x2.data.toList=[45]\/yR x2.data.toList k<kY x2[k]->x2.data.toList=[45]\/j8 x2.data.toList (-1)=j8 (x2.data.toList.drop (k+1)) (yR x2.data.toList (k+1))):=qC (fun h=>by
                      by_cases hn:x2.data.toList=[45]
                      · exact .inl hn
                      · refine .inr ?_
                        rw[(qa hri').resolve_left hn,qa hra,qJ (h.resolve_left hn)];rfl)
                    have hrN:Hid (kY x2[k]<0->jE z _ (yq x2.data.toList (k+1)) (-1) 0 0 PA):=qC (fun h=>(qa hrow').casNo (qa hbk) h)
                    have hrY:Hid (∀j:Nat,j<4->x2[k]=vn j->jE z _ (yq x2.data.toList (k+1)) (-1) 0 0 (PA.setIfInBounds (65+j) (.bool true))):=qC (fun j hj e=>(qa hrow').casYes hj (by rw[qa hbk,e]))
                    have hdd:(x2.toList==[45])=decide (x2.data.toList=[45]):=by rw[Lib.toList_data];by_cases h:x2.data.toList=[45]<;>simp[h]
                    have hqb:=fL x2[k]
                    have hpos:Hid (0<=kY x2[k]->∃j:Nat,j<4/\kY x2[k]=(j:Int)/\x2[k]=vn j):=qC (fun h=>CN (c:=x2[k]) h)
                    have hlq:Hid (∀l,yR x2.data.toList k=l->True):=qC (fun _ _=>trivial)
                    clear hra hlq
                    generalize hla:yR x2.data.toList k=la at hno hnx
                    have hla':=qC hla
                    clear hla
                    obtain⟨q,hq⟩:∃q,kY x2[k]=q:=⟨_,rfl⟩
                    rw[hq]at hpl hls hno hnx hrN hqb hpos
                    clear hq hri'
                    by_cases hgo:x2.data.toList=[45]\/la<q
                    · have hn2:=qC (qa hnx hgo)
                      have hb:(x2.toList==[45])=true\/((x2.toList==[45])=false/\la<q):=by
                        rw[hdd]
                        by_cases h:x2.data.toList=[45]
                        · exact .inl (by simp[h])
                        · exact .inr ⟨by simp[h],hgo.resolve_left h⟩
                      clear hno hnx hdd hgo
                      rcases hb with hd|⟨hd,hl⟩
                      all_goals
                        by_cases hq0:0<=q
                        · obtain⟨j,j4,hj,hcj⟩:=qa hpos hq0
                          have hcc:=hfo.cell ((qa hrow').c j j4)
                          have hsf:=hfo.soft (65+j)
                          have hf2:=qC (hfo.put (65+j) (.bool true))
                          have hw2:=qC ((qa hwd').far hne (i:=65+j) (v:=.bool true))
                          have hr2:=qC (qa hrY j j4 hcj)
                          subst hj
                          clear hcj hrY hrN hpos hbk hrow' hwd'
                          go_wp2_with(go_at_call 111;refine(qa hpl _).mono ?_;rintro e w' ⟨rfl,rfl⟩)
                          go_roundg (gk-1)
                          case measure=>omega
                          case rel=>exact⟨k+1,by omega,rfl,by rw[qa hls],_,qa hf2,qa hr2,qa hn2,qa hw2⟩
                        · have hr2:=qC (qa hrN (by omega))
                          clear hrY hrN hpos hbk hrow'
                          go_wp2_with(go_at_call 111;refine(qa hpl _).mono ?_;rintro e w' ⟨rfl,rfl⟩)
                          go_roundg (gk-1)
                          case measure=>omega
                          case rel=>exact⟨k+1,by omega,rfl,by rw[qa hls],_,hfo,qa hr2,qa hn2,qa hwd'⟩
                    · have h45:x2.data.toList≠[45]:=fun h=>hgo (.inl h)
                      have hle:q<=la:=by
                        refine Classical.byContradiction fun h=>hgo (.inr ?_)
                        omega
                      have hno':=qC (qa hno h45 hle)
                      have hd:(x2.toList==[45])=false:=by rw[hdd];simp[h45]
                      clear hno hnx hdd hgo hrY hrN hpos hbk hrow' h45
                      go_wp2_with(first
                        | (go_at_call 111;refine(qa hpl _).mono ?_;rintro e w' ⟨rfl,rfl⟩)
                        | (refine wpList_load_row rfl 70 _ rfl bp rfl 70 PA (0,0) _ (Fo.p (w:=w) hfo) Tryz.underlying70 rfl (by rw[hsz];exact q9) ?_)
                        | (refine wpList_store_row rfl 70 _ _ rfl w.heap.size PA rfl rfl 70 Tryz.zeroCells70 (Fo.res (bp:=bp) (PA:=PA) hfo) (by rw[hsz];exact q9) (by rw[hsz];exact xF.symm) (qa hon) ?_))
                      exact bodyPost_ret (v:=.tuple #[.agg PA,.bool false]) (qj Tryz.results113 _ _ w.heap.size 70 _ (0,0) _ rfl (setRow_heap _ _ _ _ _ _ hfo.res) Tryz.underlying70 rfl (by rw[hsz];exact q9)) rfl ⟨.inr ⟨qa hno',PA,hsz,(qa hon),rfl⟩,hfo.gr.setRow _ (qL _) _⟩
                  · have ek:k=x2.size:=by omega
                    subst ek
                    have hrow2:Hid (jE z _ (yq x2.data.toList x2.data.toList.length) (-1) 0 0 PA):=qC (by have:=qa hrow';rwa[show x2.size=x2.data.toList.length from(by simp)]at this)
                    have hcas:Hid (x2.data.toList=[45]\/j8 x2.data.toList (-1)=true):=qC ((qa hri').imp id (fun h=>by rw[h,List.drop_eq_nil_of_le (by simp)];rfl))
                    have hgwn:Hid (gw≠w.heap.size):=qC (qa hgwn0)
                    have c4:=(qa hwd').at' 4 (by simp)
                    simp only[List.getElem_cons_succ,List.getElem_cons_zero]at c4
                    have h70:=hfo.cell (qa hrow').h
                    have s70:=hfo.soft 70
                    have hn4:=qC (fun W=>qzj x4 (by unfold maxLen;omega) W)
                    have hn5:=qC (fun W=>qzj x5 (by unfold maxLen;omega) W)
                    obtain⟨n4,hn4e⟩:∃n,Hid (kV x4.data.toList=n):=⟨_,qC rfl⟩
                    obtain⟨n5,hn5e⟩:∃n,Hid (kV x5.data.toList=n):=⟨_,qC rfl⟩
                    rw[qa hn4e]at hn4
                    rw[qa hn5e]at hn5
                    clear hri' hrow' hsz hon
                    go_upto_region 30 with(go_at_call 199;refine(qa hn4 _).mono ?_;rintro e w' ⟨rfl,rfl⟩)
                    have hf6':=hfo.put 70 (.int .i64 n4)
                    have hrow6:=qC ((qa hrow2).setH n4)
                    have hwd6':=qC ((qa hwd').far hne (i:=70) (v:=.int .i64 n4))
                    generalize PA.setIfInBounds 70 (.int .i64 n4)=PA6 at hf6' hrow6
                    generalize World.setCell _ ⟨bp,70,none⟩ (.int .i64 n4)=w66 at hf6' hwd6' ⊢
                    have c5:=(qa hwd6').at' 5 (by simp)
                    simp only[List.getElem_cons_succ,List.getElem_cons_zero]at c5
                    have h71:=hf6'.cell (qa hrow6).g
                    have s71:=hf6'.soft 71
                    clear hfo hwd' hrow2 c4 c2 h70 s70 hn4
                    go_upto_region 31 with(go_at_call 199;refine(qa hn5 _).mono ?_;rintro e w' ⟨rfl,rfl⟩)
                    have hf7:=hf6'.put 71 (.int .i64 n5)
                    have hrow7:=qC ((qa hrow6).setG n5)
                    have hwd7:=qC ((qa hwd6').far hne (i:=71) (v:=.int .i64 n5))
                    generalize PA6.setIfInBounds 71 (.int .i64 n5)=PA7 at hf7 hrow7
                    generalize World.setCell _ ⟨bp,71,none⟩ (.int .i64 n5)=w77 at hf7 hwd7 ⊢
                    have c3:=(qa hwd7).at' 3 (by simp)
                    simp only[List.getElem_cons_succ,List.getElem_cons_zero]at c3
                    clear hf6' hwd6' hrow6 c5 h71 s71 hn5
                    have h3d:Hid ((x3.toList==[45])=decide (x3.toList=[45])):=qC (by by_cases h:x3.toList=[45]<;>simp[h])
                    obtain⟨cb,h3t⟩:∃c,(x3.toList==[45])=c:=⟨_,rfl⟩
                    go_upto_if 118 with fail
                    go_cut [118]from 119 to 127 (fun _ wx=>∃PA b wv,Fo w bp PA wx/\kO x1=some wv/\jE z wv (yq x2.data.toList x2.data.toList.length) b n4 n5 PA/\Wd gw [x0,x1,x2,x3,x4,x5] wx/\v8 x3=some b)
                    case first =>
                     cases cb
                     · have h3:¬ x3.toList=[45]:=by have:=qa h3d;rw[h3t]at this;simpa using this.symm
                       have hsq:=qC (fun W=>zb x3 W)
                       have h69:=hf7.cell (qa hrow7).b
                       have s69:=hf7.soft 69
                       obtain⟨b3,hb3⟩:∃b,Hid (dJ x3=b):=⟨_,qC rfl⟩
                       rw[qa hb3]at hsq
                       have hbb:Hid (if 0<=b3 then v8 x3=some b3 else(v8 x3).isSome=false):=qC (Et h3 (qa hb3))
                       clear h3d h3 hb3
                       go_upto_region 33 with(go_at_call 104;refine(qa hsq _).mono ?_;rintro e w' ⟨rfl,rfl⟩)
                       have hf8:=hf7.put 69 (.int .i64 b3)
                       have hrow8:=qC ((qa hrow7).setB b3)
                       have hwd8:=qC ((qa hwd7).far hne (i:=69) (v:=.int .i64 b3))
                       generalize PA7.setIfInBounds 69 (.int .i64 b3)=PA at hf8 hrow8
                       generalize World.setCell _ ⟨bp,69,none⟩ (.int .i64 b3)=w8 at hf8 hwd8 ⊢
                       clear hf7 hwd7 hrow7 c3 h69 s69 hsq
                       have h69:=hf8.cell (qa hrow8).b
                       by_cases h0:0<=b3
                       · have hbe:Hid (v8 x3=some b3):=qC (by have:=qa hbb;rwa[qI h0]at this)
                         clear hbb
                         go_wp2_with fail
                         go_meet
                         case rel=>exact⟨_,_,_,hf8,qa hwt',qa hrow8,qa hwd8,qa hbe⟩
                       · have hno:Hid (xG s=none):=qC (by rw[qa hr];exact jr (.inr (.inr (.inr (.inl (by have:=qa hbb;rwa[qF h0]at this))))))
                         have hsz:=(qa hrow8).size
                         have hon:=qC (qx (qa hrow8))
                         go_wp2_with(first
                           | (refine wpList_load_row rfl 70 _ rfl bp rfl 70 PA (0,0) _ (Fo.p (w:=w) hf8) Tryz.underlying70 rfl (by rw[hsz];exact q9) ?_)
                           | (refine wpList_store_row rfl 70 _ _ rfl w.heap.size PA rfl rfl 70 Tryz.zeroCells70 (Fo.res (bp:=bp) (PA:=PA) hf8) (by rw[hsz];exact q9) (by rw[hsz];exact xF.symm) (qa hon) ?_))
                         exact bodyPost_ret (v:=.tuple #[.agg PA,.bool false]) (qj Tryz.results113 _ _ w.heap.size 70 _ (0,0) _ rfl (setRow_heap _ _ _ _ _ _ hf8.res) Tryz.underlying70 rfl (by rw[hsz];exact q9)) rfl ⟨.inr ⟨qa hno,PA,hsz,(qa hon),rfl⟩,hf8.gr.setRow _ (qL _) _⟩
                     · have h3:x3.toList=[45]:=by have:=qa h3d;rw[h3t]at this;simpa using this.symm
                       have hbe:Hid (v8 x3=some (-1)):=qC (by unfold v8;rw[qI h3])
                       clear h3d h3
                       go_wp2_with fail
                       go_meet
                       case rel=>exact⟨_,_,_,hf7,qa hwt',qa hrow7,qa hwd7,qa hbe⟩
                    case rest =>
                     clear hf7 hrow7 hwd7 c3 h3d hwt' h3t
                     obtain⟨PA,b,wv,hf8,hwt0,hrow0,hwd0,hbe0⟩:=hcut
                     have hwt':=qC hwt0
                     have hrow8:=qC hrow0
                     have hwd8:=qC hwd0
                     have hbe:=qC hbe0
                     clear hwt0 hrow0 hwd0 hbe0
                     go_upto_region 35 with fail
                     have hsz:=(qa hrow8).size
                     have hon:=qC (qx (qa hrow8))
                     have h70:=hf8.cell (qa hrow8).h
                     have h71:=hf8.cell (qa hrow8).g
                     have c2:=(qa hwd8).at' 2 (by simp)
                     simp only[List.getElem_cons_succ,List.getElem_cons_zero]at c2
                     have hbadE:Hid (x2.data.toList=[]->kT s (.returned (.tuple #[.agg PA,.bool false]))):=qC (fun h=>.inr ⟨by rw[qa hr];exact jr (.inr (.inr (.inl (by rw[h];exact tf)))),PA,hsz,qa hon,rfl⟩)
                     have hbadH:Hid (¬ 0<=n4->kT s (.returned (.tuple #[.agg PA,.bool false]))):=qC (fun h=>.inr ⟨by rw[qa hr];exact jr (.inr (.inr (.inr (.inr (.inl (iw (by rw[qa hn4e];exact h))))))),PA,hsz,qa hon,rfl⟩)
                     have hbadG:Hid (¬ 0<=n5->kT s (.returned (.tuple #[.agg PA,.bool false]))):=qC (fun h=>.inr ⟨by rw[qa hr];exact jr (.inr (.inr (.inr (.inr (.inr (iw (by rw[qa hn5e];exact h))))))),PA,hsz,qa hon,rfl⟩)
                     have hgood:Hid (x2.data.toList≠[]->0<=n4->0<=n5->kT s (.returned (.tuple #[.agg PA,.bool true]))):=qC (fun h0 h4 h5=>by
                       have hq:=qa hrow8
                       rw[<-qa hn4e,<-qa hn5e]at hq
                       obtain⟨p,hp,e⟩:=tG (qa hr) (qa hbd) (qa hwt') h0 (qa hcas) (qa hbe) (by rw[qa hn4e];exact h4) (by rw[qa hn5e];exact h5) hq
                       exact .inl ⟨p,hp,by rw[e]⟩)
                     have hee:Hid ((x2.toList==[])=decide (x2.data.toList=[])):=qC (by rw[Lib.toList_data];cases x2.data.toList<;>simp)
                     clear hrow8 hwd8 hbe
                     obtain⟨em,hem⟩:∃c,(x2.toList==[])=c:=⟨_,rfl⟩
                     obtain⟨y4,h4⟩:∃c,decide (0<=n4)=c:=⟨_,rfl⟩
                     obtain⟨y5,h5⟩:∃c,decide (0<=n5)=c:=⟨_,rfl⟩
                     have hend:Hid (kT s (.returned (.tuple #[.agg PA,.bool (!em&&y4&&y5)]))):=qC (by
                       have hd:=(qa hee).symm.trans hem
                       cases em
                       · cases y4
                         · exact qa hbadH (of_decide_eq_false h4)
                         · cases y5
                           · exact qa hbadG (of_decide_eq_false h5)
                           · exact qa hgood (of_decide_eq_false hd) (q8 h4) (q8 h5)
                       · exact qa hbadE (q8 hd))
                     clear hbadE hbadH hbadG hgood hee
                     have hst:HI bp gw PA x2 n4 n5 wc.drew:=⟨⟨(show bp<wc.heap.size from hf8.lp),(qy hf8.p).2⟩,c2,h70,h71⟩
                     refine wp_region_held_drew (S:=HI bp gw PA x2 n4 n5) (by kernel_rfl) hst (fun qD=>?_)
                     refine C.ty 0 (.agg PA) rfl (zy hsz (by rfl) _ rfl bp rfl (fun _ h=>h.1)) qD ?_
                     refine C.ty 1 (.slice (some ⟨gw,0,none⟩) 6 cap) rfl (Or.inl ⟨by rfl,fun W hS=>?_⟩) qD ?_
                     · obtain⟨q1,q2,q3,q4⟩:=hS
                       clear qD
                       go_simp
                     refine C.ty 2 (.pointer (some ⟨gw,2,none⟩)) rfl (Or.inl ⟨by rfl,fun W hS=>?_⟩) qD ?_
                     · obtain⟨q1,q2,q3,q4⟩:=hS
                       clear qD
                       go_simp
                     refine C.ty 3 (.string x2) rfl (Or.inl ⟨by rfl,fun W hS=>?_⟩) qD ?_
                     · obtain⟨q1,q2,q3,q4⟩:=hS
                       clear qD
                       go_simp
                     refine C.ty 4 (.bool (!em)) rfl (Or.inl ⟨by rfl,fun W hS=>?_⟩) qD ?_
                     · obtain⟨q1,q2,q3,q4⟩:=hS
                       clear qD
                       go_simp
                     refine C.ty 5 (.bool (!em)) rfl (Or.inl ⟨by rfl,fun W hS=>?_⟩) qD ?_
                     · obtain⟨q1,q2,q3,q4⟩:=hS
                       clear qD
                       go_simp
                     cases em
                     case' true =>
                       refine C.ty 6 (undef) rfl (Or.inr ⟨by kernel_rfl,rfl⟩) qD ?_
                       refine C.ty 7 (undef) rfl (Or.inr ⟨by kernel_rfl,rfl⟩) qD ?_
                       refine C.ty 8 (undef) rfl (Or.inr ⟨by kernel_rfl,rfl⟩) qD ?_
                       refine C.ty 9 (.bool false) rfl (Or.inl ⟨by rfl,fun W hS=>?_⟩) qD ?_
                       · obtain⟨q1,q2,q3,q4⟩:=hS
                         clear qD
                         go_simp
                       refine C.ty 10 (.bool false) rfl (Or.inl ⟨by rfl,fun W hS=>?_⟩) qD ?_
                       · obtain⟨q1,q2,q3,q4⟩:=hS
                         clear qD
                         go_simp
                       refine C.ty 11 (undef) rfl (Or.inr ⟨by kernel_rfl,rfl⟩) qD ?_
                       refine C.ty 12 (undef) rfl (Or.inr ⟨by kernel_rfl,rfl⟩) qD ?_
                       refine C.ty 13 (undef) rfl (Or.inr ⟨by kernel_rfl,rfl⟩) qD ?_
                       refine C.ty 14 (.bool false) rfl (Or.inl ⟨by rfl,fun W hS=>?_⟩) qD ?_
                       · obtain⟨q1,q2,q3,q4⟩:=hS
                         clear qD
                         go_simp
                     case' false =>
                       refine C.ty 6 (.pointer (some ⟨bp,70,none⟩)) rfl (Or.inl ⟨by rfl,fun W hS=>?_⟩) qD ?_
                       · obtain⟨q1,q2,q3,q4⟩:=hS
                         clear qD
                         go_simp
                       refine C.ty 7 (.int .i64 n4) rfl (Or.inl ⟨by rfl,fun W hS=>?_⟩) qD ?_
                       · obtain⟨q1,q2,q3,q4⟩:=hS
                         clear qD
                         go_simp
                       refine C.ty 8 (.bool y4) rfl (Or.inl ⟨by rfl,fun W hS=>?_⟩) qD ?_
                       · obtain⟨q1,q2,q3,q4⟩:=hS
                         clear qD
                         go_simp
                       refine C.ty 9 (.bool y4) rfl (Or.inl ⟨by rfl,fun W hS=>?_⟩) qD ?_
                       · obtain⟨q1,q2,q3,q4⟩:=hS
                         clear qD
                         go_simp
                       refine C.ty 10 (.bool y4) rfl (Or.inl ⟨by rfl,fun W hS=>?_⟩) qD ?_
                       · obtain⟨q1,q2,q3,q4⟩:=hS
                         clear qD
                         go_simp
                       cases y4
                       case' false =>
                         refine C.ty 11 (undef) rfl (Or.inr ⟨by kernel_rfl,rfl⟩) qD ?_
                         refine C.ty 12 (undef) rfl (Or.inr ⟨by kernel_rfl,rfl⟩) qD ?_
                         refine C.ty 13 (undef) rfl (Or.inr ⟨by kernel_rfl,rfl⟩) qD ?_
                         refine C.ty 14 (.bool false) rfl (Or.inl ⟨by rfl,fun W hS=>?_⟩) qD ?_
                         · obtain⟨q1,q2,q3,q4⟩:=hS
                           clear qD
                           go_simp
                       case' true =>
                         refine C.ty 11 (.pointer (some ⟨bp,71,none⟩)) rfl (Or.inl ⟨by rfl,fun W hS=>?_⟩) qD ?_
                         · obtain⟨q1,q2,q3,q4⟩:=hS
                           clear qD
                           go_simp
                         refine C.ty 12 (.int .i64 n5) rfl (Or.inl ⟨by rfl,fun W hS=>?_⟩) qD ?_
                         · obtain⟨q1,q2,q3,q4⟩:=hS
                           clear qD
                           go_simp
                         refine C.ty 13 (.bool y5) rfl (Or.inl ⟨by rfl,fun W hS=>?_⟩) qD ?_
                         · obtain⟨q1,q2,q3,q4⟩:=hS
                           clear qD
                           go_simp
                         refine C.ty 14 (.bool y5) rfl (Or.inl ⟨by rfl,fun W hS=>?_⟩) qD ?_
                         · obtain⟨q1,q2,q3,q4⟩:=hS
                           clear qD
                           go_simp
                     all_goals
                       refine C.rd 15 fun K hK=>?_
                       rw[qI (by rfl)]
                       refine wp_store_row 70 _ _ rfl w.heap.size PA rfl rfl 70 Tryz.zeroCells70 (Fo.res (bp:=bp) (PA:=PA) (cur:=wc) hf8) (by rw[hsz];exact q9) (by rw[hsz];exact xF.symm) (qa hon) ?_
                       refine hK.out _ _ (qD.far hf8.ne (qa hgwn)) (fun qD=>?_)
                       clear hK K
                       simp only[C.py]
                       refine C.rd 16 fun K hK=>?_
                       go_simp
                       refine hK.out _ _ qD (fun qD=>?_)
                       clear hK K
                       refine wpAnyH_done (by kernel_rfl) ?_ _
                       clear qD hst
                       go_wp2_with fail
                       exact bodyPost_ret (v:=.tuple #[.agg PA,.bool _]) (qj Tryz.results113 _ _ w.heap.size 70 _ (0,0) _ rfl (setRow_heap _ _ _ _ _ _ (Fo.res (bp:=bp) (PA:=PA) (cur:=wc) hf8)) Tryz.underlying70 rfl (by rw[hsz];exact q9)) rfl ⟨qa hend,hf8.gr.drew.setRow _ (qL _) _⟩
          · have hno:Hid (xG s=none):=qC (by rw[qa hr];exact jr (.inl (nN (hp2 h8))))
            have h8i:((ys.length:Int) != 8)=true:=qU.2 (by omega)
            go_wp2_with(first
              | (refine wpList_load_row rfl 70 _ rfl bp rfl 70 PA5 (0,0) _ (Fo.p (w:=w) (by assumption)) Tryz.underlying70 rfl (by rw[hz5];exact q9) ?_)
              | (refine wpList_store_row rfl 70 _ _ rfl w.heap.size PA5 rfl rfl 70 Tryz.zeroCells70 (Fo.res (bp:=bp) (PA:=PA5) (by assumption)) (by rw[hz5];exact q9) (by rw[hz5];exact xF.symm) (qa ho5) ?_))
            exact bodyPost_ret (v:=.tuple #[.agg PA5,.bool false]) (qj Tryz.results113 _ _ w.heap.size 70 _ (0,0) _ rfl (setRow_heap _ _ _ _ _ _ hf6.res) Tryz.underlying70 rfl (by rw[hz5];exact q9)) rfl ⟨.inr ⟨qa hno,PA5,hz5,(qa ho5),rfl⟩,hf6.gr.setRow _ (qL _) _⟩
      · have hno:Hid (xG s=none):=qC (by rw[qa hr];exact jr (.inr (.inl (by simpa using hsd))))
        have hs2:=(Fu x1).1
        rw[show(kO x1).isSome=false by simpa using hsd]at hs2
        obtain⟨n1,n2⟩:(x1.toList==[119])=false/\(x1.toList==[98])=false:=by simpa using hs2
        clear hsd hs2
        go_wp2_with(first
          | (refine wpList_load_row rfl 70 _ rfl bp rfl 70 gq (0,0) _ (Fo.p (w:=w) (by assumption)) Tryz.underlying70 rfl (by rw[hz0];exact q9) ?_)
          | (refine wpList_store_row rfl 70 _ _ rfl w.heap.size gq rfl rfl 70 Tryz.zeroCells70 (Fo.res (bp:=bp) (PA:=gq) (by assumption)) (by rw[hz0];exact q9) (by rw[hz0];exact xF.symm) (qa ho0) ?_))
        exact bodyPost_ret (v:=.tuple #[.agg gq,.bool false]) (qj Tryz.results113 _ _ w.heap.size 70 _ (0,0) _ rfl (setRow_heap _ _ _ _ _ _ hf4.res) Tryz.underlying70 rfl (by rw[hz0];exact q9)) rfl ⟨.inr ⟨qa hno,gq,hz0,(qa ho0),rfl⟩,hf4.gr.setRow _ (qL _) _⟩
  · have hno:Hid (xG s=none):=qC (rV (hp2 h6))
    have h6i:((xs.length:Int) != 6)=true:=qU.2 (by omega)
    go_wp2_with(first
      | (refine wpList_load_row rfl 70 _ rfl bp rfl 70 gq (0,0) _ (Fo.p (w:=w) (by assumption)) Tryz.underlying70 rfl (by rw[hz0];exact q9) ?_)
      | (refine wpList_store_row rfl 70 _ _ rfl w.heap.size gq rfl rfl 70 Tryz.zeroCells70 (Fo.res (bp:=bp) (PA:=gq) (by assumption)) (by rw[hz0];exact q9) (by rw[hz0];exact xF.symm) (qa ho0) ?_))
    exact bodyPost_ret (v:=.tuple #[.agg gq,.bool false]) (qj Tryz.results113 _ _ w.heap.size 70 _ (0,0) _ rfl (setRow_heap _ _ _ _ _ _ hf4.res) Tryz.underlying70 rfl (by rw[hz0];exact q9)) rfl ⟨.inr ⟨qa hno,gq,hz0,(qa ho0),rfl⟩,hf4.gr.setRow _ (qL _) _⟩
end
theorem kT.plain{s:ByteArray}{e:Ending}(h:kT s e):∃A ok,e=.returned (.tuple #[.agg A,.bool ok])/\A.size=72/\A.all (·.oneCell')=true/\(ok=true->∃p,xG s=some p/\A=jV p)/\(ok=false->xG s=none):=by
 rcases h with⟨p,h1,rfl⟩|⟨h1,A,h2,h3,rfl⟩
 ·obtain⟨B,b1,b2,_⟩:=FM s p h1;have:=gC b1 b2;exact⟨jV p,true,rfl,this.1,this.2,fun _=>⟨p,h1,rfl⟩,fun h=>by cases h⟩
 ·exact⟨A,false,rfl,h2,h3,(fun h=>by cases h),fun _=>h1⟩
structure Pr(w:World)(bp:Nat)(A:Array Value)(cur:World):Prop where
 res:cur.heap[w.heap.size]?=some (.cells Tryz.zeroCells70 70)
 p:cur.heap[bp]?=some (.cells A 70)
 lt:bp<cur.heap.size
 lr:w.heap.size<cur.heap.size
 gr:Gr w cur
theorem Pr.next{w cur cur':World}{bp:Nat}{A:Array Value}(h:Pr w bp A cur)(g:Gr cur cur'):Pr w bp A cur' :=
 ⟨by rw[Below.block g _ h.lr];exact h.res,by rw[Below.block g _ h.lt];exact h.p,qN h.lt (Below.size g),qN h.lr (Below.size g),Gr.trans h.gr g⟩
theorem qvq(s:ByteArray)(hs:s.size<4294967281)(w:World):Calls Tryz.prog 53 #[.string s] w fun e w'=>zA s e/\Gr w w':=by
 have hg1:Gr w (w.alloc (.cells Tryz.zeroCells70 70)):=(Gr.refl w).alloc _ _
 have hr:Hid (Calls Tryz.prog 113 #[.string s] (w.alloc (.cells Tryz.zeroCells70 70)) fun e w'=>∃A ok,e=.returned (.tuple #[.agg A,.bool ok])/\A.size=72/\A.all (·.oneCell')=true/\(ok=true->∃p,xG s=some p/\A=jV p)/\(ok=false->xG s=none)/\Gr (w.alloc (.cells Tryz.zeroCells70 70)) w'):=qC ((tH s hs _).mono fun e w' h=>by
  obtain⟨A,ok,h1,h2,h3,h4,h5⟩:=h.1.plain;exact⟨A,ok,h1,h2,h3,h4,h5,h.2⟩)
 have hb1:Hid ((w.alloc (.cells Tryz.zeroCells70 70)).heap[w.heap.size]?=some (.cells Tryz.zeroCells70 70)):=qC (heap_alloc_new _ _);have hl1:Hid (w.heap.size<(w.alloc (.cells Tryz.zeroCells70 70)).heap.size):=qC (by rw[World.size_alloc];omega);have hg1':=qC hg1;clear hg1 hs;go_enter Tryz.func53,Tryz.ntmps53
 go_upto_region 2 with(first
  | (go_at_call 113;refine(qa hr).mono ?_;rintro e w3 ⟨A,ok,rfl,hz,ho,hy,hn,hg3⟩)
  | (refine wpList_store_row rfl 70 _ _ rfl w3.heap.size A rfl rfl 70 _ (heap_alloc_new _ _) (by rw[hz];exact q9) (by rw[hz];exact xF.symm) ho ?_))
 generalize hw4:(w3.alloc (.cells Tryz.zeroCells70 70)).setRow w3.heap.size A=w4;have hg4:Gr w3 w4:=by rw[<-hw4];exact((Gr.refl w3).alloc _ _).setRow _ (qL _) _
 have hg14:=Gr.trans hg3 hg4;have hp:Pr w w3.heap.size A w4:=⟨by rw[Below.block hg14 _ (qa hl1)];exact qa hb1,by rw[<-hw4];exact setRow_heap _ _ _ _ _ _ (heap_alloc_new w3 _),by rw[<-hw4,size_setRow,World.size_alloc];omega,qN (qa hl1) (Below.size hg14),Gr.trans (qa hg1') hg14⟩;generalize w3.heap.size=bp at hp ⊢;clear hw4 hg4 hg14 hg3 hr hb1 hl1 hg1';cases ok
 ·have hend:Hid (zA s (.returned (.tuple #[.agg Tryz.zeroCells70,.int .i64 1]))):=qC (.inr (.inr ⟨hn rfl,rfl⟩));clear hn hy;go_wp2_with(refine wpList_store_row rfl 70 _ _ rfl w.heap.size Tryz.zeroCells70 rfl rfl 70 Tryz.zeroCells70 (Pr.res (bp:=bp) (A:=A) (by assumption)) (by rw[xF];exact q9) rfl xH ?_);exact bodyPost_ret (v:=.tuple #[.agg Tryz.zeroCells70,.int .i64 1]) (qj Tryz.results53 _ _ w.heap.size 70 _ (0,0) _ rfl (setRow_heap _ _ _ _ _ _ hp.res) Tryz.underlying70 rfl (by rw[xF];exact q9)) rfl ⟨qa hend,hp.gr.setRow _ (qL _) _⟩
 ·obtain⟨p,hp1,hp2⟩:=hy rfl;have hcan:Hid (∀W:World,Calls Tryz.prog 114 #[.agg A] W fun e w'=>e=.returned (.bool (xP p))/\Gr W w'):=qC fun W=>by rw[hp2];exact CW (jo hp1) W
  clear hy hn;obtain⟨q,hq⟩:∃q,xP p=q:=⟨_,rfl⟩;cases q
  ·have hend:Hid (zA s (.returned (.tuple #[.agg Tryz.zeroCells70,.int .i64 2]))):=qC (.inr (.inl ⟨p,hp1,hq,rfl⟩));rw[hq]at hcan;clear hp1 hp2 hq;go_wp2_with(first|(refine wpList_store_row rfl 70 _ _ rfl w.heap.size Tryz.zeroCells70 rfl rfl 70 Tryz.zeroCells70 (Pr.res (bp:=bp) (A:=A) (by assumption)) (by rw[xF];exact q9) rfl xH ?_)|(refine wpList_load_row rfl 70 _ rfl bp rfl 70 A (0,0) _ (Pr.p (w:=w) (by assumption)) Tryz.underlying70 rfl (by rw[hz];exact q9) ?_)|(go_at_call 114;refine(qa hcan _).mono ?_;rintro e w5 ⟨rfl,hg5⟩;have hp5:=Pr.next (by assumption) hg5));exact bodyPost_ret (v:=.tuple #[.agg Tryz.zeroCells70,.int .i64 2]) (qj Tryz.results53 _ _ w.heap.size 70 _ (0,0) _ rfl (setRow_heap _ _ _ _ _ _ hp5.res) Tryz.underlying70 rfl (by rw[xF];exact q9)) rfl ⟨qa hend,hp5.gr.setRow _ (qL _) _⟩
  ·have hend:Hid (zA s (.returned (.tuple #[.agg A,.int .i64 0]))):=qC (.inl ⟨p,hp1,hq,by rw[hp2]⟩);rw[hq]at hcan;clear hp1 hp2 hq;go_wp2_with(first|(refine wpList_store_row rfl 70 _ _ rfl w.heap.size A rfl rfl 70 Tryz.zeroCells70 (Pr.res (bp:=bp) (A:=A) (by assumption)) (by rw[hz];exact q9) (by rw[hz];exact xF.symm) ho ?_)|(refine wpList_load_row rfl 70 _ rfl bp rfl 70 A (0,0) _ (Pr.p (w:=w) (by assumption)) Tryz.underlying70 rfl (by rw[hz];exact q9) ?_)|(go_at_call 114;refine(qa hcan _).mono ?_;rintro e w5 ⟨rfl,hg5⟩;have hp5:=Pr.next (by assumption) hg5));exact bodyPost_ret (v:=.tuple #[.agg A,.int .i64 0]) (qj Tryz.results53 _ _ w.heap.size 70 _ (0,0) _ rfl (setRow_heap _ _ _ _ _ _ hp5.res) Tryz.underlying70 rfl (by rw[hz];exact q9)) rfl ⟨qa hend,hp5.gr.setRow _ (qL _) _⟩
section
attribute [local go_sem] qd qe
theorem BQ(e:Int)(w:World):Calls Tryz.prog 30 #[.int .i64 e] w fun r w'=>r=.returned (.int .i64 e)/\w'=w:=by
 go_enter Tryz.func30,Tryz.ntmps30;go_wp2;go_ret;exact⟨rfl,rfl⟩
structure Tb(w:World)(b:Nat)(A:Array Value)(cur:World):Prop where
 gr:Gr w cur
 p:cur.heap[b]?=some (.cells A 70)
 lt:b<cur.heap.size
theorem Tb.next{w cur cur':World}{b:Nat}{A:Array Value}(h:Tb w b A cur)(g:Gr cur cur'):Tb w b A cur' :=
 ⟨Gr.trans h.gr g,by rw[Below.block g _ h.lt];exact h.p,qN h.lt (Below.size g)⟩
def yT:ByteArray:=⟨#[52,107,51,47,56,47,56,47,56,47,56,47,56,47,56,47,52,75,51,32,119,32,45,32,45,32,48,32,49]⟩
theorem mn:(xG yT).map xP=some true:=by decide +kernel
theorem fJ:∃p,xG yT=some p/\xP p=true:=Option.map_eq_some_iff.1 mn
end
section
attribute [local go_sem] qd qe Oper.semAt_some
end
section
attribute [local go_sem] qd qe Oper.semAt_some
end
end Go.Proofs.YtnfakamfmkhlbabGreatDoor.C
