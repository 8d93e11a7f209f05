import Derived.Test.YtnfakamfmkhlbaaGreatDoorZs21
import Derived.Test.YtnfakamfmkhlbaaGreatDoorKz2
set_option maxRecDepth 100000
set_option maxHeartbeats 4000000
set_option linter.unusedSimpArgs false
namespace Go.Proofs.YtnfakamfmkhlbaaGreatDoor.C
open Go.ChangeShapes Go.WideShapes Go.ChangeAt Go.RowKit
open Go.Proofs.YtnfakamfmkhlbaaGreatDoor.P
attribute [local go_sem] qd qi
theorem form_any (s:ByteArray) (hs:s.size<4294967281) (w:World):Calls Tryz.prog 79 #[.string s] w fun e w'=>FormEnd s e/\Gr w w':=by
  have hpc:=hide (fun W=>qzt s hs 32 W)
  have hz0:=row_0.size
  have ho0:=hide (qy row_0)
  go_enter Tryz.func79,Tryz.ntmps79
  go_upto_region 2 with (first
    | (refine qxu rfl 25 #[(3,.const (.int .i64 (-1)))] rfl PA0 ?_ ?_;focus (exact built_0))
    | (refine wpList_store_row rfl 25 _ _ rfl (w.heap.size+1) PA0 rfl rfl 25 _ (heap_alloc2_new _ _ _) (by rw [hz0];exact infoP) (by rw [hz0];exact zeroP.symm) (qa ho0) ?_))
  generalize hw3:((w.alloc (.cells Tryz.zeroCells25 25)).alloc (.cells Tryz.zeroCells25 25)).setRow (w.heap.size+1) PA0=w3
  have hf3:Fo w (w.heap.size+1) PA0 w3:=by
    rw [<-hw3]
    exact ⟨by rw [Below.block (show Gr (w.alloc (.cells Tryz.zeroCells25 25)) _ from ((Gr.refl _).alloc _ _).setRow _ (by rw [World.size_alloc];omega) _) _ (by rw [World.size_alloc];omega)];exact heap_alloc_new _ _,setRow_heap _ _ _ _ _ _ (heap_alloc2_new _ _ _),by omega,by rw [size_setRow,World.size_alloc,World.size_alloc];omega,(((Gr.refl w).alloc _ _).alloc _ _).setRow _ (by omega) _⟩
  clear hw3
  generalize w.heap.size+1=bp at hf3 ⊢
  go_upto_region 3 with (go_at_call 146;refine (qa hpc _).mono ?_;rintro e w4 ⟨v,xs,rfl,hst,hx1,hx2,hx3,hg4⟩)
  obtain ⟨gw,cap,rfl,hgb,hcap,hwd⟩:=wd_of hst hx2
  have hf4:=hf3.next hg4
  have hne:gw≠bp:=by have:=hf3.lp;omega
  have hgwn0:Hid (gw≠w.heap.size):=hide (by have:=hf3.lp;have:=hf3.ne;omega)
  obtain ⟨hp1,hp2⟩:=qzs 32 7 (by omega) s xs hx1 hx2 hx3 6 (by omega)
  clear hf3 hg4 hst hgb hpc
  by_cases h6:xs.length=6
  · have hw6:=hp1 h6
    match xs,h6 with
    | [x0,x1,x2,x3,x4,x5],_ =>
      have hr:=hide (read_is6 hw6)
      have hszs:∀ x∈wordsS 32 7 s,x.size<=s.size:=fun x hx=>jq _ _ _ _ hx
      rw [hw6] at hszs
      have z0:=hszs x0 (by simp)
      have z2:=hszs x2 (by simp)
      have z3:=hszs x3 (by simp)
      have z4:=hszs x4 (by simp)
      have z5:=hszs x5 (by simp)
      have c1:=hwd.at' 1 (by simp)
      simp only [List.getElem_cons_succ,List.getElem_cons_zero] at c1
      have hwd':=hide hwd
      clear hszs hw6 hp1 hp2 hx1 hx2 hx3 hwd
      simp only [List.length_cons,List.length_nil] at hcap ⊢
      by_cases hsd:(sideS x1).isSome=true
      · have hs2:=(qqy x1).1
        rw [hsd] at hs2
        obtain ⟨wt,hwt⟩:=Option.isSome_iff_exists.1 hsd
        have hs3:=(qqy x1).2 wt hwt
        have hwt':=hide hwt
        have hwc:=hf4.cell (PA:=PA0) row_0.wh
        have hsf:=hf4.soft 64
        have hr5:=hide (row_0.setWh wt)
        have hf5:=hf4.put 64 (.bool wt)
        have hwd5:=(qa hwd').far hne (i:=64) (v:=.bool wt)
        have c0:=hwd5.at' 0 (by simp)
        simp only [List.getElem_cons_zero] at c0
        have hz5:=(row_0.setWh wt).size
        have ho5:=hide (qy (row_0.setWh wt))
        have hpc:=hide (fun W=>qzt x0 (by omega) 47 W)
        generalize PA0.setIfInBounds 64 (.bool wt)=PA5 at hr5 hf5 hz5 ho5
        have hb:((x1.toList==[119])=true/\wt=true)\/((x1.toList==[119])=false/\(x1.toList==[98])=true/\wt=false):=by
          cases wt
          · right;rw [hs3] at hs2;exact ⟨hs3,by simpa using hs2,rfl⟩
          · left;exact ⟨hs3,rfl⟩
        have hwd5':=hide hwd5
        clear hs2 hsd hwt hs3 hwd5 hwd'
        rcases hb with ⟨h1,rfl⟩|⟨h1,h2,rfl⟩
        all_goals
          go_upto_region 7 with (first
            | (go_at_call 146;refine (qa hpc _).mono ?_;rintro e w6 ⟨v,ys,rfl,hst,hy1,hy2,hy3,hg6⟩))
          obtain ⟨gr,rcap,rfl,hgb,hrc,hrd⟩:=wd_of hst hy2
          have hf6:=hf5.next hg6
          have hwd6:=hide ((qa hwd5').next hg6)
          have hnr:gr≠bp:=by have:=hf5.lp;omega
          obtain ⟨hp1,hp2⟩:=qzs 47 9 (by omega) x0 ys hy1 hy2 hy3 8 (by omega)
          clear hf5 hg6 hst hgb hpc hwd5' hf4 c0 c1 hwc hsf h1
          by_cases h8:ys.length=8
          · have h8i:((ys.length:Int) != 8)=false:=by rw [h8];rfl
            have hrd':=hide hrd
            have hyz:∀ y∈ys,y.size<=x0.size:=fun y hy=>jq _ _ _ _ (by have:=hp1 h8;unfold wordsS at this;rw [this];exact hy)
            clear hrd
            go_wp2_with (fail)
            go_loopg [7] 8 (fun g i wr=>∃ k:Nat,k+g=8/\i=.int .i64 k/\∃ PA z rs,Brd w bp PA wr z _ ys k rs/\Wd gr ys wr/\Wd gw [x0,x1,x2,x3,x4,x5] wr)
            case atStart=>exact ⟨0,by omega,rfl,PA5,_,[],⟨hf6,qa hr5,rfl,fun i f hi=>absurd hi (Nat.not_lt_zero _)⟩,qa hrd',qa hwd6⟩
            case round =>
              clear hrd' hwd6 hf6 hr5
              obtain ⟨k,k1,rfl,PA,z,rs,hB,hrd,hwd⟩:=hrel
              have hsz:=hB.row.size
              have hon:=hide (qy hB.row)
              have hB':=hide hB
              have hwd':=hide hwd
              by_cases hlt:k<8
              · have hk:k<ys.length:=by omega
                have hcell:=hrd.at' k hk
                have hrd':=hide hrd
                clear hrd hwd hB
                go_wp2_with fail
                refine (rankR_any ys[k] (by have:=hyz ys[k] (List.getElem_mem hk);unfold maxLen;omega) _).mono ?_
                rintro e w7 ⟨hrk,hg7⟩
                have hfo:=(qa hB').fo.next hg7
                rcases hrk with ⟨acc,ha,rfl⟩|⟨hn,a0,a1,a2,a3,a4,a5,a6,a7,rfl⟩
                · obtain ⟨zs,rfl,hz8,-,-⟩:=rank_back _ _ ha
                  match zs,hz8 with
                  | [b0,b1,b2,b3,b4,b5,b6,b7],_ =>
                    have ha':=hide ha
                    have hwd7:=hide ((qa hwd').next hg7)
                    have hrd7:=hide ((qa hrd').next hg7)
                    clear ha hcell
                    simp only [nI,List.map_cons,List.map_nil]
                    go_wp2_with fail
                    have hrb:(w7.alloc (.cells #[.int .u8 (b0.toNat:Int),.int .u8 (b1.toNat:Int),.int .u8 (b2.toNat:Int),.int .u8 (b3.toNat:Int),.int .u8 (b4.toNat:Int),.int .u8 (b5.toNat:Int),.int .u8 (b6.toNat:Int),.int .u8 (b7.toNat:Int)] 208)).heap[w7.heap.size]?=_:=heap_alloc_new _ _
                    have hg8:Gr w7 (w7.alloc (.cells #[.int .u8 (b0.toNat:Int),.int .u8 (b1.toNat:Int),.int .u8 (b2.toNat:Int),.int .u8 (b3.toNat:Int),.int .u8 (b4.toNat:Int),.int .u8 (b5.toNat:Int),.int .u8 (b6.toNat:Int),.int .u8 (b7.toNat:Int)] 208)):=(Gr.refl w7).alloc _ _
                    have hf8:=hfo.next hg8
                    have hwd8:=hide ((qa hwd7).next hg8)
                    have hrd8:=hide ((qa hrd7).next hg8)
                    have hnb:w7.heap.size≠bp:=by have:=hfo.lp;omega
                    generalize w7.alloc _=w8 at hrb hg8 hf8 hwd8 hrd8 ⊢
                    generalize w7.heap.size=rb at hrb hnb ⊢
                    have hrb':=hide hrb
                    clear hwd7 hrd7 hfo hg7 hg8 hrb
                    go_loopg [10] 8 (fun g f wr=>∃ j:Nat,j+g=8/\f=.int .i64 j/\∃ PA' z',Inn w bp PA' wr z z' _ [b0,b1,b2,b3,b4,b5,b6,b7] k j rb 208/\Wd gr ys wr/\Wd gw [x0,x1,x2,x3,x4,x5] wr)
                    case atStart=>exact ⟨0,by omega,rfl,PA,z,⟨hf8,(qa hB').row,qa hrb',fun f hf=>absurd hf (Nat.not_lt_zero _),fun _ _=>rfl⟩,qa hrd8,qa hwd8⟩
                    case round =>
                      clear hrb' hwd8 hrd8 hf8
                      obtain ⟨j,j1,rfl,PA',z',hI,hrd,hwd⟩:=hrel
                      by_cases hj:j<8
                      · have hcj:=hI.rcell hj
                        have hp2:=hI.fo.cell (hI.row.sq (8*(7-k)+j) (by omega))
                        have hsf:=hI.fo.soft (8*(7-k)+j)
                        have hI':=hide (hI.step hj hj hlt hnb)
                        have hrd2:=hide (hrd.far hnr (i:=8*(7-k)+j) (v:=.int .u8 (([b0,b1,b2,b3,b4,b5,b6,b7][j]).toNat:Int)))
                        have hwd2:=hide (hwd.far hne (i:=8*(7-k)+j) (v:=.int .u8 (([b0,b1,b2,b3,b4,b5,b6,b7][j]).toNat:Int)))
                        generalize ([b0,b1,b2,b3,b4,b5,b6,b7][j])=bj at hcj hI' hrd2 hwd2
                        clear hI hrd hwd
                        go_wp2_with fail
                        go_roundg (gk-1)
                        case measure=>omega
                        case rel=>exact ⟨j+1,by omega,rfl,_,_,qa hI',qa hrd2,qa hwd2⟩
                      · have hj8:j=8:=by omega
                        subst hj8
                        have hI':=hide (hI.done (qa hB') hk hlt (qa ha'))
                        have hrd2:=hide hrd
                        have hwd2:=hide hwd
                        clear hI hrd hwd
                        go_wp2_with fail
                        go_roundg (8-k-1)
                        case measure=>omega
                        case rel =>
                          obtain ⟨rs',hrs'⟩:=qa hI'
                          exact ⟨k+1,by omega,rfl,_,_,rs',hrs',qa hrd2,qa hwd2⟩
                · have hno:Hid (readS s=none):=hide (by rw [qa hr];exact ji (.inl (board_bad (hp1 h8) hk hn)))
                  have hfo':∀ c t,Fo w bp PA (w7.alloc (.cells c t)):=fun c t=>hfo.next ((Gr.refl _).alloc _ _)
                  go_wp2_with (first
                    | (refine wpList_load_row rfl 25 _ rfl bp rfl 25 PA (0,0) _ (Fo.p (w:=w) (hfo' _ _)) Tryz.underlying25 rfl (by rw [hsz];exact infoP) ?_)
                    | (refine wpList_store_row rfl 25 _ _ rfl w.heap.size PA rfl rfl 25 Tryz.zeroCells25 (Fo.res (bp:=bp) (PA:=PA) (hfo' _ _)) (by rw [hsz];exact infoP) (by rw [hsz];exact zeroP.symm) (qa hon) ?_))
                  exact bodyPost_ret (v:=.tuple #[.agg PA,.bool false]) (qj Tryz.results79 _ _ w.heap.size 25 _ (0,0) _ rfl (setRow_heap _ _ _ _ _ _ (hfo' _ _).res) Tryz.underlying25 rfl (by rw [hsz];exact infoP)) rfl ⟨.inr ⟨qa hno,PA,hsz,(qa hon),rfl⟩,(hfo' _ _).gr.setRow _ (Nat.le_refl _) _⟩
              · have hk8:k=8:=by omega
                subst hk8
                have hbd:=hide (hB.board (hp1 h8) h8)
                have hfo:=hide hB.fo
                have hro:=hide hB.row
                clear hrd hB' hwd'
                clear hB
                have hwd':=hide hwd
                clear hwd hp1 hp2 hy1 hy2 hy3
                go_wp2_with fail
                simp only [h8,Int.cast_ofNat_Int]
                clear h8 h8i hyz
                go_loopg [11,12] x2.size (fun g la i wr=>∃ k:Nat,k+g=x2.size/\i=.int .i64 k/\la=.int .i64 (lastQ x2.data.toList k)/\∃ PA,Fo w bp PA wr/\Row z _ (casF x2.data.toList k) (-1) 0 0 PA/\(x2.data.toList=[45]\/rises x2.data.toList (-1)=rises (x2.data.toList.drop k) (lastQ x2.data.toList k))/\Wd gw [x0,x1,x2,x3,x4,x5] wr)
                case atStart=>exact ⟨0,by omega,rfl,rfl,PA,qa hfo,(qa hro).congr (fun _ _=>rfl) (fun i _=>by simp [casF]),.inr rfl,qa hwd'⟩
                case round =>
                  clear hfo hro hwd' hon hsz
                  obtain ⟨k,k1,rfl,rfl,PA,hfo,hrow,hri,hwd⟩:=hrel
                  have hsz:=hrow.size
                  have hon:=hide (qy hrow)
                  have c2:=hwd.at' 2 (by simp)
                  simp only [List.getElem_cons_succ,List.getElem_cons_zero] at c2
                  have hwd':=hide hwd
                  have hrow':=hide hrow
                  have hri':=hide hri
                  clear hwd hrow hri
                  by_cases hlt:k<x2.size
                  · have hbk:=hide (byte_at x2 k hlt)
                    have hpl:Hid (∀ W:World,Calls Tryz.prog 118 #[.string ⟨#[75,81,107,113]⟩,.int .u8 (x2[k].toNat:Int)] W fun e w'=>e=.returned (.int .i64 (ixq x2[k]))/\w'=W):=hide (fun W=>xb ⟨#[75,81,107,113]⟩ (by decide) x2[k] W)
                    have hra:=hide (rises_at x2.data.toList k x2[k] (qa hbk))
                    have hls:=hide (lastQ_s x2.data.toList k x2[k] (qa hbk))
                    have hno:Hid (x2.data.toList≠[45]->ixq x2[k]<=lastQ x2.data.toList k->readS s=none):=hide (fun hn hle=>by
                      rw [qa hr]
                      refine ji (.inr (.inr (.inl (cast_bad hn ?_))))
                      rw [(qa hri').resolve_left hn,qa hra,decide_eq_false (by omega)];rfl)
                    have hnx:Hid (x2.data.toList=[45]\/lastQ x2.data.toList k<ixq x2[k]->x2.data.toList=[45]\/rises x2.data.toList (-1)=rises (x2.data.toList.drop (k+1)) (lastQ x2.data.toList (k+1))):=hide (fun h=>by
                      by_cases hn:x2.data.toList=[45]
                      · exact .inl hn
                      · refine .inr ?_
                        rw [(qa hri').resolve_left hn,qa hra,decide_eq_true (h.resolve_left hn)];rfl)
                    have hrN:Hid (ixq x2[k]<0->Row z _ (casF x2.data.toList (k+1)) (-1) 0 0 PA):=hide (fun h=>(qa hrow').casNo (qa hbk) h)
                    have hrY:Hid (∀ j:Nat,j<4->x2[k]=clc j->Row z _ (casF x2.data.toList (k+1)) (-1) 0 0 (PA.setIfInBounds (65+j) (.bool true))):=hide (fun j hj e=>(qa hrow').casYes hj (by rw [qa hbk,e]))
                    have hdd:(x2.toList==[45])=decide (x2.data.toList=[45]):=by rw [Lib.toList_data];by_cases h:x2.data.toList=[45]<;>simp [h]
                    have hqb:=ixq_bd x2[k]
                    have hpos:Hid (0<=ixq x2[k]->∃ j:Nat,j<4/\ixq x2[k]=(j:Int)/\x2[k]=clc j):=hide (fun h=>clc_pos (c:=x2[k]) h)
                    have hlq:Hid (∀ l,lastQ x2.data.toList k=l->True):=hide (fun _ _=>trivial)
                    clear hra hlq
                    generalize hla:lastQ x2.data.toList k=la at hno hnx
                    have hla':=hide hla
                    clear hla
                    obtain ⟨q,hq⟩:∃ q,ixq x2[k]=q:=⟨_,rfl⟩
                    rw [hq] at hpl hls hno hnx hrN hqb hpos
                    clear hq hri'
                    by_cases hgo:x2.data.toList=[45]\/la<q
                    · have hn2:=hide (qa hnx hgo)
                      have hb:(x2.toList==[45])=true\/((x2.toList==[45])=false/\la<q):=by
                        rw [hdd]
                        by_cases h:x2.data.toList=[45]
                        · exact .inl (by simp [h])
                        · exact .inr ⟨by simp [h],hgo.resolve_left h⟩
                      clear hno hnx hdd hgo
                      rcases hb with hd|⟨hd,hl⟩
                      all_goals
                        by_cases hq0:0<=q
                        · obtain ⟨j,j4,hj,hcj⟩:=qa hpos hq0
                          have hcc:=hfo.cell ((qa hrow').c j j4)
                          have hsf:=hfo.soft (65+j)
                          have hf2:=hide (hfo.put (65+j) (.bool true))
                          have hw2:=hide ((qa hwd').far hne (i:=65+j) (v:=.bool true))
                          have hr2:=hide (qa hrY j j4 hcj)
                          subst hj
                          clear hcj hrY hrN hpos hbk hrow' hwd'
                          go_wp2_with (go_at_call 118;refine (qa hpl _).mono ?_;rintro e w' ⟨rfl,rfl⟩)
                          go_roundg (gk-1)
                          case measure=>omega
                          case rel=>exact ⟨k+1,by omega,rfl,by rw [qa hls],_,qa hf2,qa hr2,qa hn2,qa hw2⟩
                        · have hr2:=hide (qa hrN (by omega))
                          clear hrY hrN hpos hbk hrow'
                          go_wp2_with (go_at_call 118;refine (qa hpl _).mono ?_;rintro e w' ⟨rfl,rfl⟩)
                          go_roundg (gk-1)
                          case measure=>omega
                          case rel=>exact ⟨k+1,by omega,rfl,by rw [qa hls],_,hfo,qa hr2,qa hn2,qa hwd'⟩
                    · have h45:x2.data.toList≠[45]:=fun h=>hgo (.inl h)
                      have hle:q<=la:=by
                        refine Classical.byContradiction fun h=>hgo (.inr ?_)
                        omega
                      have hno':=hide (qa hno h45 hle)
                      have hd:(x2.toList==[45])=false:=by rw [hdd];simp [h45]
                      clear hno hnx hdd hgo hrY hrN hpos hbk hrow' h45
                      go_wp2_with (first
                        | (go_at_call 118;refine (qa hpl _).mono ?_;rintro e w' ⟨rfl,rfl⟩)
                        | (refine wpList_load_row rfl 25 _ rfl bp rfl 25 PA (0,0) _ (Fo.p (w:=w) hfo) Tryz.underlying25 rfl (by rw [hsz];exact infoP) ?_)
                        | (refine wpList_store_row rfl 25 _ _ rfl w.heap.size PA rfl rfl 25 Tryz.zeroCells25 (Fo.res (bp:=bp) (PA:=PA) hfo) (by rw [hsz];exact infoP) (by rw [hsz];exact zeroP.symm) (qa hon) ?_))
                      exact bodyPost_ret (v:=.tuple #[.agg PA,.bool false]) (qj Tryz.results79 _ _ w.heap.size 25 _ (0,0) _ rfl (setRow_heap _ _ _ _ _ _ hfo.res) Tryz.underlying25 rfl (by rw [hsz];exact infoP)) rfl ⟨.inr ⟨qa hno',PA,hsz,(qa hon),rfl⟩,hfo.gr.setRow _ (Nat.le_refl _) _⟩
                  · have ek:k=x2.size:=by omega
                    subst ek
                    have hrow2:Hid (Row z _ (casF x2.data.toList x2.data.toList.length) (-1) 0 0 PA):=hide (by have:=qa hrow';rwa [show x2.size=x2.data.toList.length from (by simp)] at this)
                    have hcas:Hid (x2.data.toList=[45]\/rises x2.data.toList (-1)=true):=hide ((qa hri').imp id (fun h=>by rw [h,List.drop_eq_nil_of_le (by simp)];rfl))
                    have hgwn:Hid (gw≠w.heap.size):=hide (qa hgwn0)
                    have c4:=(qa hwd').at' 4 (by simp)
                    simp only [List.getElem_cons_succ,List.getElem_cons_zero] at c4
                    have h70:=hfo.cell (qa hrow').h
                    have s70:=hfo.soft 70
                    have hn4:=hide (fun W=>qjo x4 (by unfold maxLen;omega) W)
                    have hn5:=hide (fun W=>qjo x5 (by unfold maxLen;omega) W)
                    obtain ⟨n4,hn4e⟩:∃ n,Hid (numI x4.data.toList=n):=⟨_,hide rfl⟩
                    obtain ⟨n5,hn5e⟩:∃ n,Hid (numI x5.data.toList=n):=⟨_,hide rfl⟩
                    rw [qa hn4e] at hn4
                    rw [qa hn5e] at hn5
                    clear hri' hrow' hsz hon
                    go_upto_region 30 with (go_at_call 148;refine (qa hn4 _).mono ?_;rintro e w' ⟨rfl,rfl⟩)
                    have hf6':=hfo.put 70 (.int .i64 n4)
                    have hrow6:=hide ((qa hrow2).setH n4)
                    have hwd6':=hide ((qa hwd').far hne (i:=70) (v:=.int .i64 n4))
                    generalize PA.setIfInBounds 70 (.int .i64 n4)=PA6 at hf6' hrow6
                    generalize World.setCell _ ⟨bp,70,none⟩ (.int .i64 n4)=w66 at hf6' hwd6' ⊢
                    have c5:=(qa hwd6').at' 5 (by simp)
                    simp only [List.getElem_cons_succ,List.getElem_cons_zero] at c5
                    have h71:=hf6'.cell (qa hrow6).g
                    have s71:=hf6'.soft 71
                    clear hfo hwd' hrow2 c4 c2 h70 s70 hn4
                    go_upto_region 31 with (go_at_call 148;refine (qa hn5 _).mono ?_;rintro e w' ⟨rfl,rfl⟩)
                    have hf7:=hf6'.put 71 (.int .i64 n5)
                    have hrow7:=hide ((qa hrow6).setG n5)
                    have hwd7:=hide ((qa hwd6').far hne (i:=71) (v:=.int .i64 n5))
                    generalize PA6.setIfInBounds 71 (.int .i64 n5)=PA7 at hf7 hrow7
                    generalize World.setCell _ ⟨bp,71,none⟩ (.int .i64 n5)=w77 at hf7 hwd7 ⊢
                    have c3:=(qa hwd7).at' 3 (by simp)
                    simp only [List.getElem_cons_succ,List.getElem_cons_zero] at c3
                    clear hf6' hwd6' hrow6 c5 h71 s71 hn5
                    have h3d:Hid ((x3.toList==[45])=decide (x3.toList=[45])):=hide (by by_cases h:x3.toList=[45]<;>simp [h])
                    obtain ⟨cb,h3t⟩:∃ c,(x3.toList==[45])=c:=⟨_,rfl⟩
                    go_upto_if 118 with fail
                    go_cut [118] from 119 to 127 (fun _ wx=>∃ PA b wv,Fo w bp PA wx/\sideS x1=some wv/\Row z wv (casF x2.data.toList x2.data.toList.length) b n4 n5 PA/\Wd gw [x0,x1,x2,x3,x4,x5] wx/\behS x3=some b)
                    case first =>
                     cases cb
                     · have h3:¬ x3.toList=[45]:=by have:=qa h3d;rw [h3t] at this;simpa using this.symm
                       have hsq:=hide (fun W=>jp x3 W)
                       have h69:=hf7.cell (qa hrow7).b
                       have s69:=hf7.soft 69
                       obtain ⟨b3,hb3⟩:∃ b,Hid (sqI x3=b):=⟨_,hide rfl⟩
                       rw [qa hb3] at hsq
                       have hbb:Hid (if 0<=b3 then behS x3=some b3 else (behS x3).isSome=false):=hide (beh_sq h3 (qa hb3))
                       clear h3d h3 hb3
                       go_upto_region 33 with (go_at_call 149;refine (qa hsq _).mono ?_;rintro e w' ⟨rfl,rfl⟩)
                       have hf8:=hf7.put 69 (.int .i64 b3)
                       have hrow8:=hide ((qa hrow7).setB b3)
                       have hwd8:=hide ((qa hwd7).far hne (i:=69) (v:=.int .i64 b3))
                       generalize PA7.setIfInBounds 69 (.int .i64 b3)=PA at hf8 hrow8
                       generalize World.setCell _ ⟨bp,69,none⟩ (.int .i64 b3)=w8 at hf8 hwd8 ⊢
                       clear hf7 hwd7 hrow7 c3 h69 s69 hsq
                       have h69:=hf8.cell (qa hrow8).b
                       by_cases h0:0<=b3
                       · have hbe:Hid (behS x3=some b3):=hide (by have:=qa hbb;rwa [if_pos h0] at this)
                         clear hbb
                         go_wp2_with fail
                         go_meet
                         case rel=>exact ⟨_,_,_,hf8,qa hwt',qa hrow8,qa hwd8,qa hbe⟩
                       · have hno:Hid (readS s=none):=hide (by rw [qa hr];exact ji (.inr (.inr (.inr (.inl (by have:=qa hbb;rwa [if_neg h0] at this))))))
                         have hsz:=(qa hrow8).size
                         have hon:=hide (qy (qa hrow8))
                         go_wp2_with (first
                           | (refine wpList_load_row rfl 25 _ rfl bp rfl 25 PA (0,0) _ (Fo.p (w:=w) hf8) Tryz.underlying25 rfl (by rw [hsz];exact infoP) ?_)
                           | (refine wpList_store_row rfl 25 _ _ rfl w.heap.size PA rfl rfl 25 Tryz.zeroCells25 (Fo.res (bp:=bp) (PA:=PA) hf8) (by rw [hsz];exact infoP) (by rw [hsz];exact zeroP.symm) (qa hon) ?_))
                         exact bodyPost_ret (v:=.tuple #[.agg PA,.bool false]) (qj Tryz.results79 _ _ w.heap.size 25 _ (0,0) _ rfl (setRow_heap _ _ _ _ _ _ hf8.res) Tryz.underlying25 rfl (by rw [hsz];exact infoP)) rfl ⟨.inr ⟨qa hno,PA,hsz,(qa hon),rfl⟩,hf8.gr.setRow _ (Nat.le_refl _) _⟩
                     · have h3:x3.toList=[45]:=by have:=qa h3d;rw [h3t] at this;simpa using this.symm
                       have hbe:Hid (behS x3=some (-1)):=hide (by unfold behS;rw [if_pos h3])
                       clear h3d h3
                       go_wp2_with fail
                       go_meet
                       case rel=>exact ⟨_,_,_,hf7,qa hwt',qa hrow7,qa hwd7,qa hbe⟩
                    case rest =>
                     clear hf7 hrow7 hwd7 c3 h3d hwt' h3t
                     obtain ⟨PA,b,wv,hf8,hwt0,hrow0,hwd0,hbe0⟩:=hcut
                     have hwt':=hide hwt0
                     have hrow8:=hide hrow0
                     have hwd8:=hide hwd0
                     have hbe:=hide hbe0
                     clear hwt0 hrow0 hwd0 hbe0
                     go_upto_region 35 with fail
                     have hsz:=(qa hrow8).size
                     have hon:=hide (qy (qa hrow8))
                     have h70:=hf8.cell (qa hrow8).h
                     have h71:=hf8.cell (qa hrow8).g
                     have c2:=(qa hwd8).at' 2 (by simp)
                     simp only [List.getElem_cons_succ,List.getElem_cons_zero] at c2
                     have hbadE:Hid (x2.data.toList=[]->FormEnd s (.returned (.tuple #[.agg PA,.bool false]))):=hide (fun h=>.inr ⟨by rw [qa hr];exact ji (.inr (.inr (.inl (by rw [h];exact cast_nil)))),PA,hsz,qa hon,rfl⟩)
                     have hbadH:Hid (¬ 0<=n4->FormEnd s (.returned (.tuple #[.agg PA,.bool false]))):=hide (fun h=>.inr ⟨by rw [qa hr];exact ji (.inr (.inr (.inr (.inr (.inl (num_bad (by rw [qa hn4e];exact h))))))),PA,hsz,qa hon,rfl⟩)
                     have hbadG:Hid (¬ 0<=n5->FormEnd s (.returned (.tuple #[.agg PA,.bool false]))):=hide (fun h=>.inr ⟨by rw [qa hr];exact ji (.inr (.inr (.inr (.inr (.inr (num_bad (by rw [qa hn5e];exact h))))))),PA,hsz,qa hon,rfl⟩)
                     have hgood:Hid (x2.data.toList≠[]->0<=n4->0<=n5->FormEnd s (.returned (.tuple #[.agg PA,.bool true]))):=hide (fun h0 h4 h5=>by
                       have hq:=qa hrow8
                       rw [<-qa hn4e,<-qa hn5e] at hq
                       obtain ⟨p,hp,e⟩:=form_yes (qa hr) (qa hbd) (qa hwt') h0 (qa hcas) (qa hbe) (by rw [qa hn4e];exact h4) (by rw [qa hn5e];exact h5) hq
                       exact .inl ⟨p,hp,by rw [e]⟩)
                     have hee:Hid ((x2.toList==[])=decide (x2.data.toList=[])):=hide (by rw [Lib.toList_data];cases x2.data.toList<;>simp)
                     clear hrow8 hwd8 hbe
                     obtain ⟨em,hem⟩:∃ c,(x2.toList==[])=c:=⟨_,rfl⟩
                     obtain ⟨y4,h4⟩:∃ c,decide (0<=n4)=c:=⟨_,rfl⟩
                     obtain ⟨y5,h5⟩:∃ c,decide (0<=n5)=c:=⟨_,rfl⟩
                     have hend:Hid (FormEnd s (.returned (.tuple #[.agg PA,.bool (!em&&y4&&y5)]))):=hide (by
                       have hd:=(qa hee).symm.trans hem
                       cases em
                       · cases y4
                         · exact qa hbadH (of_decide_eq_false h4)
                         · cases y5
                           · exact qa hbadG (of_decide_eq_false h5)
                           · exact qa hgood (of_decide_eq_false hd) (of_decide_eq_true h4) (of_decide_eq_true h5)
                       · exact qa hbadE (of_decide_eq_true hd))
                     clear hbadE hbadH hbadG hgood hee
                     have hst:StF bp gw PA x2 n4 n5 wc.drew:=⟨⟨(show bp<wc.heap.size from hf8.lp),(qv hf8.p).2⟩,c2,h70,h71⟩
                     refine wp_region_held_drew (S:=StF bp gw PA x2 n4 n5) (by kernel_rfl) hst (fun hHeld=>?_)
                     refine C.ty 0 (.agg PA) rfl (zd hsz (by rfl) _ rfl bp rfl (fun _ h=>h.1)) hHeld ?_
                     refine C.ty 1 (.slice (some ⟨gw,0,none⟩) 6 cap) rfl (Or.inl ⟨by rfl,fun W hS=>?_⟩) hHeld ?_
                     · obtain ⟨q1,q2,q3,q4⟩:=hS
                       clear hHeld
                       go_simp
                     refine C.ty 2 (.pointer (some ⟨gw,2,none⟩)) rfl (Or.inl ⟨by rfl,fun W hS=>?_⟩) hHeld ?_
                     · obtain ⟨q1,q2,q3,q4⟩:=hS
                       clear hHeld
                       go_simp
                     refine C.ty 3 (.string x2) rfl (Or.inl ⟨by rfl,fun W hS=>?_⟩) hHeld ?_
                     · obtain ⟨q1,q2,q3,q4⟩:=hS
                       clear hHeld
                       go_simp
                     refine C.ty 4 (.bool (!em)) rfl (Or.inl ⟨by rfl,fun W hS=>?_⟩) hHeld ?_
                     · obtain ⟨q1,q2,q3,q4⟩:=hS
                       clear hHeld
                       go_simp
                     refine C.ty 5 (.bool (!em)) rfl (Or.inl ⟨by rfl,fun W hS=>?_⟩) hHeld ?_
                     · obtain ⟨q1,q2,q3,q4⟩:=hS
                       clear hHeld
                       go_simp
                     cases em
                     case' true =>
                       refine C.ty 6 (undef) rfl (Or.inr ⟨by kernel_rfl,rfl⟩) hHeld ?_
                       refine C.ty 7 (undef) rfl (Or.inr ⟨by kernel_rfl,rfl⟩) hHeld ?_
                       refine C.ty 8 (undef) rfl (Or.inr ⟨by kernel_rfl,rfl⟩) hHeld ?_
                       refine C.ty 9 (.bool false) rfl (Or.inl ⟨by rfl,fun W hS=>?_⟩) hHeld ?_
                       · obtain ⟨q1,q2,q3,q4⟩:=hS
                         clear hHeld
                         go_simp
                       refine C.ty 10 (.bool false) rfl (Or.inl ⟨by rfl,fun W hS=>?_⟩) hHeld ?_
                       · obtain ⟨q1,q2,q3,q4⟩:=hS
                         clear hHeld
                         go_simp
                       refine C.ty 11 (undef) rfl (Or.inr ⟨by kernel_rfl,rfl⟩) hHeld ?_
                       refine C.ty 12 (undef) rfl (Or.inr ⟨by kernel_rfl,rfl⟩) hHeld ?_
                       refine C.ty 13 (undef) rfl (Or.inr ⟨by kernel_rfl,rfl⟩) hHeld ?_
                       refine C.ty 14 (.bool false) rfl (Or.inl ⟨by rfl,fun W hS=>?_⟩) hHeld ?_
                       · obtain ⟨q1,q2,q3,q4⟩:=hS
                         clear hHeld
                         go_simp
                     case' false =>
                       refine C.ty 6 (.pointer (some ⟨bp,70,none⟩)) rfl (Or.inl ⟨by rfl,fun W hS=>?_⟩) hHeld ?_
                       · obtain ⟨q1,q2,q3,q4⟩:=hS
                         clear hHeld
                         go_simp
                       refine C.ty 7 (.int .i64 n4) rfl (Or.inl ⟨by rfl,fun W hS=>?_⟩) hHeld ?_
                       · obtain ⟨q1,q2,q3,q4⟩:=hS
                         clear hHeld
                         go_simp
                       refine C.ty 8 (.bool y4) rfl (Or.inl ⟨by rfl,fun W hS=>?_⟩) hHeld ?_
                       · obtain ⟨q1,q2,q3,q4⟩:=hS
                         clear hHeld
                         go_simp
                       refine C.ty 9 (.bool y4) rfl (Or.inl ⟨by rfl,fun W hS=>?_⟩) hHeld ?_
                       · obtain ⟨q1,q2,q3,q4⟩:=hS
                         clear hHeld
                         go_simp
                       refine C.ty 10 (.bool y4) rfl (Or.inl ⟨by rfl,fun W hS=>?_⟩) hHeld ?_
                       · obtain ⟨q1,q2,q3,q4⟩:=hS
                         clear hHeld
                         go_simp
                       cases y4
                       case' false =>
                         refine C.ty 11 (undef) rfl (Or.inr ⟨by kernel_rfl,rfl⟩) hHeld ?_
                         refine C.ty 12 (undef) rfl (Or.inr ⟨by kernel_rfl,rfl⟩) hHeld ?_
                         refine C.ty 13 (undef) rfl (Or.inr ⟨by kernel_rfl,rfl⟩) hHeld ?_
                         refine C.ty 14 (.bool false) rfl (Or.inl ⟨by rfl,fun W hS=>?_⟩) hHeld ?_
                         · obtain ⟨q1,q2,q3,q4⟩:=hS
                           clear hHeld
                           go_simp
                       case' true =>
                         refine C.ty 11 (.pointer (some ⟨bp,71,none⟩)) rfl (Or.inl ⟨by rfl,fun W hS=>?_⟩) hHeld ?_
                         · obtain ⟨q1,q2,q3,q4⟩:=hS
                           clear hHeld
                           go_simp
                         refine C.ty 12 (.int .i64 n5) rfl (Or.inl ⟨by rfl,fun W hS=>?_⟩) hHeld ?_
                         · obtain ⟨q1,q2,q3,q4⟩:=hS
                           clear hHeld
                           go_simp
                         refine C.ty 13 (.bool y5) rfl (Or.inl ⟨by rfl,fun W hS=>?_⟩) hHeld ?_
                         · obtain ⟨q1,q2,q3,q4⟩:=hS
                           clear hHeld
                           go_simp
                         refine C.ty 14 (.bool y5) rfl (Or.inl ⟨by rfl,fun W hS=>?_⟩) hHeld ?_
                         · obtain ⟨q1,q2,q3,q4⟩:=hS
                           clear hHeld
                           go_simp
                     all_goals
                       refine C.rd 15 fun K hK=>?_
                       rw [if_pos (by rfl)]
                       refine wp_store_row 25 _ _ rfl w.heap.size PA rfl rfl 25 Tryz.zeroCells25 (Fo.res (bp:=bp) (PA:=PA) (cur:=wc) hf8) (by rw [hsz];exact infoP) (by rw [hsz];exact zeroP.symm) (qa hon) ?_
                       refine hK.out _ _ (hHeld.far hf8.ne (qa hgwn)) (fun hHeld=>?_)
                       clear hK K
                       simp only [C.py]
                       refine C.rd 16 fun K hK=>?_
                       go_simp
                       refine hK.out _ _ hHeld (fun hHeld=>?_)
                       clear hK K
                       refine wpAnyH_done (by kernel_rfl) ?_ _
                       clear hHeld hst
                       go_wp2_with fail
                       exact bodyPost_ret (v:=.tuple #[.agg PA,.bool _]) (qj Tryz.results79 _ _ w.heap.size 25 _ (0,0) _ rfl (setRow_heap _ _ _ _ _ _ (Fo.res (bp:=bp) (PA:=PA) (cur:=wc) hf8)) Tryz.underlying25 rfl (by rw [hsz];exact infoP)) rfl ⟨qa hend,hf8.gr.drew.setRow _ (Nat.le_refl _) _⟩
          · have hno:Hid (readS s=none):=hide (by rw [qa hr];exact ji (.inl (board_no8 (hp2 h8))))
            have h8i:((ys.length:Int) != 8)=true:=bne_iff_ne.2 (by omega)
            go_wp2_with (first
              | (refine wpList_load_row rfl 25 _ rfl bp rfl 25 PA5 (0,0) _ (Fo.p (w:=w) (by assumption)) Tryz.underlying25 rfl (by rw [hz5];exact infoP) ?_)
              | (refine wpList_store_row rfl 25 _ _ rfl w.heap.size PA5 rfl rfl 25 Tryz.zeroCells25 (Fo.res (bp:=bp) (PA:=PA5) (by assumption)) (by rw [hz5];exact infoP) (by rw [hz5];exact zeroP.symm) (qa ho5) ?_))
            exact bodyPost_ret (v:=.tuple #[.agg PA5,.bool false]) (qj Tryz.results79 _ _ w.heap.size 25 _ (0,0) _ rfl (setRow_heap _ _ _ _ _ _ hf6.res) Tryz.underlying25 rfl (by rw [hz5];exact infoP)) rfl ⟨.inr ⟨qa hno,PA5,hz5,(qa ho5),rfl⟩,hf6.gr.setRow _ (Nat.le_refl _) _⟩
      · have hno:Hid (readS s=none):=hide (by rw [qa hr];exact ji (.inr (.inl (by simpa using hsd))))
        have hs2:=(qqy x1).1
        rw [show (sideS x1).isSome=false by simpa using hsd] at hs2
        obtain ⟨n1,n2⟩:(x1.toList==[119])=false/\(x1.toList==[98])=false:=by simpa using hs2
        clear hsd hs2
        go_wp2_with (first
          | (refine wpList_load_row rfl 25 _ rfl bp rfl 25 PA0 (0,0) _ (Fo.p (w:=w) (by assumption)) Tryz.underlying25 rfl (by rw [hz0];exact infoP) ?_)
          | (refine wpList_store_row rfl 25 _ _ rfl w.heap.size PA0 rfl rfl 25 Tryz.zeroCells25 (Fo.res (bp:=bp) (PA:=PA0) (by assumption)) (by rw [hz0];exact infoP) (by rw [hz0];exact zeroP.symm) (qa ho0) ?_))
        exact bodyPost_ret (v:=.tuple #[.agg PA0,.bool false]) (qj Tryz.results79 _ _ w.heap.size 25 _ (0,0) _ rfl (setRow_heap _ _ _ _ _ _ hf4.res) Tryz.underlying25 rfl (by rw [hz0];exact infoP)) rfl ⟨.inr ⟨qa hno,PA0,hz0,(qa ho0),rfl⟩,hf4.gr.setRow _ (Nat.le_refl _) _⟩
  · have hno:Hid (readS s=none):=hide (read_no6 (hp2 h6))
    have h6i:((xs.length:Int) != 6)=true:=bne_iff_ne.2 (by omega)
    go_wp2_with (first
      | (refine wpList_load_row rfl 25 _ rfl bp rfl 25 PA0 (0,0) _ (Fo.p (w:=w) (by assumption)) Tryz.underlying25 rfl (by rw [hz0];exact infoP) ?_)
      | (refine wpList_store_row rfl 25 _ _ rfl w.heap.size PA0 rfl rfl 25 Tryz.zeroCells25 (Fo.res (bp:=bp) (PA:=PA0) (by assumption)) (by rw [hz0];exact infoP) (by rw [hz0];exact zeroP.symm) (qa ho0) ?_))
    exact bodyPost_ret (v:=.tuple #[.agg PA0,.bool false]) (qj Tryz.results79 _ _ w.heap.size 25 _ (0,0) _ rfl (setRow_heap _ _ _ _ _ _ hf4.res) Tryz.underlying25 rfl (by rw [hz0];exact infoP)) rfl ⟨.inr ⟨qa hno,PA0,hz0,(qa ho0),rfl⟩,hf4.gr.setRow _ (Nat.le_refl _) _⟩
end Go.Proofs.YtnfakamfmkhlbaaGreatDoor.C
