import Derived.Test.YtnfakamfmkhlbaaGreatDoorZs16
import Derived.Test.YtnfakamfmkhlbaaGreatDoorZs6
import Derived.Deep.QuietTactic
import Derived.BigQuiet
import Derived.Test.YtnfakamfmkhlbaaGreatDoorZs18
import Derived.Deep.RegionHeld3
set_option maxRecDepth 100000
set_option maxHeartbeats 4000000
set_option linter.unusedSimpArgs false
namespace Go.Proofs.YtnfakamfmkhlbaaGreatDoor.C
open Go.ChangeShapes Go.WideShapes Go.ChangeAt Go.RowKit
attribute [local go_sem] qd qi
theorem nameR_any (n:Nat) (h:n<64) (w:World):Calls Tryz.prog 94 #[.int .i64 n] w fun e w'=>e=.returned (.string ⟨(nameS n).toArray⟩)/\Gr w w':=by
 obtain ⟨q,hq0⟩:∃ q:Nat,n/8=q:=⟨_,rfl⟩;obtain ⟨r,hr0⟩:∃ q:Nat,n%8=q:=⟨_,rfl⟩;have hq:(n:Int).tdiv 8=(q:Int):=by rw [Int.tdiv_eq_ediv_of_nonneg (by omega)];omega
 have hr:(n:Int).tmod 8=(r:Int):=by rw [Int.tmod_eq_emod_of_nonneg (by omega)];omega
 have hq8:q<8:=by omega
 have hr8:r<8:=by omega
 have hwq:IntKind.i64.wrap ((q:Int)+1)=(q:Int)+1:=by rw [IntKind.wrap_i64];omega
 have hwr:IntKind.i64.wrap ((r:Int)+1)=(r:Int)+1:=by rw [IntKind.wrap_i64];omega
 have s1:∀ W:World,(Instr.sliceAt 9 (.string ⟨#[97,98,99,100,101,102,103,104]⟩) (some (.int .i64 (r:Int))) (some (.int .i64 ((r:Int)+1))) none).run Tryz.prog W=.ok (.string ⟨#[UInt8.ofNat (97+r)]⟩) W:=fun W=>by
  have:r=0\/r=1\/r=2\/r=3\/r=4\/r=5\/r=6\/r=7:=by omega
  rcases this with rfl|rfl|rfl|rfl|rfl|rfl|rfl|rfl<;>rfl
 have s2:∀ W:World,(Instr.sliceAt 9 (.string ⟨#[49,50,51,52,53,54,55,56]⟩) (some (.int .i64 (q:Int))) (some (.int .i64 ((q:Int)+1))) none).run Tryz.prog W=.ok (.string ⟨#[UInt8.ofNat (49+q)]⟩) W:=fun W=>by
  have:q=0\/q=1\/q=2\/q=3\/q=4\/q=5\/q=6\/q=7:=by omega
  rcases this with rfl|rfl|rfl|rfl|rfl|rfl|rfl|rfl<;>rfl
 go_enter Tryz.func94,Tryz.ntmps94;go_wp2;go_quiet (fail);go_wp2;go_ret;refine ⟨?_,(Gr.refl w).drewN _⟩;have hn:nameS n=[UInt8.ofNat (97+r),UInt8.ofNat (49+q)]:=by unfold nameS;rw [hq0,hr0]
 rw [hn];have hr':r=0\/r=1\/r=2\/r=3\/r=4\/r=5\/r=6\/r=7:=by omega
 have hq':q=0\/q=1\/q=2\/q=3\/q=4\/q=5\/q=6\/q=7:=by omega
 have e:((⟨#[97+UInt8.ofNat r]⟩:ByteArray)++⟨#[49+UInt8.ofNat q]⟩)=⟨[UInt8.ofNat (97+r),UInt8.ofNat (49+q)].toArray⟩:=by
  rcases hr' with rfl|rfl|rfl|rfl|rfl|rfl|rfl|rfl<;>rcases hq' with rfl|rfl|rfl|rfl|rfl|rfl|rfl|rfl<;>decide
 show Ending.returned (.string ((⟨#[97+UInt8.ofNat r]⟩:ByteArray)++⟨#[49+UInt8.ofNat q]⟩))=_;rw [e]
theorem dig_0 (W:World):(Instr.sliceAt 9 (.string ⟨#[48,49,50,51,52,53,54,55,56,57]⟩) (some (.int .u64 0)) (some (.int .u64 1)) none).run Tryz.prog W=.ok (.string ⟨#[48]⟩) W:=by kernel_rfl
theorem dig_1 (W:World):(Instr.sliceAt 9 (.string ⟨#[48,49,50,51,52,53,54,55,56,57]⟩) (some (.int .u64 1)) (some (.int .u64 2)) none).run Tryz.prog W=.ok (.string ⟨#[49]⟩) W:=by kernel_rfl
theorem dig_2 (W:World):(Instr.sliceAt 9 (.string ⟨#[48,49,50,51,52,53,54,55,56,57]⟩) (some (.int .u64 2)) (some (.int .u64 3)) none).run Tryz.prog W=.ok (.string ⟨#[50]⟩) W:=by kernel_rfl
theorem dig_3 (W:World):(Instr.sliceAt 9 (.string ⟨#[48,49,50,51,52,53,54,55,56,57]⟩) (some (.int .u64 3)) (some (.int .u64 4)) none).run Tryz.prog W=.ok (.string ⟨#[51]⟩) W:=by kernel_rfl
theorem dig_4 (W:World):(Instr.sliceAt 9 (.string ⟨#[48,49,50,51,52,53,54,55,56,57]⟩) (some (.int .u64 4)) (some (.int .u64 5)) none).run Tryz.prog W=.ok (.string ⟨#[52]⟩) W:=by kernel_rfl
theorem dig_5 (W:World):(Instr.sliceAt 9 (.string ⟨#[48,49,50,51,52,53,54,55,56,57]⟩) (some (.int .u64 5)) (some (.int .u64 6)) none).run Tryz.prog W=.ok (.string ⟨#[53]⟩) W:=by kernel_rfl
theorem dig_6 (W:World):(Instr.sliceAt 9 (.string ⟨#[48,49,50,51,52,53,54,55,56,57]⟩) (some (.int .u64 6)) (some (.int .u64 7)) none).run Tryz.prog W=.ok (.string ⟨#[54]⟩) W:=by kernel_rfl
theorem dig_7 (W:World):(Instr.sliceAt 9 (.string ⟨#[48,49,50,51,52,53,54,55,56,57]⟩) (some (.int .u64 7)) (some (.int .u64 8)) none).run Tryz.prog W=.ok (.string ⟨#[55]⟩) W:=by kernel_rfl
theorem dig_8 (W:World):(Instr.sliceAt 9 (.string ⟨#[48,49,50,51,52,53,54,55,56,57]⟩) (some (.int .u64 8)) (some (.int .u64 9)) none).run Tryz.prog W=.ok (.string ⟨#[56]⟩) W:=by kernel_rfl
theorem dig_9 (W:World):(Instr.sliceAt 9 (.string ⟨#[48,49,50,51,52,53,54,55,56,57]⟩) (some (.int .u64 9)) (some (.int .u64 10)) none).run Tryz.prog W=.ok (.string ⟨#[57]⟩) W:=by kernel_rfl
theorem dig_slice (d:Nat) (hd:d<10) (W:World):(Instr.sliceAt 9 (.string ⟨#[48,49,50,51,52,53,54,55,56,57]⟩) (some (.int .u64 (d:Int))) (some (.int .u64 ((d:Int)+1))) none).run Tryz.prog W=.ok (.string ⟨#[UInt8.ofNat (48+d)]⟩) W:=by
 have:d=0\/d=1\/d=2\/d=3\/d=4\/d=5\/d=6\/d=7\/d=8\/d=9:=by omega
 rcases this with rfl|rfl|rfl|rfl|rfl|rfl|rfl|rfl|rfl|rfl
 ·exact dig_0 W
 ·exact dig_1 W
 ·exact dig_2 W
 ·exact dig_3 W
 ·exact dig_4 W
 ·exact dig_5 W
 ·exact dig_6 W
 ·exact dig_7 W
 ·exact dig_8 W
 ·exact dig_9 W
theorem qjz (d:Nat):UInt8.ofNat (48+d)=48+UInt8.ofNat d:=by simp [UInt8.ofNat_add]
theorem one_app (c:UInt8) (u:ByteArray):((⟨#[c]⟩:ByteArray)++u).data.toList=c :: u.data.toList:=by rw [bytes_app];rfl
theorem qqh (n:Nat) (h:n<100000) (w:World):Calls Tryz.prog 93 #[.int .u64 n] w fun e w'=>e=.returned (.string ⟨(Lib.decDigits n).toArray⟩)/\Gr w w':=by
 go_enter Tryz.func93,Tryz.ntmps93;go_wp2;go_loopg [0,3] n (fun gg nn ss wr=>∃ (m:Nat) (u:ByteArray),m<=gg/\u.size+m<=n/\nn=.int .u64 m/\ss=.string u/\Lib.decDigits n=Lib.decDigits m++u.data.toList/\Gr w wr)
 case atStart=>exact ⟨n,⟨#[]⟩,Nat.le_refl _,Nat.le_of_eq (Nat.zero_add n),rfl,rfl,by simp,Gr.refl _⟩
 case round =>
  obtain ⟨m,u,m1,m2,rfl,rfl,hdec,hgr⟩:=hrel;have hdec':=hide hdec;have hgr':=hide hgr;clear hdec hgr;by_cases h9:9<m
  ·obtain ⟨d,hd⟩:∃ d:Nat,m%10=d:=⟨_,rfl⟩;obtain ⟨q,hq⟩:∃ q:Nat,m/10=q:=⟨_,rfl⟩;have hd10:d<10:=by omega
   have ht:(m:Int).tmod 10=(d:Int):=by rw [Int.tmod_eq_emod_of_nonneg (by omega)];omega
   have hv:(m:Int).tdiv 10=(q:Int):=by rw [Int.tdiv_eq_ediv_of_nonneg (by omega)];omega
   have ht':(m:Int)%10=(d:Int):=by omega
   have hv':(m:Int)/10=(q:Int):=by omega
   have hw1:IntKind.u64.wrap ((d:Int)+1)=(d:Int)+1:=by rw [IntKind.wrap_u64];omega
   have hw2:IntKind.u64.wrap (q:Int)=(q:Int):=by rw [IntKind.wrap_u64];omega
   have hw3:IntKind.u64.wrap (d:Int)=(d:Int):=by rw [IntKind.wrap_u64];omega
   have hs1:=dig_slice d hd10
   have hnx:Hid (Lib.decDigits n=Lib.decDigits q++((⟨#[UInt8.ofNat (48+d)]⟩:ByteArray)++u).data.toList):=hide (by
    rw [qa hdec',one_app]
    conv=>lhs;arg 1;unfold Lib.decDigits
    rw [dif_neg (by omega),hq,hd,List.append_assoc];rfl)
   have hqm:q<m:=by omega
   have hsz:Hid (((⟨#[UInt8.ofNat (48+d)]⟩:ByteArray)++u).size+q<=n):=hide (by
    have:((⟨#[UInt8.ofNat (48+d)]⟩:ByteArray)++u).size=1+u.size:=by rw [ByteArray.size_append];rfl
    omega)
   have hul:u.size<100000:=by omega
   rw [qjz] at hs1 hnx hsz;go_wp2;go_roundg q
   case measure=>omega
   case rel=>exact ⟨q,_,Nat.le_refl _,qa hsz,rfl,rfl,qa hnx,qa hgr'⟩
  ·have hm10:m<10:=by omega
   have hw1:IntKind.u64.wrap ((m:Int)+1)=(m:Int)+1:=by rw [IntKind.wrap_u64];omega
   have hs1:=dig_slice m hm10;have hul:u.size<100000:=by omega
   have hend:Hid ((⟨#[48+UInt8.ofNat m]⟩:ByteArray)++u=⟨(Lib.decDigits n).toArray⟩):=hide (by
    have:(Lib.decDigits n).toArray=((⟨#[48+UInt8.ofNat m]⟩:ByteArray)++u).data:=by
     rw [qa hdec'];unfold Lib.decDigits;rw [dif_pos hm10,qjz];apply Array.toList_inj.1;rw [one_app];rfl
    rw [this])
   rw [qjz] at hs1;go_wp2;go_ret;exact ⟨by rw [<-qa hend];rfl,qa hgr'⟩
end Go.Proofs.YtnfakamfmkhlbaaGreatDoor.C
namespace Go.Proofs.YtnfakamfmkhlbaaGreatDoor.C
theorem dec_gap (n:Nat) (h:n<10) (h0:n≠0):Lib.decDigits n=gapS n:=by
 unfold Lib.decDigits gapS;rw [dif_pos h,if_neg h0]
def stR (z:Nat->UInt8) (j:Nat):List UInt8 × Nat:=if j<8 then wrK z j else (wrankS z,0)
theorem stR_0 (z:Nat->UInt8):stR z 0=([],0):=rfl
theorem stR_8 (z:Nat->UInt8):stR z 8=(wrankS z,0):=rfl
theorem qzh (z:Nat->UInt8) (j:Nat) (h:j<8):stR z j=wrK z j:=if_pos h
theorem stR_dot (z:Nat->UInt8) (j:Nat) (h:j<7) (e:z j=46):stR z (j+1)=((stR z j).1,(stR z j).2+1):=by
 rw [qzh z j (by omega),qzh z (j+1) (by omega)];show (if z j=46 then _ else _)=_;rw [if_pos e]
theorem stR_dot7 (z:Nat->UInt8) (e:z 7=46):stR z 8=((stR z 7).1++gapS ((stR z 7).2+1),0):=by
 rw [stR_8,qzh z 7 (by omega)]
 have:wrK z 8=((wrK z 7).1,(wrK z 7).2+1):=by
  show (if z 7=46 then _ else _)=_;rw [if_pos e]
 unfold wrankS;rw [this]
theorem stR_man (z:Nat->UInt8) (j:Nat) (h:j<8) (e:z j≠46):stR z (j+1)=((stR z j).1++gapS (stR z j).2++[z j],0):=by
 rw [qzh z j h]
 have hk:wrK z (j+1)=((wrK z j).1++gapS (wrK z j).2++[z j],0):=by
  show (if z j=46 then _ else _)=_;rw [if_neg e]
 by_cases h7:j=7
 ·subst h7;rw [stR_8];unfold wrankS;rw [hk];simp [gapS]
 ·rw [qzh z (j+1) (by omega),hk]
theorem stR_bd (z:Nat->UInt8) (j:Nat) (h:j<=8):(stR z j).1.length<=17/\(stR z j).2<=8:=by
 by_cases h8:j<8
 ·rw [qzh z j h8];have:=wrK_bd z j;omega
 ·have:j=8:=by omega
  subst this;rw [stR_8];have hb:=wrK_bd z 8;have hg:(gapS (wrK z 8).2).length<=1:=by unfold gapS;split<;>simp
  refine ⟨?_,by simp⟩;show (wrankS z).length<=17;unfold wrankS;rw [List.length_append];omega
def rowsT (z:Nat->UInt8):Nat->List UInt8
 | 0=>[]
 | k+1=>rowsT z k++wrankS (fun f=>z (8*(7-k)+f))++(if k<7 then [47] else [])
theorem qq0 (z:Nat->UInt8):∀ k,(rowsT z k).length<=18*k
 | 0=>Nat.le_refl _
 | k+1=>by
   have ih:=qq0 z k;have hr:=(stR_bd (fun f=>z (8*(7-k)+f)) 8 (Nat.le_refl _)).1;rw [stR_8] at hr;have:(if k<7 then [47] else []:List UInt8).length<=1:=by split<;>simp
   show (rowsT z k++wrankS (fun f=>z (8*(7-k)+f))++(if k<7 then [47] else [])).length<=_;simp only [List.length_append];simp only at hr;omega
theorem rows_board (z:Nat->UInt8):rowsT z 8=wboardS z:=by
 have e:(wrowsS z).map (·.data.toList)=[wrowS z 0,wrowS z 1,wrowS z 2,wrowS z 3,wrowS z 4,wrowS z 5,wrowS z 6,wrowS z 7]:=rfl;unfold wboardS;rw [e];simp only [join_cons2,Lib.join_one];simp [rowsT,wrowS]
theorem itoa_dec (n:Nat):Lib.itoa (n:Int)=Lib.decDigits n:=by
 unfold Lib.itoa;rw [if_neg (by omega),Int.toNat_natCast]
theorem text_is (z:Nat->UInt8) (wh:Bool) (f:Nat->Bool) (b:Int) (h g:Nat):writeS z wh f b h g=rowsT z 8++[32,if wh then 119 else 98,32]++wcastS f++[32]++wbehS b++[32]++Lib.decDigits h++[32]++Lib.decDigits g:=by
 unfold writeS;simp only [join_cons2,Lib.join_one];rw [rows_board,itoa_dec,itoa_dec];simp
end Go.Proofs.YtnfakamfmkhlbaaGreatDoor.C
namespace Go.Proofs.YtnfakamfmkhlbaaGreatDoor.C
open Go.ChangeShapes Go.WideShapes Go.ChangeAt Go.RowKit
attribute [local go_sem] qd qi
theorem conv_one (W:World) (c:UInt8):(convert 101 9 (.slice (some ⟨W.heap.size,0,none⟩) 1 1)).run Tryz.prog (W.alloc (.cells #[.int .u8 (c.toNat:Int)] 5))=.ok (.string ⟨#[c]⟩) (W.alloc (.cells #[.int .u8 (c.toNat:Int)] 5)) :=
 zi (W.alloc (.cells #[.int .u8 (c.toNat:Int)] 5)) ⟨W.heap.size,0,none⟩ 1 [c] (by
  intro i hi;have:i=0:=by simp at hi;omega
  subst this;rw [Addr.add_lit,Nat.zero_add,World.cell?_alloc_at _ _ _ _ rfl];rfl)
theorem dec_size (n:Nat) (h:n<=65535):(⟨(Lib.decDigits n).toArray⟩:ByteArray).size<=70000:=by
 show (Lib.decDigits n).toArray.size<=_;rw [List.size_toArray];have:=digits_le n n (Nat.le_refl _);omega
theorem held2 {w1 w':World} {b i j:Nat} {A:Array Value} {u v:Value} (h:RowAt b A w1) (hu:A[i]?=some u) (hv:A[j]?=some v) (g:Gr w1 w'):Gr w1 w'/\w'.cell? ⟨b,i,none⟩=some u/\w'.cell? ⟨b,j,none⟩=some v :=
 ⟨g,(h.gr g).at' hu,(h.gr g).at' hv⟩
theorem kq_0 (W:World):(Instr.sliceAt 9 (.string ⟨#[75,81,107,113]⟩) (some (.int .i64 0)) (some (.int .i64 1)) none).run Tryz.prog W=.ok (.string ⟨#[clc 0]⟩) W:=by kernel_rfl
theorem kq_1 (W:World):(Instr.sliceAt 9 (.string ⟨#[75,81,107,113]⟩) (some (.int .i64 1)) (some (.int .i64 2)) none).run Tryz.prog W=.ok (.string ⟨#[clc 1]⟩) W:=by kernel_rfl
theorem kq_2 (W:World):(Instr.sliceAt 9 (.string ⟨#[75,81,107,113]⟩) (some (.int .i64 2)) (some (.int .i64 3)) none).run Tryz.prog W=.ok (.string ⟨#[clc 2]⟩) W:=by kernel_rfl
theorem kq_3 (W:World):(Instr.sliceAt 9 (.string ⟨#[75,81,107,113]⟩) (some (.int .i64 3)) (some (.int .i64 4)) none).run Tryz.prog W=.ok (.string ⟨#[clc 3]⟩) W:=by kernel_rfl
theorem text_any {z:Nat->UInt8} {wh:Bool} {f:Nat->Bool} {b h g:Int} {PA:Array Value} (r:Row z wh f b h g PA) (hb:b=-1\/(0<=b/\b<64)) (h0:0<=h/\h<=65535) (g0:0<=g/\g<=65535) (w:World):Calls Tryz.prog 41 #[.agg PA] w fun e w'=>e=.returned (.string ⟨(writeS z wh f b h g).toArray⟩)/\Gr w w':=by
 have hrow:Hid (RowAt w.heap.size PA (w.alloc (.cells PA 25))):=hide (qv (heap_alloc_new _ _));have hg1:Hid (Gr w (w.alloc (.cells PA 25))):=hide ((Gr.refl w).alloc _ _);have hsq:=hide r.sq;go_enter Tryz.func41,Tryz.ntmps41;go_wp2;generalize w.alloc (.cells PA 25)=w1 at hrow hg1 ⊢;go_loopg [3,4] 8 (fun gg ss rr wr=>∃ (k:Nat) (u:ByteArray),k+gg=8/\rr=.int .i64 (7-(k:Int))/\ss=.string u/\u.data.toList=rowsT z k/\Gr w1 wr)
 case atStart=>exact ⟨0,⟨#[]⟩,rfl,rfl,rfl,rfl,Gr.refl _⟩
 case round =>
  obtain ⟨k,u,k1,rfl,rfl,hu,hgr⟩:=hrel
  have hul:u.size<=144:=by
   have:=qq0 z k;rw [<-hu,Array.length_toList,ByteArray.size_data] at this;omega
  have hu':=hide hu;have hgr':=hide hgr;clear hu hgr;by_cases hlt:k<8
  ·have hk0:(0:Int)<=7-(k:Int):=by omega
   have hk7:(k:Int)<=7:=by omega
   obtain ⟨zr,hzr⟩:∃ zr:Nat->UInt8,Hid (zr=fun f=>z (8*(7-k)+f)):=⟨_,hide rfl⟩;go_wp2;go_loopg [3,5,6] 8 (fun gg ss nn ff wr=>∃ (j:Nat) (v:ByteArray),j+gg=8/\ff=.int .i64 j/\ss=.string v/\nn=.int .i64 ((stR zr j).2:Nat)/\v.data.toList=rowsT z k++(stR zr j).1/\Gr w1 wr)
   case atStart=>exact ⟨0,u,rfl,rfl,rfl,rfl,by rw [qa hu',stR_0];simp,qa hgr'⟩
   case round =>
    obtain ⟨j,v,j1,rfl,rfl,rfl,hv,hgr2⟩:=hrel;obtain ⟨m,hm⟩:∃ m,Hid ((stR zr j).2=m):=⟨_,hide rfl⟩;have hbd:=stR_bd zr j (by omega);rw [qa hm] at hbd
    have hvl:v.size<=200:=by
     have h1:=qq0 z k;have h2:=congrArg List.length hv;rw [List.length_append,Array.length_toList,ByteArray.size_data] at h2;omega
    have hv':=hide hv;have hgr2':=hide hgr2;have hrw:=(qa hrow).gr hgr2;clear hv hgr2;rw [qa hm];by_cases hj:j<8
    ·obtain ⟨o,ho⟩:∃ o:Nat,8*(7-k)=o:=⟨_,rfl⟩;have hoI:8*(7-(k:Int))=(o:Int):=by omega
     have hwo:IntKind.i64.wrap (8*(7-(k:Int)))=(o:Int):=by rw [IntKind.wrap_i64];omega
     have hoj:o+j<64:=by omega
     have hcell:=hrw.at' (qa hsq (o+j) hoj);have hzj:Hid (zr j=z (o+j)):=hide (by rw [qa hzr,ho]);rw [<-qa hzj] at hcell;clear hrw;by_cases hd:zr j=46
     ·have hc46:Hid (zr j=46):=hide hd;rw [hd] at hcell;by_cases h7:j<7
      ·have hne:((j:Int)==7)=false:=by rw [beq_eq_false_iff_ne];omega
       have hst:=hide (stR_dot zr j h7 hd);clear hd;go_wp2;go_roundg (gk-1)
       case measure=>omega
       case rel=>exact ⟨j+1,v,by omega,by go_num,rfl,by rw [qa hst,qa hm];rfl,by rw [qa hst];exact qa hv',qa hgr2'⟩
      ·have e7:j=7:=by omega
       subst e7;have hst:=hide (stR_dot7 zr hd)
       have hdec:Hid (∀ W:World,Calls Tryz.prog 93 #[.int .u64 ((m:Int)+1)] W fun e w'=>e=.returned (.string ⟨(gapS (m+1)).toArray⟩)/\Gr W w'):=hide fun W=>by
        have:=qqh (m+1) (by omega) W
        rwa [dec_gap (m+1) (by omega) (by omega)] at this
       have hgl:(⟨(gapS (m+1)).toArray⟩:ByteArray).size=1:=by unfold gapS;rw [if_neg (by omega)];rfl
       clear hd;go_wp2_with (go_at_call 93;refine (qa hdec _).mono ?_;rintro e w' ⟨rfl,hg⟩);go_roundg (gk-1)
       case measure=>omega
       case rel =>
        refine ⟨8,_,by omega,rfl,rfl,by rw [qa hst]<;>rfl,?_,Gr.trans (qa hgr2') hg⟩
        rw [bytes_app,qa hv',qa hst,qa hm,List.append_assoc]
     ·have hdI:(((zr j).toNat:Int)==46)=false:=by
       rw [beq_eq_false_iff_ne];intro hh;exact hd (UInt8.toNat_inj.1 (by show (zr j).toNat=46;omega))
      have hst:=hide (stR_man zr j hj hd);have hcv:=fun W=>conv_one W (zr j)
      clear hd;by_cases hm0:m=0
      ·subst hm0;go_wp2;go_roundg (gk-1)
       case measure=>omega
       case rel =>
        refine ⟨j+1,_,by omega,by go_num,rfl,by rw [qa hst]<;>rfl,?_,(qa hgr2').alloc _ _⟩
        rw [bytes_app,qa hv',qa hst,qa hm];simp [gapS]
      ·have hdec:Hid (∀ W:World,Calls Tryz.prog 93 #[.int .u64 (m:Int)] W fun e w'=>e=.returned (.string ⟨(gapS m).toArray⟩)/\Gr W w'):=hide fun W=>by
        have:=qqh m (by omega) W
        rwa [dec_gap m (by omega) hm0] at this
       have hgl:(⟨(gapS m).toArray⟩:ByteArray).size=1:=by unfold gapS;rw [if_neg hm0];rfl
       have hmp:(0:Int)<(m:Int):=by omega
       go_wp2_with (go_at_call 93;refine (qa hdec _).mono ?_;rintro e w' ⟨rfl,hg⟩);go_roundg (gk-1)
       case measure=>omega
       case rel =>
        refine ⟨j+1,_,by omega,by go_num,rfl,by rw [qa hst]<;>rfl,?_,(Gr.trans (qa hgr2') hg).alloc _ _⟩
        rw [bytes_app,bytes_app,qa hv',qa hst,qa hm];simp
    ·have ej:j=8:=by omega
     subst ej;have hwr:IntKind.i64.wrap (7-(k:Int)-1)=7-((k+1:Nat):Int):=by rw [IntKind.wrap_i64];omega
     have hnext:Hid (v.data.toList++(if k<7 then [47] else [])=rowsT z (k+1)):=hide (by
      rw [qa hv',stR_8,qa hzr];rfl)
     by_cases hk6:k<7
     ·rw [if_pos hk6] at hnext;have hkp:(0:Int)<7-(k:Int):=by omega
      go_wp2;go_roundg (7-k)
      case measure=>omega
      case rel=>exact ⟨k+1,_,by omega,rfl,rfl,by rw [bytes_app,<-qa hnext],qa hgr2'⟩
     ·rw [if_neg hk6] at hnext;have ek7:k=7:=by omega
      subst ek7;go_wp2;go_roundg 0
      case measure=>omega
      case rel=>exact ⟨8,v,by omega,rfl,rfl,by rw [<-qa hnext];simp,qa hgr2'⟩
  ·have ek:k=8:=by omega
   subst ek;obtain ⟨sd,hsd⟩:∃ l:List UInt8,Hid (l=rowsT z 8++[32,if wh then 119 else 98,32]):=⟨_,hide rfl⟩
   have hsdl:Hid (sd.length<=150):=hide (by
    rw [qa hsd,List.length_append];have:=qq0 z 8;simp;omega)
   have hwc:=((qa hrow).gr (qa hgr')).at' r.wh;have hcf:=hide r.c;have hbc:=hide r.b;have hhc:=hide r.h;have hgc:=hide r.g;clear r;go_upto_if 57 with fail;go_cut [3] from 58 to 61 (fun s3 wx=>∃ t:ByteArray,s3=.string t/\t.data.toList=sd/\Gr w1 wx)
   case first =>
    cases wh
    all_goals
     go_wp2_with fail;go_meet
     case rel=>exact ⟨_,rfl,by rw [bytes_app,qa hu',qa hsd];rfl,qa hgr'⟩
   case rest =>
    obtain ⟨t,rfl,htd0,hgt0⟩:=hcut;have htd:=hide htd0;have hgt:=hide hgt0;clear htd0 hgt0 hwc;go_wp2;go_loopg [3,8,9] 4 (fun gg ss sm ii wr'=>∃ (i:Nat) (v:ByteArray),i+gg=4/\ii=.int .i64 i/\ss=.string v/\sm=.bool (!(wcS f i).isEmpty)/\v.data.toList=sd++wcS f i/\Gr w1 wr')
    case atStart=>exact ⟨0,t,rfl,rfl,rfl,rfl,by rw [qa htd];simp [wcS],qa hgt⟩
    case round =>
     obtain ⟨i,v,i1,rfl,rfl,rfl,hv,hgr2⟩:=hrel;have hrw:=(qa hrow).gr hgr2
     have hvl:v.size<=160:=by
      have h1:=qa hsdl;have h3:=wcS_len f i;have h2:=congrArg List.length hv;rw [List.length_append,Array.length_toList,ByteArray.size_data] at h2;omega
     have hv':=hide hv;have hgr2':=hide hgr2;clear hv hgr2;obtain ⟨sm,hsm⟩:∃ x,Hid ((!(wcS f i).isEmpty)=x):=⟨_,hide rfl⟩;rw [qa hsm];by_cases hlt:i<4
     ·have hk4:i=0\/i=1\/i=2\/i=3:=by omega
      have hfc:=hrw.at' (qa hcf i hlt);obtain ⟨fv,hfv⟩:∃ x,Hid (f i=x):=⟨_,hide rfl⟩;rw [qa hfv] at hfc;obtain ⟨i',hi'⟩:∃ j,Hid (j=i+1):=⟨_,hide rfl⟩;have hi2:Hid (i'+(gk-1)=4):=hide (by have:=qa hi';omega);have hwF:Hid (fv=false->wcS f i'=wcS f i):=hide (fun h=>by rw [qa hi',wcS_step,qa hfv,h];simp);have hwT:Hid (fv=true->wcS f i'=wcS f i++[clc i]):=hide (fun h=>by rw [qa hi',wcS_step,qa hfv,h];simp);have s0:=kq_0;have s1:=kq_1;have s2:=kq_2;have s3:=kq_3;clear hrw hfv;rcases hk4 with rfl|rfl|rfl|rfl
      all_goals
       cases fv
       ·have hw2:=hide (qa hwF rfl);clear hwF hwT;go_wp2;go_roundg (gk-1)
        case measure=>omega
        case rel=>exact ⟨i',v,qa hi2,by rw [qa hi'];go_num,rfl,by rw [qa hw2,qa hsm],by rw [qa hw2];exact qa hv',qa hgr2'⟩
       ·have hw2:=hide (qa hwT rfl);clear hwF hwT;go_wp2;go_roundg (gk-1)
        case measure=>omega
        case rel=>exact ⟨i',_,qa hi2,by rw [qa hi'];go_num,rfl,by rw [qa hw2];simp,by rw [bytes_app,qa hv',qa hw2,List.append_assoc],qa hgr2'⟩
     ·have ei:i=4:=by omega
      subst ei;have hbc':=hrw.at' (qa hbc);have hhc':=hrw.at' (qa hhc);have hgc':=hrw.at' (qa hgc);have hhR:=hhc;have hgR:=hgc;clear hrw hcf hbc hhc hgc;obtain ⟨hn,rfl⟩:=Int.eq_ofNat_of_zero_le h0.1;obtain ⟨gn,rfl⟩:=Int.eq_ofNat_of_zero_le g0.1;have hhn:hn<=65535:=by omega
      have hgn:gn<=65535:=by omega
      have hdl1:(⟨(Lib.decDigits hn).toArray⟩:ByteArray).size<=70000:=dec_size hn hhn;have hdl2:(⟨(Lib.decDigits gn).toArray⟩:ByteArray).size<=70000:=dec_size gn hgn;clear h0 g0;have hwh:IntKind.u64.wrap (hn:Int)=(hn:Int):=by rw [IntKind.wrap_u64];omega
      have hwg:IntKind.u64.wrap (gn:Int)=(gn:Int):=by rw [IntKind.wrap_u64];omega
      have htx:=hide (text_is z wh f b hn gn)
      have hmt:Hid (wcastS f=if sm then wcS f 4 else [45]):=hide (by
       unfold wcastS;rw [<-qa hsm];cases (wcS f 4).isEmpty<;>rfl)
      go_upto_if 77 with fail;go_cut [3] from 78 to 79 (fun s3 wx=>∃ T:ByteArray,s3=.string T/\T.data.toList=sd++wcastS f/\wx=wr)
      case first =>
       cases sm
       ·have hemp:Hid (wcS f 4=[]):=hide (by have:=qa hsm;simpa using this);go_wp2_with fail;go_meet
        case rel=>exact ⟨_,rfl,by rw [bytes_app,qa hv',qa hmt,qa hemp];simp,rfl⟩
       ·go_wp2_with fail;go_meet
        case rel=>exact ⟨_,rfl,by rw [qa hv',qa hmt];rfl,rfl⟩
      case rest =>
       obtain ⟨T,rfl,hTd0,hww⟩:=hcut;have hww':=hww.symm;subst hww';have hTd:=hide hTd0
       have hTl:T.size<=200:=by
        have h1:=qa hsdl;have h2:=congrArg List.length (qa hTd);have h3:=qze f;rw [List.length_append,Array.length_toList,ByteArray.size_data] at h2;omega
       clear hww hTd0 hv' hvl hsm hmt;obtain ⟨bb,hbb⟩:∃ c,decide (0<=b)=c:=⟨_,rfl⟩;go_upto_if 82 with fail;go_cut [10] from 83 to 85 (fun s10 wx=>∃ N:ByteArray,s10=.string N/\N.data.toList=wbehS b/\Gr wr wx)
       case first =>
        rcases hb with hb|⟨hb0,hb1⟩
        ·have h2:bb=false:=by rw [<-hbb,hb];rfl
         subst h2;have hN:Hid (wbehS b=[45]):=hide (by rw [hb];rfl);clear hb;go_wp2_with fail;go_meet
         case rel=>exact ⟨_,rfl,by rw [qa hN],Gr.refl _⟩
        ·have h2:bb=true:=by rw [<-hbb];exact decide_eq_true hb0
         subst h2;obtain ⟨bn,rfl⟩:=Int.eq_ofNat_of_zero_le hb0;have hbn:bn<64:=by omega
         have hwb:Hid (wbehS (bn:Int)=nameS bn):=hide (by unfold wbehS;rw [if_neg (by omega),Int.toNat_natCast]);have hnm:Hid (∀ W:World,Calls Tryz.prog 94 #[.int .i64 (bn:Int)] W fun e w'=>e=.returned (.string ⟨(nameS bn).toArray⟩)/\Gr W w'):=hide fun W=>nameR_any bn hbn W
         clear hb0 hb1;go_wp2_with (first|(go_at_call 94;refine (qa hnm _).mono ?_;rintro e wn ⟨rfl,hgnn⟩));go_meet
         case rel=>exact ⟨_,rfl,by rw [qa hwb],hgnn⟩
       case rest =>
        obtain ⟨N,rfl,hN0,hgnn⟩:=hcut;have hN:=hide hN0
        have hATl:N.size<=2:=by
         have h2:=congrArg List.length hN0;rw [Array.length_toList,ByteArray.size_data] at h2;rw [h2];unfold wbehS;split<;>simp [nameS]
        clear hN0 hbb hb;have hrwW:=((qa hrow).gr (qa hgr2')).gr hgnn;have hhr:=qa hhR;have hgr':=qa hgR;obtain ⟨A1,a1⟩:∃ A,Hid (A=T++(⟨#[32]⟩:ByteArray)):=⟨_,hide rfl⟩;obtain ⟨A2,a2⟩:∃ A,Hid (A=A1++N):=⟨_,hide rfl⟩;obtain ⟨A3,a3⟩:∃ A,Hid (A=A2++(⟨#[32]⟩:ByteArray)):=⟨_,hide rfl⟩;obtain ⟨A4,a4⟩:∃ A,Hid (A=A3++(⟨(Lib.decDigits hn).toArray⟩:ByteArray)):=⟨_,hide rfl⟩;obtain ⟨A5,a5⟩:∃ A,Hid (A=A4++(⟨#[32]⟩:ByteArray)):=⟨_,hide rfl⟩;obtain ⟨A6,a6⟩:∃ A,Hid (A=A5++(⟨(Lib.decDigits gn).toArray⟩:ByteArray)):=⟨_,hide rfl⟩;have l1:A1.size<=201:=by rw [qa a1,ByteArray.size_append];show T.size+1<=_;omega
        have l2:A2.size<=203:=by rw [qa a2,ByteArray.size_append];omega
        have l3:A3.size<=204:=by rw [qa a3,ByteArray.size_append];show A2.size+1<=_;omega
        have l4:A4.size<=70204:=by rw [qa a4,ByteArray.size_append];omega
        have l5:A5.size<=70205:=by rw [qa a5,ByteArray.size_append];show A4.size+1<=_;omega
        have f1:∀ W:World,(Op.stringOp .add T (⟨#[32]⟩:ByteArray)).run Tryz.prog W=.ok (.string A1) W:=fun W=>by rw [qa a1];exact run_string_add_sum W T _ (by show T.size+1<=_;omega)
        have f2:∀ W:World,(Op.stringOp .add A1 N).run Tryz.prog W=.ok (.string A2) W:=fun W=>by rw [qa a2];exact run_string_add_sum W A1 _ (by omega)
        have f3:∀ W:World,(Op.stringOp .add A2 (⟨#[32]⟩:ByteArray)).run Tryz.prog W=.ok (.string A3) W:=fun W=>by rw [qa a3];exact run_string_add_sum W A2 _ (by show A2.size+1<=_;omega)
        have f4:∀ W:World,(Op.stringOp .add A3 (⟨(Lib.decDigits hn).toArray⟩:ByteArray)).run Tryz.prog W=.ok (.string A4) W:=fun W=>by rw [qa a4];exact run_string_add_sum W A3 _ (by omega)
        have f5:∀ W:World,(Op.stringOp .add A4 (⟨#[32]⟩:ByteArray)).run Tryz.prog W=.ok (.string A5) W:=fun W=>by rw [qa a5];exact run_string_add_sum W A4 _ (by show A4.size+1<=_;omega)
        have f6:∀ W:World,(Op.stringOp .add A5 (⟨(Lib.decDigits gn).toArray⟩:ByteArray)).run Tryz.prog W=.ok (.string A6) W:=fun W=>by rw [qa a6];exact run_string_add_sum W A5 _ (by omega)
        have hfin:Hid (A6=⟨(writeS z wh f b hn gn).toArray⟩):=hide (by
         have:A6.data.toList=writeS z wh f b hn gn:=by
          rw [qa htx,qa a6,bytes_app,qa a5,bytes_app,qa a4,bytes_app,qa a3,bytes_app,qa a2,bytes_app,qa a1,bytes_app,qa hTd,qa hsd,qa hN]
         rw [<-this])
        go_upto_region 34 with fail;go_region_held3 (fun w'=>Gr wc w'/\w'.cell? ⟨w.heap.size,70,none⟩=some (.int .i64 (hn:Int))/\w'.cell? ⟨w.heap.size,71,none⟩=some (.int .i64 (gn:Int))) (first|exact held2 hrwW hhr hgr' (Gr.refl _).drew|exact held2 hrwW hhr hgr' (by assumption)|exact held2 hrwW hhr hgr' (Gr.alloc (heldL (by assumption)) _ _)) (first|(go_at_call 93;refine (qqh _ (by omega) _).mono ?_;rintro e w' ⟨rfl,hg⟩;have hg2:=Gr.trans (heldL (by assumption)) hg));go_wp2;go_ret;exact ⟨by rw [<-qa hfin];rfl,Gr.trans (qa hg1) (Gr.trans (Gr.trans (qa hgr2') hgnn) hg2)⟩
end Go.Proofs.YtnfakamfmkhlbaaGreatDoor.C
namespace Go.Proofs.YtnfakamfmkhlbaaGreatDoor.C
open Go.ChangeShapes Go.WideShapes Go.ChangeAt Go.RowKit
open Go.Proofs.YtnfakamfmkhlbaaGreatDoor.P
attribute [local go_sem] qd qi
theorem can_ref {z:Nat->UInt8} {wh:Bool} {f:Nat->Bool} {b h g:Int} {PA:Array Value} (r:Row z wh f b h g PA) (w:World):Calls Tryz.prog 40 #[.agg PA] w fun e w'=>e=.returned (.bool (canS z wh f b h g))/\Gr w w':=by
 rw [<-can_same];exact canr_any r w
end Go.Proofs.YtnfakamfmkhlbaaGreatDoor.C
