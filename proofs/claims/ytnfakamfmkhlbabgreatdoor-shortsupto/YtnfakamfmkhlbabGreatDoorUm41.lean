import Derived.Test.YtnfakamfmkhlbabGreatDoorUm40
import Derived.Test.YtnfakamfmkhlbabGreatDoorKz2
set_option maxRecDepth 100000
set_option maxHeartbeats 4000000
set_option linter.unusedSimpArgs false
namespace Go.Proofs.YtnfakamfmkhlbabGreatDoor.C
open Go.ChangeShapes Go.WideShapes Go.ChangeAt Go.RowKit Go.Shelf Go.Proofs.YtnfakamfmkhlbabGreatDoor.P
section
attribute [local go_sem] qd qe Oper.semAt_some
def AA(z:Nat->UInt8)(wh:Bool)(fc:Nat->Bool)(b:Int)(f t n:Nat):Bool:=!decide (n=f)&&decide (z n=z f)&&vo z wh fc b n t 0
def kI(z:Nat->UInt8)(wh:Bool)(fc:Nat->Bool)(b:Int)(f t k:Nat):List Nat:=(List.range k).filter (AA z wh fc b f t)
def iH(L:List Nat)(f:Nat):Nat:=(L.filter fun n=>decide (n%8=f%8)).length
def iG(L:List Nat)(f:Nat):Nat:=(L.filter fun n=>decide (n/8=f/8)).length
theorem Ew{z:Nat->UInt8}{wh:Bool}{fc:Nat->Bool}{b:Int}{f t k:Nat}(h:AA z wh fc b f t k=false):kI z wh fc b f t (k+1)=kI z wh fc b f t k:=by
 unfold kI;rw[List.range_succ,List.filter_append,List.filter_cons_of_neg (by rw[h];simp),List.filter_nil,List.append_nil]
theorem Cn{z:Nat->UInt8}{wh:Bool}{fc:Nat->Bool}{b:Int}{f t k:Nat}(h:AA z wh fc b f t k=true):kI z wh fc b f t (k+1)=kI z wh fc b f t k++[k]:=by
 unfold kI;rw[List.range_succ,List.filter_append,List.filter_cons_of_pos h,List.filter_nil]
theorem lZ(z:Nat->UInt8)(wh:Bool)(fc:Nat->Bool)(b:Int)(f t k:Nat):(kI z wh fc b f t k).length<=k:=by
 unfold kI;exact q7 (List.length_filter_le _ _) (by rw[List.length_range];exact qL _)
theorem wO(L:List Nat)(f k:Nat):iH (L++[k]) f=iH L f+(if k%8=f%8 then 1 else 0):=by
 unfold iH;rw[List.filter_append,qZ];by_cases h:k%8=f%8<;>simp[h]
theorem wN(L:List Nat)(f k:Nat):iG (L++[k]) f=iG L f+(if k/8=f/8 then 1 else 0):=by
 unfold iG;rw[List.filter_append,qZ];by_cases h:k/8=f/8<;>simp[h]
structure Rm(w:World)(PA M:Array Value)(W:World):Prop where
 pa:W.heap[w.heap.size]?=some (.cells PA 70)
 mv:W.heap[w.heap.size+1]?=some (.cells M 125)
 gr:Gr w W
theorem Rm.next{w W W':World}{PA M:Array Value}(h:Rm w PA M W)(g:Gr W W'):Rm w PA M W' :=
 ⟨(Below.block g _ (qB.1 h.pa).1).trans h.pa,(Below.block g _ (qB.1 h.mv).1).trans h.mv,Gr.trans h.gr g⟩
theorem Rm.start(w:World)(PA M:Array Value):Rm w PA M ((w.alloc (.cells PA 70)).alloc (.cells M 125)):=by
 obtain⟨e1,e2⟩:=x6 w (.cells PA 70) (.cells M 125);exact⟨e1,e2,((Gr.refl w).alloc _ _).alloc _ _⟩
theorem Rm.cells{w W:World}{PA:Array Value}{z:Nat->UInt8}{wh:Bool}{fc:Nat->Bool}{b h g:Int}{f t k:Nat}{u:UInt8}(hf:f<64)(hk:k<64)(r:jE z wh fc b h g PA)(q:Rm w PA #[.int .i64 (f:Int),.int .i64 (t:Int),.int .u8 (u.toNat:Int)] W) :
  W.cell? ⟨w.heap.size+1,0,none⟩=some (.int .i64 (f:Int))/\W.cell? ⟨w.heap.size+1,1,none⟩=some (.int .i64 (t:Int))/\W.cell? ⟨w.heap.size+1,2,none⟩=some (.int .u8 (u.toNat:Int))/\W.cell? ⟨w.heap.size,f,none⟩=some (.int .u8 ((z f).toNat:Int))/\W.cell? ⟨w.heap.size,k,none⟩=some (.int .u8 ((z k).toNat:Int)):=by
 obtain⟨m0,m1,m2⟩:=qm q.mv;exact⟨m0,m1,m2,by rw[cell_of_row _ _ _ _ _ _ q.pa];exact r.sq f hf,by rw[cell_of_row _ _ _ _ _ _ q.pa];exact r.sq k hk⟩
theorem nL(k t:Int):Tryz.prog.built 125 [(0,.int .i64 k),(1,.int .i64 t)]=some #[.int .i64 k,.int .i64 t,.int .u8 0]:=by kernel_rfl
theorem iF{z:Nat->UInt8}{wh:Bool}{fc:Nat->Bool}{b h g:Int}{PA:Array Value}(r:jE z wh fc b h g PA)(hC:kJ z wh fc b)(hb0:-1<=b)(hb1:b<=63)(h0:0<=h)(h1:h<=65535)(g0:0<=g)(g1:g<=65535)(f t:Nat)(hf:f<64)(ht:t<64)(u:UInt8)(w:World) :
    Calls Tryz.prog 109 #[.agg PA,.agg #[.int .i64 (f:Int),.int .i64 (t:Int),.int .u8 (u.toNat:Int)]] w fun e w'=>e=.returned (.string (xJ (wh3 (!(kI z wh fc b f t 64).isEmpty) (decide (iH (kI z wh fc b f t 64) f≠0)) (decide (iG (kI z wh fc b f t 64) f≠0)) f)))/\Gr w w':=by
  have hle:Hid (∀k:Nat,k<64->∀W,Calls Tryz.prog 105 #[.agg PA,.agg #[.int .i64 (k:Int),.int .i64 (t:Int),.int .u8 0]] W fun e w'=>e=.returned (.bool (vo z wh fc b k t 0))/\Gr W w'):=qC (fun k hk W=>qjj r hC hb0 hb1 h0 h1 g0 g1 k t hk ht 0 (by decide) W)
  obtain⟨va,hva⟩:∃v,Hid ((!(kI z wh fc b f t 64).isEmpty)=v):=⟨_,qC rfl⟩
  obtain⟨vc,hvc⟩:∃v,Hid (decide (iH (kI z wh fc b f t 64) f≠0)=v):=⟨_,qC rfl⟩
  obtain⟨vd,hvd⟩:∃v,Hid (decide (iG (kI z wh fc b f t 64) f≠0)=v):=⟨_,qC rfl⟩
  rw[qa hva,qa hvc,qa hvd]
  have hN:=qC (fun W=>qxo f hf W)
  have hi72:(Tryz.prog.info? 70).map (·.size)=some PA.size:=by rw[r.size];exact jJ
  have hq:=qC (Rm.start w PA #[.int .i64 (f:Int),.int .i64 (t:Int),.int .u8 (u.toNat:Int)])
  have c64:¬ (64<=(f:Int)):=by omega
  have sz:(⟨(xQ f).toArray⟩:ByteArray).size=2:=rfl
  have ex1:(⟨(xQ f).toArray⟩:ByteArray).extract 0 1=xJ [xA f]:=rfl
  have ex2:(⟨(xQ f).toArray⟩:ByteArray).extract 1 2=xJ [xI f]:=rfl
  have ex3:Hid ((⟨(xQ f).toArray⟩:ByteArray)=xJ [xA f,xI f]):=qC rfl
  generalize (⟨(xQ f).toArray⟩:ByteArray)=NF at hN sz ex1 ex2 ex3
  clear hb0 hb1 h0 h1 g0 g1 hC
  go_enter Tryz.func109,Tryz.ntmps109
  go_upto_region 1 with fail
  show Code.wp _ _ _ _ ((w.alloc (.cells PA 70)).alloc (.cells #[.int .i64 (f:Int),.int .i64 (t:Int),.int .u8 (u.toNat:Int)] 125))
  generalize ((w.alloc (.cells PA 70)).alloc (.cells #[.int .i64 (f:Int),.int .i64 (t:Int),.int .u8 (u.toNat:Int)] 125))=w0 at hq ⊢
  go_wp2_with fail
  go_loopg [5,6,7,8,9] 64 (fun gk a c d n _ wr=>∃k:Nat,k+gk=64/\n=.int .i64 (k:Int)/\a=.int .i64 ((kI z wh fc b f t k).length:Int)/\c=.int .i64 (iH (kI z wh fc b f t k) f:Int)/\d=.int .i64 (iG (kI z wh fc b f t k) f:Int)/\Rm w PA #[.int .i64 (f:Int),.int .i64 (t:Int),.int .u8 (u.toNat:Int)] wr)
  case atStart=>exact⟨0,by omega,rfl,rfl,rfl,rfl,qa hq⟩
  case round =>
    obtain⟨k,k1,rfl,rfl,rfl,rfl,hR⟩:=hrel
    by_cases hlt:k<64
    · have hk64:k<64:=hlt
      have kk0:(0:Int)<=(k:Int):=by omega
      have kl:(k:Int)<64:=by omega
      have k64:¬ (64<=(k:Int)):=by omega
      have hl0:=lZ z wh fc b f t k
      have hlF:iH (kI z wh fc b f t k) f<=k:=q7 (List.length_filter_le _ _) hl0
      have hlR:iG (kI z wh fc b f t k) f<=k:=q7 (List.length_filter_le _ _) hl0
      have wk:IntKind.i64.wrap ((k:Int)+1)=(k:Int)+1:=by rw[IntKind.wrap_i64];omega
      obtain⟨ol,hol⟩:∃v,Hid ((kI z wh fc b f t k).length=v):=⟨_,qC rfl⟩
      obtain⟨of,hof⟩:∃v,Hid (iH (kI z wh fc b f t k) f=v):=⟨_,qC rfl⟩
      obtain⟨or',hor⟩:∃v,Hid (iG (kI z wh fc b f t k) f=v):=⟨_,qC rfl⟩
      rw[qa hol]at hl0 ⊢
      rw[qa hof]at hlF ⊢
      rw[qa hor]at hlR ⊢
      have hno:Hid (AA z wh fc b f t k=false->(kI z wh fc b f t (k+1)).length=ol/\iH (kI z wh fc b f t (k+1)) f=of/\iG (kI z wh fc b f t (k+1)) f=or'):=qC fun q=>by
        rw[Ew q];exact⟨qa hol,qa hof,qa hor⟩
      have hye:Hid (AA z wh fc b f t k=true->(kI z wh fc b f t (k+1)).length=ol+1/\iH (kI z wh fc b f t (k+1)) f=of+(if k%8=f%8 then 1 else 0)/\iG (kI z wh fc b f t (k+1)) f=or'+(if k/8=f/8 then 1 else 0)):=qC fun q=>by
        rw[Cn q,wO,wN,qZ,qa hol,qa hof,qa hor];exact⟨rfl,rfl,rfl⟩
      have wo:IntKind.i64.wrap ((ol:Int)+1)=(ol:Int)+1:=by rw[IntKind.wrap_i64];omega
      have wf:IntKind.i64.wrap ((of:Int)+1)=(of:Int)+1:=by rw[IntKind.wrap_i64];omega
      have wr':IntKind.i64.wrap ((or':Int)+1)=(or':Int)+1:=by rw[IntKind.wrap_i64];omega
      clear hol hof hor hl0 hlF hlR
      by_cases hA:k=f
      · have hA':(k:Int)=(f:Int):=by omega
        obtain⟨n1,n2,n3⟩:=qa hno (by unfold AA;simp[hA])
        have hnn:=qC (And.intro n1 (And.intro n2 n3))
        clear n1 n2 n3 hno hye hle
        go_upto_region 7 with fail
        refine wp_region_held_drew (S:=Rm w PA #[.int .i64 (f:Int),.int .i64 (t:Int),.int .u8 (u.toNat:Int)]) (by kernel_rfl) (hR.next (Gr.refl _).drew) (fun qD=>?_)
        refine C.ty 0 (.int .i64 (k:Int)) rfl (Or.inl ⟨by rfl,fun w hw=>(by obtain⟨m0,m1,m2,cf,ck⟩:=Rm.cells hf hk64 r hw;go_simp)⟩) qD ?_
        refine C.ty 1 (.pointer (some ⟨w.heap.size+1,0,none⟩)) rfl (Or.inl ⟨by rfl,fun w hw=>(by obtain⟨m0,m1,m2,cf,ck⟩:=Rm.cells hf hk64 r hw;go_simp)⟩) qD ?_
        refine C.ty 2 (.int .i64 (f:Int)) rfl (Or.inl ⟨by rfl,fun w hw=>(by obtain⟨m0,m1,m2,cf,ck⟩:=Rm.cells hf hk64 r hw;go_simp)⟩) qD ?_
        refine C.ty 3 (.bool true) rfl (Or.inl ⟨by rfl,fun w hw=>(by obtain⟨m0,m1,m2,cf,ck⟩:=Rm.cells hf hk64 r hw;go_simp)⟩) qD ?_
        refine C.ty 4 (.bool true) rfl (Or.inl ⟨by rfl,fun w hw=>(by obtain⟨m0,m1,m2,cf,ck⟩:=Rm.cells hf hk64 r hw;go_simp)⟩) qD ?_
        refine C.ty 5 (undef) rfl (Or.inr ⟨by rfl,rfl⟩) qD ?_
        refine C.ty 6 (undef) rfl (Or.inr ⟨by rfl,rfl⟩) qD ?_
        refine C.ty 7 (undef) rfl (Or.inr ⟨by rfl,rfl⟩) qD ?_
        refine C.ty 8 (undef) rfl (Or.inr ⟨by rfl,rfl⟩) qD ?_
        refine C.ty 9 (undef) rfl (Or.inr ⟨by rfl,rfl⟩) qD ?_
        refine C.ty 10 (undef) rfl (Or.inr ⟨by rfl,rfl⟩) qD ?_
        refine C.ty 11 (undef) rfl (Or.inr ⟨by rfl,rfl⟩) qD ?_
        refine C.ty 12 (undef) rfl (Or.inr ⟨by rfl,rfl⟩) qD ?_
        refine C.ty 13 (undef) rfl (Or.inr ⟨by rfl,rfl⟩) qD ?_
        refine C.ty 14 (undef) rfl (Or.inr ⟨by rfl,rfl⟩) qD ?_
        refine C.ty 15 (.bool true) rfl (Or.inl ⟨by rfl,fun w hw=>(by obtain⟨m0,m1,m2,cf,ck⟩:=Rm.cells hf hk64 r hw;go_simp)⟩) qD ?_
        refine wpAnyH_done (by kernel_rfl) ?_ _
        have hHeld':=qC qD
        clear qD hR
        go_wp2_with fail
        go_roundg (gk-1)
        case measure=>omega
        case rel=>exact⟨k+1,by omega,by go_num,by rw[(qa hnn).1],by rw[(qa hnn).2.1],by rw[(qa hnn).2.2],qa hHeld'⟩
      · have hA':¬ (k:Int)=(f:Int):=by omega
        by_cases hB:z k=z f
        · have hB':((z k).toNat:Int)=((z f).toNat:Int):=by rw[hB]
          have hB2:(((z k).toNat:Int) != ((z f).toNat:Int))=false:=by rw[hB];simp
          have hlk:=qC (fun W=>qa hle k hk64 W)
          obtain⟨lv,hlv⟩:∃v,Hid (vo z wh fc b k t 0=v):=⟨_,qC rfl⟩
          rw[qa hlv]at hlk
          go_upto_region 7 with fail
          refine wp_region_held_drew (S:=Rm w PA #[.int .i64 (f:Int),.int .i64 (t:Int),.int .u8 (u.toNat:Int)]) (by kernel_rfl) (hR.next (Gr.refl _).drew) (fun qD=>?_)
          refine C.ty 0 (.int .i64 (k:Int)) rfl (Or.inl ⟨by rfl,fun w hw=>(by obtain⟨m0,m1,m2,cf,ck⟩:=Rm.cells hf hk64 r hw;go_simp)⟩) qD ?_
          refine C.ty 1 (.pointer (some ⟨w.heap.size+1,0,none⟩)) rfl (Or.inl ⟨by rfl,fun w hw=>(by obtain⟨m0,m1,m2,cf,ck⟩:=Rm.cells hf hk64 r hw;go_simp)⟩) qD ?_
          refine C.ty 2 (.int .i64 (f:Int)) rfl (Or.inl ⟨by rfl,fun w hw=>(by obtain⟨m0,m1,m2,cf,ck⟩:=Rm.cells hf hk64 r hw;go_simp)⟩) qD ?_
          refine C.ty 3 (.bool false) rfl (Or.inl ⟨by rfl,fun w hw=>(by obtain⟨m0,m1,m2,cf,ck⟩:=Rm.cells hf hk64 r hw;go_simp)⟩) qD ?_
          refine C.ty 4 (.bool false) rfl (Or.inl ⟨by rfl,fun w hw=>(by obtain⟨m0,m1,m2,cf,ck⟩:=Rm.cells hf hk64 r hw;go_simp)⟩) qD ?_
          refine C.ty 5 (.int .i64 (k:Int)) rfl (Or.inl ⟨by rfl,fun w hw=>(by obtain⟨m0,m1,m2,cf,ck⟩:=Rm.cells hf hk64 r hw;go_simp)⟩) qD ?_
          refine C.ty 6 (.pointer (some ⟨w.heap.size,0,none⟩)) rfl (Or.inl ⟨by rfl,fun w hw=>(by obtain⟨m0,m1,m2,cf,ck⟩:=Rm.cells hf hk64 r hw;go_simp)⟩) qD ?_
          refine C.ty 7 (.pointer (some ⟨w.heap.size,k,none⟩)) rfl (Or.inl ⟨by rfl,fun w hw=>(by obtain⟨m0,m1,m2,cf,ck⟩:=Rm.cells hf hk64 r hw;go_simp)⟩) qD ?_
          refine C.ty 8 (.int .u8 ((z k).toNat:Int)) rfl (Or.inl ⟨by rfl,fun w hw=>(by obtain⟨m0,m1,m2,cf,ck⟩:=Rm.cells hf hk64 r hw;go_simp)⟩) qD ?_
          refine C.ty 9 (.pointer (some ⟨w.heap.size+1,0,none⟩)) rfl (Or.inl ⟨by rfl,fun w hw=>(by obtain⟨m0,m1,m2,cf,ck⟩:=Rm.cells hf hk64 r hw;go_simp)⟩) qD ?_
          refine C.ty 10 (.int .i64 (f:Int)) rfl (Or.inl ⟨by rfl,fun w hw=>(by obtain⟨m0,m1,m2,cf,ck⟩:=Rm.cells hf hk64 r hw;go_simp)⟩) qD ?_
          refine C.ty 11 (.pointer (some ⟨w.heap.size,0,none⟩)) rfl (Or.inl ⟨by rfl,fun w hw=>(by obtain⟨m0,m1,m2,cf,ck⟩:=Rm.cells hf hk64 r hw;go_simp)⟩) qD ?_
          refine C.ty 12 (.pointer (some ⟨w.heap.size,f,none⟩)) rfl (Or.inl ⟨by rfl,fun w hw=>(by obtain⟨m0,m1,m2,cf,ck⟩:=Rm.cells hf hk64 r hw;go_simp)⟩) qD ?_
          refine C.ty 13 (.int .u8 ((z f).toNat:Int)) rfl (Or.inl ⟨by rfl,fun w hw=>(by obtain⟨m0,m1,m2,cf,ck⟩:=Rm.cells hf hk64 r hw;go_simp)⟩) qD ?_
          refine C.ty 14 (.bool false) rfl (Or.inl ⟨by rfl,fun w hw=>(by obtain⟨m0,m1,m2,cf,ck⟩:=Rm.cells hf hk64 r hw;go_simp)⟩) qD ?_
          refine C.ty 15 (.bool false) rfl (Or.inl ⟨by rfl,fun w hw=>(by obtain⟨m0,m1,m2,cf,ck⟩:=Rm.cells hf hk64 r hw;go_simp)⟩) qD ?_
          refine wpAnyH_done (by kernel_rfl) ?_ _
          obtain⟨m0,m1,m2,cf,ck⟩:=Rm.cells hf hk64 r qD
          have hpa:=qC qD.pa
          have hHeld':=qC qD
          clear qD hR cf ck m2 hle
          go_upto_region 9 with(first
            | (go_at_call 105;refine(qa hlk _).mono ?_;rintro e w5 ⟨rfl,hg5⟩)
            | (refine wpList_load_row rfl 70 _ rfl w.heap.size rfl 70 PA (0,0) _ (qa hpa) Tryz.underlying70 rfl hi72 ?_)
            | (refine qqq rfl 125 _ rfl #[.int .i64 (k:Int),.int .i64 (t:Int),.int .u8 0] ?_ ?_;focus (go_simp;exact nL _ _)))
          have hR5:=(qa hHeld').next hg5
          obtain⟨m0,m1,m2,cf,ck⟩:=Rm.cells hf hk64 r hR5
          have hR5':=qC hR5
          clear hR5 hHeld' hpa hg5 hlk cf ck m2
          cases lv with
          | false =>
            obtain⟨n1,n2,n3⟩:=qa hno (by unfold AA;rw[qa hlv];simp)
            have hnn:=qC (And.intro n1 (And.intro n2 n3))
            clear n1 n2 n3 hno hye hlv
            go_wp2_with fail
            go_roundg (gk-1)
            case measure=>omega
            case rel=>exact⟨k+1,by omega,by go_num,by rw[(qa hnn).1],by rw[(qa hnn).2.1],by rw[(qa hnn).2.2],qa hR5'⟩
          | true =>
            obtain⟨n1,n2,n3⟩:=qa hye (by unfold AA;rw[qa hlv];simp[hA,hB])
            have hnn:=qC (And.intro n1 (And.intro n2 n3))
            clear n1 n2 n3 hno hye hlv
            by_cases hF:k%8=f%8<;>by_cases hG:k/8=f/8
            · exact absurd (show k=f by omega) hA
            · rw[qI hF,qF hG]at hnn
              have hF':(k:Int)%8=(f:Int)%8:=by omega
              have hG':¬ (k:Int)/8=(f:Int)/8:=by omega
              go_wp2_with fail
              go_roundg (gk-1)
              case measure=>omega
              case rel=>exact⟨k+1,by omega,by go_num,by rw[(qa hnn).1];rfl,by rw[(qa hnn).2.1];rfl,by rw[(qa hnn).2.2];rfl,qa hR5'⟩
            · rw[qF hF,qI hG]at hnn
              have hF':¬ (k:Int)%8=(f:Int)%8:=by omega
              have hG':(k:Int)/8=(f:Int)/8:=by omega
              go_wp2_with fail
              go_roundg (gk-1)
              case measure=>omega
              case rel=>exact⟨k+1,by omega,by go_num,by rw[(qa hnn).1];rfl,by rw[(qa hnn).2.1];rfl,by rw[(qa hnn).2.2];rfl,qa hR5'⟩
            · rw[qF hF,qF hG]at hnn
              have hF':¬ (k:Int)%8=(f:Int)%8:=by omega
              have hG':¬ (k:Int)/8=(f:Int)/8:=by omega
              go_wp2_with fail
              go_roundg (gk-1)
              case measure=>omega
              case rel=>exact⟨k+1,by omega,by go_num,by rw[(qa hnn).1];rfl,by rw[(qa hnn).2.1];rfl,by rw[(qa hnn).2.2];rfl,qa hR5'⟩
        · have hB':¬ ((z k).toNat:Int)=((z f).toNat:Int):=fun q=>hB (q6.1 (by omega))
          have hB2:(((z k).toNat:Int) != ((z f).toNat:Int))=true:=qU.2 hB'
          obtain⟨n1,n2,n3⟩:=qa hno (by unfold AA;simp[hB])
          have hnn:=qC (And.intro n1 (And.intro n2 n3))
          clear n1 n2 n3 hno hye hle
          go_upto_region 7 with fail
          refine wp_region_held_drew (S:=Rm w PA #[.int .i64 (f:Int),.int .i64 (t:Int),.int .u8 (u.toNat:Int)]) (by kernel_rfl) (hR.next (Gr.refl _).drew) (fun qD=>?_)
          refine C.ty 0 (.int .i64 (k:Int)) rfl (Or.inl ⟨by rfl,fun w hw=>(by obtain⟨m0,m1,m2,cf,ck⟩:=Rm.cells hf hk64 r hw;go_simp)⟩) qD ?_
          refine C.ty 1 (.pointer (some ⟨w.heap.size+1,0,none⟩)) rfl (Or.inl ⟨by rfl,fun w hw=>(by obtain⟨m0,m1,m2,cf,ck⟩:=Rm.cells hf hk64 r hw;go_simp)⟩) qD ?_
          refine C.ty 2 (.int .i64 (f:Int)) rfl (Or.inl ⟨by rfl,fun w hw=>(by obtain⟨m0,m1,m2,cf,ck⟩:=Rm.cells hf hk64 r hw;go_simp)⟩) qD ?_
          refine C.ty 3 (.bool false) rfl (Or.inl ⟨by rfl,fun w hw=>(by obtain⟨m0,m1,m2,cf,ck⟩:=Rm.cells hf hk64 r hw;go_simp)⟩) qD ?_
          refine C.ty 4 (.bool false) rfl (Or.inl ⟨by rfl,fun w hw=>(by obtain⟨m0,m1,m2,cf,ck⟩:=Rm.cells hf hk64 r hw;go_simp)⟩) qD ?_
          refine C.ty 5 (.int .i64 (k:Int)) rfl (Or.inl ⟨by rfl,fun w hw=>(by obtain⟨m0,m1,m2,cf,ck⟩:=Rm.cells hf hk64 r hw;go_simp)⟩) qD ?_
          refine C.ty 6 (.pointer (some ⟨w.heap.size,0,none⟩)) rfl (Or.inl ⟨by rfl,fun w hw=>(by obtain⟨m0,m1,m2,cf,ck⟩:=Rm.cells hf hk64 r hw;go_simp)⟩) qD ?_
          refine C.ty 7 (.pointer (some ⟨w.heap.size,k,none⟩)) rfl (Or.inl ⟨by rfl,fun w hw=>(by obtain⟨m0,m1,m2,cf,ck⟩:=Rm.cells hf hk64 r hw;go_simp)⟩) qD ?_
          refine C.ty 8 (.int .u8 ((z k).toNat:Int)) rfl (Or.inl ⟨by rfl,fun w hw=>(by obtain⟨m0,m1,m2,cf,ck⟩:=Rm.cells hf hk64 r hw;go_simp)⟩) qD ?_
          refine C.ty 9 (.pointer (some ⟨w.heap.size+1,0,none⟩)) rfl (Or.inl ⟨by rfl,fun w hw=>(by obtain⟨m0,m1,m2,cf,ck⟩:=Rm.cells hf hk64 r hw;go_simp)⟩) qD ?_
          refine C.ty 10 (.int .i64 (f:Int)) rfl (Or.inl ⟨by rfl,fun w hw=>(by obtain⟨m0,m1,m2,cf,ck⟩:=Rm.cells hf hk64 r hw;go_simp)⟩) qD ?_
          refine C.ty 11 (.pointer (some ⟨w.heap.size,0,none⟩)) rfl (Or.inl ⟨by rfl,fun w hw=>(by obtain⟨m0,m1,m2,cf,ck⟩:=Rm.cells hf hk64 r hw;go_simp)⟩) qD ?_
          refine C.ty 12 (.pointer (some ⟨w.heap.size,f,none⟩)) rfl (Or.inl ⟨by rfl,fun w hw=>(by obtain⟨m0,m1,m2,cf,ck⟩:=Rm.cells hf hk64 r hw;go_simp)⟩) qD ?_
          refine C.ty 13 (.int .u8 ((z f).toNat:Int)) rfl (Or.inl ⟨by rfl,fun w hw=>(by obtain⟨m0,m1,m2,cf,ck⟩:=Rm.cells hf hk64 r hw;go_simp)⟩) qD ?_
          refine C.ty 14 (.bool true) rfl (Or.inl ⟨by rfl,fun w hw=>(by obtain⟨m0,m1,m2,cf,ck⟩:=Rm.cells hf hk64 r hw;go_simp)⟩) qD ?_
          refine C.ty 15 (.bool true) rfl (Or.inl ⟨by rfl,fun w hw=>(by obtain⟨m0,m1,m2,cf,ck⟩:=Rm.cells hf hk64 r hw;go_simp)⟩) qD ?_
          refine wpAnyH_done (by kernel_rfl) ?_ _
          have hHeld':=qC qD
          clear qD hR
          go_wp2_with fail
          go_roundg (gk-1)
          case measure=>omega
          case rel=>exact⟨k+1,by omega,by go_num,by rw[(qa hnn).1],by rw[(qa hnn).2.1],by rw[(qa hnn).2.2],qa hHeld'⟩
    · have ek:k=64:=by omega
      subst ek
      obtain⟨m0,m1,m2,cf,ck⟩:=Rm.cells hf hf r hR
      have hgR:=qC hR.gr
      clear hR cf ck m1 m2 hle hq
      have hl0:=lZ z wh fc b f t 64
      have hlF:iH (kI z wh fc b f t 64) f<=64:=q7 (List.length_filter_le _ _) hl0
      have hlR:iG (kI z wh fc b f t 64) f<=64:=q7 (List.length_filter_le _ _) hl0
      have hve:Hid ((kI z wh fc b f t 64).length=0↔va=false):=qC (by rw[<-qa hva];cases kI z wh fc b f t 64<;>simp)
      have hvf:Hid (iH (kI z wh fc b f t 64) f=0↔vc=false):=qC (by rw[<-qa hvc];simp)
      have hvr:Hid (iG (kI z wh fc b f t 64) f=0↔vd=false):=qC (by rw[<-qa hvd];simp)
      generalize (kI z wh fc b f t 64).length=ol at hl0 hve ⊢
      generalize iH (kI z wh fc b f t 64) f=of at hlF hvf ⊢
      generalize iG (kI z wh fc b f t 64) f=or' at hlR hvr ⊢
      clear hva hvc hvd
      cases va with
      | false =>
        have e0:(ol:Int)=0:=by have:=(qa hve).2 rfl;omega
        go_wp2_with(go_at_call 110;refine(qa hN _).mono ?_;rintro e w9 ⟨rfl,hg9⟩)
        go_ret
        exact⟨rfl,Gr.trans (qa hgR) hg9⟩
      | true =>
        have e0:¬ (ol:Int)=0:=by
         have:¬ ol=0:=fun q=>by have:=(qa hve).1 q;cases this
         omega
        cases vc with
        | false =>
          have e1:(of:Int)=0:=by have:=(qa hvf).2 rfl;omega
          go_wp2_with(go_at_call 110;refine(qa hN _).mono ?_;rintro e w9 ⟨rfl,hg9⟩)
          go_ret
          exact⟨rfl,Gr.trans (qa hgR) hg9⟩
        | true =>
          have e1:¬ (of:Int)=0:=by
           have:¬ of=0:=fun q=>by have:=(qa hvf).1 q;cases this
           omega
          cases vd with
          | false =>
            have e2:(or':Int)=0:=by have:=(qa hvr).2 rfl;omega
            go_wp2_with(go_at_call 110;refine(qa hN _).mono ?_;rintro e w9 ⟨rfl,hg9⟩)
            go_ret
            exact⟨rfl,Gr.trans (qa hgR) hg9⟩
          | true =>
            have e2:¬ (or':Int)=0:=by
             have:¬ or'=0:=fun q=>by have:=(qa hvr).1 q;cases this
             omega
            go_wp2_with(go_at_call 110;refine(qa hN _).mono ?_;rintro e w9 ⟨rfl,hg9⟩)
            go_ret
            exact⟨by rw[qa ex3];rfl,Gr.trans (qa hgR) hg9⟩
end
section
set_option maxRecDepth 100000
theorem qku:∀j,j<4->(xE j=hK j+2↔j%2=0)/\(xE j+2=hK j↔j%2=1):=by decide +kernel
theorem sk{z:Nat->UInt8}{s:Int}{f t:Nat}(hf:f<64)(ht:t<64)(h:xS (zI z) 5 s (f:Int) (t:Int)=true):t≠f+2/\t+2≠f:=qxv f hf t ht h
theorem fu{wh:Bool}{fc:Nat->Bool}{f t:Nat}(h:0<=zK wh fc f t 0):∃j,j<4/\f=hK j/\t=xE j/\zK wh fc f t 0=(j:Int):=by
 have hu:zK wh fc f t 0=if jZ wh fc f t 0 0 then 0 else if jZ wh fc f t 0 1 then 1 else if jZ wh fc f t 0 2 then 2 else if jZ wh fc f t 0 3 then 3 else -1:=rfl;rw[hu]at h ⊢;by_cases h0:jZ wh fc f t 0 0=true
 ·rw[qI h0];obtain⟨_,_,a,c⟩:=(zv (by omega)).1 h0;exact⟨0,by omega,a,c,rfl⟩
 ·rw[qF h0]at h ⊢;by_cases h1:jZ wh fc f t 0 1=true
  ·rw[qI h1];obtain⟨_,_,a,c⟩:=(zv (by omega)).1 h1;exact⟨1,by omega,a,c,rfl⟩
  ·rw[qF h1]at h ⊢;by_cases h2:jZ wh fc f t 0 2=true
   ·rw[qI h2];obtain⟨_,_,a,c⟩:=(zv (by omega)).1 h2;exact⟨2,by omega,a,c,rfl⟩
   ·rw[qF h2]at h ⊢;by_cases h3:jZ wh fc f t 0 3=true
    ·rw[qI h3];obtain⟨_,_,a,c⟩:=(zv (by omega)).1 h3;exact⟨3,by omega,a,c,rfl⟩
    ·rw[qF h3]at h;omega
theorem pZ.cas{z:Nat->UInt8}{wh:Bool}{fc:Nat->Bool}{b:Int}{f t:Nat}{u:UInt8}(h:pZ z wh fc b f t u 5) :
  (t=f+2->0<=zK wh fc f t u/\zK wh fc f t u%2=0)/\(t+2=f->0<=zK wh fc f t u/\zK wh fc f t u%2=1)/\(t≠f+2->t+2≠f->zK wh fc f t u<0):=by
 have hu:=h.u0 (by omega);subst hu;have hk:vE (z f)=5:=by simpa using ro h.hi h.hc
 have hg:=h.go;unfold j9 at hg;rw[qH,qF (by omega)]at hg;have hm:=hg.2;unfold EE at hm;rw[hk]at hm
 have two:(t=f+2\/t+2=f)->0<=zK wh fc f t 0:=fun q=>by
  cases ha:xS (zI z) 5 (xK wh) (f:Int) (t:Int)with
  | true =>
   have:=sk h.hf h.ht ha;omega
  | false =>
   have e5:(5:Int).toNat=5:=rfl;rw[e5,ha]at hm;simp only[qR,if_false,qH,qG]at hm;exact hm.1.2
 refine⟨fun q=>?_,fun q=>?_,fun q1 q2=>?_⟩
 ·have h0:=two (.inl q);obtain⟨j,hj,a,c,e⟩:=fu h0;have:=(qku j hj).1.1 (by omega);exact⟨h0,by rw[e];omega⟩
 ·have h0:=two (.inr q);obtain⟨j,hj,a,c,e⟩:=fu h0;have:=(qku j hj).2.1 (by omega);exact⟨h0,by rw[e];omega⟩
 ·by_cases h0:0<=zK wh fc f t 0
  ·obtain⟨j,hj,a,c,e⟩:=fu h0;have p1:=(qku j hj).1;have p2:=(qku j hj).2;rcases Nat.mod_two_eq_zero_or_one j with m|m
   ·have:=p1.2 m;omega
   ·have:=p2.2 m;omega
  ·omega
theorem pZ.dot{z:Nat->UInt8}{wh:Bool}{fc:Nat->Bool}{b:Int}{f t:Nat}{u:UInt8}(hC:kJ z wh fc b)(h:pZ z wh fc b f t u 0)(hs:f%8=t%8):z t=46:=by
 have:=(h.pawn hC).2 hs;unfold oB at this;rcases this with⟨rfl,q⟩|⟨_,rfl,_,q⟩
 ·exact q
 ·exact q
theorem da{z:Nat->UInt8}{wh:Bool}{fc:Nat->Bool}{b:Int}(hC:kJ z wh fc b)(h0:-1<=b)(h1:b<=63){f t:Nat}{u:UInt8}(hf:f<64)(ht:t<64)(hu:u∈U5):vo z wh fc b f t u=true↔(f,t,u)∈xC z wh fc b:=by
 rw[C8 hC h0 h1 hf ht hu,je hC h0 h1]
theorem Cm{z:Nat->UInt8}{wh:Bool}{fc:Nat->Bool}{b:Int}(hC:kJ z wh fc b)(h0:-1<=b)(h1:b<=63){f t:Nat}{u:UInt8}{i:Nat}(lx:pZ z wh fc b f t u i)(hi:i≠0) :
  wh3 (!(kI z wh fc b f t 64).isEmpty) (decide (iH (kI z wh fc b f t 64) f≠0)) (decide (iG (kI z wh fc b f t 64) f≠0)) f=iT (jX (xC z wh fc b) z f t) f:=by
 have key:∀n,n∈kI z wh fc b f t 64↔∃y∈jX (xC z wh fc b) z f t,y.1=n:=by
  intro n;unfold kI jX AA;rw[qV,qK];simp only[qH,Bool.not_eq_true',qX,qG,qV];constructor
  ·rintro⟨hn,⟨a,c⟩,d⟩;exact⟨(n,t,0),⟨(da hC h0 h1 hn lx.ht (by decide)).1 d,⟨rfl,a⟩,c⟩,rfl⟩
  ·rintro⟨⟨n',t',u'⟩,⟨hm,⟨e,a⟩,c⟩,rfl⟩;obtain rfl:t'=t:=e;obtain⟨j,ly⟩:=um hC h0 h1 hm
   have hj:j=i:=by
    have e1:=lx.hc;have e2:=ly.hc;rw[show z n'=z f from c,e1]at e2;omega
   have hu0:=ly.u0 (by omega);subst hu0;exact⟨ly.hf,⟨a,c⟩,(da hC h0 h1 ly.hf lx.ht (by decide)).2 hm⟩
 rw[C0]
 have e1:(!(kI z wh fc b f t 64).isEmpty)=(!(jX (xC z wh fc b) z f t).isEmpty):=by
  congr 1;cases hl:jX (xC z wh fc b) z f t with
  | nil =>
   cases ha:kI z wh fc b f t 64 with
   | nil=>rfl
   | cons n l =>
    obtain⟨y,hy,_⟩:=(key n).1 (by rw[ha];exact List.mem_cons_self ..);rw[hl]at hy;cases hy
  | cons y l =>
   have:=(key y.1).2 ⟨y,by rw[hl];exact List.mem_cons_self ..,rfl⟩;cases ha:kI z wh fc b f t 64 with
   | nil=>rw[ha]at this;cases this
   | cons n l=>rfl
 have e2:∀p:Nat->Bool,decide (((kI z wh fc b f t 64).filter p).length≠0)=(jX (xC z wh fc b) z f t).any fun y=>p y.1:=by
  intro p;by_cases hany:(jX (xC z wh fc b) z f t).any (fun y=>p y.1)=true
  ·rw[hany,qG];obtain⟨y,hy,hp⟩:=qY.1 hany;have:y.1∈(kI z wh fc b f t 64).filter p:=qV.2 ⟨(key _).2 ⟨y,hy,rfl⟩,hp⟩;intro q;rw[List.length_eq_zero_iff]at q;rw[q]at this;cases this
  ·rw[Bool.not_eq_true]at hany;rw[hany,qX,Decidable.not_not,List.length_eq_zero_iff,List.filter_eq_nil_iff];intro n hn;obtain⟨y,hy,rfl⟩:=(key n).1 hn;have:=List.any_eq_false.1 hany y hy;simpa using this
 unfold iH iG;rw[e1,e2,e2]
theorem mR(z:Nat->UInt8)(c:Bool)(M:List Mv):(yO z c (M.length:Int)=1↔c=true/\M.isEmpty=true):=by
 unfold yO;cases M with
 | nil=>cases c<;>simp
 | cons a l =>
  have:¬ (((a :: l).length:Nat):Int)=0:=by simp;omega
  rw[qF this];constructor
  ·intro q;split at q<;>omega
  ·rintro⟨_,q⟩;cases q
theorem lD:∀i,i<6->(⟨#[80,78,66,82,81,75,112,110,98,114,113,107]⟩:ByteArray).extract i (i+1)=xJ [kX i]:=by decide +kernel
theorem BJ:∀u∈U5,u≠0->dP u<6/\kX (dP u)=vz u:=by decide +kernel
end
end Go.Proofs.YtnfakamfmkhlbabGreatDoor.C
