import Derived.Test.YtnfakamfmkhlbabGreatDoorUm39
import Derived.Test.YtnfakamfmkhlbabGreatDoorUm36
import Derived.Test.YtnfakamfmkhlbabGreatDoorKz2
import Derived.Test.YtnfakamfmkhlbabGreatDoorKz3
set_option maxRecDepth 100000
set_option maxHeartbeats 4000000
set_option linter.unusedSimpArgs false
namespace Go.Proofs.YtnfakamfmkhlbabGreatDoor.C
open Go.ChangeShapes Go.WideShapes Go.ChangeAt Go.RowKit Go.Shelf Go.Proofs.YtnfakamfmkhlbabGreatDoor.P
section
attribute [local go_sem] qd qe Oper.semAt_some
structure AC(w:World)(b1:Nat)(A:Array Value)(W:World):Prop where
 pa:W.heap[b1]?=some (.cells A 70)
 gr:Gr w W
theorem AC.next{w W W':World}{b1:Nat}{A:Array Value}(h:AC w b1 A W)(g:Gr W W'):AC w b1 A W' :=
 ⟨(Below.block g _ (qB.1 h.pa).1).trans h.pa,Gr.trans h.gr g⟩
theorem AC.put{w W:World}{b1:Nat}{A:Array Value}(h:AC w b1 A W)(B:Nat)(M:Array Value)(hB:w.heap.size<=B)(hne:b1≠B):AC w b1 A (W.setRow B M) :=
 ⟨by rw[setRow_other _ _ _ _ hne];exact h.pa,h.gr.setRow _ hB _⟩
def vU(s t:ByteArray)(e:Ending):Prop :=
 (∃k,iP s k/\e=.returned (.tuple #[.string ⟨#[]⟩,.int .i64 k])) ∨
 (∃p,xG s=some p/\xP p=true/\cU (xM p) p.white (yC p.castle) p.behind t=[]/\e=.returned (.tuple #[.string ⟨#[]⟩,.int .i64 4])) ∨
 (∃p x,xG s=some p/\xP p=true/\x∈cU (xM p) p.white (yC p.castle) p.behind t/\e=.returned (.tuple #[.string (xJ (yJ x)),.int .i64 0]))
theorem dM(s tx:ByteArray)(hs:s.size<4294967281)(m:Int)(w:World)(hc:Ct m w)(htb:uV w):Calls Tryz.prog 16 #[.string s,.string tx] w fun e w'=>vU s tx e/\Gr w w':=by
 have h1:Hid (Calls Tryz.prog 34 #[.string s] w fun e w'=>zA s e/\Gr w w'):=qC (qzg s hs m _ hc.mx hc.ml hc.tab hc.homes);rcases xy s with⟨p,hr,hcan,hone⟩|⟨k,hk,hbad,hone⟩
 ·have h2:Hid (Calls Tryz.prog 34 #[.string s] w fun e w'=>e=.returned (.tuple #[.agg (jV p),.int .i64 0])/\Gr w w'):=qC ((qa h1).mono fun e w' h=>⟨hone e h.1,h.2⟩);have o:=Ok.of hr hcan;have hrow:=jo hr;have hz:=hrow.size;have ho:=qC (qx hrow);obtain⟨⟨f,t,u⟩,hhd⟩:∃x,Hid ((cU (xM p) p.white (yC p.castle) p.behind tx).headD (0,0,0)=x):=⟨_,qC rfl⟩;have hrd:Hid (∀W,Gr w W->Calls Tryz.prog 37 #[.agg jP,.agg (jV p),.string tx] W fun e w'=>e=.returned (.tuple #[.agg #[.int .i64 (f:Int),.int .i64 (t:Int),.int .u8 (u.toNat:Int)],.bool (!(cU (xM p) p.white (yC p.castle) p.behind tx).isEmpty)])/\Gr W w'):=qC (fun W gW=>(nM (F5 hrow) o tx W (hc.gr gW).tab (htb.gr gW).cas (hc.gr gW).homes).mono fun e w' k=>⟨by rw[k.1,qa hhd];rfl,k.2⟩);have hqk:=qC (fun W=>qxk W);have hend0:Hid ((cU (xM p) p.white (yC p.castle) p.behind tx).isEmpty=true->vU s tx (.returned (.tuple #[.string ⟨#[]⟩,.int .i64 4]))):=qC (fun e=>.inr (.inl ⟨p,hr,hcan,List.isEmpty_iff.1 e,rfl⟩))
  have hend1:Hid ((cU (xM p) p.white (yC p.castle) p.behind tx).isEmpty=false->vU s tx (.returned (.tuple #[.string (xJ (uY f t u)),.int .i64 0]))/\f<64/\t<64):=qC (fun e=>by
   have hin:(f,t,u)∈cU (xM p) p.white (yC p.castle) p.behind tx:=by
    have q:=qa hhd;cases hl:cU (xM p) p.white (yC p.castle) p.behind tx with
    | nil=>rw[hl]at e;cases e
    | cons a l=>rw[hl]at q;rw[<-show a=(f,t,u)from q];exact List.mem_cons_self ..
   have:=zg _ _ _ _ _ (qV.1 hin).1;exact⟨.inr (.inr ⟨p,_,hr,hcan,hin,rfl⟩),this.1,this.2⟩)
  generalize (cU (xM p) p.white (yC p.castle) p.behind tx).isEmpty=E at hrd hend0 hend1;obtain⟨R,hR⟩:∃R,Hid ((!E)=R):=⟨_,qC rfl⟩;rw[qa hR]at hrd;generalize jV p=A at h2 hz ho hrd;clear h1 hone hrow hr hcan hc htb hs o hhd;have hi72:(Tryz.prog.info? 70).map (·.size)=some A.toList.length:=by rw[Array.length_toList,hz];exact jJ
  simp only[jP,zG]at hrd hqk;go_enter Tryz.func16,Tryz.ntmps16
  go_upto_region 2 with(first
   | (go_at_call 34;refine(qa h2).mono ?_;rintro e w3 ⟨rfl,hg3⟩)
   | (refine wpList_store_row rfl 70 _ _ rfl w3.heap.size A rfl rfl 70 _ (heap_alloc_new _ _) (by rw[hz];exact q9) (by rw[hz];exact xF.symm) (qa ho) ?_))
  generalize hw4:(w3.alloc (.cells Tryz.zeroCells70 70)).setRow w3.heap.size A=w4
  have hk4:AC w w3.heap.size A w4:=by
   have hg4:Gr w3 w4:=by rw[<-hw4];exact((Gr.refl w3).alloc _ _).setRow _ (qL _) _
   exact⟨by rw[<-hw4];exact setRow_heap _ _ _ _ _ _ (heap_alloc_new w3 _),Gr.trans hg3 hg4⟩
  generalize w3.heap.size=b1 at hk4 ⊢;clear hw4 hg3 h2;go_upto_region 4 with fail;cases E with
  | true =>
   have hend:=qC (qa hend0 rfl);have hR':R=false:=(qa hR).symm;subst hR';clear hend0 hend1 hR;refine wp_region_held_drew (S:=AC w b1 A) (by kernel_rfl) (hk4.next (Gr.refl _).drew) (fun qD=>?_);refine C.ty 1 (.agg A) rfl (wY hi72 (by rfl) _ rfl b1 rfl (fun _ h=>h.pa)) qD ?_;refine C.tq 2 (.string tx) qD ?_;refine wpAnyH_ready (rs:=[0,7]) (by kernel_rfl) (by simp) ?_;refine AllReadyH.cons rfl (fun K hK=>?_) (AllReadyH.cons rfl (fun K hK=>?_) AllReadyH.nil)
   ·go_simp;refine(qa hqk _).mono ?_;rintro e wa ⟨rfl,hga⟩;refine hK.out _ _ (qD.next hga) (fun qD=>?_);clear hK K hga
    try simp only[C.py]
    refine wpAnyH_ready (rs:=[3,7]) (by kernel_rfl) (by simp) ?_;refine AllReadyH.cons rfl (fun K hK=>?_) (AllReadyH.cons rfl (fun K hK=>?_) AllReadyH.nil)
    ·go_simp;refine(qa hrd _ qD.gr).mono ?_;rintro e wb ⟨rfl,hgb⟩;refine hK.out _ _ (qD.next hgb) (fun qD=>?_);clear hK K hgb
     try simp only[C.py]
     refine C.tq 4 (.tuple #[.agg #[.int .i64 (f:Int),.int .i64 (t:Int),.int .u8 (u.toNat:Int)],.bool false]) qD ?_;refine C.tq 5 (.agg #[.int .i64 (f:Int),.int .i64 (t:Int),.int .u8 (u.toNat:Int)]) qD ?_;refine C.tq 6 (.bool false) qD ?_;refine C.rd 7 fun K hK=>?_
     go_simp;have hal:(wb.alloc (.cells #[.int .i64 0,.int .i64 0,.int .u8 0] 87)).heap[wb.heap.size]?=some (.cells #[.int .i64 0,.int .i64 0,.int .u8 0] 87):=World.alloc_heap_new wb (.cells #[.int .i64 0,.int .i64 0,.int .u8 0] 87);have hbw:w.heap.size<=wb.heap.size:=(show w.heap.size<=wb.heap.size from Below.size qD.gr);have hne:b1≠wb.heap.size:=by have:b1<wb.heap.size:=(qB.1 qD.pa).1;omega
     refine hK.out _ _ (qD.next ((Gr.refl _).alloc #[.int .i64 0,.int .i64 0,.int .u8 0] 87)) (fun qD=>?_);clear hK K
     try simp only[C.py]
     refine C.rd 8 fun K hK=>?_
     rw[qI (by rfl)];refine wp_store_row 87 _ _ rfl wb.heap.size #[.int .i64 (f:Int),.int .i64 (t:Int),.int .u8 (u.toNat:Int)] rfl rfl 87 _ hal xW rfl (by simp[Value.oneCell']) ?_;have hal2:=setRow_heap _ _ _ #[.int .i64 (f:Int),.int .i64 (t:Int),.int .u8 (u.toNat:Int)] _ _ hal;refine hK.out _ _ (qD.put wb.heap.size #[.int .i64 (f:Int),.int .i64 (t:Int),.int .u8 (u.toNat:Int)] hbw hne) (fun qD=>?_);clear hK K
     try simp only[C.py]
     refine C.tq 9 (.bool false) qD ?_;refine wpAnyH_done (by kernel_rfl) ?_ _;have hgx:=qC qD.gr;clear hal hal2 qD;go_wp2_with fail;go_ret2;exact⟨qa hend,qa hgx⟩
    ·go_simp;have hal:(wa.alloc (.cells #[.int .i64 0,.int .i64 0,.int .u8 0] 87)).heap[wa.heap.size]?=some (.cells #[.int .i64 0,.int .i64 0,.int .u8 0] 87):=World.alloc_heap_new wa (.cells #[.int .i64 0,.int .i64 0,.int .u8 0] 87);have hbw:w.heap.size<=wa.heap.size:=(show w.heap.size<=wa.heap.size from Below.size qD.gr);have hne:b1≠wa.heap.size:=by have:b1<wa.heap.size:=(qB.1 qD.pa).1;omega
     refine hK.out _ _ (qD.next ((Gr.refl _).alloc #[.int .i64 0,.int .i64 0,.int .u8 0] 87)) (fun qD=>?_);clear hK K
     try simp only[C.py]
     refine C.rd 3 fun K hK=>?_
     go_simp;refine(qa hrd _ qD.gr).mono ?_;rintro e wb ⟨rfl,hgb⟩;refine hK.out _ _ (qD.next hgb) (fun qD=>?_);have hal:=(Below.block hgb _ (qB.1 hal).1).trans hal;clear hK K hgb
     try simp only[C.py]
     refine C.tq 4 (.tuple #[.agg #[.int .i64 (f:Int),.int .i64 (t:Int),.int .u8 (u.toNat:Int)],.bool false]) qD ?_;refine C.tq 5 (.agg #[.int .i64 (f:Int),.int .i64 (t:Int),.int .u8 (u.toNat:Int)]) qD ?_;refine C.tq 6 (.bool false) qD ?_;refine C.rd 8 fun K hK=>?_
     rw[qI (by rfl)];refine wp_store_row 87 _ _ rfl wa.heap.size #[.int .i64 (f:Int),.int .i64 (t:Int),.int .u8 (u.toNat:Int)] rfl rfl 87 _ hal xW rfl (by simp[Value.oneCell']) ?_;have hal2:=setRow_heap _ _ _ #[.int .i64 (f:Int),.int .i64 (t:Int),.int .u8 (u.toNat:Int)] _ _ hal;refine hK.out _ _ (qD.put wa.heap.size #[.int .i64 (f:Int),.int .i64 (t:Int),.int .u8 (u.toNat:Int)] hbw hne) (fun qD=>?_);clear hK K
     try simp only[C.py]
     refine C.tq 9 (.bool false) qD ?_;refine wpAnyH_done (by kernel_rfl) ?_ _;have hgx:=qC qD.gr;clear hal hal2 qD;go_wp2_with fail;go_ret2;exact⟨qa hend,qa hgx⟩
   ·go_simp;have hal:(w4.drew.alloc (.cells #[.int .i64 0,.int .i64 0,.int .u8 0] 87)).heap[w4.heap.size]?=some (.cells #[.int .i64 0,.int .i64 0,.int .u8 0] 87):=World.alloc_heap_new w4.drew (.cells #[.int .i64 0,.int .i64 0,.int .u8 0] 87);have hbw:w.heap.size<=w4.heap.size:=(show w.heap.size<=w4.drew.heap.size from Below.size qD.gr);have hne:b1≠w4.heap.size:=by have:b1<w4.heap.size:=(qB.1 qD.pa).1;omega
    refine hK.out _ _ (qD.next ((Gr.refl _).alloc #[.int .i64 0,.int .i64 0,.int .u8 0] 87)) (fun qD=>?_);clear hK K
    try simp only[C.py]
    refine C.rd 0 fun K hK=>?_
    go_simp;refine(qa hqk _).mono ?_;rintro e wa ⟨rfl,hga⟩;refine hK.out _ _ (qD.next hga) (fun qD=>?_);have hal:=(Below.block hga _ (qB.1 hal).1).trans hal;clear hK K hga
    try simp only[C.py]
    refine C.rd 3 fun K hK=>?_
    go_simp;refine(qa hrd _ qD.gr).mono ?_;rintro e wb ⟨rfl,hgb⟩;refine hK.out _ _ (qD.next hgb) (fun qD=>?_);have hal:=(Below.block hgb _ (qB.1 hal).1).trans hal;clear hK K hgb
    try simp only[C.py]
    refine C.tq 4 (.tuple #[.agg #[.int .i64 (f:Int),.int .i64 (t:Int),.int .u8 (u.toNat:Int)],.bool false]) qD ?_;refine C.tq 5 (.agg #[.int .i64 (f:Int),.int .i64 (t:Int),.int .u8 (u.toNat:Int)]) qD ?_;refine C.tq 6 (.bool false) qD ?_;refine C.rd 8 fun K hK=>?_
    rw[qI (by rfl)];refine wp_store_row 87 _ _ rfl w4.heap.size #[.int .i64 (f:Int),.int .i64 (t:Int),.int .u8 (u.toNat:Int)] rfl rfl 87 _ hal xW rfl (by simp[Value.oneCell']) ?_;have hal2:=setRow_heap _ _ _ #[.int .i64 (f:Int),.int .i64 (t:Int),.int .u8 (u.toNat:Int)] _ _ hal;refine hK.out _ _ (qD.put w4.heap.size #[.int .i64 (f:Int),.int .i64 (t:Int),.int .u8 (u.toNat:Int)] hbw hne) (fun qD=>?_);clear hK K
    try simp only[C.py]
    refine C.tq 9 (.bool false) qD ?_;refine wpAnyH_done (by kernel_rfl) ?_ _;have hgx:=qC qD.gr;clear hal hal2 qD;go_wp2_with fail;go_ret2;exact⟨qa hend,qa hgx⟩
  | false =>
   obtain⟨he,hf,ht⟩:=qa hend1 rfl;have hend:=qC he;have hR':R=true:=(qa hR).symm;subst hR';have htx:=qC (fun W=>gK f t hf ht u W);generalize xJ (uY f t u)=TX at hend htx;clear hend0 hend1 hR he;refine wp_region_held_drew (S:=AC w b1 A) (by kernel_rfl) (hk4.next (Gr.refl _).drew) (fun qD=>?_);refine C.ty 1 (.agg A) rfl (wY hi72 (by rfl) _ rfl b1 rfl (fun _ h=>h.pa)) qD ?_;refine C.tq 2 (.string tx) qD ?_;refine wpAnyH_ready (rs:=[0,7]) (by kernel_rfl) (by simp) ?_;refine AllReadyH.cons rfl (fun K hK=>?_) (AllReadyH.cons rfl (fun K hK=>?_) AllReadyH.nil)
   ·go_simp;refine(qa hqk _).mono ?_;rintro e wa ⟨rfl,hga⟩;refine hK.out _ _ (qD.next hga) (fun qD=>?_);clear hK K hga
    try simp only[C.py]
    refine wpAnyH_ready (rs:=[3,7]) (by kernel_rfl) (by simp) ?_;refine AllReadyH.cons rfl (fun K hK=>?_) (AllReadyH.cons rfl (fun K hK=>?_) AllReadyH.nil)
    ·go_simp;refine(qa hrd _ qD.gr).mono ?_;rintro e wb ⟨rfl,hgb⟩;refine hK.out _ _ (qD.next hgb) (fun qD=>?_);clear hK K hgb
     try simp only[C.py]
     refine C.tq 4 (.tuple #[.agg #[.int .i64 (f:Int),.int .i64 (t:Int),.int .u8 (u.toNat:Int)],.bool true]) qD ?_;refine C.tq 5 (.agg #[.int .i64 (f:Int),.int .i64 (t:Int),.int .u8 (u.toNat:Int)]) qD ?_;refine C.tq 6 (.bool true) qD ?_;refine C.rd 7 fun K hK=>?_
     go_simp;have hal:(wb.alloc (.cells #[.int .i64 0,.int .i64 0,.int .u8 0] 87)).heap[wb.heap.size]?=some (.cells #[.int .i64 0,.int .i64 0,.int .u8 0] 87):=World.alloc_heap_new wb (.cells #[.int .i64 0,.int .i64 0,.int .u8 0] 87);have hbw:w.heap.size<=wb.heap.size:=(show w.heap.size<=wb.heap.size from Below.size qD.gr);have hne:b1≠wb.heap.size:=by have:b1<wb.heap.size:=(qB.1 qD.pa).1;omega
     refine hK.out _ _ (qD.next ((Gr.refl _).alloc #[.int .i64 0,.int .i64 0,.int .u8 0] 87)) (fun qD=>?_);clear hK K
     try simp only[C.py]
     refine C.rd 8 fun K hK=>?_
     rw[qI (by rfl)];refine wp_store_row 87 _ _ rfl wb.heap.size #[.int .i64 (f:Int),.int .i64 (t:Int),.int .u8 (u.toNat:Int)] rfl rfl 87 _ hal xW rfl (by simp[Value.oneCell']) ?_;have hal2:=setRow_heap _ _ _ #[.int .i64 (f:Int),.int .i64 (t:Int),.int .u8 (u.toNat:Int)] _ _ hal;refine hK.out _ _ (qD.put wb.heap.size #[.int .i64 (f:Int),.int .i64 (t:Int),.int .u8 (u.toNat:Int)] hbw hne) (fun qD=>?_);clear hK K
     try simp only[C.py]
     refine C.tq 9 (.bool true) qD ?_;refine wpAnyH_done (by kernel_rfl) ?_ _;obtain⟨m0,m1,m2⟩:=qm hal2;have hgx:=qC qD.gr;clear hal hal2 qD;go_wp2_with(go_at_call 38;refine(qa htx _).mono ?_;rintro e w9 ⟨rfl,hg9⟩);go_ret2;exact⟨qa hend,Gr.trans (qa hgx) hg9⟩
    ·go_simp;have hal:(wa.alloc (.cells #[.int .i64 0,.int .i64 0,.int .u8 0] 87)).heap[wa.heap.size]?=some (.cells #[.int .i64 0,.int .i64 0,.int .u8 0] 87):=World.alloc_heap_new wa (.cells #[.int .i64 0,.int .i64 0,.int .u8 0] 87);have hbw:w.heap.size<=wa.heap.size:=(show w.heap.size<=wa.heap.size from Below.size qD.gr);have hne:b1≠wa.heap.size:=by have:b1<wa.heap.size:=(qB.1 qD.pa).1;omega
     refine hK.out _ _ (qD.next ((Gr.refl _).alloc #[.int .i64 0,.int .i64 0,.int .u8 0] 87)) (fun qD=>?_);clear hK K
     try simp only[C.py]
     refine C.rd 3 fun K hK=>?_
     go_simp;refine(qa hrd _ qD.gr).mono ?_;rintro e wb ⟨rfl,hgb⟩;refine hK.out _ _ (qD.next hgb) (fun qD=>?_);have hal:=(Below.block hgb _ (qB.1 hal).1).trans hal;clear hK K hgb
     try simp only[C.py]
     refine C.tq 4 (.tuple #[.agg #[.int .i64 (f:Int),.int .i64 (t:Int),.int .u8 (u.toNat:Int)],.bool true]) qD ?_;refine C.tq 5 (.agg #[.int .i64 (f:Int),.int .i64 (t:Int),.int .u8 (u.toNat:Int)]) qD ?_;refine C.tq 6 (.bool true) qD ?_;refine C.rd 8 fun K hK=>?_
     rw[qI (by rfl)];refine wp_store_row 87 _ _ rfl wa.heap.size #[.int .i64 (f:Int),.int .i64 (t:Int),.int .u8 (u.toNat:Int)] rfl rfl 87 _ hal xW rfl (by simp[Value.oneCell']) ?_;have hal2:=setRow_heap _ _ _ #[.int .i64 (f:Int),.int .i64 (t:Int),.int .u8 (u.toNat:Int)] _ _ hal;refine hK.out _ _ (qD.put wa.heap.size #[.int .i64 (f:Int),.int .i64 (t:Int),.int .u8 (u.toNat:Int)] hbw hne) (fun qD=>?_);clear hK K
     try simp only[C.py]
     refine C.tq 9 (.bool true) qD ?_;refine wpAnyH_done (by kernel_rfl) ?_ _;obtain⟨m0,m1,m2⟩:=qm hal2;have hgx:=qC qD.gr;clear hal hal2 qD;go_wp2_with(go_at_call 38;refine(qa htx _).mono ?_;rintro e w9 ⟨rfl,hg9⟩);go_ret2;exact⟨qa hend,Gr.trans (qa hgx) hg9⟩
   ·go_simp;have hal:(w4.drew.alloc (.cells #[.int .i64 0,.int .i64 0,.int .u8 0] 87)).heap[w4.heap.size]?=some (.cells #[.int .i64 0,.int .i64 0,.int .u8 0] 87):=World.alloc_heap_new w4.drew (.cells #[.int .i64 0,.int .i64 0,.int .u8 0] 87);have hbw:w.heap.size<=w4.heap.size:=(show w.heap.size<=w4.drew.heap.size from Below.size qD.gr);have hne:b1≠w4.heap.size:=by have:b1<w4.heap.size:=(qB.1 qD.pa).1;omega
    refine hK.out _ _ (qD.next ((Gr.refl _).alloc #[.int .i64 0,.int .i64 0,.int .u8 0] 87)) (fun qD=>?_);clear hK K
    try simp only[C.py]
    refine C.rd 0 fun K hK=>?_
    go_simp;refine(qa hqk _).mono ?_;rintro e wa ⟨rfl,hga⟩;refine hK.out _ _ (qD.next hga) (fun qD=>?_);have hal:=(Below.block hga _ (qB.1 hal).1).trans hal;clear hK K hga
    try simp only[C.py]
    refine C.rd 3 fun K hK=>?_
    go_simp;refine(qa hrd _ qD.gr).mono ?_;rintro e wb ⟨rfl,hgb⟩;refine hK.out _ _ (qD.next hgb) (fun qD=>?_);have hal:=(Below.block hgb _ (qB.1 hal).1).trans hal;clear hK K hgb
    try simp only[C.py]
    refine C.tq 4 (.tuple #[.agg #[.int .i64 (f:Int),.int .i64 (t:Int),.int .u8 (u.toNat:Int)],.bool true]) qD ?_;refine C.tq 5 (.agg #[.int .i64 (f:Int),.int .i64 (t:Int),.int .u8 (u.toNat:Int)]) qD ?_;refine C.tq 6 (.bool true) qD ?_;refine C.rd 8 fun K hK=>?_
    rw[qI (by rfl)];refine wp_store_row 87 _ _ rfl w4.heap.size #[.int .i64 (f:Int),.int .i64 (t:Int),.int .u8 (u.toNat:Int)] rfl rfl 87 _ hal xW rfl (by simp[Value.oneCell']) ?_;have hal2:=setRow_heap _ _ _ #[.int .i64 (f:Int),.int .i64 (t:Int),.int .u8 (u.toNat:Int)] _ _ hal;refine hK.out _ _ (qD.put w4.heap.size #[.int .i64 (f:Int),.int .i64 (t:Int),.int .u8 (u.toNat:Int)] hbw hne) (fun qD=>?_);clear hK K
    try simp only[C.py]
    refine C.tq 9 (.bool true) qD ?_;refine wpAnyH_done (by kernel_rfl) ?_ _;obtain⟨m0,m1,m2⟩:=qm hal2;have hgx:=qC qD.gr;clear hal hal2 qD;go_wp2_with(go_at_call 38;refine(qa htx _).mono ?_;rintro e w9 ⟨rfl,hg9⟩);go_ret2;exact⟨qa hend,Gr.trans (qa hgx) hg9⟩
 ·have h2:Hid (Calls Tryz.prog 34 #[.string s] w fun e w'=>e=.returned (.tuple #[.agg Tryz.zeroCells70,.int .i64 k])/\Gr w w'):=qC ((qa h1).mono fun e w' h=>⟨hone e h.1,h.2⟩);have hend:Hid (vU s tx (.returned (.tuple #[.string ⟨#[]⟩,.int .i64 k]))):=qC (.inl ⟨k,hbad,rfl⟩);have k2:(k != 0)=true:=by rw[qU];exact hk
  clear h1 hone hbad hc htb hs hk;go_enter Tryz.func16,Tryz.ntmps16
  go_upto_region 2 with(first
   | (go_at_call 34;refine(qa h2).mono ?_;rintro e w3 ⟨rfl,hg3⟩)
   | (refine wpList_store_row rfl 70 _ _ rfl w3.heap.size Tryz.zeroCells70 rfl rfl 70 _ (heap_alloc_new _ _) (by rw[xF];exact q9) rfl xH ?_))
  have hg4:Gr w3 ((w3.alloc (.cells Tryz.zeroCells70 70)).setRow w3.heap.size Tryz.zeroCells70):=((Gr.refl w3).alloc _ _).setRow _ (qL _) _;have hgw:=Gr.trans hg3 hg4;generalize (w3.alloc (.cells Tryz.zeroCells70 70)).setRow w3.heap.size Tryz.zeroCells70=w4 at hg4 hgw ⊢;clear h2 hg3 hg4;go_wp2_with fail;go_ret2;exact⟨qa hend,hgw⟩
end
section
set_option maxRecDepth 100000
theorem mB{s t:ByteArray}{p:pH}{x:Mv}{e:Ending}(hr:xG s=some p)(hc:xP p=true)(hm:yn t=some x)(hx:x∈xC (xM p) p.white p.castle p.behind)(h:vl s t e):e=.returned (.tuple #[.string (xJ (uj (xM p) p.white (yC p.castle) p.behind x)),.int .i64 0]):=by
 rcases h with⟨k,_,(a|⟨_,q,_,_,a⟩|⟨_,q,y,a,_,b,c⟩),_⟩|⟨q,y,a,_,b,_,rfl⟩
 ·exact(pD a hr hc).elim
 ·rw[hm]at a;cases a
 ·rw[hr]at a
  rw[hm]at b
  rw[<-qP a,<-qP b]at c
  exact(c hx).elim
 ·rw[hr]at a
  rw[hm]at b
  rw[<-qP a,<-qP b]
theorem ox{a c:List UInt8}(h:xJ a=xJ c):a=c:=by
 have:(xJ a).data.toList=(xJ c).data.toList:=by rw[h]
 exact this
theorem Ad{z:Nat->UInt8}{wh:Bool}{fc:Nat->Bool}{b h g:Int}(o:Ok z wh fc b h g){x y:Mv}(hx:x∈xC z wh fc b)(hy:y∈cU z wh fc b (xJ (uj z wh fc b x))):y=x:=by
 obtain⟨a,c⟩:=qV.1 hy;exact De o a hx (ox (q8 c))
end
end Go.Proofs.YtnfakamfmkhlbabGreatDoor.C
