import Derived.Test.YtnfakamfmkhlbabGreatDoorUm34
import Derived.Test.YtnfakamfmkhlbabGreatDoorKz2
import Derived.Test.YtnfakamfmkhlbabGreatDoorKz3
set_option maxRecDepth 100000
set_option maxHeartbeats 4000000
set_option linter.unusedSimpArgs false
namespace Go.Proofs.YtnfakamfmkhlbabGreatDoor.C
open Go.ChangeShapes Go.WideShapes Go.ChangeAt Go.RowKit Go.Shelf Go.Proofs.YtnfakamfmkhlbabGreatDoor.P
attribute [local go_sem] qd qe Oper.semAt_some
theorem vi:(Tryz.prog.info? 125).map (·.size)=some 3:=by kernel_rfl
theorem Du(x:Nat × Nat × UInt8):(z8 x).all (·.oneCell')=true:=by simp[z8,Value.oneCell']
theorem aa:Tryz.prog.built 125 []=some zC:=by kernel_rfl
theorem qkx(f t:Int):Tryz.prog.built 125 [(0,.int .i64 f),(1,.int .i64 t)]=some #[.int .i64 f,.int .i64 t,.int .u8 0]:=by kernel_rfl
theorem qq2(tmps:Array Value)(w:World)(g:Nat)(A M Q:Array Value)(hp:tmps.getD 4 undef=.pointer (some ⟨g,0,none⟩))(hp2:tmps.getD 5 undef=.pointer (some ⟨g+1,0,none⟩))(hp3:tmps.getD 6 undef=.pointer (some ⟨g+2,0,none⟩))
  (h1:w.heap[g]?=some (.cells A 70)) (h2:w.heap[g+1]?=some (.cells M 125)) (h3:w.heap[g+2]?=some (.cells Q 70)) (a:A.size=72) (m:M.size=3) (q:Q.size=72) :
  (results Tryz.f51 tmps).run Tryz.prog w=.ok (.tuple #[.agg A,.agg M,.agg Q,tmps.getD 7 undef]) w:=by
 have hp':tmps[4]?.getD undef=.pointer (some ⟨g,0,none⟩):=by simpa using hp
 have hp2':tmps[5]?.getD undef=.pointer (some ⟨g+1,0,none⟩):=by simpa using hp2
 have hp3':tmps[6]?.getD undef=.pointer (some ⟨g+2,0,none⟩):=by simpa using hp3
 simp[results,Tryz.results51,hp',hp2',hp3',asAddr,run_loadVar_row w g _ 70 A _ _ h1 Tryz.underlying70 rfl (by rw[a];exact q9),run_loadVar_row w (g+1) _ 125 M _ _ h2 Tryz.underlying125 rfl (by rw[m];exact vi),run_loadVar_row w (g+2) _ 70 Q _ _ h3 Tryz.underlying70 rfl (by rw[q];exact q9)]
theorem o7{s:ByteArray}{n:Nat}(h:uX s=some n):n<64:=by
 unfold uX at h;split at h
 ·split at h
  ·injection h with h;omega
  ·cases h
 ·cases h
theorem AX:∀c:UInt8,0<=Lib.indexByte uf c->c∈U5:=vg (by decide +kernel)
theorem mV{t:ByteArray}{f tt:Nat}{u:UInt8}(h:yn t=some (f,tt,u)):dJ (t.extract 0 2)=(f:Int)/\dJ (t.extract 2 4)=(tt:Int)/\f<64/\tt<64/\u∈U5/\((t.size=4/\u=0)\/(∃h:t.size=5,u=t[4])):=by
 unfold yn at h;split at h
 case isFalse=>cases h
 case isTrue h45 =>
  split at h
  case h_2=>cases h
  case h_1 a b ea eb =>
   split at h
   case isFalse=>cases h
   case isTrue hd =>
    injection h with h;injection h with h1 h;injection h with h2 h3;subst h1 h2;refine⟨by unfold dJ;rw[ea],by unfold dJ;rw[eb],o7 ea,o7 eb,?_,?_⟩
    ·rcases h45 with e|e
     ·rw[rc e]at h3;rw[<-h3];decide
     ·rw[rZ e]at h3 hd;rw[<-h3];exact AX _ (q8 hd)
    ·rcases h45 with e|e
     ·rw[rc e]at h3;exact .inl ⟨e,h3.symm⟩
     ·rw[rZ e]at h3;exact .inr ⟨e,h3.symm⟩
structure T4(w:World)(b1:Nat)(A:Array Value)(W:World):Prop where
 r1:∃R,R.size=72/\W.heap[w.heap.size]?=some (.cells R 70)
 r2:∃R,R.size=3/\W.heap[w.heap.size+1]?=some (.cells R 125)
 r3:∃R,R.size=72/\W.heap[w.heap.size+2]?=some (.cells R 70)
 gr:Gr w W
 p:W.heap[b1]?=some (.cells A 70)
 lo:w.heap.size+2<b1
theorem T4.next{w W W':World}{b1:Nat}{A:Array Value}(h:T4 w b1 A W)(g:Gr W W'):T4 w b1 A W':=by
 obtain⟨R1,a1,e1⟩:=h.r1;obtain⟨R2,a2,e2⟩:=h.r2;obtain⟨R3,a3,e3⟩:=h.r3;exact⟨⟨R1,a1,(Below.block g _ (xe e1)).trans e1⟩,⟨R2,a2,(Below.block g _ (xe e2)).trans e2⟩,⟨R3,a3,(Below.block g _ (xe e3)).trans e3⟩,Gr.trans h.gr g,(Below.block g _ (xe h.p)).trans h.p,h.lo⟩
theorem T4.put1{w W:World}{b1:Nat}{A:Array Value}(h:T4 w b1 A W)(X:Array Value)(hX:X.size=72):T4 w b1 A (W.setRow w.heap.size X):=by
 obtain⟨R1,a1,e1⟩:=h.r1;obtain⟨R2,a2,e2⟩:=h.r2;obtain⟨R3,a3,e3⟩:=h.r3;have lo:=h.lo;exact⟨⟨X,hX,setRow_heap _ _ _ _ _ _ e1⟩,⟨R2,a2,by rw[setRow_other _ _ _ _ (by omega)];exact e2⟩,⟨R3,a3,by rw[setRow_other _ _ _ _ (by omega)];exact e3⟩,h.gr.setRow _ (qL _) _,by rw[setRow_other _ _ _ _ (by omega)];exact h.p,lo⟩
theorem T4.put2{w W:World}{b1:Nat}{A:Array Value}(h:T4 w b1 A W)(X:Array Value)(hX:X.size=3):T4 w b1 A (W.setRow (w.heap.size+1) X):=by
 obtain⟨R1,a1,e1⟩:=h.r1;obtain⟨R2,a2,e2⟩:=h.r2;obtain⟨R3,a3,e3⟩:=h.r3;have lo:=h.lo;exact⟨⟨R1,a1,by rw[setRow_other _ _ _ _ (by omega)];exact e1⟩,⟨X,hX,setRow_heap _ _ _ _ _ _ e2⟩,⟨R3,a3,by rw[setRow_other _ _ _ _ (by omega)];exact e3⟩,h.gr.setRow _ (by omega) _,by rw[setRow_other _ _ _ _ (by omega)];exact h.p,lo⟩
theorem T4.put3{w W:World}{b1:Nat}{A:Array Value}(h:T4 w b1 A W)(X:Array Value)(hX:X.size=72):T4 w b1 A (W.setRow (w.heap.size+2) X):=by
 obtain⟨R1,a1,e1⟩:=h.r1;obtain⟨R2,a2,e2⟩:=h.r2;obtain⟨R3,a3,e3⟩:=h.r3;have lo:=h.lo;exact⟨⟨R1,a1,by rw[setRow_other _ _ _ _ (by omega)];exact e1⟩,⟨R2,a2,by rw[setRow_other _ _ _ _ (by omega)];exact e2⟩,⟨X,hX,setRow_heap _ _ _ _ _ _ e3⟩,h.gr.setRow _ (by omega) _,by rw[setRow_other _ _ _ _ (by omega)];exact h.p,lo⟩
theorem T4.far{w W:World}{b1:Nat}{A:Array Value}(h:T4 w b1 A W)(B:Nat)(X:Array Value)(hB:w.heap.size+2<B)(hn:B≠b1):T4 w b1 A (W.setRow B X):=by
 obtain⟨R1,a1,e1⟩:=h.r1;obtain⟨R2,a2,e2⟩:=h.r2;obtain⟨R3,a3,e3⟩:=h.r3;exact⟨⟨R1,a1,by rw[setRow_other _ _ _ _ (by omega)];exact e1⟩,⟨R2,a2,by rw[setRow_other _ _ _ _ (by omega)];exact e2⟩,⟨R3,a3,by rw[setRow_other _ _ _ _ (by omega)];exact e3⟩,h.gr.setRow _ (by omega) _,by rw[setRow_other _ _ _ _ (by omega)];exact h.p,h.lo⟩
structure T5(w:World)(b1:Nat)(A:Array Value)(B:Nat)(M:Array Value)(W:World):Prop where
 t:T4 w b1 A W
 m:W.heap[B]?=some (.cells M 125)
 lm:w.heap.size+2<B
 ne:B≠b1
theorem T5.next{w W W':World}{b1 B:Nat}{A M:Array Value}(h:T5 w b1 A B M W)(g:Gr W W'):T5 w b1 A B M W':=⟨h.t.next g,(Below.block g _ (xe h.m)).trans h.m,h.lm,h.ne⟩
theorem T5.put1{w W:World}{b1 B:Nat}{A M:Array Value}(h:T5 w b1 A B M W)(X:Array Value)(hX:X.size=72):T5 w b1 A B M (W.setRow w.heap.size X):=⟨h.t.put1 X hX,by rw[setRow_other _ _ _ _ (by have:=h.lm;omega)];exact h.m,h.lm,h.ne⟩
theorem T5.put2{w W:World}{b1 B:Nat}{A M:Array Value}(h:T5 w b1 A B M W)(X:Array Value)(hX:X.size=3):T5 w b1 A B M (W.setRow (w.heap.size+1) X):=⟨h.t.put2 X hX,by rw[setRow_other _ _ _ _ (by have:=h.lm;omega)];exact h.m,h.lm,h.ne⟩
theorem T5.put3{w W:World}{b1 B:Nat}{A M:Array Value}(h:T5 w b1 A B M W)(X:Array Value)(hX:X.size=72):T5 w b1 A B M (W.setRow (w.heap.size+2) X):=⟨h.t.put3 X hX,by rw[setRow_other _ _ _ _ (by have:=h.lm;omega)];exact h.m,h.lm,h.ne⟩
theorem T5.new{w W:World}{b1:Nat}{A M:Array Value}(h:T4 w b1 A W):T5 w b1 A W.heap.size M ((W.alloc (.cells zC 125)).setRow W.heap.size M):=by
 have:=xe h.p;have:=h.lo;exact⟨h.next (((Gr.refl W).alloc _ _).setRow _ (qL _) _),setRow_heap _ _ _ _ _ _ (heap_alloc_new _ _),by omega,by omega⟩
theorem T5.turn{w W:World}{b1 B:Nat}{A:Array Value}{f tt:Nat}(h:T5 w b1 A B (z8 (f,tt,0)) W)(u:UInt8):T5 w b1 A B (z8 (f,tt,u)) (W.setCell ⟨B,2,none⟩ (.int .u8 (u.toNat:Int))):=by
 have fs:Fr (fun k _=>k≠B) W (W.setCell ⟨B,2,none⟩ (.int .u8 (u.toNat:Int))):=(Fr.refl _ _).setCell _ (fun o _ q=>q rfl);obtain⟨R1,a1,e1⟩:=h.t.r1;obtain⟨R2,a2,e2⟩:=h.t.r2;obtain⟨R3,a3,e3⟩:=h.t.r3;have lm:=h.lm;have ne:=h.ne;refine⟨⟨⟨R1,a1,fs.same _ _ e1 (by omega)⟩,⟨R2,a2,fs.same _ _ e2 (by omega)⟩,⟨R3,a3,fs.same _ _ e3 (by omega)⟩,Below.setCell h.t.gr (show w.heap.size<=B by omega) _,fs.same _ _ h.t.p (by omega),h.t.lo⟩,qv h.m,lm,ne⟩
theorem T5.c0{w W:World}{b1 B:Nat}{A:Array Value}{x:Nat × Nat × UInt8}(h:T5 w b1 A B (z8 x) W):W.cell? ⟨B,0,none⟩=some (.int .i64 (x.1:Int)):=by rw[cell_of_row _ _ _ _ _ _ h.m];rfl
theorem T5.c1{w W:World}{b1 B:Nat}{A:Array Value}{x:Nat × Nat × UInt8}(h:T5 w b1 A B (z8 x) W):W.cell? ⟨B,1,none⟩=some (.int .i64 (x.2.1:Int)):=by rw[cell_of_row _ _ _ _ _ _ h.m];rfl
theorem T5.c2{w W:World}{b1 B:Nat}{A:Array Value}{x:Nat × Nat × UInt8}(h:T5 w b1 A B (z8 x) W):W.cell? ⟨B,2,none⟩=some (.int .u8 (x.2.2.toNat:Int)):=by rw[cell_of_row _ _ _ _ _ _ h.m];rfl
def pJ(s t:ByteArray)(e:Ending):Prop :=
 (∃k P M Q,k≠0/\iO s t k/\P.size=72/\M.size=3/\Q.size=72/\P.all (·.oneCell')=true/\M.all (·.oneCell')=true/\Q.all (·.oneCell')=true/\e=.returned (.tuple #[.agg P,.agg M,.agg Q,.int .i64 k])) ∨
 (∃p x Q,xG s=some p/\xP p=true/\yn t=some x/\x∈xC (xM p) p.white p.castle p.behind/\jE (zE (xM p) p.behind x) (!p.white) (kB p.castle x.1 x.2.1 4) (vK (xM p) x.1 x.2.1) (kK (xM p) x.1 x.2.1 p.half) (kj p.white p.full) Q/\e=.returned (.tuple #[.agg (jV p),.agg (z8 x),.agg Q,.int .i64 0]))
theorem bT{z:Nat->UInt8}{wh:Bool}{fc:Nat->Bool}{b h g:Int}(hC:kJ z wh fc b)(hh:h<=65535)(gg:g<=65535){f t:Nat}{u:UInt8}(hf:f<64)(ht:t<64)(hu:u∈U5)(hl:vo z wh fc b f t u=true){Q:Array Value}(r:jE (ua z wh fc b f t u) (!wh) (cM fc f t 4) (oA z wh f t) (Cd z b f t h) (Ce wh g) Q):jE (zE z b (f,t,u)) (!wh) (kB fc f t 4) (vK z f t) (kK z f t h) (kj wh g) Q:=by
 unfold vo at hl;rw[qH]at hl;obtain⟨i,hi,hc,hm,htu⟩:=(qjy hC hf ht hu).1 hl.1;rw[pC hC hi hf ht hc hm htu,Ev hl.1,Er _ _ _ _ hh,Es _ gg]at r;exact jE.castle r fun i _=>Cf _ _ _ _ _
theorem eh(s t:ByteArray)(hs:s.size<4294967281)(w:World):Calls Tryz.prog 51 #[.string s,.string t] w fun e w'=>pJ s t e/\Gr w w':=by
 obtain⟨y1,y2,y3,y4⟩:=jG w (.cells Tryz.zeroCells70 70) (.cells zC 125) (.cells Tryz.zeroCells70 70);have hg00:Gr w (((w.alloc (.cells Tryz.zeroCells70 70)).alloc (.cells zC 125)).alloc (.cells Tryz.zeroCells70 70)):=(((Gr.refl w).alloc _ _).alloc _ _).alloc _ _;have h1:Hid (∀W,Calls Tryz.prog 53 #[.string s] W fun e w'=>zA s e/\Gr W w'):=qC (fun W=>qvq s hs W);have hwr:=qC (fun W=>cY t W);rcases xy s with⟨p,hr,hcan,hone⟩|⟨k,hk,hbad,hone⟩
 ·have h2:Hid (∀W,Calls Tryz.prog 53 #[.string s] W fun e w'=>e=.returned (.tuple #[.agg (jV p),.int .i64 0])/\Gr W w'):=qC (fun W=>(qa h1 W).mono fun e w' h=>⟨hone e h.1,h.2⟩);have hrow:=jo hr;have hz:=hrow.size;have ho:=qC (qx hrow);obtain⟨hC,hb0,hb1⟩:=Fp hr hcan;obtain⟨c0,c1,c2,c3⟩:=t7 hcan;have hle:Hid (∀(f tt:Nat)(u:UInt8),f<64->tt<64->u∈U5->∀W,Calls Tryz.prog 105 #[.agg (jV p),.agg #[.int .i64 (f:Int),.int .i64 (tt:Int),.int .u8 (u.toNat:Int)]] W fun e w'=>e=.returned (.bool (vo (xM p) p.white p.castle p.behind f tt u))/\Gr W w'):=qC fun f tt u hf ht hu W=>qjj hrow hC hb0 hb1 c0 c1 c2 c3 f tt hf ht u hu W
  have hbeh:Hid (∀(f tt:Nat)(u:UInt8),f<64->tt<64->u∈U5->∀W,Calls Tryz.prog 106 #[.agg (jV p),.agg #[.int .i64 (f:Int),.int .i64 (tt:Int),.int .u8 (u.toNat:Int)]] W fun e w'=>∃Q,e=.returned (.agg Q)/\jE (ua (xM p) p.white p.castle p.behind f tt u) (!p.white) (cM p.castle f tt 4) (oA (xM p) p.white f tt) (Cd (xM p) p.behind f tt p.half) (Ce p.white p.full) Q/\Gr W w'):=qC fun f tt u hf ht hu W=>qxg hrow f tt hf ht u hu c0 c1 c2 c3 W
  have hend1:Hid (yn t=none->pJ s t (.returned (.tuple #[.agg (jV p),.agg zC,.agg (jV p),.int .i64 1]))):=qC (fun e=>.inl ⟨1,_,_,_,by decide,.inr (.inl ⟨rfl,p,hr,hcan,e⟩),hz,rfl,hz,qa ho,vP,qa ho,rfl⟩)
  have hend4:Hid (∀f tt u,yn t=some (f,tt,u)->f<64->tt<64->u∈U5->vo (xM p) p.white p.castle p.behind f tt u=false->pJ s t (.returned (.tuple #[.agg (jV p),.agg (z8 (f,tt,u)),.agg (jV p),.int .i64 4]))):=qC (fun f tt u e hf ht hu q=>.inl ⟨4,_,_,_,by decide,.inr (.inr ⟨rfl,p,_,hr,hcan,e,fun hx=>by
   rw[(C8 hC hb0 hb1 hf ht hu).2 ((je hC hb0 hb1 _).2 hx)]at q;cases q⟩),hz,rfl,hz,qa ho,Du _,qa ho,rfl⟩)
  have hend0:Hid (∀f tt u,yn t=some (f,tt,u)->f<64->tt<64->u∈U5->vo (xM p) p.white p.castle p.behind f tt u=true->∀Q,jE (ua (xM p) p.white p.castle p.behind f tt u) (!p.white) (cM p.castle f tt 4) (oA (xM p) p.white f tt) (Cd (xM p) p.behind f tt p.half) (Ce p.white p.full) Q->pJ s t (.returned (.tuple #[.agg (jV p),.agg (z8 (f,tt,u)),.agg Q,.int .i64 0]))):=qC (fun f tt u e hf ht hu q Q hQ=>.inr ⟨p,_,Q,hr,hcan,e,(je hC hb0 hb1 _).1 ((C8 hC hb0 hb1 hf ht hu).1 q),bT hC c1 c3 hf ht hu q hQ,rfl⟩);generalize jV p=A at h2 hz ho hle hbeh hend1 hend4 hend0;clear h1 hone hs hrow hr hcan hC hb0 hb1 c0 c1 c2 c3;go_enter Tryz.func51,Tryz.ntmps51;go_upto_region 1 with fail;show Code.wp _ _ _ _ (((w.alloc (.cells Tryz.zeroCells70 70)).alloc (.cells zC 125)).alloc (.cells Tryz.zeroCells70 70));generalize (((w.alloc (.cells Tryz.zeroCells70 70)).alloc (.cells zC 125)).alloc (.cells Tryz.zeroCells70 70))=w0 at y1 y2 y3 y4 hg00 ⊢
  go_upto_region 4 with(first
   | (go_at_call 53;refine(qa h2 _).mono ?_;rintro e w3 ⟨rfl,hg3⟩)
   | (refine wpList_store_row rfl 70 _ _ rfl w3.heap.size A rfl rfl 70 _ (heap_alloc_new _ _) (by rw[hz];exact q9) (by rw[hz];exact xF.symm) (qa ho) ?_))
  have hg4:Gr w3 ((w3.alloc (.cells Tryz.zeroCells70 70)).setRow w3.heap.size A):=((Gr.refl w3).alloc Tryz.zeroCells70 70).setRow w3.heap.size (qL _) A
  have hT4:T4 w w3.heap.size A ((w3.alloc (.cells Tryz.zeroCells70 70)).setRow w3.heap.size A):=by
   have hg:=Gr.trans hg3 hg4;have hsz:=Below.size hg3;exact⟨⟨_,xF,(Below.block hg _ (xe y1)).trans y1⟩,⟨_,rfl,(Below.block hg _ (xe y2)).trans y2⟩,⟨_,xF,(Below.block hg _ (xe y3)).trans y3⟩,Gr.trans hg00 hg,setRow_heap _ _ _ _ _ _ (heap_alloc_new w3 _),by omega⟩
  show Code.wp _ _ _ _ ((w3.alloc (.cells Tryz.zeroCells70 70)).setRow w3.heap.size A);generalize (w3.alloc (.cells Tryz.zeroCells70 70)).setRow w3.heap.size A=w4 at hT4 ⊢;generalize w3.heap.size=b1 at hT4 ⊢;clear hg3 hg4 h2 y1 y2 y3 y4 hg00;cases hm:yn t with
  | none =>
   have hend:=qC (qa hend1 hm);rw[hm]at hwr;clear hend1 hend4 hend0 hle hbeh hm;go_upto_region 6 with(go_at_call 103;refine(qa hwr _).mono ?_;rintro e w5 ⟨rfl,hw5⟩;have hw5':=hw5.symm;subst hw5';clear hw5);have hHeld0:T4 w b1 A _:=hT4.next (Gr.refl _).drew;refine wp_region_held_drew (S:=T4 w b1 A) (by kernel_rfl) hHeld0 (fun qD=>?_);clear hHeld0 hT4;refine C.ty 0 (.agg A) rfl (zy hz (by rfl) _ rfl b1 rfl (fun _ h=>qy h.p)) qD ?_;refine C.ty 1 (.agg zC) rfl (BB (by rfl) 125 #[] rfl zC (by simp only[List.map_toArray,List.map_nil];exact aa)) qD ?_;refine C.ty 2 (.agg A) rfl (zy hz (by rfl) _ rfl b1 rfl (fun _ h=>qy h.p)) qD ?_;refine C.rd 3 fun K hK=>?_
   rw[qI (by rfl)];obtain⟨R1,r1,r2⟩:=qD.r1;refine wp_store_row 70 _ _ rfl w.heap.size A rfl rfl 70 R1 r2 (by rw[hz];exact q9) (by rw[hz,r1]) (qa ho) ?_;refine hK.out _ _ (qD.put1 A hz) (fun qD=>?_);clear hK K
   try simp only[C.py]
   refine C.rd 4 fun K hK=>?_
   rw[qI (by rfl)];obtain⟨R2,r3,r4⟩:=qD.r2;refine wp_store_row 125 _ _ rfl (w.heap.size+1) zC rfl rfl 125 R2 r4 vi (by rw[r3];rfl) vP ?_;refine hK.out _ _ (qD.put2 zC rfl) (fun qD=>?_);clear hK K
   try simp only[C.py]
   refine C.rd 5 fun K hK=>?_
   rw[qI (by rfl)];obtain⟨R3,r5,r6⟩:=qD.r3;refine wp_store_row 70 _ _ rfl (w.heap.size+2) A rfl rfl 70 R3 r6 (by rw[hz];exact q9) (by rw[hz,r5]) (qa ho) ?_;refine hK.out _ _ (qD.put3 A hz) (fun qD=>?_);clear hK K
   try simp only[C.py]
   refine C.rd 6 fun K hK=>?_
   go_simp;refine hK.out _ _ (qD) (fun qD=>?_);clear hK K
   try simp only[C.py]
   refine wpAnyH_done (by kernel_rfl) ?_ _;have hgf:=qC qD.gr;go_wp2_with fail;exact bodyPost_ret (v:=.tuple #[.agg A,.agg zC,.agg A,.int .i64 1]) (qq2 _ _ w.heap.size A zC A rfl rfl rfl (by rw[setRow_other _ _ _ _ (by omega),setRow_other _ _ _ _ (by omega)];exact setRow_heap _ _ _ _ _ _ r2) (by rw[setRow_other _ _ _ _ (by omega)];exact setRow_heap _ _ _ _ _ _ r4) (setRow_heap _ _ _ _ _ _ r6) hz rfl hz) rfl ⟨qa hend,qa hgf⟩
  | some x =>
   obtain⟨f,tt,u⟩:=x;obtain⟨e1,e2,hf,ht,hu,h45⟩:=mV hm;have k1:Hid (∀W,Calls Tryz.prog 104 #[.string (t.extract 0 2)] W fun e w'=>e=.returned (.int .i64 (f:Int))/\w'=W):=qC (fun W=>by rw[<-e1];exact zb _ W);have k2:Hid (∀W,Calls Tryz.prog 104 #[.string (t.extract 2 4)] W fun e w'=>e=.returned (.int .i64 (tt:Int))/\w'=W):=qC (fun W=>by rw[<-e2];exact zb _ W);have hle':=qC (qa hle f tt u hf ht hu);have hbe:=qC (qa hbeh f tt u hf ht hu);have h4:=qC (qa hend4 f tt u hm hf ht hu);have h0':=qC (qa hend0 f tt u hm hf ht hu);rw[hm]at hwr;have l4:(4:Int)<=(t.size:Int):=by rcases h45 with⟨e,_⟩|⟨e,_⟩<;>omega
   have h45':=qC h45;clear hend1 hend4 hend0 hle hbeh hm e1 e2 hf ht hu h45;generalize vo (xM p) p.white p.castle p.behind f tt u=LG at hle' h4 h0';go_upto_region 7 with(go_at_call 103;refine(qa hwr _).mono ?_;rintro e w5 ⟨rfl,hw5⟩;have hw5':=hw5.symm;subst hw5';clear hw5);go_cut [11]from 13 (fun s11 wx=>∃B,s11=.pointer (some ⟨B,0,none⟩)/\T5 w b1 A B (z8 (f,tt,0)) wx)
   case first =>
    clear hle' hbe h4 h0' h45' hwr;have hT4d:T4 w b1 A w4.drew:=hT4.next (Gr.refl _).drew;refine wp_region_held_drew (S:=T4 w b1 A) (by kernel_rfl) hT4d (fun qD=>?_);refine C.tq 0 (.string t) qD ?_;refine C.ty 1 (.string (t.extract 0 2)) rfl (Or.inl ⟨by rfl,fun w' hw=>(by go_simp;try(intro hx;omega))⟩) qD ?_;refine C.tq 3 (.string t) qD ?_;refine C.ty 4 (.string (t.extract 2 4)) rfl (Or.inl ⟨by rfl,fun w' hw=>(by go_simp;try(intro hx;omega))⟩) qD ?_;refine wpAnyH_ready (rs:=[2,7]) (by kernel_rfl) (by simp) ?_;refine AllReadyH.cons rfl (fun K hK=>?_) (AllReadyH.cons rfl (fun K hK=>?_) AllReadyH.nil)
    ·go_simp;refine(qa k1 _).mono ?_;rintro e wa ⟨rfl,hwa⟩;have hwa':=hwa.symm;subst hwa';clear hwa;refine hK.out _ _ qD (fun qD=>?_);clear hK K
     try simp only[C.py]
     refine wpAnyH_ready (rs:=[5,7]) (by kernel_rfl) (by simp) ?_;refine AllReadyH.cons rfl (fun K hK=>?_) (AllReadyH.cons rfl (fun K hK=>?_) AllReadyH.nil)
     ·go_simp;refine(qa k2 _).mono ?_;rintro e wa ⟨rfl,hwa⟩;have hwa':=hwa.symm;subst hwa';clear hwa;refine hK.out _ _ qD (fun qD=>?_);clear hK K
      try simp only[C.py]
      refine C.ty 6 (.agg (z8 (f,tt,0))) rfl (BB (by rfl) 125 #[(0,.tmp 33),(1,.tmp 36)] rfl (z8 (f,tt,0)) (by simp only[List.map_toArray,List.map_cons,List.map_nil];exact qkx _ _)) qD ?_;refine C.rd 7 fun K hK=>?_
      go_simp;refine hK.out _ _ (qD.next ((Gr.refl _).alloc _ _)) (fun qD=>?_);clear hK K
      try simp only[C.py]
      refine C.rd 8 fun K hK=>?_
      rw[qI (by rfl)];refine wp_store_row 125 _ _ rfl w4.heap.size (z8 (f,tt,0)) rfl rfl 125 zC (heap_alloc_new _ _) vi rfl (Du _) ?_;refine hK.out _ _ (qD.far w4.heap.size _ (by have:=xe hT4.p;have:=hT4.lo;omega) (Nat.ne_of_gt (xe hT4.p))) (fun qD=>?_);clear hK K
      try simp only[C.py]
      refine wpAnyH_done (by kernel_rfl) ?_ _;go_wp2_with fail;go_meet
      case rel=>exact⟨_,rfl,T5.new hT4d⟩
     ·go_simp;refine hK.out _ _ (qD.next ((Gr.refl _).alloc _ _)) (fun qD=>?_);clear hK K
      try simp only[C.py]
      refine C.rd 5 fun K hK=>?_
      go_simp;refine(qa k2 _).mono ?_;rintro e wa ⟨rfl,hwa⟩;have hwa':=hwa.symm;subst hwa';clear hwa;refine hK.out _ _ qD (fun qD=>?_);clear hK K
      try simp only[C.py]
      refine C.ty 6 (.agg (z8 (f,tt,0))) rfl (BB (by rfl) 125 #[(0,.tmp 33),(1,.tmp 36)] rfl (z8 (f,tt,0)) (by simp only[List.map_toArray,List.map_cons,List.map_nil];exact qkx _ _)) qD ?_;refine C.rd 8 fun K hK=>?_
      rw[qI (by rfl)];refine wp_store_row 125 _ _ rfl w4.heap.size (z8 (f,tt,0)) rfl rfl 125 zC (heap_alloc_new _ _) vi rfl (Du _) ?_;refine hK.out _ _ (qD.far w4.heap.size _ (by have:=xe hT4.p;have:=hT4.lo;omega) (Nat.ne_of_gt (xe hT4.p))) (fun qD=>?_);clear hK K
      try simp only[C.py]
      refine wpAnyH_done (by kernel_rfl) ?_ _;go_wp2_with fail;go_meet
      case rel=>exact⟨_,rfl,T5.new hT4d⟩
    ·go_simp;refine hK.out _ _ (qD.next ((Gr.refl _).alloc _ _)) (fun qD=>?_);clear hK K
     try simp only[C.py]
     refine C.rd 2 fun K hK=>?_
     go_simp;refine(qa k1 _).mono ?_;rintro e wa ⟨rfl,hwa⟩;have hwa':=hwa.symm;subst hwa';clear hwa;refine hK.out _ _ qD (fun qD=>?_);clear hK K
     try simp only[C.py]
     refine C.rd 5 fun K hK=>?_
     go_simp;refine(qa k2 _).mono ?_;rintro e wa ⟨rfl,hwa⟩;have hwa':=hwa.symm;subst hwa';clear hwa;refine hK.out _ _ qD (fun qD=>?_);clear hK K
     try simp only[C.py]
     refine C.ty 6 (.agg (z8 (f,tt,0))) rfl (BB (by rfl) 125 #[(0,.tmp 33),(1,.tmp 36)] rfl (z8 (f,tt,0)) (by simp only[List.map_toArray,List.map_cons,List.map_nil];exact qkx _ _)) qD ?_;refine C.rd 8 fun K hK=>?_
     rw[qI (by rfl)];refine wp_store_row 125 _ _ rfl w4.heap.size (z8 (f,tt,0)) rfl rfl 125 zC (heap_alloc_new _ _) vi rfl (Du _) ?_;refine hK.out _ _ (qD.far w4.heap.size _ (by have:=xe hT4.p;have:=hT4.lo;omega) (Nat.ne_of_gt (xe hT4.p))) (fun qD=>?_);clear hK K
     try simp only[C.py]
     refine wpAnyH_done (by kernel_rfl) ?_ _;go_wp2_with fail;go_meet
     case rel=>exact⟨_,rfl,T5.new hT4d⟩
   case rest =>
    obtain⟨B,rfl,hT5⟩:=hcut;clear hT4 k1 k2 hwr;obtain⟨q5,hq5⟩:∃c,((t.size:Int)==5)=c:=⟨_,rfl⟩;go_upto_if 40 with fail;go_cut [11]from 41 to 43 (fun s11 wx=>s11=.pointer (some ⟨B,0,none⟩)/\T5 w b1 A B (z8 (f,tt,u)) wx)
    case first =>
     clear hle' hbe h4 h0';cases q5
     ·have hu0:u=0:=by
       rcases qa h45' with⟨e,hu⟩|⟨e,hu⟩
       ·exact hu
       ·rw[e]at hq5;cases hq5
      subst hu0;have hT5':=qC hT5;clear hT5 h45';go_wp2_with fail;go_meet
      case rel=>exact⟨rfl,qa hT5'⟩
     ·have h44:4<t.size:=by have:=q8 hq5;omega
      have hu0:u=t[4]:=by
       rcases qa h45' with⟨e,hu⟩|⟨e,hu⟩
       ·omega
       ·exact hu
      have c2:=hT5.c2;have hop:_:=xr (i:=2) hT5.m;have l5:(4:Int)<(t.size:Int):=by omega
      have hn:=qC (hT5.turn u);rw[hu0]at hn;clear h45' hT5;go_wp2_with fail;go_meet
      case rel=>exact⟨rfl,by rw[hu0];exact qa hn⟩
    case rest =>
     obtain⟨rfl,hT5⟩:=hcut;clear h45' l4 hq5;have c0:=hT5.c0;have c1:=hT5.c1;have c2:=hT5.c2;have hrow:=qC (vF hT5.t.p)
     go_upto_region 11 with(first
      | (go_at_call 105;refine(qa hle' _).mono ?_;rintro e w8 ⟨rfl,hg8⟩)
      | (refine ql (by rfl) _ rfl b1 rfl hz (qa hrow) ?_))
     have hT5:=hT5.next hg8;clear hg8 hrow hle' c0 c1 c2;cases LG
     ·have hend:=qC (qa h4 rfl);clear h4 h0' hbe;go_upto_region 12 with fail;have hHeld0:T5 w b1 A B (z8 (f,tt,u)) _:=hT5.next (Gr.refl _).drew;refine wp_region_held_drew (S:=T5 w b1 A B (z8 (f,tt,u))) (by kernel_rfl) hHeld0 (fun qD=>?_);clear hHeld0 hT5;refine C.ty 0 (.agg A) rfl (zy hz (by rfl) _ rfl b1 rfl (fun _ h=>qy h.t.p)) qD ?_;refine C.ty 1 (.agg (z8 (f,tt,u))) rfl (Or.inl ⟨by rfl,fun w' hw=>(by have c0:=hw.c0;have c1:=hw.c1;have c2:=hw.c2;go_simp;rfl)⟩) qD ?_;refine C.ty 2 (.agg A) rfl (zy hz (by rfl) _ rfl b1 rfl (fun _ h=>qy h.t.p)) qD ?_;refine C.rd 3 fun K hK=>?_
      rw[qI (by rfl)];obtain⟨R1,r1,r2⟩:=qD.t.r1;refine wp_store_row 70 _ _ rfl w.heap.size A rfl rfl 70 R1 r2 (by rw[hz];exact q9) (by rw[hz,r1]) (qa ho) ?_;refine hK.out _ _ (qD.put1 A hz) (fun qD=>?_);clear hK K
      try simp only[C.py]
      refine C.rd 4 fun K hK=>?_
      rw[qI (by rfl)];obtain⟨R2,r3,r4⟩:=qD.t.r2;refine wp_store_row 125 _ _ rfl (w.heap.size+1) (z8 (f,tt,u)) rfl rfl 125 R2 r4 vi (by rw[r3];rfl) (Du _) ?_;refine hK.out _ _ (qD.put2 (z8 (f,tt,u)) rfl) (fun qD=>?_);clear hK K
      try simp only[C.py]
      refine C.rd 5 fun K hK=>?_
      rw[qI (by rfl)];obtain⟨R3,r5,r6⟩:=qD.t.r3;refine wp_store_row 70 _ _ rfl (w.heap.size+2) A rfl rfl 70 R3 r6 (by rw[hz];exact q9) (by rw[hz,r5]) (qa ho) ?_;refine hK.out _ _ (qD.put3 A hz) (fun qD=>?_);clear hK K
      try simp only[C.py]
      refine C.rd 6 fun K hK=>?_
      go_simp;refine hK.out _ _ (qD) (fun qD=>?_);clear hK K
      try simp only[C.py]
      refine wpAnyH_done (by kernel_rfl) ?_ _;have hgf:=qC qD.t.gr;go_wp2_with fail;exact bodyPost_ret (v:=.tuple #[.agg A,.agg (z8 (f,tt,u)),.agg A,.int .i64 4]) (qq2 _ _ w.heap.size A (z8 (f,tt,u)) A rfl rfl rfl (by rw[setRow_other _ _ _ _ (by omega),setRow_other _ _ _ _ (by omega)];exact setRow_heap _ _ _ _ _ _ r2) (by rw[setRow_other _ _ _ _ (by omega)];exact setRow_heap _ _ _ _ _ _ r4) (setRow_heap _ _ _ _ _ _ r6) hz rfl hz) rfl ⟨qa hend,qa hgf⟩
     ·have h0:=qC (qa h0' rfl);clear h4 h0';go_upto_region 13 with fail;have hHeld0:T5 w b1 A B (z8 (f,tt,u)) _:=hT5.next (Gr.refl _).drew;refine wp_region_held_drew (S:=T5 w b1 A B (z8 (f,tt,u))) (by kernel_rfl) hHeld0 (fun qD=>?_);clear hHeld0 hT5;refine C.ty 0 (.agg A) rfl (zy hz (by rfl) _ rfl b1 rfl (fun _ h=>qy h.t.p)) qD ?_;refine C.ty 1 (.agg (z8 (f,tt,u))) rfl (Or.inl ⟨by rfl,fun w' hw=>(by have c0:=hw.c0;have c1:=hw.c1;have c2:=hw.c2;go_simp;rfl)⟩) qD ?_;refine C.ty 2 (.agg A) rfl (zy hz (by rfl) _ rfl b1 rfl (fun _ h=>qy h.t.p)) qD ?_;refine C.ty 3 (.agg (z8 (f,tt,u))) rfl (Or.inl ⟨by rfl,fun w' hw=>(by have c0:=hw.c0;have c1:=hw.c1;have c2:=hw.c2;go_simp;rfl)⟩) qD ?_;refine C.rd 4 fun K hK=>?_
      go_simp;refine(qa hbe _).mono ?_;rintro e wb ⟨Q,rfl,hQ,hgb⟩;have hqz:=hQ.size;have hqo:=qx hQ;have hend:=qC (qa h0 Q hQ);refine hK.out _ _ (qD.next hgb) (fun qD=>?_);clear hK K
      try simp only[C.py]
      refine C.rd 5 fun K hK=>?_
      rw[qI (by rfl)];obtain⟨R1,r1,r2⟩:=qD.t.r1;refine wp_store_row 70 _ _ rfl w.heap.size A rfl rfl 70 R1 r2 (by rw[hz];exact q9) (by rw[hz,r1]) (qa ho) ?_;refine hK.out _ _ (qD.put1 A hz) (fun qD=>?_);clear hK K
      try simp only[C.py]
      refine C.rd 6 fun K hK=>?_
      rw[qI (by rfl)];obtain⟨R2,r3,r4⟩:=qD.t.r2;refine wp_store_row 125 _ _ rfl (w.heap.size+1) (z8 (f,tt,u)) rfl rfl 125 R2 r4 vi (by rw[r3];rfl) (Du _) ?_;refine hK.out _ _ (qD.put2 (z8 (f,tt,u)) rfl) (fun qD=>?_);clear hK K
      try simp only[C.py]
      refine C.rd 7 fun K hK=>?_
      rw[qI (by rfl)];obtain⟨R3,r5,r6⟩:=qD.t.r3;refine wp_store_row 70 _ _ rfl (w.heap.size+2) Q rfl rfl 70 R3 r6 (by rw[hqz];exact q9) (by rw[hqz,r5]) hqo ?_;refine hK.out _ _ (qD.put3 Q hqz) (fun qD=>?_);clear hK K
      try simp only[C.py]
      refine C.rd 8 fun K hK=>?_
      go_simp;refine hK.out _ _ (qD) (fun qD=>?_);clear hK K
      try simp only[C.py]
      refine wpAnyH_done (by kernel_rfl) ?_ _;have hgf:=qC qD.t.gr;go_wp2_with fail;exact bodyPost_ret (v:=.tuple #[.agg A,.agg (z8 (f,tt,u)),.agg Q,.int .i64 0]) (qq2 _ _ w.heap.size A (z8 (f,tt,u)) Q rfl rfl rfl (by rw[setRow_other _ _ _ _ (by omega),setRow_other _ _ _ _ (by omega)];exact setRow_heap _ _ _ _ _ _ r2) (by rw[setRow_other _ _ _ _ (by omega)];exact setRow_heap _ _ _ _ _ _ r4) (setRow_heap _ _ _ _ _ _ r6) hz rfl hqz) rfl ⟨qa hend,qa hgf⟩
 ·have h2:Hid (∀W,Calls Tryz.prog 53 #[.string s] W fun e w'=>e=.returned (.tuple #[.agg Tryz.zeroCells70,.int .i64 k])/\Gr W w'):=qC (fun W=>(qa h1 W).mono fun e w' h=>⟨hone e h.1,h.2⟩);have hend:Hid (pJ s t (.returned (.tuple #[.agg Tryz.zeroCells70,.agg zC,.agg Tryz.zeroCells70,.int .i64 k]))):=qC (.inl ⟨k,_,_,_,hk,.inl hbad,xF,rfl,xF,xH,vP,xH,rfl⟩);have k2:(k != 0)=true:=by rw[qU];exact hk
  clear h1 hone hbad hs hwr hk;go_enter Tryz.func51,Tryz.ntmps51;go_upto_region 1 with fail;show Code.wp _ _ _ _ (((w.alloc (.cells Tryz.zeroCells70 70)).alloc (.cells zC 125)).alloc (.cells Tryz.zeroCells70 70));generalize (((w.alloc (.cells Tryz.zeroCells70 70)).alloc (.cells zC 125)).alloc (.cells Tryz.zeroCells70 70))=w0 at y1 y2 y3 y4 hg00 ⊢
  go_upto_region 3 with(first
   | (go_at_call 53;refine(qa h2 _).mono ?_;rintro e w3 ⟨rfl,hg3⟩)
   | (refine wpList_store_row rfl 70 _ _ rfl w3.heap.size Tryz.zeroCells70 rfl rfl 70 _ (heap_alloc_new _ _) (by rw[xF];exact q9) rfl xH ?_))
  have hg4:Gr w3 ((w3.alloc (.cells Tryz.zeroCells70 70)).setRow w3.heap.size Tryz.zeroCells70):=((Gr.refl w3).alloc Tryz.zeroCells70 70).setRow w3.heap.size (qL _) _
  have hT4:T4 w w3.heap.size Tryz.zeroCells70 ((w3.alloc (.cells Tryz.zeroCells70 70)).setRow w3.heap.size Tryz.zeroCells70):=by
   have hg:=Gr.trans hg3 hg4;have hsz:=Below.size hg3;exact⟨⟨_,xF,(Below.block hg _ (xe y1)).trans y1⟩,⟨_,rfl,(Below.block hg _ (xe y2)).trans y2⟩,⟨_,xF,(Below.block hg _ (xe y3)).trans y3⟩,Gr.trans hg00 hg,setRow_heap _ _ _ _ _ _ (heap_alloc_new w3 _),by omega⟩
  show Code.wp _ _ _ _ ((w3.alloc (.cells Tryz.zeroCells70 70)).setRow w3.heap.size Tryz.zeroCells70);generalize (w3.alloc (.cells Tryz.zeroCells70 70)).setRow w3.heap.size Tryz.zeroCells70=w4 at hT4 ⊢;generalize w3.heap.size=b1 at hT4 ⊢;clear hg3 hg4 h2 y1 y2 y3 y4 hg00;have hz:=xF;have hHeld0:T4 w b1 Tryz.zeroCells70 _:=hT4.next (Gr.refl _).drew;refine wp_region_held_drew (S:=T4 w b1 Tryz.zeroCells70) (by kernel_rfl) hHeld0 (fun qD=>?_);clear hHeld0 hT4;refine C.ty 0 (.agg Tryz.zeroCells70) rfl (zy hz (by rfl) _ rfl b1 rfl (fun _ h=>qy h.p)) qD ?_;refine C.ty 1 (.agg zC) rfl (BB (by rfl) 125 #[] rfl zC (by simp only[List.map_toArray,List.map_nil];exact aa)) qD ?_;refine C.ty 2 (.agg Tryz.zeroCells70) rfl (zy hz (by rfl) _ rfl b1 rfl (fun _ h=>qy h.p)) qD ?_;refine C.tq 3 (.int .i64 k) qD ?_;refine C.rd 4 fun K hK=>?_
  rw[qI (by rfl)];obtain⟨R1,r1,r2⟩:=qD.r1;refine wp_store_row 70 _ _ rfl w.heap.size Tryz.zeroCells70 rfl rfl 70 R1 r2 (by rw[hz];exact q9) (by rw[hz,r1]) xH ?_;refine hK.out _ _ (qD.put1 Tryz.zeroCells70 hz) (fun qD=>?_);clear hK K
  try simp only[C.py]
  refine C.rd 5 fun K hK=>?_
  rw[qI (by rfl)];obtain⟨R2,r3,r4⟩:=qD.r2;refine wp_store_row 125 _ _ rfl (w.heap.size+1) zC rfl rfl 125 R2 r4 vi (by rw[r3];rfl) vP ?_;refine hK.out _ _ (qD.put2 zC rfl) (fun qD=>?_);clear hK K
  try simp only[C.py]
  refine C.rd 6 fun K hK=>?_
  rw[qI (by rfl)];obtain⟨R3,r5,r6⟩:=qD.r3;refine wp_store_row 70 _ _ rfl (w.heap.size+2) Tryz.zeroCells70 rfl rfl 70 R3 r6 (by rw[hz];exact q9) (by rw[hz,r5]) xH ?_;refine hK.out _ _ (qD.put3 Tryz.zeroCells70 hz) (fun qD=>?_);clear hK K
  try simp only[C.py]
  refine C.rd 7 fun K hK=>?_
  go_simp;refine hK.out _ _ (qD) (fun qD=>?_);clear hK K
  try simp only[C.py]
  refine wpAnyH_done (by kernel_rfl) ?_ _;have hgf:=qC qD.gr;go_wp2_with fail;exact bodyPost_ret (v:=.tuple #[.agg Tryz.zeroCells70,.agg zC,.agg Tryz.zeroCells70,.int .i64 k]) (qq2 _ _ w.heap.size Tryz.zeroCells70 zC Tryz.zeroCells70 rfl rfl rfl (by rw[setRow_other _ _ _ _ (by omega),setRow_other _ _ _ _ (by omega)];exact setRow_heap _ _ _ _ _ _ r2) (by rw[setRow_other _ _ _ _ (by omega)];exact setRow_heap _ _ _ _ _ _ r4) (setRow_heap _ _ _ _ _ _ r6) hz rfl hz) rfl ⟨qa hend,qa hgf⟩
end Go.Proofs.YtnfakamfmkhlbabGreatDoor.C
