import Derived.Test.YtnfakamfmkhlbaaGreatDoorZs44
import Derived.Test.YtnfakamfmkhlbaaGreatDoorZs41
import Derived.Test.YtnfakamfmkhlbaaGreatDoorZs25
import Derived.Test.YtnfakamfmkhlbaaGreatDoorKz2
set_option maxRecDepth 100000
set_option maxHeartbeats 4000000
set_option linter.unusedSimpArgs false
namespace Go.Proofs.YtnfakamfmkhlbaaGreatDoor.C
open Go.RowKit
open Go.Proofs.YtnfakamfmkhlbaaGreatDoor.P
theorem pawn_kd:∀ c:UInt8,pawnB c=decide (kdc c=0):=all256 (by decide +kernel)
theorem beq_int (a b:Int):(a==b)=decide (a=b):=rfl
theorem bfc_cfA (fc:Nat->Bool) (f t n k:Nat):bfc fc f t n k=cfA fc f t n k:=by
 unfold bfc cfA toB toA tchB;simp only [beq_int];cases decide ((f:Int)=homeK k)<;>cases decide ((f:Int)=homeR k)<;>cases decide ((t:Int)=homeK k)<;>cases decide ((t:Int)=homeR k)<;>rfl
theorem bg_ful (wh:Bool) {g:Int} (g1:g<=65535):bgI wh g=fulA wh g:=by
 unfold bgI fulA;cases wh
 ·by_cases h:g<65535
  ·rw [decide_eq_true h];simp only [Bool.not_false,Bool.and_self,if_true,Bool.false_eq_true,if_false];omega
  ·rw [decide_eq_false h];simp only [Bool.not_false,Bool.and_false,Bool.false_eq_true,if_false];omega
 ·rfl
theorem bh_hal (z:Nat->UInt8) (b:Int) (f t:Nat) {h:Int} (h1:h<=65535):bhI z b f t h=halA z f t h:=by
 unfold bhI halA zeroH pasB;rw [pawn_kd];by_cases c:kdc (z f)=0
 ·rw [decide_eq_true c];rfl
 ·rw [decide_eq_false c];simp only [Bool.false_and,Bool.or_false,Bool.false_or];by_cases d:z t=46
  ·rw [decide_eq_true d];simp only [Bool.not_true,Bool.false_eq_true,if_false];split<;>omega
  ·rw [decide_eq_false d];rfl
theorem att0_up {z:Nat->UInt8} {wh:Bool} {f t:Nat} (h:attI (zI z) 0 (sdb wh) (f:Int) (t:Int)=true):upR f t=sdb wh:=by
 unfold attI at h;rw [if_pos rfl,Bool.and_eq_true] at h;have h2:=of_decide_eq_true h.2;unfold upR;omega
theorem bb_beh {z:Nat->UInt8} {wh:Bool} {fc:Nat->Bool} {b:Int} {f t:Nat} {u:UInt8} (hg:goesR z wh fc b f t u=true):bbI z wh f t=behA z f t:=by
 unfold bbI behA twoB twoP;rw [pawn_kd];by_cases c:kdc (z f)=0
 ·rw [decide_eq_true c,Bool.true_and,Bool.true_and];unfold goesR at hg;rw [Bool.and_eq_true,if_pos c] at hg;have hg:=hg.2;unfold pwR at hg
  have key:upR f t=sdb wh\/(upR f t=2*sdb wh/\f%8=t%8):=by
   by_cases ha:attI (zI z) 0 (sdb wh) (f:Int) (t:Int)=true
   ·exact .inl (att0_up ha)
   ·rw [if_neg ha] at hg;unfold pwU at hg;simp only [Bool.and_eq_true,Bool.or_eq_true,decide_eq_true_eq] at hg;obtain ⟨⟨h1,_⟩,h3|h3⟩:=hg
    ·exact .inl h3
    ·exact .inr ⟨h3.1.1,h1⟩
  rcases key with e|⟨e,e8⟩
  ·rw [e];cases wh<;>rfl
  ·cases wh
   ·have e':upR f t=-2:=e;rw [e'];show (f:Int)+8*sdb false=(((f+t)/2:Nat):Int);unfold upR at e';unfold sdb;simp only [Bool.false_eq_true,if_false];omega
   ·have e':upR f t=2:=e;rw [e'];show (f:Int)+8*sdb true=(((f+t)/2:Nat):Int);unfold upR at e';unfold sdb;simp only [if_true];omega
 ·rw [decide_eq_false c];rfl
end Go.Proofs.YtnfakamfmkhlbaaGreatDoor.C
namespace Go.Proofs.YtnfakamfmkhlbaaGreatDoor.C
open Go.ChangeShapes Go.WideShapes Go.ChangeAt Go.RowKit Go.Shelf
open Go.Proofs.YtnfakamfmkhlbaaGreatDoor.P
attribute [local go_sem] qd qi Oper.semAt_some
theorem infoMr3:(Tryz.prog.info? 171).map (·.size)=some 3:=by kernel_rfl
theorem zq (x:Nat × Nat × UInt8):(mvA x).all (·.oneCell')=true:=by simp [mvA,Value.oneCell']
theorem built_mr:Tryz.prog.built 171 []=some zMv:=by kernel_rfl
theorem qvz (f t:Int):Tryz.prog.built 171 [(0,.int .i64 f),(1,.int .i64 t)]=some #[.int .i64 f,.int .i64 t,.int .u8 0]:=by kernel_rfl
theorem qqn (tmps:Array Value) (w:World) (g:Nat) (A M Q:Array Value) (hp:tmps.getD 4 undef=.pointer (some ⟨g,0,none⟩)) (hp2:tmps.getD 5 undef=.pointer (some ⟨g+1,0,none⟩)) (hp3:tmps.getD 6 undef=.pointer (some ⟨g+2,0,none⟩))
  (h1:w.heap[g]?=some (.cells A 25)) (h2:w.heap[g+1]?=some (.cells M 171)) (h3:w.heap[g+2]?=some (.cells Q 25)) (a:A.size=72) (m:M.size=3) (q:Q.size=72) :
  (results Tryz.f106 tmps).run Tryz.prog w=.ok (.tuple #[.agg A,.agg M,.agg Q,tmps.getD 7 undef]) w:=by
 have hp':tmps[4]?.getD undef=.pointer (some ⟨g,0,none⟩):=by simpa using hp
 have hp2':tmps[5]?.getD undef=.pointer (some ⟨g+1,0,none⟩):=by simpa using hp2
 have hp3':tmps[6]?.getD undef=.pointer (some ⟨g+2,0,none⟩):=by simpa using hp3
 simp [results,Tryz.results106,hp',hp2',hp3',asAddr,run_loadVar_row w g _ 25 A _ _ h1 Tryz.underlying25 rfl (by rw [a];exact infoP),run_loadVar_row w (g+1) _ 171 M _ _ h2 Tryz.underlying171 rfl (by rw [m];exact infoMr3),run_loadVar_row w (g+2) _ 25 Q _ _ h3 Tryz.underlying25 rfl (by rw [q];exact infoP)]
theorem sqS_lt {s:ByteArray} {n:Nat} (h:sqS s=some n):n<64:=by
 unfold sqS at h;split at h
 ·split at h
  ·injection h with h;omega
  ·cases h
 ·cases h
theorem turn_U5:∀ c:UInt8,0<=Lib.indexByte turnsL c->c∈U5:=all256 (by decide +kernel)
theorem mvR_parts {t:ByteArray} {f tt:Nat} {u:UInt8} (h:mvR t=some (f,tt,u)):sqI (t.extract 0 2)=(f:Int)/\sqI (t.extract 2 4)=(tt:Int)/\f<64/\tt<64/\u∈U5/\((t.size=4/\u=0)\/(∃ h:t.size=5,u=t[4])):=by
 unfold mvR at h;split at h
 case isFalse=>cases h
 case isTrue h45 =>
  split at h
  case h_2=>cases h
  case h_1 a b ea eb =>
   split at h
   case isFalse=>cases h
   case isTrue hd =>
    injection h with h;injection h with h1 h;injection h with h2 h3;subst h1 h2;refine ⟨by unfold sqI;rw [ea],by unfold sqI;rw [eb],sqS_lt ea,sqS_lt eb,?_,?_⟩
    ·rcases h45 with e|e
     ·rw [rdT_4 e] at h3;rw [<-h3];decide
     ·rw [rdT_5 e] at h3 hd;rw [<-h3];exact turn_U5 _ (of_decide_eq_true hd)
    ·rcases h45 with e|e
     ·rw [rdT_4 e] at h3;exact .inl ⟨e,h3.symm⟩
     ·rw [rdT_5 e] at h3;exact .inr ⟨e,h3.symm⟩
structure T4 (w:World) (b1:Nat) (A:Array Value) (W:World):Prop where
 r1:∃ R,R.size=72/\W.heap[w.heap.size]?=some (.cells R 25)
 r2:∃ R,R.size=3/\W.heap[w.heap.size+1]?=some (.cells R 171)
 r3:∃ R,R.size=72/\W.heap[w.heap.size+2]?=some (.cells R 25)
 gr:Gr w W
 p:W.heap[b1]?=some (.cells A 25)
 lo:w.heap.size+2<b1
theorem xc {W:World} {b:Nat} {o:Obj} (h:W.heap[b]?=some o):b<W.heap.size:=(Array.getElem?_eq_some_iff.1 h).1
theorem T4.next {w W W':World} {b1:Nat} {A:Array Value} (h:T4 w b1 A W) (g:Gr W W'):T4 w b1 A W':=by
 obtain ⟨R1,a1,e1⟩:=h.r1;obtain ⟨R2,a2,e2⟩:=h.r2;obtain ⟨R3,a3,e3⟩:=h.r3;exact ⟨⟨R1,a1,(Below.block g _ (xc e1)).trans e1⟩,⟨R2,a2,(Below.block g _ (xc e2)).trans e2⟩,⟨R3,a3,(Below.block g _ (xc e3)).trans e3⟩,Gr.trans h.gr g,(Below.block g _ (xc h.p)).trans h.p,h.lo⟩
theorem T4.put1 {w W:World} {b1:Nat} {A:Array Value} (h:T4 w b1 A W) (X:Array Value) (hX:X.size=72):T4 w b1 A (W.setRow w.heap.size X):=by
 obtain ⟨R1,a1,e1⟩:=h.r1;obtain ⟨R2,a2,e2⟩:=h.r2;obtain ⟨R3,a3,e3⟩:=h.r3;have lo:=h.lo;exact ⟨⟨X,hX,setRow_heap _ _ _ _ _ _ e1⟩,⟨R2,a2,by rw [setRow_other _ _ _ _ (by omega)];exact e2⟩,⟨R3,a3,by rw [setRow_other _ _ _ _ (by omega)];exact e3⟩,h.gr.setRow _ (Nat.le_refl _) _,by rw [setRow_other _ _ _ _ (by omega)];exact h.p,lo⟩
theorem T4.put2 {w W:World} {b1:Nat} {A:Array Value} (h:T4 w b1 A W) (X:Array Value) (hX:X.size=3):T4 w b1 A (W.setRow (w.heap.size+1) X):=by
 obtain ⟨R1,a1,e1⟩:=h.r1;obtain ⟨R2,a2,e2⟩:=h.r2;obtain ⟨R3,a3,e3⟩:=h.r3;have lo:=h.lo;exact ⟨⟨R1,a1,by rw [setRow_other _ _ _ _ (by omega)];exact e1⟩,⟨X,hX,setRow_heap _ _ _ _ _ _ e2⟩,⟨R3,a3,by rw [setRow_other _ _ _ _ (by omega)];exact e3⟩,h.gr.setRow _ (by omega) _,by rw [setRow_other _ _ _ _ (by omega)];exact h.p,lo⟩
theorem T4.put3 {w W:World} {b1:Nat} {A:Array Value} (h:T4 w b1 A W) (X:Array Value) (hX:X.size=72):T4 w b1 A (W.setRow (w.heap.size+2) X):=by
 obtain ⟨R1,a1,e1⟩:=h.r1;obtain ⟨R2,a2,e2⟩:=h.r2;obtain ⟨R3,a3,e3⟩:=h.r3;have lo:=h.lo;exact ⟨⟨R1,a1,by rw [setRow_other _ _ _ _ (by omega)];exact e1⟩,⟨R2,a2,by rw [setRow_other _ _ _ _ (by omega)];exact e2⟩,⟨X,hX,setRow_heap _ _ _ _ _ _ e3⟩,h.gr.setRow _ (by omega) _,by rw [setRow_other _ _ _ _ (by omega)];exact h.p,lo⟩
theorem T4.far {w W:World} {b1:Nat} {A:Array Value} (h:T4 w b1 A W) (B:Nat) (X:Array Value) (hB:w.heap.size+2<B) (hn:B≠b1):T4 w b1 A (W.setRow B X):=by
 obtain ⟨R1,a1,e1⟩:=h.r1;obtain ⟨R2,a2,e2⟩:=h.r2;obtain ⟨R3,a3,e3⟩:=h.r3;exact ⟨⟨R1,a1,by rw [setRow_other _ _ _ _ (by omega)];exact e1⟩,⟨R2,a2,by rw [setRow_other _ _ _ _ (by omega)];exact e2⟩,⟨R3,a3,by rw [setRow_other _ _ _ _ (by omega)];exact e3⟩,h.gr.setRow _ (by omega) _,by rw [setRow_other _ _ _ _ (by omega)];exact h.p,h.lo⟩
structure T5 (w:World) (b1:Nat) (A:Array Value) (B:Nat) (M:Array Value) (W:World):Prop where
 t:T4 w b1 A W
 m:W.heap[B]?=some (.cells M 171)
 lm:w.heap.size+2<B
 ne:B≠b1
theorem T5.next {w W W':World} {b1 B:Nat} {A M:Array Value} (h:T5 w b1 A B M W) (g:Gr W W'):T5 w b1 A B M W':=⟨h.t.next g,(Below.block g _ (xc h.m)).trans h.m,h.lm,h.ne⟩
theorem T5.put1 {w W:World} {b1 B:Nat} {A M:Array Value} (h:T5 w b1 A B M W) (X:Array Value) (hX:X.size=72):T5 w b1 A B M (W.setRow w.heap.size X):=⟨h.t.put1 X hX,by rw [setRow_other _ _ _ _ (by have:=h.lm;omega)];exact h.m,h.lm,h.ne⟩
theorem T5.put2 {w W:World} {b1 B:Nat} {A M:Array Value} (h:T5 w b1 A B M W) (X:Array Value) (hX:X.size=3):T5 w b1 A B M (W.setRow (w.heap.size+1) X):=⟨h.t.put2 X hX,by rw [setRow_other _ _ _ _ (by have:=h.lm;omega)];exact h.m,h.lm,h.ne⟩
theorem T5.put3 {w W:World} {b1 B:Nat} {A M:Array Value} (h:T5 w b1 A B M W) (X:Array Value) (hX:X.size=72):T5 w b1 A B M (W.setRow (w.heap.size+2) X):=⟨h.t.put3 X hX,by rw [setRow_other _ _ _ _ (by have:=h.lm;omega)];exact h.m,h.lm,h.ne⟩
theorem T5.new {w W:World} {b1:Nat} {A M:Array Value} (h:T4 w b1 A W):T5 w b1 A W.heap.size M ((W.alloc (.cells zMv 171)).setRow W.heap.size M):=by
 have:=xc h.p;have:=h.lo;exact ⟨h.next (((Gr.refl W).alloc _ _).setRow _ (Nat.le_refl _) _),setRow_heap _ _ _ _ _ _ (heap_alloc_new _ _),by omega,by omega⟩
theorem T5.turn {w W:World} {b1 B:Nat} {A:Array Value} {f tt:Nat} (h:T5 w b1 A B (mvA (f,tt,0)) W) (u:UInt8):T5 w b1 A B (mvA (f,tt,u)) (W.setCell ⟨B,2,none⟩ (.int .u8 (u.toNat:Int))):=by
 have fs:Fr (fun k _=>k≠B) W (W.setCell ⟨B,2,none⟩ (.int .u8 (u.toNat:Int))):=(Fr.refl _ _).setCell _ (fun o _ q=>q rfl);obtain ⟨R1,a1,e1⟩:=h.t.r1;obtain ⟨R2,a2,e2⟩:=h.t.r2;obtain ⟨R3,a3,e3⟩:=h.t.r3;have lm:=h.lm;have ne:=h.ne;refine ⟨⟨⟨R1,a1,fs.same _ _ e1 (by omega)⟩,⟨R2,a2,fs.same _ _ e2 (by omega)⟩,⟨R3,a3,fs.same _ _ e3 (by omega)⟩,Below.setCell h.t.gr (show w.heap.size<=B by omega) _,fs.same _ _ h.t.p (by omega),h.t.lo⟩,qx h.m,lm,ne⟩
theorem T5.c0 {w W:World} {b1 B:Nat} {A:Array Value} {x:Nat × Nat × UInt8} (h:T5 w b1 A B (mvA x) W):W.cell? ⟨B,0,none⟩=some (.int .i64 (x.1:Int)):=by rw [cell_of_row _ _ _ _ _ _ h.m];rfl
theorem T5.c1 {w W:World} {b1 B:Nat} {A:Array Value} {x:Nat × Nat × UInt8} (h:T5 w b1 A B (mvA x) W):W.cell? ⟨B,1,none⟩=some (.int .i64 (x.2.1:Int)):=by rw [cell_of_row _ _ _ _ _ _ h.m];rfl
theorem T5.c2 {w W:World} {b1 B:Nat} {A:Array Value} {x:Nat × Nat × UInt8} (h:T5 w b1 A B (mvA x) W):W.cell? ⟨B,2,none⟩=some (.int .u8 (x.2.2.toNat:Int)):=by rw [cell_of_row _ _ _ _ _ _ h.m];rfl
def PdEnd (s t:ByteArray) (e:Ending):Prop :=
 (∃ k P M Q,k≠0/\ErrK s t k/\P.size=72/\M.size=3/\Q.size=72/\P.all (·.oneCell')=true/\M.all (·.oneCell')=true/\Q.all (·.oneCell')=true/\e=.returned (.tuple #[.agg P,.agg M,.agg Q,.int .i64 k])) ∨
 (∃ p x Q,readS s=some p/\posCan p=true/\mvR t=some x/\x∈movS (posZ p) p.white p.castle p.behind/\Row (plZ (posZ p) p.behind x) (!p.white) (cfA p.castle x.1 x.2.1 4) (behA (posZ p) x.1 x.2.1) (halA (posZ p) x.1 x.2.1 p.half) (fulA p.white p.full) Q/\e=.returned (.tuple #[.agg (posV p),.agg (mvA x),.agg Q,.int .i64 0]))
theorem row_same {z:Nat->UInt8} {wh:Bool} {fc:Nat->Bool} {b h g:Int} (hC:Can z wh fc b) (hh:h<=65535) (gg:g<=65535) {f t:Nat} {u:UInt8} (hf:f<64) (ht:t<64) (hu:u∈U5) (hl:legR z wh fc b f t u=true) {Q:Array Value} (r:Row (bz4 z wh fc b f t u) (!wh) (bfc fc f t 4) (bbI z wh f t) (bhI z b f t h) (bgI wh g) Q):Row (plZ z b (f,t,u)) (!wh) (cfA fc f t 4) (behA z f t) (halA z f t h) (fulA wh g) Q:=by
 unfold legR at hl;rw [Bool.and_eq_true] at hl;obtain ⟨i,hi,hc,hm,htu⟩:=(qvt hC hf ht hu).1 hl.1;rw [bz4_pl hC hi hf ht hc hm htu,bb_beh hl.1,bh_hal _ _ _ _ hh,bg_ful _ gg] at r;exact Row.castle r fun i _=>bfc_cfA _ _ _ _ _
theorem played_any (s t:ByteArray) (hs:s.size<4294967281) (w:World):Calls Tryz.prog 106 #[.string s,.string t] w fun e w'=>PdEnd s t e/\Gr w w':=by
 obtain ⟨y1,y2,y3,y4⟩:=heapThree w (.cells Tryz.zeroCells25 25) (.cells zMv 171) (.cells Tryz.zeroCells25 25);have hg00:Gr w (((w.alloc (.cells Tryz.zeroCells25 25)).alloc (.cells zMv 171)).alloc (.cells Tryz.zeroCells25 25)):=(((Gr.refl w).alloc _ _).alloc _ _).alloc _ _;have h1:Hid (∀ W,Calls Tryz.prog 38 #[.string s] W fun e w'=>ParseEnd s e/\Gr W w'):=hide (fun W=>qzy s hs W);have hwr:=hide (fun W=>written_any t W);rcases xu s with ⟨p,hr,hcan,hone⟩|⟨k,hk,hbad,hone⟩
 ·have h2:Hid (∀ W,Calls Tryz.prog 38 #[.string s] W fun e w'=>e=.returned (.tuple #[.agg (posV p),.int .i64 0])/\Gr W w'):=hide (fun W=>(qa h1 W).mono fun e w' h=>⟨hone e h.1,h.2⟩);have hrow:=jf hr;have hz:=hrow.size;have ho:=hide (qy hrow);obtain ⟨hC,hb0,hb1⟩:=qqs hr hcan;obtain ⟨c0,c1,c2,c3⟩:=qx9 hcan;have hle:Hid (∀ (f tt:Nat) (u:UInt8),f<64->tt<64->u∈U5->∀ W,Calls Tryz.prog 157 #[.agg (posV p),.agg #[.int .i64 (f:Int),.int .i64 (tt:Int),.int .u8 (u.toNat:Int)]] W fun e w'=>e=.returned (.bool (legR (posZ p) p.white p.castle p.behind f tt u))/\Gr W w'):=hide fun f tt u hf ht hu W=>qzz hrow hC hb0 hb1 c0 c1 c2 c3 f tt hf ht u hu W
  have hbeh:Hid (∀ (f tt:Nat) (u:UInt8),f<64->tt<64->u∈U5->∀ W,Calls Tryz.prog 121 #[.agg (posV p),.agg #[.int .i64 (f:Int),.int .i64 (tt:Int),.int .u8 (u.toNat:Int)]] W fun e w'=>∃ Q,e=.returned (.agg Q)/\Row (bz4 (posZ p) p.white p.castle p.behind f tt u) (!p.white) (bfc p.castle f tt 4) (bbI (posZ p) p.white f tt) (bhI (posZ p) p.behind f tt p.half) (bgI p.white p.full) Q/\Gr W w'):=hide fun f tt u hf ht hu W=>qj4 hrow f tt hf ht u hu c0 c1 c2 c3 W
  have hend1:Hid (mvR t=none->PdEnd s t (.returned (.tuple #[.agg (posV p),.agg zMv,.agg (posV p),.int .i64 1]))):=hide (fun e=>.inl ⟨1,_,_,_,by decide,.inr (.inl ⟨rfl,p,hr,hcan,e⟩),hz,rfl,hz,qa ho,zMv_ones,qa ho,rfl⟩)
  have hend4:Hid (∀ f tt u,mvR t=some (f,tt,u)->f<64->tt<64->u∈U5->legR (posZ p) p.white p.castle p.behind f tt u=false->PdEnd s t (.returned (.tuple #[.agg (posV p),.agg (mvA (f,tt,u)),.agg (posV p),.int .i64 4]))):=hide (fun f tt u e hf ht hu q=>.inl ⟨4,_,_,_,by decide,.inr (.inr ⟨rfl,p,_,hr,hcan,e,fun hx=>by
   rw [(qvp hC hb0 hb1 hf ht hu).2 ((qqz hC hb0 hb1 _).2 hx)] at q;cases q⟩),hz,rfl,hz,qa ho,zq _,qa ho,rfl⟩)
  have hend0:Hid (∀ f tt u,mvR t=some (f,tt,u)->f<64->tt<64->u∈U5->legR (posZ p) p.white p.castle p.behind f tt u=true->∀ Q,Row (bz4 (posZ p) p.white p.castle p.behind f tt u) (!p.white) (bfc p.castle f tt 4) (bbI (posZ p) p.white f tt) (bhI (posZ p) p.behind f tt p.half) (bgI p.white p.full) Q->PdEnd s t (.returned (.tuple #[.agg (posV p),.agg (mvA (f,tt,u)),.agg Q,.int .i64 0]))):=hide (fun f tt u e hf ht hu q Q hQ=>.inr ⟨p,_,Q,hr,hcan,e,(qqz hC hb0 hb1 _).1 ((qvp hC hb0 hb1 hf ht hu).1 q),row_same hC c1 c3 hf ht hu q hQ,rfl⟩);generalize posV p=A at h2 hz ho hle hbeh hend1 hend4 hend0;clear h1 hone hs hrow hr hcan hC hb0 hb1 c0 c1 c2 c3;go_enter Tryz.func106,Tryz.ntmps106;go_upto_region 1 with fail;show Code.wp _ _ _ _ (((w.alloc (.cells Tryz.zeroCells25 25)).alloc (.cells zMv 171)).alloc (.cells Tryz.zeroCells25 25));generalize (((w.alloc (.cells Tryz.zeroCells25 25)).alloc (.cells zMv 171)).alloc (.cells Tryz.zeroCells25 25))=w0 at y1 y2 y3 y4 hg00 ⊢
  go_upto_region 4 with (first
   | (go_at_call 38;refine (qa h2 _).mono ?_;rintro e w3 ⟨rfl,hg3⟩)
   | (refine wpList_store_row rfl 25 _ _ rfl w3.heap.size A rfl rfl 25 _ (heap_alloc_new _ _) (by rw [hz];exact infoP) (by rw [hz];exact zeroP.symm) (qa ho) ?_))
  have hg4:Gr w3 ((w3.alloc (.cells Tryz.zeroCells25 25)).setRow w3.heap.size A):=((Gr.refl w3).alloc Tryz.zeroCells25 25).setRow w3.heap.size (Nat.le_refl _) A
  have hT4:T4 w w3.heap.size A ((w3.alloc (.cells Tryz.zeroCells25 25)).setRow w3.heap.size A):=by
   have hg:=Gr.trans hg3 hg4;have hsz:=Below.size hg3;exact ⟨⟨_,zeroP,(Below.block hg _ (xc y1)).trans y1⟩,⟨_,rfl,(Below.block hg _ (xc y2)).trans y2⟩,⟨_,zeroP,(Below.block hg _ (xc y3)).trans y3⟩,Gr.trans hg00 hg,setRow_heap _ _ _ _ _ _ (heap_alloc_new w3 _),by omega⟩
  show Code.wp _ _ _ _ ((w3.alloc (.cells Tryz.zeroCells25 25)).setRow w3.heap.size A);generalize (w3.alloc (.cells Tryz.zeroCells25 25)).setRow w3.heap.size A=w4 at hT4 ⊢;generalize w3.heap.size=b1 at hT4 ⊢;clear hg3 hg4 h2 y1 y2 y3 y4 hg00;cases hm:mvR t with
  | none =>
   have hend:=hide (qa hend1 hm);rw [hm] at hwr;clear hend1 hend4 hend0 hle hbeh hm;go_upto_region 6 with (go_at_call 178;refine (qa hwr _).mono ?_;rintro e w5 ⟨rfl,hw5⟩;have hw5':=hw5.symm;subst hw5';clear hw5);have hHeld0:T4 w b1 A _:=hT4.next (Gr.refl _).drew;refine wp_region_held_drew (S:=T4 w b1 A) (by kernel_rfl) hHeld0 (fun hHeld=>?_);clear hHeld0 hT4;refine C.ty 0 (.agg A) rfl (zd hz (by rfl) _ rfl b1 rfl (fun _ h=>qv h.p)) hHeld ?_;refine C.ty 1 (.agg zMv) rfl (zm (by rfl) 171 #[] rfl zMv (by simp only [List.map_toArray,List.map_nil];exact built_mr)) hHeld ?_;refine C.ty 2 (.agg A) rfl (zd hz (by rfl) _ rfl b1 rfl (fun _ h=>qv h.p)) hHeld ?_;refine C.rd 3 fun K hK=>?_
   rw [if_pos (by rfl)];obtain ⟨R1,r1,r2⟩:=hHeld.r1;refine wp_store_row 25 _ _ rfl w.heap.size A rfl rfl 25 R1 r2 (by rw [hz];exact infoP) (by rw [hz,r1]) (qa ho) ?_;refine hK.out _ _ (hHeld.put1 A hz) (fun hHeld=>?_);clear hK K
   try simp only [C.py]
   refine C.rd 4 fun K hK=>?_
   rw [if_pos (by rfl)];obtain ⟨R2,r3,r4⟩:=hHeld.r2;refine wp_store_row 171 _ _ rfl (w.heap.size+1) zMv rfl rfl 171 R2 r4 infoMr3 (by rw [r3];rfl) zMv_ones ?_;refine hK.out _ _ (hHeld.put2 zMv rfl) (fun hHeld=>?_);clear hK K
   try simp only [C.py]
   refine C.rd 5 fun K hK=>?_
   rw [if_pos (by rfl)];obtain ⟨R3,r5,r6⟩:=hHeld.r3;refine wp_store_row 25 _ _ rfl (w.heap.size+2) A rfl rfl 25 R3 r6 (by rw [hz];exact infoP) (by rw [hz,r5]) (qa ho) ?_;refine hK.out _ _ (hHeld.put3 A hz) (fun hHeld=>?_);clear hK K
   try simp only [C.py]
   refine C.rd 6 fun K hK=>?_
   go_simp;refine hK.out _ _ (hHeld) (fun hHeld=>?_);clear hK K
   try simp only [C.py]
   refine wpAnyH_done (by kernel_rfl) ?_ _;have hgf:=hide hHeld.gr;go_wp2_with fail;exact bodyPost_ret (v:=.tuple #[.agg A,.agg zMv,.agg A,.int .i64 1]) (qqn _ _ w.heap.size A zMv A rfl rfl rfl (by rw [setRow_other _ _ _ _ (by omega),setRow_other _ _ _ _ (by omega)];exact setRow_heap _ _ _ _ _ _ r2) (by rw [setRow_other _ _ _ _ (by omega)];exact setRow_heap _ _ _ _ _ _ r4) (setRow_heap _ _ _ _ _ _ r6) hz rfl hz) rfl ⟨qa hend,qa hgf⟩
  | some x =>
   obtain ⟨f,tt,u⟩:=x;obtain ⟨e1,e2,hf,ht,hu,h45⟩:=mvR_parts hm;have k1:Hid (∀ W,Calls Tryz.prog 149 #[.string (t.extract 0 2)] W fun e w'=>e=.returned (.int .i64 (f:Int))/\w'=W):=hide (fun W=>by rw [<-e1];exact jp _ W);have k2:Hid (∀ W,Calls Tryz.prog 149 #[.string (t.extract 2 4)] W fun e w'=>e=.returned (.int .i64 (tt:Int))/\w'=W):=hide (fun W=>by rw [<-e2];exact jp _ W);have hle':=hide (qa hle f tt u hf ht hu);have hbe:=hide (qa hbeh f tt u hf ht hu);have h4:=hide (qa hend4 f tt u hm hf ht hu);have h0':=hide (qa hend0 f tt u hm hf ht hu);rw [hm] at hwr;have l4:(4:Int)<=(t.size:Int):=by rcases h45 with ⟨e,_⟩|⟨e,_⟩<;>omega
   have h45':=hide h45;clear hend1 hend4 hend0 hle hbeh hm e1 e2 hf ht hu h45;generalize legR (posZ p) p.white p.castle p.behind f tt u=LG at hle' h4 h0';go_upto_region 7 with (go_at_call 178;refine (qa hwr _).mono ?_;rintro e w5 ⟨rfl,hw5⟩;have hw5':=hw5.symm;subst hw5';clear hw5);go_cut [11] from 13 (fun s11 wx=>∃ B,s11=.pointer (some ⟨B,0,none⟩)/\T5 w b1 A B (mvA (f,tt,0)) wx)
   case first =>
    clear hle' hbe h4 h0' h45' hwr;have hT4d:T4 w b1 A w4.drew:=hT4.next (Gr.refl _).drew;refine wp_region_held_drew (S:=T4 w b1 A) (by kernel_rfl) hT4d (fun hHeld=>?_);refine C.tq 0 (.string t) hHeld ?_;refine C.ty 1 (.string (t.extract 0 2)) rfl (Or.inl ⟨by rfl,fun w' hw=>(by go_simp;try (intro hx;omega))⟩) hHeld ?_;refine C.tq 3 (.string t) hHeld ?_;refine C.ty 4 (.string (t.extract 2 4)) rfl (Or.inl ⟨by rfl,fun w' hw=>(by go_simp;try (intro hx;omega))⟩) hHeld ?_;refine wpAnyH_ready (rs:=[2,7]) (by kernel_rfl) (by simp) ?_;refine AllReadyH.cons rfl (fun K hK=>?_) (AllReadyH.cons rfl (fun K hK=>?_) AllReadyH.nil)
    ·go_simp;refine (qa k1 _).mono ?_;rintro e wa ⟨rfl,hwa⟩;have hwa':=hwa.symm;subst hwa';clear hwa;refine hK.out _ _ hHeld (fun hHeld=>?_);clear hK K
     try simp only [C.py]
     refine wpAnyH_ready (rs:=[5,7]) (by kernel_rfl) (by simp) ?_;refine AllReadyH.cons rfl (fun K hK=>?_) (AllReadyH.cons rfl (fun K hK=>?_) AllReadyH.nil)
     ·go_simp;refine (qa k2 _).mono ?_;rintro e wa ⟨rfl,hwa⟩;have hwa':=hwa.symm;subst hwa';clear hwa;refine hK.out _ _ hHeld (fun hHeld=>?_);clear hK K
      try simp only [C.py]
      refine C.ty 6 (.agg (mvA (f,tt,0))) rfl (zm (by rfl) 171 #[(0,.tmp 33),(1,.tmp 36)] rfl (mvA (f,tt,0)) (by simp only [List.map_toArray,List.map_cons,List.map_nil];exact qvz _ _)) hHeld ?_;refine C.rd 7 fun K hK=>?_
      go_simp;refine hK.out _ _ (hHeld.next ((Gr.refl _).alloc _ _)) (fun hHeld=>?_);clear hK K
      try simp only [C.py]
      refine C.rd 8 fun K hK=>?_
      rw [if_pos (by rfl)];refine wp_store_row 171 _ _ rfl w4.heap.size (mvA (f,tt,0)) rfl rfl 171 zMv (heap_alloc_new _ _) infoMr3 rfl (zq _) ?_;refine hK.out _ _ (hHeld.far w4.heap.size _ (by have:=xc hT4.p;have:=hT4.lo;omega) (Nat.ne_of_gt (xc hT4.p))) (fun hHeld=>?_);clear hK K
      try simp only [C.py]
      refine wpAnyH_done (by kernel_rfl) ?_ _;go_wp2_with fail;go_meet
      case rel=>exact ⟨_,rfl,T5.new hT4d⟩
     ·go_simp;refine hK.out _ _ (hHeld.next ((Gr.refl _).alloc _ _)) (fun hHeld=>?_);clear hK K
      try simp only [C.py]
      refine C.rd 5 fun K hK=>?_
      go_simp;refine (qa k2 _).mono ?_;rintro e wa ⟨rfl,hwa⟩;have hwa':=hwa.symm;subst hwa';clear hwa;refine hK.out _ _ hHeld (fun hHeld=>?_);clear hK K
      try simp only [C.py]
      refine C.ty 6 (.agg (mvA (f,tt,0))) rfl (zm (by rfl) 171 #[(0,.tmp 33),(1,.tmp 36)] rfl (mvA (f,tt,0)) (by simp only [List.map_toArray,List.map_cons,List.map_nil];exact qvz _ _)) hHeld ?_;refine C.rd 8 fun K hK=>?_
      rw [if_pos (by rfl)];refine wp_store_row 171 _ _ rfl w4.heap.size (mvA (f,tt,0)) rfl rfl 171 zMv (heap_alloc_new _ _) infoMr3 rfl (zq _) ?_;refine hK.out _ _ (hHeld.far w4.heap.size _ (by have:=xc hT4.p;have:=hT4.lo;omega) (Nat.ne_of_gt (xc hT4.p))) (fun hHeld=>?_);clear hK K
      try simp only [C.py]
      refine wpAnyH_done (by kernel_rfl) ?_ _;go_wp2_with fail;go_meet
      case rel=>exact ⟨_,rfl,T5.new hT4d⟩
    ·go_simp;refine hK.out _ _ (hHeld.next ((Gr.refl _).alloc _ _)) (fun hHeld=>?_);clear hK K
     try simp only [C.py]
     refine C.rd 2 fun K hK=>?_
     go_simp;refine (qa k1 _).mono ?_;rintro e wa ⟨rfl,hwa⟩;have hwa':=hwa.symm;subst hwa';clear hwa;refine hK.out _ _ hHeld (fun hHeld=>?_);clear hK K
     try simp only [C.py]
     refine C.rd 5 fun K hK=>?_
     go_simp;refine (qa k2 _).mono ?_;rintro e wa ⟨rfl,hwa⟩;have hwa':=hwa.symm;subst hwa';clear hwa;refine hK.out _ _ hHeld (fun hHeld=>?_);clear hK K
     try simp only [C.py]
     refine C.ty 6 (.agg (mvA (f,tt,0))) rfl (zm (by rfl) 171 #[(0,.tmp 33),(1,.tmp 36)] rfl (mvA (f,tt,0)) (by simp only [List.map_toArray,List.map_cons,List.map_nil];exact qvz _ _)) hHeld ?_;refine C.rd 8 fun K hK=>?_
     rw [if_pos (by rfl)];refine wp_store_row 171 _ _ rfl w4.heap.size (mvA (f,tt,0)) rfl rfl 171 zMv (heap_alloc_new _ _) infoMr3 rfl (zq _) ?_;refine hK.out _ _ (hHeld.far w4.heap.size _ (by have:=xc hT4.p;have:=hT4.lo;omega) (Nat.ne_of_gt (xc hT4.p))) (fun hHeld=>?_);clear hK K
     try simp only [C.py]
     refine wpAnyH_done (by kernel_rfl) ?_ _;go_wp2_with fail;go_meet
     case rel=>exact ⟨_,rfl,T5.new hT4d⟩
   case rest =>
    obtain ⟨B,rfl,hT5⟩:=hcut;clear hT4 k1 k2 hwr;obtain ⟨q5,hq5⟩:∃ c,((t.size:Int)==5)=c:=⟨_,rfl⟩;go_upto_if 40 with fail;go_cut [11] from 41 to 43 (fun s11 wx=>s11=.pointer (some ⟨B,0,none⟩)/\T5 w b1 A B (mvA (f,tt,u)) wx)
    case first =>
     clear hle' hbe h4 h0';cases q5
     ·have hu0:u=0:=by
       rcases qa h45' with ⟨e,hu⟩|⟨e,hu⟩
       ·exact hu
       ·rw [e] at hq5;cases hq5
      subst hu0;have hT5':=hide hT5;clear hT5 h45';go_wp2_with fail;go_meet
      case rel=>exact ⟨rfl,qa hT5'⟩
     ·have h44:4<t.size:=by have:=of_decide_eq_true hq5;omega
      have hu0:u=t[4]:=by
       rcases qa h45' with ⟨e,hu⟩|⟨e,hu⟩
       ·omega
       ·exact hu
      have c2:=hT5.c2;have hop:_:=xp (i:=2) hT5.m;have l5:(4:Int)<(t.size:Int):=by omega
      have hn:=hide (hT5.turn u);rw [hu0] at hn;clear h45' hT5;go_wp2_with fail;go_meet
      case rel=>exact ⟨rfl,by rw [hu0];exact qa hn⟩
    case rest =>
     obtain ⟨rfl,hT5⟩:=hcut;clear h45' l4 hq5;have c0:=hT5.c0;have c1:=hT5.c1;have c2:=hT5.c2;have hrow:=hide (rowOf hT5.t.p)
     go_upto_region 11 with (first
      | (go_at_call 157;refine (qa hle' _).mono ?_;rintro e w8 ⟨rfl,hg8⟩)
      | (refine ql (by rfl) _ rfl b1 rfl hz (qa hrow) ?_))
     have hT5:=hT5.next hg8;clear hg8 hrow hle' c0 c1 c2;cases LG
     ·have hend:=hide (qa h4 rfl);clear h4 h0' hbe;go_upto_region 12 with fail;have hHeld0:T5 w b1 A B (mvA (f,tt,u)) _:=hT5.next (Gr.refl _).drew;refine wp_region_held_drew (S:=T5 w b1 A B (mvA (f,tt,u))) (by kernel_rfl) hHeld0 (fun hHeld=>?_);clear hHeld0 hT5;refine C.ty 0 (.agg A) rfl (zd hz (by rfl) _ rfl b1 rfl (fun _ h=>qv h.t.p)) hHeld ?_;refine C.ty 1 (.agg (mvA (f,tt,u))) rfl (Or.inl ⟨by rfl,fun w' hw=>(by have c0:=hw.c0;have c1:=hw.c1;have c2:=hw.c2;go_simp;rfl)⟩) hHeld ?_;refine C.ty 2 (.agg A) rfl (zd hz (by rfl) _ rfl b1 rfl (fun _ h=>qv h.t.p)) hHeld ?_;refine C.rd 3 fun K hK=>?_
      rw [if_pos (by rfl)];obtain ⟨R1,r1,r2⟩:=hHeld.t.r1;refine wp_store_row 25 _ _ rfl w.heap.size A rfl rfl 25 R1 r2 (by rw [hz];exact infoP) (by rw [hz,r1]) (qa ho) ?_;refine hK.out _ _ (hHeld.put1 A hz) (fun hHeld=>?_);clear hK K
      try simp only [C.py]
      refine C.rd 4 fun K hK=>?_
      rw [if_pos (by rfl)];obtain ⟨R2,r3,r4⟩:=hHeld.t.r2;refine wp_store_row 171 _ _ rfl (w.heap.size+1) (mvA (f,tt,u)) rfl rfl 171 R2 r4 infoMr3 (by rw [r3];rfl) (zq _) ?_;refine hK.out _ _ (hHeld.put2 (mvA (f,tt,u)) rfl) (fun hHeld=>?_);clear hK K
      try simp only [C.py]
      refine C.rd 5 fun K hK=>?_
      rw [if_pos (by rfl)];obtain ⟨R3,r5,r6⟩:=hHeld.t.r3;refine wp_store_row 25 _ _ rfl (w.heap.size+2) A rfl rfl 25 R3 r6 (by rw [hz];exact infoP) (by rw [hz,r5]) (qa ho) ?_;refine hK.out _ _ (hHeld.put3 A hz) (fun hHeld=>?_);clear hK K
      try simp only [C.py]
      refine C.rd 6 fun K hK=>?_
      go_simp;refine hK.out _ _ (hHeld) (fun hHeld=>?_);clear hK K
      try simp only [C.py]
      refine wpAnyH_done (by kernel_rfl) ?_ _;have hgf:=hide hHeld.t.gr;go_wp2_with fail;exact bodyPost_ret (v:=.tuple #[.agg A,.agg (mvA (f,tt,u)),.agg A,.int .i64 4]) (qqn _ _ w.heap.size A (mvA (f,tt,u)) A rfl rfl rfl (by rw [setRow_other _ _ _ _ (by omega),setRow_other _ _ _ _ (by omega)];exact setRow_heap _ _ _ _ _ _ r2) (by rw [setRow_other _ _ _ _ (by omega)];exact setRow_heap _ _ _ _ _ _ r4) (setRow_heap _ _ _ _ _ _ r6) hz rfl hz) rfl ⟨qa hend,qa hgf⟩
     ·have h0:=hide (qa h0' rfl);clear h4 h0';go_upto_region 13 with fail;have hHeld0:T5 w b1 A B (mvA (f,tt,u)) _:=hT5.next (Gr.refl _).drew;refine wp_region_held_drew (S:=T5 w b1 A B (mvA (f,tt,u))) (by kernel_rfl) hHeld0 (fun hHeld=>?_);clear hHeld0 hT5;refine C.ty 0 (.agg A) rfl (zd hz (by rfl) _ rfl b1 rfl (fun _ h=>qv h.t.p)) hHeld ?_;refine C.ty 1 (.agg (mvA (f,tt,u))) rfl (Or.inl ⟨by rfl,fun w' hw=>(by have c0:=hw.c0;have c1:=hw.c1;have c2:=hw.c2;go_simp;rfl)⟩) hHeld ?_;refine C.ty 2 (.agg A) rfl (zd hz (by rfl) _ rfl b1 rfl (fun _ h=>qv h.t.p)) hHeld ?_;refine C.ty 3 (.agg (mvA (f,tt,u))) rfl (Or.inl ⟨by rfl,fun w' hw=>(by have c0:=hw.c0;have c1:=hw.c1;have c2:=hw.c2;go_simp;rfl)⟩) hHeld ?_;refine C.rd 4 fun K hK=>?_
      go_simp;refine (qa hbe _).mono ?_;rintro e wb ⟨Q,rfl,hQ,hgb⟩;have hqz:=hQ.size;have hqo:=qy hQ;have hend:=hide (qa h0 Q hQ);refine hK.out _ _ (hHeld.next hgb) (fun hHeld=>?_);clear hK K
      try simp only [C.py]
      refine C.rd 5 fun K hK=>?_
      rw [if_pos (by rfl)];obtain ⟨R1,r1,r2⟩:=hHeld.t.r1;refine wp_store_row 25 _ _ rfl w.heap.size A rfl rfl 25 R1 r2 (by rw [hz];exact infoP) (by rw [hz,r1]) (qa ho) ?_;refine hK.out _ _ (hHeld.put1 A hz) (fun hHeld=>?_);clear hK K
      try simp only [C.py]
      refine C.rd 6 fun K hK=>?_
      rw [if_pos (by rfl)];obtain ⟨R2,r3,r4⟩:=hHeld.t.r2;refine wp_store_row 171 _ _ rfl (w.heap.size+1) (mvA (f,tt,u)) rfl rfl 171 R2 r4 infoMr3 (by rw [r3];rfl) (zq _) ?_;refine hK.out _ _ (hHeld.put2 (mvA (f,tt,u)) rfl) (fun hHeld=>?_);clear hK K
      try simp only [C.py]
      refine C.rd 7 fun K hK=>?_
      rw [if_pos (by rfl)];obtain ⟨R3,r5,r6⟩:=hHeld.t.r3;refine wp_store_row 25 _ _ rfl (w.heap.size+2) Q rfl rfl 25 R3 r6 (by rw [hqz];exact infoP) (by rw [hqz,r5]) hqo ?_;refine hK.out _ _ (hHeld.put3 Q hqz) (fun hHeld=>?_);clear hK K
      try simp only [C.py]
      refine C.rd 8 fun K hK=>?_
      go_simp;refine hK.out _ _ (hHeld) (fun hHeld=>?_);clear hK K
      try simp only [C.py]
      refine wpAnyH_done (by kernel_rfl) ?_ _;have hgf:=hide hHeld.t.gr;go_wp2_with fail;exact bodyPost_ret (v:=.tuple #[.agg A,.agg (mvA (f,tt,u)),.agg Q,.int .i64 0]) (qqn _ _ w.heap.size A (mvA (f,tt,u)) Q rfl rfl rfl (by rw [setRow_other _ _ _ _ (by omega),setRow_other _ _ _ _ (by omega)];exact setRow_heap _ _ _ _ _ _ r2) (by rw [setRow_other _ _ _ _ (by omega)];exact setRow_heap _ _ _ _ _ _ r4) (setRow_heap _ _ _ _ _ _ r6) hz rfl hqz) rfl ⟨qa hend,qa hgf⟩
 ·have h2:Hid (∀ W,Calls Tryz.prog 38 #[.string s] W fun e w'=>e=.returned (.tuple #[.agg Tryz.zeroCells25,.int .i64 k])/\Gr W w'):=hide (fun W=>(qa h1 W).mono fun e w' h=>⟨hone e h.1,h.2⟩);have hend:Hid (PdEnd s t (.returned (.tuple #[.agg Tryz.zeroCells25,.agg zMv,.agg Tryz.zeroCells25,.int .i64 k]))):=hide (.inl ⟨k,_,_,_,hk,.inl hbad,zeroP,rfl,zeroP,zeroP_ones,zMv_ones,zeroP_ones,rfl⟩);have k2:(k != 0)=true:=by rw [bne_iff_ne];exact hk
  clear h1 hone hbad hs hwr hk;go_enter Tryz.func106,Tryz.ntmps106;go_upto_region 1 with fail;show Code.wp _ _ _ _ (((w.alloc (.cells Tryz.zeroCells25 25)).alloc (.cells zMv 171)).alloc (.cells Tryz.zeroCells25 25));generalize (((w.alloc (.cells Tryz.zeroCells25 25)).alloc (.cells zMv 171)).alloc (.cells Tryz.zeroCells25 25))=w0 at y1 y2 y3 y4 hg00 ⊢
  go_upto_region 3 with (first
   | (go_at_call 38;refine (qa h2 _).mono ?_;rintro e w3 ⟨rfl,hg3⟩)
   | (refine wpList_store_row rfl 25 _ _ rfl w3.heap.size Tryz.zeroCells25 rfl rfl 25 _ (heap_alloc_new _ _) (by rw [zeroP];exact infoP) rfl zeroP_ones ?_))
  have hg4:Gr w3 ((w3.alloc (.cells Tryz.zeroCells25 25)).setRow w3.heap.size Tryz.zeroCells25):=((Gr.refl w3).alloc Tryz.zeroCells25 25).setRow w3.heap.size (Nat.le_refl _) _
  have hT4:T4 w w3.heap.size Tryz.zeroCells25 ((w3.alloc (.cells Tryz.zeroCells25 25)).setRow w3.heap.size Tryz.zeroCells25):=by
   have hg:=Gr.trans hg3 hg4;have hsz:=Below.size hg3;exact ⟨⟨_,zeroP,(Below.block hg _ (xc y1)).trans y1⟩,⟨_,rfl,(Below.block hg _ (xc y2)).trans y2⟩,⟨_,zeroP,(Below.block hg _ (xc y3)).trans y3⟩,Gr.trans hg00 hg,setRow_heap _ _ _ _ _ _ (heap_alloc_new w3 _),by omega⟩
  show Code.wp _ _ _ _ ((w3.alloc (.cells Tryz.zeroCells25 25)).setRow w3.heap.size Tryz.zeroCells25);generalize (w3.alloc (.cells Tryz.zeroCells25 25)).setRow w3.heap.size Tryz.zeroCells25=w4 at hT4 ⊢;generalize w3.heap.size=b1 at hT4 ⊢;clear hg3 hg4 h2 y1 y2 y3 y4 hg00;have hz:=zeroP;have hHeld0:T4 w b1 Tryz.zeroCells25 _:=hT4.next (Gr.refl _).drew;refine wp_region_held_drew (S:=T4 w b1 Tryz.zeroCells25) (by kernel_rfl) hHeld0 (fun hHeld=>?_);clear hHeld0 hT4;refine C.ty 0 (.agg Tryz.zeroCells25) rfl (zd hz (by rfl) _ rfl b1 rfl (fun _ h=>qv h.p)) hHeld ?_;refine C.ty 1 (.agg zMv) rfl (zm (by rfl) 171 #[] rfl zMv (by simp only [List.map_toArray,List.map_nil];exact built_mr)) hHeld ?_;refine C.ty 2 (.agg Tryz.zeroCells25) rfl (zd hz (by rfl) _ rfl b1 rfl (fun _ h=>qv h.p)) hHeld ?_;refine C.tq 3 (.int .i64 k) hHeld ?_;refine C.rd 4 fun K hK=>?_
  rw [if_pos (by rfl)];obtain ⟨R1,r1,r2⟩:=hHeld.r1;refine wp_store_row 25 _ _ rfl w.heap.size Tryz.zeroCells25 rfl rfl 25 R1 r2 (by rw [hz];exact infoP) (by rw [hz,r1]) zeroP_ones ?_;refine hK.out _ _ (hHeld.put1 Tryz.zeroCells25 hz) (fun hHeld=>?_);clear hK K
  try simp only [C.py]
  refine C.rd 5 fun K hK=>?_
  rw [if_pos (by rfl)];obtain ⟨R2,r3,r4⟩:=hHeld.r2;refine wp_store_row 171 _ _ rfl (w.heap.size+1) zMv rfl rfl 171 R2 r4 infoMr3 (by rw [r3];rfl) zMv_ones ?_;refine hK.out _ _ (hHeld.put2 zMv rfl) (fun hHeld=>?_);clear hK K
  try simp only [C.py]
  refine C.rd 6 fun K hK=>?_
  rw [if_pos (by rfl)];obtain ⟨R3,r5,r6⟩:=hHeld.r3;refine wp_store_row 25 _ _ rfl (w.heap.size+2) Tryz.zeroCells25 rfl rfl 25 R3 r6 (by rw [hz];exact infoP) (by rw [hz,r5]) zeroP_ones ?_;refine hK.out _ _ (hHeld.put3 Tryz.zeroCells25 hz) (fun hHeld=>?_);clear hK K
  try simp only [C.py]
  refine C.rd 7 fun K hK=>?_
  go_simp;refine hK.out _ _ (hHeld) (fun hHeld=>?_);clear hK K
  try simp only [C.py]
  refine wpAnyH_done (by kernel_rfl) ?_ _;have hgf:=hide hHeld.gr;go_wp2_with fail;exact bodyPost_ret (v:=.tuple #[.agg Tryz.zeroCells25,.agg zMv,.agg Tryz.zeroCells25,.int .i64 k]) (qqn _ _ w.heap.size Tryz.zeroCells25 zMv Tryz.zeroCells25 rfl rfl rfl (by rw [setRow_other _ _ _ _ (by omega),setRow_other _ _ _ _ (by omega)];exact setRow_heap _ _ _ _ _ _ r2) (by rw [setRow_other _ _ _ _ (by omega)];exact setRow_heap _ _ _ _ _ _ r4) (setRow_heap _ _ _ _ _ _ r6) hz rfl hz) rfl ⟨qa hend,qa hgf⟩
end Go.Proofs.YtnfakamfmkhlbaaGreatDoor.C
