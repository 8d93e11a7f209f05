import Derived.Test.YtnfakamfmkhlbaaGreatDoorZf20
set_option maxRecDepth 100000
set_option maxHeartbeats 4000000
set_option linter.unusedSimpArgs false
namespace Go.Proofs.YtnfakamfmkhlbaaGreatDoor.C
open Go.ChangeShapes Go.WideShapes Go.ChangeAt Go.RowKit Go.Shelf
open Go.Proofs.YtnfakamfmkhlbaaGreatDoor.P
attribute [local go_sem] qb qd
def pawnB (c:UInt8):Bool:=((c.toNat:Int)==80)||((c.toNat:Int)==112)
def kingB (c:UInt8):Bool:=((c.toNat:Int)==75)||((c.toNat:Int)==107)
theorem xp (c:UInt8) (w:World):Calls Tryz.prog 182 #[.int .u8 (c.toNat:Int)] w fun e w'=>e=.returned (.bool (pawnB c))/\w'=w:=by
 obtain ⟨v,hv⟩:∃ v,Hid (v=pawnB c):=⟨_,hide rfl⟩;rw [<-qa hv];have hv2:Hid (v=(((c.toNat:Int)==80)||((c.toNat:Int)==112))):=hv;go_enter Tryz.func182,Tryz.ntmps182;go_wp2
 all_goals
  go_ret;refine ⟨ji ?_,rfl⟩;rw [qa hv2]
  try simp [*]
theorem qze (c:UInt8) (w:World):Calls Tryz.prog 183 #[.int .u8 (c.toNat:Int)] w fun e w'=>e=.returned (.bool (kingB c))/\w'=w:=by
 obtain ⟨v,hv⟩:∃ v,Hid (v=kingB c):=⟨_,hide rfl⟩;rw [<-qa hv];have hv2:Hid (v=(((c.toNat:Int)==75)||((c.toNat:Int)==107))):=hv;go_enter Tryz.func183,Tryz.ntmps183;go_wp2
 all_goals
  go_ret;refine ⟨ji ?_,rfl⟩;rw [qa hv2]
  try simp [*]
structure Ps (z:Nat->UInt8) (wh:Bool) (fc:Nat->Bool) (b:Int) (Bp:Nat) (W:World):Prop where
 bd:Bz z Bp W
 wh:W.cell? ⟨Bp,64,none⟩=some (.bool wh)
 c:∀ i,i<4->W.cell? ⟨Bp,65+i,none⟩=some (.bool (fc i))
 b:W.cell? ⟨Bp,69,none⟩=some (.int .i64 b)
theorem Ps.of {z:Nat->UInt8} {wh:Bool} {fc:Nat->Bool} {b h g:Int} {PA:Array Value} (r:Row z wh fc b h g PA) {Bp:Nat} {W:World} {t:TypeId} (hp:W.heap[Bp]?=some (.cells PA t)):Ps z wh fc b Bp W :=
 ⟨fun i hi=>by rw [cell_of_row _ _ _ _ _ _ hp];exact r.sq i hi,by rw [cell_of_row _ _ _ _ _ _ hp];exact r.wh,fun i hi=>by rw [cell_of_row _ _ _ _ _ _ hp];exact r.c i hi,by rw [cell_of_row _ _ _ _ _ _ hp];exact r.b⟩
theorem Ps.fr {z:Nat->UInt8} {wh:Bool} {fc:Nat->Bool} {b:Int} {Bp:Nat} {W W':World} {Q:Nat->Obj->Prop} (h:Ps z wh fc b Bp W) (f:Fr Q W W') (hq:∀ o,W.heap[Bp]?=some o->Q Bp o):Ps z wh fc b Bp W' :=
 ⟨fun i hi=>f.cell (h.bd i hi) (fun o e=>hq o e),f.cell h.wh (fun o e=>hq o e),fun i hi=>f.cell (h.c i hi) (fun o e=>hq o e),f.cell h.b (fun o e=>hq o e)⟩
theorem Ps.gr {z:Nat->UInt8} {wh:Bool} {fc:Nat->Bool} {b:Int} {Bp:Nat} {W W':World} (h:Ps z wh fc b Bp W) (g:Gr W W'):Ps z wh fc b Bp W':=h.fr (Q:=fun _ _=>True) (Fr.of_gr g) (fun _ _=>trivial)
theorem Ps.lt {z:Nat->UInt8} {wh:Bool} {fc:Nat->Bool} {b:Int} {Bp:Nat} {W:World} (h:Ps z wh fc b Bp W):Bp<W.heap.size:=World.block_lt_of_cell? _ _ h.wh
def mayB (z:Nat->UInt8) (wh:Bool) (b:Int) (f t:Nat):Bool:=if pawnB (z f) then ((t:Int)==b)||manB (z t) (!wh) else !(manB (z t) wh)
theorem mayGo_any {z:Nat->UInt8} {wh:Bool} {fc:Nat->Bool} {b:Int} {Bp:Nat} {w:World} (h:Ps z wh fc b Bp w) (f t:Nat) (hf:f<64) (ht:t<64) :
  Calls Tryz.prog 282 #[.pointer (some ⟨Bp,0,none⟩),.int .i64 (f:Int),.int .i64 (t:Int)] w fun e w'=>e=.returned (.bool (mayB z wh b f t))/\Gr w w':=by
 have c1:=h.bd f hf;have c2:=h.bd t ht;have c3:=h.wh;have c4:=h.b;have hp:=hide (fun W=>xp (z f) W);have hm:=hide (fun x W=>qqt (z t) x W);obtain ⟨v,hv⟩:∃ v,Hid (v=mayB z wh b f t):=⟨_,hide rfl⟩;rw [<-qa hv];have hv2:Hid (v=if pawnB (z f) then ((t:Int)==b)||manB (z t) (!wh) else !(manB (z t) wh)):=hv;clear hv h;generalize pawnB (z f)=pw at hp hv2;have hf0:(0:Int)<=(f:Int):=by omega
 have hf1:(f:Int)<64:=by omega
 have ht0:(0:Int)<=(t:Int):=by omega
 have ht1:(t:Int)<64:=by omega
 cases pw
 ·go_enter Tryz.func282,Tryz.ntmps282;go_upto_region 3 with (go_at_call 182;refine (qa hp _).mono ?_;rintro e w' ⟨rfl,rfl⟩);go_quiet ((go_at_call 159;exact Calls.quiet_of_same (qa hm _ _)));go_wp2;go_ret;refine ⟨ji ?_,(Gr.refl _).drewN _⟩;rw [qa hv2];simp
 ·obtain ⟨q,hq⟩:∃ q,((t:Int)==b)=q:=⟨_,rfl⟩;rw [hq] at hv2;cases q
  ·go_enter Tryz.func282,Tryz.ntmps282;go_upto_region 2 with (go_at_call 182;refine (qa hp _).mono ?_;rintro e w' ⟨rfl,rfl⟩);go_quiet ((go_at_call 159;exact Calls.quiet_of_same (qa hm _ _)));go_wp2;go_ret;refine ⟨ji ?_,(Gr.refl _).drewN _⟩;rw [qa hv2];simp
  ·go_enter Tryz.func282,Tryz.ntmps282;go_upto_region 2 with (go_at_call 182;refine (qa hp _).mono ?_;rintro e w' ⟨rfl,rfl⟩);go_quiet ((go_at_call 159;exact Calls.quiet_of_same (qa hm _ _)));go_wp2;go_ret;refine ⟨ji ?_,(Gr.refl _).drewN _⟩;rw [qa hv2];simp
theorem manN_any {z:Nat->UInt8} {wh:Bool} {fc:Nat->Bool} {b:Int} {Bp:Nat} {w:World} (h:Ps z wh fc b Bp w) (B1 B2:Nat) (f t:Nat) (hf:f<64) (ht:t<64) (h1:w.cell? ⟨B1,0,none⟩=some (.pointer (some ⟨Bp,0,none⟩))) (h2:w.cell? ⟨B2,0,none⟩=some (.int .i64 (f:Int))) :
  Calls Tryz.prog 281 #[.int .i64 (t:Int),.pointer (some ⟨B1,0,none⟩),.pointer (some ⟨B2,0,none⟩)] w fun e w'=>e=.returned (.bool (mayB z wh b f t))/\Gr w w':=by
 have hm:=hide (mayGo_any h f t hf ht);clear h;go_enter Tryz.func281,Tryz.ntmps281;go_wp2_with (go_at_call 282;refine (qa hm).mono ?_;rintro e w' ⟨rfl,hg⟩);go_ret;exact ⟨rfl,hg⟩
theorem attacks_mk {z:Nat->UInt8} {A x:Nat} (hx:x<64) (w:World) (hb:Bz z A w):Calls Tryz.prog 280 #[.pointer (some ⟨A,0,none⟩),.int .i64 (x:Int)] w fun e w'=>e=.returned (.func (.func 313) #[] #[.pointer (some ⟨w.heap.size+2,0,none⟩),.pointer (some ⟨w.heap.size,0,none⟩),.pointer (some ⟨w.heap.size+1,0,none⟩)])/\w'.heap[w.heap.size]?=some (.cells #[.pointer (some ⟨A,0,none⟩)] 243)/\w'.heap[w.heap.size+1]?=some (.cells #[.int .i64 (x:Int)] 3)/\w'.heap[w.heap.size+2]?=some (.cells #[.int .u8 ((z x).toNat:Int)] 5)/\Gr w w'/\w'.heap.size=w.heap.size+3:=by
 have hmf:∀ (fn:Fn) (first cap:Array Value) (w:World),(Instr.makeFunc fn first cap).run Tryz.prog w=.ok (.func fn first cap) w:=fun _ _ _ _=>rfl
 have hg0:Gr w ((w.alloc (.cells #[.pointer (some ⟨A,0,none⟩)] 243)).alloc (.cells #[.int .i64 (x:Int)] 3)):=((Gr.refl w).alloc _ _).alloc _ _;obtain ⟨h1,h2⟩:=heapTwo w (.cells #[.pointer (some ⟨A,0,none⟩)] 243) (.cells #[.int .i64 (x:Int)] 3);have c1:=(qc h1).1;have c2:=(qc h2).1;have cx:=(Below.cell hg0 (World.block_lt_of_cell? _ _ (hb x hx))).trans (hb x hx);have hx0:(0:Int)<=(x:Int):=by omega
 have hx1:(x:Int)<64:=by omega
 have hs0:((w.alloc (.cells #[.pointer (some ⟨A,0,none⟩)] 243)).alloc (.cells #[.int .i64 (x:Int)] 3)).heap.size=w.heap.size+2:=by simp
 go_enter Tryz.func280,Tryz.ntmps280;go_upto_region 1 with fail;generalize ((w.alloc (.cells #[.pointer (some ⟨A,0,none⟩)] 243)).alloc (.cells #[.int .i64 (x:Int)] 3))=w2 at hg0 h1 h2 c1 c2 cx hs0 ⊢;have hin:Hid (∀ w',Gr w2 w'->Gr w2 w'/\w'.cell? ⟨w.heap.size,0,none⟩=some (.pointer (some ⟨A,0,none⟩))/\w'.cell? ⟨w.heap.size+1,0,none⟩=some (.int .i64 (x:Int))/\w'.cell? ⟨A,x,none⟩=some (.int .u8 ((z x).toNat:Int))):=hide (fun w' g=>⟨g,(Below.cell g (World.block_lt_of_cell? _ _ c1)).trans c1,(Below.cell g (World.block_lt_of_cell? _ _ c2)).trans c2,(Below.cell g (World.block_lt_of_cell? _ _ cx)).trans cx⟩);go_region_held3 (fun w'=>Gr w2 w'/\w'.cell? ⟨w.heap.size,0,none⟩=some (.pointer (some ⟨A,0,none⟩))/\w'.cell? ⟨w.heap.size+1,0,none⟩=some (.int .i64 (x:Int))/\w'.cell? ⟨A,x,none⟩=some (.int .u8 ((z x).toNat:Int))) (first|exact qa hin _ (Gr.refl _).drew|exact qa hin _ ((Gr.refl _).alloc _ _).drew) (fail);have e0:=World.alloc_heap_new w2 (.cells #[.int .u8 ((z x).toNat:Int)] 5);have e1:=(Below.heap_alloc w2 (.cells #[.int .u8 ((z x).toNat:Int)] 5) w.heap.size (by omega)).trans h1;have e2:=(Below.heap_alloc w2 (.cells #[.int .u8 ((z x).toNat:Int)] 5) (w.heap.size+1) (by omega)).trans h2;rw [hs0] at e0;go_wp2;go_ret;exact ⟨rfl,e1,e2,e0,(hg0.alloc _ _).drew,by show (w2.alloc _).heap.size=_;rw [World.size_alloc,hs0]⟩
theorem onlyI_mk (g gf:Nat) (lb lf:Array Value) (w:World):Calls Tryz.prog 279 #[.func (.func g) #[] lb,.func (.func gf) #[] lf] w fun e w'=>e=.returned (.func (.func 312) #[] #[.pointer (some ⟨w.heap.size,0,none⟩),.pointer (some ⟨w.heap.size+1,0,none⟩)])/\w'.heap[w.heap.size]?=some (.cells #[.func (.func g) #[] lb] 217)/\w'.heap[w.heap.size+1]?=some (.cells #[.func (.func gf) #[] lf] 189)/\Gr w w':=by
 have hmf:∀ (fn:Fn) (first cap:Array Value) (w:World),(Instr.makeFunc fn first cap).run Tryz.prog w=.ok (.func fn first cap) w:=fun _ _ _ _=>rfl
 obtain ⟨h1,h2⟩:=heapTwo w (.cells #[.func (.func g) #[] lb] 217) (.cells #[.func (.func gf) #[] lf] 189);go_enter Tryz.func279,Tryz.ntmps279;go_wp2;go_ret;exact ⟨rfl,h1,h2,((Gr.refl w).alloc _ _).alloc _ _⟩
theorem chain_mk (v:Value) (w:World) (hv:v.oneCell'=true):Calls Tryz.prog 283 #[v] w fun e w'=>e=.returned (.func (.func 314) #[] #[.pointer (some ⟨w.heap.size,0,none⟩)])/\w'.heap[w.heap.size]?=some (.cells #[v] 356)/\Gr w w':=by
 have hmf:∀ (fn:Fn) (first cap:Array Value) (w:World),(Instr.makeFunc fn first cap).run Tryz.prog w=.ok (.func fn first cap) w:=fun _ _ _ _=>rfl
 go_enter Tryz.func283,Tryz.ntmps283;go_wp2;go_ret;exact ⟨rfl,World.alloc_heap_new w _,(Gr.refl w).alloc _ _⟩
end Go.Proofs.YtnfakamfmkhlbaaGreatDoor.C
namespace Go.Proofs.YtnfakamfmkhlbaaGreatDoor.C
open Go.ChangeShapes Go.WideShapes Go.ChangeAt Go.RowKit Go.Shelf
open Go.Proofs.YtnfakamfmkhlbaaGreatDoor.P
attribute [local go_sem] qb qd Oper.semAt_some
def ahT (z:Nat->UInt8) (most:Nat) (xs:List Nat):List Nat:=(xs.take most).takeWhile fun v=>z v==46
theorem tw_all {p:Nat->Bool}:∀ (l:List Nat),(∀ v∈l,p v=true)->∀ r,(l++r).takeWhile p=l++r.takeWhile p
 | [],_,r=>rfl
 | a :: l,h,r=>by
   rw [List.cons_append,List.takeWhile_cons,h a (List.mem_cons_self ..),if_pos rfl,tw_all l (fun v hv=>h v (List.mem_cons_of_mem _ hv)) r,List.cons_append]
theorem ah_stop {z:Nat->UInt8} {most:Nat} {pre xs:List Nat} {y:Nat} (h:pre++[y] <+: xs) (hp:∀ v∈pre,z v=46) (hl:pre.length<=most) (hs:pre.length=most\/z y≠46):ahT z most xs=pre:=by
 obtain ⟨r,rfl⟩:=h;have hp':∀ v∈pre,(z v==46)=true:=fun v hv=>by rw [hp v hv];rfl
 unfold ahT;rw [List.append_assoc,List.take_append];by_cases e:pre.length=most
 ·rw [List.take_of_length_le (by omega),show most-pre.length=0 by omega,List.take_zero,tw_all pre hp'];simp
 ·rcases hs with hs|hs
  ·exact absurd hs e
  ·obtain ⟨k,hk⟩:∃ k,most-pre.length=k+1:=⟨most-pre.length-1,by omega⟩;rw [List.take_of_length_le (by omega),hk,tw_all pre hp'];simp [hs]
theorem ah_more {z:Nat->UInt8} {most:Nat} {pre xs:List Nat} {y:Nat} (h:pre++[y] <+: xs) (hp:∀ v∈pre,z v=46) (hl:pre.length<most) (hs:z y=46):pre++[y] <+: ahT z most xs:=by
 obtain ⟨r,rfl⟩:=h
 have hp':∀ v∈pre++[y],(z v==46)=true:=fun v hv=>by
  rcases List.mem_append.1 hv with hv|hv
  ·rw [hp v hv];rfl
  ·rw [List.mem_singleton.1 hv,hs];rfl
 unfold ahT;rw [List.take_append,List.take_of_length_le (by simp;omega),tw_all _ hp'];exact List.prefix_append _ _
theorem ah_all {z:Nat->UInt8} {most:Nat} {xs:List Nat} (hp:∀ v∈xs,z v=46) (hl:xs.length<=most):ahT z most xs=xs:=by
 unfold ahT;rw [List.take_of_length_le hl];have:=tw_all xs (p:=fun v=>z v==46) (fun v hv=>by rw [hp v hv];rfl) [];simpa using this
structure Ah (z:Nat->UInt8) (wh:Bool) (fc:Nat->Bool) (b:Int) (f:Nat) (a c:Int) (most B1 B2 B3 B4 Bp:Nat) (W:World):Prop where
 b1:W.cell? ⟨B1,0,none⟩=some (.pointer (some ⟨Bp,0,none⟩))
 b2:W.cell? ⟨B2,0,none⟩=some (.int .i64 (f:Int))
 b3:W.cell? ⟨B3,0,none⟩=some (.int .i64 a)
 b3':W.cell? ⟨B3,1,none⟩=some (.int .i64 c)
 b4:W.cell? ⟨B4,0,none⟩=some (.int .i64 (most:Int))
 ps:Ps z wh fc b Bp W
theorem Ah.fr {z:Nat->UInt8} {wh:Bool} {fc:Nat->Bool} {b:Int} {f:Nat} {a c:Int} {most B1 B2 B3 B4 Bp:Nat} {W W':World} {Q:Nat->Obj->Prop} (h:Ah z wh fc b f a c most B1 B2 B3 B4 Bp W) (g:Fr Q W W') (hq:∀ k o,(k=B1\/k=B2\/k=B3\/k=B4\/k=Bp)->W.heap[k]?=some o->Q k o):Ah z wh fc b f a c most B1 B2 B3 B4 Bp W' :=
 ⟨g.cell h.b1 (fun o e=>hq _ o (by simp) e),g.cell h.b2 (fun o e=>hq _ o (by simp) e),g.cell h.b3 (fun o e=>hq _ o (by simp) e),g.cell h.b3' (fun o e=>hq _ o (by simp) e),g.cell h.b4 (fun o e=>hq _ o (by simp) e),h.ps.fr g (fun o e=>hq _ o (by simp) e)⟩
theorem Ah.gr {z:Nat->UInt8} {wh:Bool} {fc:Nat->Bool} {b:Int} {f:Nat} {a c:Int} {most B1 B2 B3 B4 Bp:Nat} {W W':World} (h:Ah z wh fc b f a c most B1 B2 B3 B4 Bp W) (g:Gr W W'):Ah z wh fc b f a c most B1 B2 B3 B4 Bp W':=h.fr (Q:=fun _ _=>True) (Fr.of_gr g) (fun _ _ _ _=>trivial)
theorem Ah.lt {z:Nat->UInt8} {wh:Bool} {fc:Nat->Bool} {b:Int} {f:Nat} {a c:Int} {most B1 B2 B3 B4 Bp:Nat} {W:World} (h:Ah z wh fc b f a c most B1 B2 B3 B4 Bp W):∀ k,(k=B1\/k=B2\/k=B3\/k=B4\/k=Bp)->k<W.heap.size:=by
 rintro k (rfl|rfl|rfl|rfl|rfl)
 ·exact World.block_lt_of_cell? _ _ h.b1
 ·exact World.block_lt_of_cell? _ _ h.b2
 ·exact World.block_lt_of_cell? _ _ h.b3
 ·exact World.block_lt_of_cell? _ _ h.b4
 ·exact h.ps.lt
theorem ahead_it {z:Nat->UInt8} {wh:Bool} {fc:Nat->Bool} {b:Int} {f:Nat} (hf:f<64) {a c:Int} (hsm:small (a,c)) (hnz:a≠0\/c≠0) {most:Nat} (hmo:most<=2) {B1 B2 B3 B4 Bp:Nat} (T:Obj->Prop) (hTm:OnlyMv T) (w:World) (hw:Ah z wh fc b f a c most B1 B2 B3 B4 Bp w) :
  It Tryz.prog 315 #[.pointer (some ⟨B1,0,none⟩),.pointer (some ⟨B2,0,none⟩),.pointer (some ⟨B3,0,none⟩),.pointer (some ⟨B4,0,none⟩)] encI T (fun k=>k=B1\/k=B2\/k=B3\/k=B4\/k=Bp) (ahT z most (wkL z (a,c) f)) w:=by
 intro l B J Jx W f0 hB hJ hJx hY h0;have hW:=hw.fr f0 (fun k o hk _=>hk);clear f0 hw;refine (callsIn_wide (n:=9)).1 ?_;refine callsIn_of_wp_marks Tryz.func315 rfl trivial ?_ rfl;simp only [Tryz.ntmps315,List.size_toArray,List.length_cons,List.length_nil,Nat.reduceAdd,Nat.reduceSub,Array.replicate_succ,Array.replicate_zero,List.push_toArray,List.append_toArray,List.nil_append,List.cons_append];refine wpIn_wide.2 ?_;obtain ⟨x1,x2⟩:=heapTwo W (.cells #[.func (.yield l) #[] #[]] 189) (.cells #[.int .i64 0] 3);have hg2:Gr W ((W.alloc (.cells #[.func (.yield l) #[] #[]] 189)).alloc (.cells #[.int .i64 0] 3)):=((Gr.refl W).alloc _ _).alloc _ _;have hs2:((W.alloc (.cells #[.func (.yield l) #[] #[]] 189)).alloc (.cells #[.int .i64 0] 3)).heap.size=W.heap.size+2:=by simp
 go_upto_region 2 with fail;generalize ((W.alloc (.cells #[.func (.yield l) #[] #[]] 189)).alloc (.cells #[.int .i64 0] 3))=w2 at x1 x2 hg2 hs2 ⊢;have hA2:=hW.gr hg2;have c1:=hA2.b1;have c2:=hA2.b2;have c3:=hA2.b3;have c4:=hA2.b3';have hin:Hid (∀ w',Gr w2 w'->Gr w2 w'/\w'.cell? ⟨B1,0,none⟩=some (.pointer (some ⟨Bp,0,none⟩))/\w'.cell? ⟨B2,0,none⟩=some (.int .i64 (f:Int))/\w'.cell? ⟨B3,0,none⟩=some (.int .i64 a)/\w'.cell? ⟨B3,1,none⟩=some (.int .i64 c)):=hide (fun w' g=>⟨g,(hA2.gr g).b1,(hA2.gr g).b2,(hA2.gr g).b3,(hA2.gr g).b3'⟩);have hmk:=hide (fun W=>walk_mk Bp f a c W);go_region_held3 (fun w'=>Gr w2 w'/\w'.cell? ⟨B1,0,none⟩=some (.pointer (some ⟨Bp,0,none⟩))/\w'.cell? ⟨B2,0,none⟩=some (.int .i64 (f:Int))/\w'.cell? ⟨B3,0,none⟩=some (.int .i64 a)/\w'.cell? ⟨B3,1,none⟩=some (.int .i64 c)) (first|exact qa hin _ (Gr.refl _).drew|exact qa hin _ (by assumption)) (first|(go_at_call 158;refine (qa hmk _).mono ?_;rintro e w6 ⟨rfl,hwk,hg6,hs6⟩;have hg7:=Gr.trans (Gr.refl w2).drew hg6));go_wp2_with fail;have hgw:=Gr.trans hg2 hg7;have hA6:=hW.gr hgw;have hsz:w2.drew.heap.size=W.heap.size+2:=hs2;rw [hsz] at hwk hs6;have hJ6:=hJ _ _ _ h0 (Fr.of_gr hgw);have k0:=(Below.block hg7 _ (Array.getElem?_eq_some_iff.1 x1).1).trans x1;have k1:=(Below.block hg7 _ (Array.getElem?_eq_some_iff.1 x2).1).trans x2;have hs7:W.heap.size+2+3<=w6.heap.size:=by omega
 have hpos2:=hW.lt;have hpos:Bp<W.heap.size:=hW.ps.lt;clear hs6 hg6 hg7 hgw x1 x2 hg2 hs2 hsz hA2 c1 c2 c3 c4 hin hmk hW h0;generalize W.heap.size=Wb at hB hwk hs7 k0 k1 hpos hpos2 ⊢;have hlt6:=hA6.lt;have hwk6:=hwk.wk hA6.ps.bd;have hB6:B<=w6.heap.size:=by omega
 have hms:∀ {D:Nat} {V:World},w6.heap.size<=D->V.heap[D]?=some (.deferred (some []))->Marks B [D] V:=fun hD hK=>⟨by simp,fun D' hD'=>by rw [List.mem_singleton] at hD';subst hD';exact ⟨by omega,hK⟩⟩
 refine wpIn_wide.1 (qo (n:=9) (gf:=232) (lb:=wkA (Wb+2)) rfl (enters_of Tryz.func232 (by kernel_rfl) rfl)
  (walk_it z f hf a c hsm hnz (Wb+2+1) (Wb+2+2) (Wb+2) Bp T w6 hwk6) hTm.cells (by rintro j (rfl|rfl|rfl|rfl);exact (by omega);exact (by omega);exact (by omega);exact hA6.ps.lt) (Fr.refl _ _) (fun _=>rfl)
  (fun pre V=>Ah z wh fc b f a c most B1 B2 B3 B4 Bp V/\WkAt Bp f a c (Wb+2) V/\V.heap[Wb]?=some (.cells #[.func (.yield l) #[] #[]] 189)/\V.heap[Wb+1]?=some (.cells #[.int .i64 (pre.length:Int)] 3)/\(∀ v∈pre,z v=46)/\pre.length<=most/\J pre V)
  (fun k _ V=>k=.ret/\(J (ahT z most (wkL z (a,c) f)) V\/∃ q,q <+: ahT z most (wkL z (a,c) f)/\Jx q V))
  ?sI ?sX ⟨hA6,hwk,k0,k1,fun v hv=>absurd hv List.not_mem_nil,Nat.zero_le _,hJ6⟩ ?rnd ?done ?stop)
 case sI=>exact fun s V V' h g=>⟨h.1.fr g (fun k o hk _=>.inl (hlt6 k hk)),⟨g.same _ _ h.2.1.b0 (.inl (by omega)),g.same _ _ h.2.1.b1 (.inl (by omega)),g.same _ _ h.2.1.b2 (.inl (by omega))⟩,g.same _ _ h.2.2.1 (.inl (by omega)),g.same _ _ h.2.2.2.1 (.inl (by omega)),h.2.2.2.2.1,h.2.2.2.2.2.1,qg hJ hB6 _ _ _ h.2.2.2.2.2.2 g⟩
 case sX=>exact fun k s V V' h g=>⟨h.1,h.2.imp (fun h=>qg hJ hB6 _ _ _ h g) (fun h=>h.elim fun q hq=>⟨q,hq.1,qg hJx hB6 _ _ _ hq.2 g⟩)⟩
 case done =>
  rintro D V hD ⟨_,_,_,_,hall,hlen,hJV⟩ hK;have e:=hide (ah_all hall hlen);clear hall hlen;go_wp2_with fail;exact qp (T:=T) Tryz.results315 hTm.cells [D] V (hms hD hK) (fun v w' g=>⟨⟨v,rfl⟩,.inl (by rw [qa e];exact hJ _ _ _ hJV g)⟩)
 case stop =>
  rintro D k pre V hD hpre ⟨rfl,hjx⟩ hK;refine wpIn_wide.2 ?_;go_wp2_with fail;exact qp (T:=T) Tryz.results315 hTm.cells [D] V (hms hD hK) (fun v w' g=>⟨⟨v,rfl⟩,hjx.imp (fun h=>hJ _ _ _ h g) (fun h=>h.elim fun q hq=>⟨q,hq.1,hJx _ _ _ hq.2 g⟩)⟩)
 case rnd =>
  intro l1 pre y V hbl hxy hI hl;simp only [encI];gi_wp2;refine ⟨Fr.refl _ _,?_⟩;intro V2 f2 hI2 hl2;obtain ⟨hA2,hwk2,hy2,hm2,hall,hlen,hJ2⟩:=hI2;have hy64:y<64:=wk_lt hf (zk hxy);have hy0:(0:Int)<=(y:Int):=by omega
  have hy1:(y:Int)<64:=by omega
  have d1:=hA2.b1;have d4:=hA2.b4;have dy:=hA2.ps.bd y hy64;have dm:=(qc hm2).1;have dyb:=(qc hy2).1;have hA2':=hide hA2;have hwk2':=hide hwk2;have hy2':=hide hy2;have hm2':=hide hm2;have hall':=hide hall;clear hA2 hwk2 hy2 hm2 hall hI hl f2;by_cases hq:pre.length=most
  ·have e:=hide (ah_stop hxy (qa hall') hlen (.inl hq));rw [hq] at dm;gi_wp2;refine ⟨fun _ h=>(by cases h),?_⟩;gi_wp2;exact ⟨Fr.refl _ _,rfl,.inl (by rw [qa e];exact hJ2)⟩
  ·have hql:pre.length<most:=by omega
   have hqb:((pre.length:Int)==(most:Int))=false:=by simp;omega
   by_cases h46:z y=46
   ·have hz:((z y).toNat:Int)=46:=by rw [h46];rfl
    rw [hz] at dy;have hpy:=ah_more hxy (qa hall') hql h46;obtain ⟨fn,tmps,assign,body,hyy,hR⟩:=xf (m':=8) (hY pre y V2 hpy hJ2);have hy':(Instr.yield l #[.int .i64 (y:Int)]).run Tryz.prog V2=.ok (.round l fn tmps assign body) V2:=hyy;clear hyy;have hpy':=hide hpy;clear hpy;gi_wp2;have hR':RoundIn (Fence.wide.inRound l1) 8 Tryz.prog l fn tmps assign body V2 (fun e W'=>Fr (Rnd1 B T (fun k=>k=B1\/k=B2\/k=B3\/k=B4\/k=Bp)) V2 W'/\((e=.returned (.bool true)/\J (pre++[y]) W')\/(e=.returned (.bool false)/\Jx (pre++[y]) W'))):=hR;clear hR;refine hR'.mono ?_;clear hR' hy';intro e V4 h4;obtain ⟨f4,h4⟩:=h4
    have fc1:Fr (Rnd1 w6.heap.size T (fun j=>j=Wb+2+1\/j=Wb+2+2\/j=Wb+2\/j=Bp)) V2 V4:=rnd_in f4 hTm hB6 (by
     rintro j (rfl|rfl|rfl|rfl)
     ·exact .inr (qi (by omega) (by decide) (qa hwk2').b1)
     ·exact .inr (qi (by omega) (by decide) (qa hwk2').b2)
     ·exact .inr (qi (by omega) (by decide) (qa hwk2').b0)
     ·exact .inl (by simp))
    rcases h4 with ⟨rfl,hJ4⟩|⟨rfl,hx4⟩
    ·have hA4:Ah z wh fc b f a c most B1 B2 B3 B4 Bp V4:=(qa hA2').fr f4 (fun k o hk _=>.inl hk);have hwk4:WkAt Bp f a c (Wb+2) V4:=⟨(qi (by omega) (by decide) (qa hwk2').b0).keep hTm f4 (qa hwk2').b0,(qi (by omega) (by decide) (qa hwk2').b1).keep hTm f4 (qa hwk2').b1,(qi (by omega) (by decide) (qa hwk2').b2).keep hTm f4 (qa hwk2').b2⟩;have hy4:=(qi (by omega) (by decide) (qa hy2')).keep hTm f4 (qa hy2');have hm4:=(qi (by omega) (by decide) (qa hm2')).keep hTm f4 (qa hm2');obtain ⟨m1,m2⟩:=qc hm4;have hlt4:=hA4.lt;have hwr:IntKind.i64.wrap ((pre.length:Int)+1)=(pre.length:Int)+1:=by rw [IntKind.wrap_i64];omega
     have fs:Fr (fun k o=>k≠Wb+1) V4 (V4.setCell ⟨Wb+1,0,none⟩ (.int .i64 ((pre.length:Int)+1))):=(Fr.refl _ _).setCell _ (fun o _ q=>q rfl)
     have fin:Hid (Fr (Rnd1 w6.heap.size T (fun j=>j=Wb+2+1\/j=Wb+2+2\/j=Wb+2\/j=Bp)) V2 (V4.setCell ⟨Wb+1,0,none⟩ (.int .i64 ((pre.length:Int)+1)))/\Ah z wh fc b f a c most B1 B2 B3 B4 Bp (V4.setCell ⟨Wb+1,0,none⟩ (.int .i64 ((pre.length:Int)+1)))/\WkAt Bp f a c (Wb+2) (V4.setCell ⟨Wb+1,0,none⟩ (.int .i64 ((pre.length:Int)+1)))/\(V4.setCell ⟨Wb+1,0,none⟩ (.int .i64 ((pre.length:Int)+1))).heap[Wb]?=some (.cells #[.func (.yield l) #[] #[]] 189)/\(V4.setCell ⟨Wb+1,0,none⟩ (.int .i64 ((pre.length:Int)+1))).heap[Wb+1]?=some (.cells #[.int .i64 ((pre++[y]).length:Int)] 3)/\(∀ v∈pre++[y],z v=46)/\(pre++[y]).length<=most/\J (pre++[y]) (V4.setCell ⟨Wb+1,0,none⟩ (.int .i64 ((pre.length:Int)+1)))):=hide (by
      refine ⟨fc1.setCell _ ?_,hA4.fr fs (fun k o hk e he=>?_),⟨fs.same _ _ hwk4.b0 (by omega),fs.same _ _ hwk4.b1 (by omega),fs.same _ _ hwk4.b2 (by omega)⟩,fs.same _ _ hy4 (by omega),?_,?_,by simp;omega,hJ _ _ _ hJ4 ((Fr.refl _ _).setCell _ ?_)⟩
      ·rintro o-(q|q)
       ·simp only at q;rcases q with q|q|q|q
        ·omega
        ·omega
        ·omega
        ·have:=hpos;omega
       ·have:=q.1;simp only at this;omega
      ·subst he;have:=hpos2 _ hk;omega
      ·rw [xh hm4];simp
      ·intro v hv;rcases List.mem_append.1 hv with hv|hv
       ·exact qa hall' v hv
       ·rw [List.mem_singleton.1 hv];exact h46
      ·intro o e q;rw [hm4] at e;cases e;rcases q with q|q
       ·simp only at q;omega
       ·exact hTm.no (by decide) q)
     gi_wp2;exact qa fin
    ·gi_wp2;exact ⟨fc1,rfl,.inr ⟨_,qa hpy',hx4⟩⟩
   ·have e:=hide (ah_stop hxy (qa hall') hlen (.inr h46))
    have hz:(((z y).toNat:Int) != 46)=true:=by
     simp only [bne_iff_ne];intro h;apply h46;apply UInt8.toNat_inj.1;have:(z y).toNat=46:=by omega
     rw [this];rfl
    gi_wp2;refine ⟨fun _ h=>(by cases h),?_⟩;gi_wp2;exact ⟨Fr.refl _ _,rfl,.inl (by rw [qa e];exact hJ2)⟩
end Go.Proofs.YtnfakamfmkhlbaaGreatDoor.C
namespace Go.Proofs.YtnfakamfmkhlbaaGreatDoor.C
open Go.ChangeShapes Go.WideShapes Go.ChangeAt Go.RowKit Go.Shelf
open Go.Proofs.YtnfakamfmkhlbaaGreatDoor.P
attribute [local go_sem] qb qd
def zL (z:Nat->UInt8):List Value:=(List.range 64).map fun i=>.int .u8 ((z i).toNat:Int)
theorem qjv (z:Nat->UInt8):(zL z).length=64:=by simp [zL]
theorem zL_at (z:Nat->UInt8) (i:Nat) (hi:i<64):(zL z)[i]?=some (.int .u8 ((z i).toNat:Int)):=by simp [zL,hi]
theorem zL_arr (z:Nat->UInt8):(zL z).toArray.size=64/\∀ i,i<64->(zL z).toArray[i]?=some (.int .u8 ((z i).toNat:Int)):=⟨by simp [qjv],fun i hi=>by rw [List.getElem?_toArray];exact zL_at z i hi⟩
theorem zL_one (z:Nat->UInt8):∀ v∈zL z,v.oneCell'=true:=by
 intro v hv;obtain ⟨i,_,rfl⟩:=List.mem_map.1 hv;rfl
theorem Bz.range {z:Nat->UInt8} {a:Nat} {w:World} (h:Bz z a w):w.rangeAt a 0 (zL z):=fun j v hv=>by
 have hj:j<64:=by
  have:=(List.getElem?_eq_some_iff.1 hv).1
  rwa [qjv] at this
 rw [zL_at z j hj] at hv;rw [Nat.zero_add,<-hv];exact h j hj
def sqK (k s:Int) (i:Nat):Nat:=(k+(i:Int)*s).toNat
def mcE (z:Nat->UInt8) (k s:Int) (n:Nat):Bool:=(List.range n).all fun i=>z (sqK k s (i+1))==46
def mcA (z:Nat->UInt8) (wh:Bool) (k s:Int):Bool:=(List.range 3).all fun i=>!(attLB z (sqK k s i) (!wh))
def mcB (z:Nat->UInt8) (wh:Bool) (k s:Int) (n:Nat):Bool:=mcE z k s n&&mcA z wh k s
theorem sqK_is {k s:Int} {n i:Nat} (hs:s=1\/s=-1) (h0:0<=k) (h1:k<=63) (h2:0<=k+((n:Int)+1)*s) (h3:k+((n:Int)+1)*s<=63) (hi:i<=n+1):k+(i:Int)*s=(sqK k s i:Nat)/\sqK k s i<64/\((sqK k s i:Nat):Int)+s=k+((i+1:Nat):Int)*s/\(i<=n->((sqK k s i:Nat):Int)≠k+((n:Int)+1)*s):=by
 unfold sqK;rcases hs with rfl|rfl
 ·simp only [Int.mul_one] at *;omega
 ·simp only [Int.mul_neg,Int.mul_one] at *;omega
theorem qqp {z:Nat->UInt8} {wh:Bool} {fc:Nat->Bool} {b:Int} {Bp:Nat} {w:World} (h:Ps z wh fc b Bp w) (hS:StTab w) (k s:Int) (n:Nat) (hs:s=1\/s=-1) (hn:1<=n) (h0:0<=k) (h1:k<=63) (h2:0<=k+((n:Int)+1)*s) (h3:k+((n:Int)+1)*s<=63) :
  Calls Tryz.prog 317 #[.pointer (some ⟨Bp,0,none⟩),.int .i64 k,.int .i64 (k+((n:Int)+1)*s),.int .i64 s] w fun e w'=>e=.returned (.bool (mcB z wh k s n))/\Gr w w':=by
 have hsq:=hide (fun i hi=>sqK_is (i:=i) (n:=n) hs h0 h1 h2 h3 hi);have hsb0:-1<=s:=by omega
 have hsb1:s<=1:=by omega
 have hP0:Hid (k+s=(sqK k s 1:Nat)):=hide (by have:=(qa hsq 1 (by omega)).1;omega);obtain ⟨E,hE⟩:∃ E,Hid (E=mcE z k s n):=⟨_,hide rfl⟩;obtain ⟨Q,hQ⟩:∃ Q,Hid (Q=mcA z wh k s):=⟨_,hide rfl⟩;have hB:Hid (mcB z wh k s n=(E&&Q)):=hide (by rw [qa hE,qa hQ];rfl);have hE2:Hid (E=(List.range n).all fun i=>z (sqK k s (i+1))==46):=hE;have hQ2:Hid (Q=(List.range 3).all fun i=>!(attLB z (sqK k s i) (!wh))):=hQ;rw [qa hB];have hfin:Hid (k+((n:Int)+1)*s=(sqK k s (n+1):Nat)):=hide (by have:=(qa hsq (n+1) (by omega)).1;simpa using this);generalize hr:k+((n:Int)+1)*s=r at h2 h3 hsq hfin ⊢;clear hr hE hQ hB;have e1:wrap64 (k+s)=k+s:=by unfold wrap64;omega
 have hps:=hide h;have hS':=hide hS;clear h hS;have hu:=Tryz.underlying22;have hl:=qjv z;have hi64:(Tryz.prog.info? 22).map (·.size)=some (zL z).length:=by rw [hl];exact info64
 have h1c:=zL_one z;generalize hz:zL z=L at hl hi64 h1c;have hz':=hide hz;clear hz;go_enter Tryz.func317,Tryz.ntmps317;go_wp2;go_loopg [9] n (fun g v wr=>∃ j:Nat,j+g=n/\v=.int .i64 ((sqK k s (j+1):Nat):Int)/\wr=w/\∀ i,i<j->z (sqK k s (i+1))=46)
 case atStart=>exact ⟨0,by omega,by rw [qa hP0],rfl,fun i hi=>absurd hi (Nat.not_lt_zero i)⟩
 case round =>
  obtain ⟨j,k1,rfl,rfl,hem⟩:=hrel;have hem':=hide hem;clear hem;obtain ⟨-,q2,q3,q4⟩:=qa hsq (j+1) (by omega);have q5:=(qa hsq (j+1+1));by_cases hlt:j<n
  ·have hne:=q4 (by omega);have hx:=(q5 (by omega)).1;rw [<-q3] at hx;have hcell:=(qa hps).bd (sqK k s (j+1)) q2;have hj0:Hid (z (sqK k s (j+1))=z (sqK k s (j+1))):=hide rfl;generalize hy:sqK k s (j+1)=y at q2 q3 hne hx hcell ⊢;have hy':=hide hy;clear hy q3 q4 q5 hj0;have hy0:(0:Int)<=(y:Int):=by omega
   have hy1:(y:Int)<64:=by omega
   have hwr:wrap64 ((y:Int)+s)=(y:Int)+s:=by unfold wrap64;omega
   have hneb:((y:Int) != r)=true:=bne_iff_ne.2 hne;by_cases h46:z y=46
   ·have hz:((z y).toNat:Int)=46:=by rw [h46];rfl
    rw [hz] at hcell;have hx':=hide hx;clear hx hne;go_wp2;go_roundg (gk-1)
    case measure=>omega
    case rel=>exact ⟨j+1,by omega,by rw [qa hx'],rfl,fun i hi=>by
     by_cases e:i=j
     ·subst e;rw [qa hy'];exact h46
     ·exact qa hem' i (by omega)⟩
   ·have hz:(((z y).toNat:Int) != 46)=true:=by
     simp only [bne_iff_ne];intro h;apply h46;apply UInt8.toNat_inj.1;have:(z y).toNat=46:=by omega
     rw [this];rfl
    have hEf:Hid (E=false):=hide (by
     rw [qa hE2,List.all_eq_false];exact ⟨j,List.mem_range.2 hlt,by rw [qa hy'];simpa using h46⟩)
    clear hx hne h46;go_wp2;go_ret;exact ⟨by rw [qa hEf];rfl,Gr.refl _⟩
  ·have ej:j=n:=by omega
   subst ej
   have hEt:Hid (E=true):=hide (by
    rw [qa hE2,List.all_eq_true];intro i hi;rw [qa hem' i (List.mem_range.1 hi)];rfl)
   have hnb:(((sqK k s (j+1):Nat):Int) != r)=false:=by rw [qa hfin];simp
   have hat:=hide (fun (x:Nat) (hx:x<64) W hS=>attL_any z (zL z).toArray (zL_arr z).1 (zL_arr z).2 x hx (!wh) W hS);rw [qa hz'] at hat;clear hfin q2 q3 q4 q5 hE2 hem';go_wp2;clear hnb;go_loopg [10,27] 3 (fun g _ v w2=>∃ i:Nat,i+g=3/\v=.int .i64 (i:Int)/\Gr wr w2/\∀ m,m<i->attLB z (sqK k s m) (!wh)=false)
   case atStart=>exact ⟨0,by omega,rfl,Gr.refl _,fun m hm=>absurd hm (Nat.not_lt_zero m)⟩
   case round =>
    obtain ⟨i,i1,rfl,hgr,hno⟩:=hrel;have hno':=hide hno;clear hno;by_cases hi3:i<3
    ·obtain ⟨q1,q2,-,-⟩:=qa hsq i (by omega)
     have hp:-2<=(i:Int)*s/\(i:Int)*s<=2:=by
      rcases hs with rfl|rfl
      ·simp only [Int.mul_one];omega
      ·simp only [Int.mul_neg,Int.mul_one];omega
     have e2:IntKind.i64.wrap ((i:Int)*s)=(i:Int)*s:=by rw [IntKind.wrap_i64];omega
     have e3:IntKind.i64.wrap (k+(i:Int)*s)=((sqK k s i:Nat):Int):=by rw [q1,IntKind.wrap_i64];omega
     have hps2:=(qa hps).gr hgr;have c64:=hps2.wh;have crg:=hps2.bd.range;rw [qa hz'] at crg;have hS2:=(qa hS').gr hgr;have hlt2:=hps2.lt;have hin:Hid (∀ w',Gr wr w'->Gr wr w'/\w'.rangeAt Bp 0 L/\w'.cell? ⟨Bp,64,none⟩=some (.bool wh)):=hide (fun w' g=>⟨g,fun j v hv=>(Below.cell g (p:=⟨Bp,0+j,none⟩) hlt2).trans (crg j v hv),(Below.cell g (p:=⟨Bp,64,none⟩) hlt2).trans c64⟩)
     have hno2:Hid (attLB z (sqK k s i) (!wh)=false->∀ m,m<i+1->attLB z (sqK k s m) (!wh)=false):=hide (fun h m hm=>by
      by_cases e:m=i
      ·subst e;exact h
      ·exact qa hno' m (by omega))
     have hyes:Hid (attLB z (sqK k s i) (!wh)=true->Q=false):=hide (fun h=>by
      rw [qa hQ2,List.all_eq_false];exact ⟨i,List.mem_range.2 hi3,by rw [h];simp⟩)
     have hati:=hide (fun W g=>qa hat (sqK k s i) q2 W (hS2.gr g));generalize sqK k s i=y at q2 e3 hno2 hyes hati;obtain ⟨v,hv⟩:∃ v,attLB z y (!wh)=v:=⟨_,rfl⟩;rw [hv] at hno2 hyes hati;clear q1 hat hS2 hps2;go_upto_region 9 with fail;go_region_held3 (fun w'=>Gr wr w'/\w'.rangeAt Bp 0 L/\w'.cell? ⟨Bp,64,none⟩=some (.bool wh)) (first|exact qa hin _ (Gr.refl _).drew|exact qa hin _ (by assumption)) (first|(go_at_call 97;refine (qa hati _ (heldL (by assumption))).mono ?_;rintro e w6 ⟨rfl,hg6⟩;have hg7:=Gr.trans (heldL (by assumption)) hg6));cases v
     ·go_wp2;go_roundg (gk-1)
      case measure=>omega
      case rel=>exact ⟨i+1,by omega,by go_num,Gr.trans hgr hg7,qa hno2 (by trivial)⟩
     ·go_wp2;go_ret;exact ⟨by rw [qa hyes (by trivial),Bool.and_false];rfl,Gr.trans hgr hg7⟩
    ·have ei:i=3:=by omega
     subst ei
     have hQt:Hid (Q=true):=hide (by
      rw [qa hQ2,List.all_eq_true];intro m hm;rw [qa hno' m (List.mem_range.1 hm)];rfl)
     go_wp2;go_ret;exact ⟨by rw [qa hEt,qa hQt];rfl,hgr⟩
end Go.Proofs.YtnfakamfmkhlbaaGreatDoor.C
