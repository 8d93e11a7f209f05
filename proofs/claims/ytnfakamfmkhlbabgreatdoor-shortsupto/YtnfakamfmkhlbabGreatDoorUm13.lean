import Derived.Test.YtnfakamfmkhlbabGreatDoorUm12
import Derived.Test.YtnfakamfmkhlbabGreatDoorUm7
import Derived.Deep.QuietTactic
import Derived.BigQuiet
import Derived.Test.YtnfakamfmkhlbabGreatDoorUm2
import Derived.Shelf.RegionOpen
import Derived.LoopNIn
import Derived.LoopIn
import Derived.Test.YtnfakamfmkhlbabGreatDoorUm10
set_option maxRecDepth 100000
set_option maxHeartbeats 4000000
set_option linter.unusedSimpArgs false
namespace Go.Proofs.YtnfakamfmkhlbabGreatDoor.C
open Go.ChangeShapes Go.WideShapes Go.ChangeAt Go.RowKit Go.Shelf Go.Proofs.YtnfakamfmkhlbabGreatDoor.P
section
attribute [local go_sem] qd qe
def jZ(wh:Bool)(fc:Nat->Bool)(f t:Nat)(u:UInt8)(i:Nat):Bool:=fc i&&(xK (decide (i<2))==xK wh)&&((f:Int)==xY i)&&((t:Int)==vN i)&&((u.toNat:Int)==0)
def gh(p:Nat->Bool):Nat->Nat->Int
 | 0,_=>-1
 | n+1,i=>if p i then(i:Int)else gh p n (i+1)
def zK(wh:Bool)(fc:Nat->Bool)(f t:Nat)(u:UInt8):Int:=gh (jZ wh fc f t u) 4 0
theorem Cc(W:World)(o:Obj)(j:Nat)(h:j<W.heap.size):(W.alloc o).heap[j]?=W.heap[j]?:=Below.block ((Below.refl W.heap.size W).alloc (qL _) o) j h
theorem eQ{w w':World}{PA o:Array Value}{ty ty2:TypeId}(g:Gr ((w.alloc (.cells PA ty)).alloc (.cells o ty2)) w'):w'.heap[w.heap.size]?=some (.cells PA ty (0,0))/\w'.heap[w.heap.size+1]?=some (.cells o ty2 (0,0)):=by
 constructor
 ·refine(Below.block g _ (by rw[World.size_alloc,World.size_alloc];omega)).trans ?_;rw[Cc _ _ _ (by rw[World.size_alloc];omega)];exact World.alloc_heap_new w _
 ·refine(Below.block g _ (by rw[World.size_alloc,World.size_alloc];omega)).trans ?_;have:=World.alloc_heap_new (w.alloc (.cells PA ty)) (.cells o ty2)
  rwa[World.size_alloc]at this
theorem qn{W:World}{b:Nat}{A:Array Value}{ty:TypeId}(h:W.heap[b]?=some (.cells A ty (0,0)))(i:Nat):W.cell? ⟨b,i,none⟩=A[i]?:=by
 simp only[World.cell?];rw[h];rfl
theorem vF{W:World}{b:Nat}{A:Array Value}{ty:TypeId}(h:W.heap[b]?=some (.cells A ty (0,0))):zJ b A W :=
 ⟨(qB.1 h).1,fun j v hv=>by rw[Nat.zero_add,qn h,<-qO];exact hv⟩
def ll(i:Nat)(j:Nat):Int:=if i%2=0 then xY i+j else xY i-j
def AR(i:Nat):Nat:=if i%2=0 then 3 else 4
def nB(z:Nat->UInt8)(i:Nat):Bool:=P.freeI (fun n=>((z n).toNat:Int)) (ll i) (AR i)
def km(z:Nat->UInt8)(i:Nat):Bool:=nB z i&&!(zM z (xY i) (!decide (i<2)))&&!(zM z ((xY i+vN i).tdiv 2) (!decide (i<2)))&&!(zM z (vN i) (!decide (i<2)))
abbrev yZ:=Int × Int
def small(s:yZ):Prop:=-2<=s.1/\s.1<=2 ∧ -2<=s.2/\s.2<=2
def C4(s:yZ):Int:=s.1*s.1+s.2*s.2
theorem iX{a:Int}(h1:-2<=a)(h2:a<=2):wrap64 (a*a)=a*a/\0<=a*a/\a*a<=4:=by
 have:a=-2\/a=-1\/a=0\/a=1\/a=2:=by omega
 rcases this with rfl|rfl|rfl|rfl|rfl<;>(unfold wrap64;omega)
theorem zl{a b:Bool}(h:a=b):Ending.returned (.bool a)=.returned (.bool b):=by rw[h]
theorem Dk{k:IntKind}{a b:Int}{x y:Bool}(h:a=b)(g:x=y):Ending.returned (.tuple #[.int k a,.bool x])=.returned (.tuple #[.int k b,.bool y]):=by rw[h,g]
theorem dG(a b:Int)(h:small (a,b))(w:World):Calls Tryz.prog 222 #[.agg #[.int .i64 a,.int .i64 b]] w fun e w'=>e=.returned (.int .i64 (C4 (a,b)))/\Gr w w':=by
 obtain⟨h1,h2,h3,h4⟩:=h;simp only at h1 h2 h3 h4;have e1:=iX h1 h2;have e2:=iX h3 h4;go_enter Tryz.func222,Tryz.ntmps222;go_wp2;go_ret;refine⟨xo ?_,(Gr.refl w).alloc _ _⟩;rfl
theorem dH(a b:Int)(h:small (a,b))(w:World):Calls Tryz.prog 150 #[.agg #[.int .i64 a,.int .i64 b]] w fun e w'=>e=.returned (.agg #[.int .i64 (-a),.int .i64 (-b)])/\Gr w w':=by
 obtain⟨h1,h2,h3,h4⟩:=h;simp only at h1 h2 h3 h4;have e1:wrap64 (-a)=-a:=by unfold wrap64;omega
 have e2:wrap64 (-b)=-b:=by unfold wrap64;omega
 go_enter Tryz.func150,Tryz.ntmps150;go_wp2;exact bodyPost_ret (v:=.agg #[.int .i64 (-a),.int .i64 (-b)]) (results_cell_row Tryz.results150 _ _ (w.heap.size+1) 221 #[.int .i64 (-a),.int .i64 (-b)] (0,0) _ rfl (by have:=World.alloc_heap_new (w.alloc (.cells #[.int .i64 a,.int .i64 b] 221)) (.cells #[.int .i64 (-a),.int .i64 (-b)] 221);rw[World.size_alloc]at this;exact this) Tryz.underlying221 rfl (by kernel_rfl)) rfl ⟨rfl,((Gr.refl w).alloc _ _).alloc _ _⟩
def kw(c:UInt8)(wh:Bool):Bool:=if wh then decide (65<=c.toNat)&&decide (c.toNat<=90)else decide (97<=c.toNat)&&decide (c.toNat<=122)
theorem qxy(c:UInt8)(wh:Bool)(w:World):Calls Tryz.prog 148 #[.int .u8 (c.toNat:Int),.bool wh] w fun e w'=>e=.returned (.bool (kw c wh))/\w'=w:=by
 cases wh
 all_goals
  go_enter Tryz.func148,Tryz.ntmps148;go_wp2
  all_goals
   go_ret;refine⟨zl ?_,rfl⟩;rw[Bool.eq_iff_iff];simp only[kw,qH,qG,qR,false_iff,if_true,if_false];omega
def FW(x:Nat)(s:yZ):Int:=8*((x:Int)/8+s.2)+((x:Int)%8+s.1)
def pM(x:Nat)(s:yZ):Bool:=decide (0<=(x:Int)%8+s.1)&&decide ((x:Int)%8+s.1<8)&&decide (0<=(x:Int)/8+s.2)&&decide ((x:Int)/8+s.2<8)
theorem sL(x:Nat)(hx:x<64)(a b:Int)(h:small (a,b))(w:World):Calls Tryz.prog 221 #[.int .i64 (x:Int),.agg #[.int .i64 a,.int .i64 b]] w fun e w'=>e=.returned (.tuple #[.int .i64 (FW x (a,b)),.bool (pM x (a,b))])/\Gr w w':=by
 obtain⟨h1,h2,h3,h4⟩:=h;simp only at h1 h2 h3 h4;go_enter Tryz.func221,Tryz.ntmps221;go_upto_region 1 with fail;go_quiet(fail);go_wp2
 all_goals
  go_ret2;refine⟨Dk rfl ?_,((Gr.refl w).alloc _ _).drewN _⟩;rw[Bool.eq_iff_iff];simp only[pM,qH,qG,qR,false_iff];omega
def ki(c:UInt8)(s:yZ):Bool :=
 if((c.toNat:Int)==80)then(C4 s==2)&&(s.2==1)
 else if((c.toNat:Int)==112)then(C4 s==2)&&(s.2==-1)
 else if((c.toNat:Int)==78)||((c.toNat:Int)==110)then C4 s==5
 else if((c.toNat:Int)==66)||((c.toNat:Int)==98)then C4 s==2
 else if((c.toNat:Int)==82)||((c.toNat:Int)==114)then C4 s==1
 else if((c.toNat:Int)==81)||((c.toNat:Int)==113)||((c.toNat:Int)==75)||((c.toNat:Int)==107)then decide (C4 s<=2)
 else false
theorem DX{w:World}{a b:Int}{ty:TypeId}:(w.alloc (.cells #[.int .i64 a,.int .i64 b] ty)).cell? ⟨w.heap.size,0,none⟩=some (.int .i64 a)/\(w.alloc (.cells #[.int .i64 a,.int .i64 b] ty)).cell? ⟨w.heap.size,1,none⟩=some (.int .i64 b):=by
 constructor<;>(rw[World.cell?_alloc_at _ _ _ _ rfl];rfl)
theorem aG(c:UInt8)(a b:Int)(h:small (a,b))(w:World):Calls Tryz.prog 149 #[.int .u8 (c.toNat:Int),.agg #[.int .i64 a,.int .i64 b]] w fun e w'=>e=.returned (.bool (ki c (a,b)))/\Gr w w':=by
 obtain⟨z,hz⟩:∃z,Hid (z=C4 (a,b)):=⟨_,qC rfl⟩;have hs:Hid (∀W,Calls Tryz.prog 222 #[.agg #[.int .i64 a,.int .i64 b]] W fun e w'=>e=.returned (.int .i64 z)/\Gr W w'):=qC (fun W=>by rw[qa hz];exact dG a b h W);go_enter Tryz.func149,Tryz.ntmps149;go_upto_region 1 with fail;obtain⟨c0,c1⟩:=DX (w:=w) (a:=a) (b:=b) (ty:=221);have hg0:Hid (Gr w (w.alloc (.cells #[.int .i64 a,.int .i64 b] 221))):=qC ((Gr.refl w).alloc _ _);have hlt:w.heap.size<(w.alloc (.cells #[.int .i64 a,.int .i64 b] 221)).heap.size:=by simp
 generalize w.alloc (.cells #[.int .i64 a,.int .i64 b] 221)=wb at c0 c1 hg0 hlt ⊢;go_wp2_with(go_at_call 222;refine(qa hs _).mono ?_;rintro e w' ⟨rfl,hg⟩;have d1:=(Below.cell hg (p:=⟨w.heap.size,1,none⟩) hlt).trans c1;have hg1:=qC (Gr.trans (qa hg0) hg);clear hg)
 all_goals
  go_ret;refine⟨zl ?_,by first|exact qa hg1|exact qa hg0⟩;simp only[ki,<-qa hz];simp[*]
end
section
attribute [local go_sem] qd qe Oper.semAt_some
def uh:List yZ:=[(0,1),(1,1),(1,0),(1,-1),(0,-1),(-1,-1),(-1,0),(-1,1),(1,2),(2,1),(2,-1),(1,-2),(-1,-2),(-2,-1),(-2,1),(-1,2)]
def nx(x:Nat)(s:yZ):Nat:=(FW x s).toNat
def uW(z:Nat->UInt8)(s:yZ):Nat->Nat->List Nat
 | 0,_=>[]
 | n+1,x=>if pM x s then nx x s :: (if z (nx x s)=46 then uW z s n (nx x s)else[])else[]
def Ej(x:Nat)(s:yZ):Nat:=if 0<s.1 then 7-x%8 else if s.1<0 then x%8 else if 0<s.2 then 7-x/8 else x/8
theorem sK{x:Nat}{s:yZ}(h:pM x s=true):FW x s=(nx x s:Nat)/\nx x s<64:=by
 simp only[pM,qH,qG]at h;unfold nx FW;omega
theorem tQ{x:Nat}{s:yZ}(hx:x<64)(hs:s.1≠0\/s.2≠0)(h:pM x s=true):Ej (nx x s) s<Ej x s:=by
 simp only[pM,qH,qG]at h;unfold Ej nx FW;split
 ·omega
 ·split
  ·omega
  ·split<;>omega
def kq(z:Nat->UInt8)(s:yZ)(x:Nat):List Nat:=uW z s 8 x
theorem G9(x:Nat)(hx:x<64)(s:yZ):Ej x s<=7:=by
 unfold Ej;split
 ·omega
 ·split
  ·omega
  ·split<;>omega
def yh(x:Nat):Array Value:=#[.int .i64 (x:Int)]
def uE:Value->Bool
 | .bool true=>true
 | _=>false
def Bz(z:Nat->UInt8)(a:Nat)(w:World):Prop:=∀i,i<64->w.cell? ⟨a,i,none⟩=some (.int .u8 ((z i).toNat:Int))
theorem Bz.fr{z:Nat->UInt8}{a:Nat}{w w':World}{Q:Nat->Obj->Prop}(h:Bz z a w)(f:Fr Q w w')(hq:∀o,Q a o):Bz z a w':=fun i hi=>f.cell (h i hi) (fun o _=>hq o)
structure Wk(z:Nat->UInt8)(x:Nat)(s:yZ)(Bf Bs Bq a:Nat)(w:World):Prop where
 fr:w.cell? ⟨Bf,0,none⟩=some (.int .i64 (x:Int))
 s0:w.cell? ⟨Bs,0,none⟩=some (.int .i64 s.1)
 s1:w.cell? ⟨Bs,1,none⟩=some (.int .i64 s.2)
 qq:w.cell? ⟨Bq,0,none⟩=some (.pointer (some ⟨a,0,none⟩))
 bd:Bz z a w
theorem Wk.fr'{z:Nat->UInt8}{x:Nat}{s:yZ}{Bf Bs Bq a:Nat}{w w':World}{Q:Nat->Obj->Prop}(h:Wk z x s Bf Bs Bq a w)(f:Fr Q w w')(hq:∀k o,(k=Bf\/k=Bs\/k=Bq\/k=a)->Q k o):Wk z x s Bf Bs Bq a w' :=
 ⟨f.cell h.fr (fun o _=>hq _ o (.inl rfl)),f.cell h.s0 (fun o _=>hq _ o (.inr (.inl rfl))),f.cell h.s1 (fun o _=>hq _ o (.inr (.inl rfl))),f.cell h.qq (fun o _=>hq _ o (.inr (.inr (.inl rfl)))),h.bd.fr f (fun o=>hq _ o (.inr (.inr (.inr rfl))))⟩
theorem dC(z:Nat->UInt8)(x:Nat)(hx:x<64)(a b:Int)(hs:small (a,b))(hn:a≠0\/b≠0)(Bf Bs Bq A:Nat)(T:Obj->Prop)(w:World)(hw:Wk z x (a,b) Bf Bs Bq A w) :
  It Tryz.prog 220 #[.pointer (some ⟨Bf,0,none⟩),.pointer (some ⟨Bs,0,none⟩),.pointer (some ⟨Bq,0,none⟩)] yh T (fun k=>k=Bf\/k=Bs\/k=Bq\/k=A) (kq z (a,b) x) w:=by
 intro l B J Jx W f0 hB hJ hJx hY h0;have hW:=hw.fr' f0 (fun k o h=>h);clear f0 hw;have hnx:=qC (fun(x:Nat)(hx:x<64) W=>sL x hx a b hs W);refine(callsIn_wide (n:=1)).1 ?_;refine callsIn_of_wp Tryz.func220 rfl trivial ?_ rfl;simp only[Tryz.ntmps220,List.size_toArray,List.length_cons,List.length_nil,Nat.reduceAdd,Nat.reduceSub,Array.replicate_succ,Array.replicate_zero,List.push_toArray,List.append_toArray,List.nil_append,List.cons_append];have c1:=hW.fr;have c2:=hW.s0;have c3:=hW.s1;gi_wp2_with (refine⟨trivial,?_⟩;gi_at_call 221;refine(callsIn_wide.2 (qa hnx x hx _)).mono ?_;rintro e w' ⟨rfl,hg⟩);have hJ0:=hJ _ _ _ h0 (Fr.of_gr hg);have hW0:=hW.fr' (Q:=fun _ _=>True) (Fr.of_gr hg) (fun _ _ _=>trivial);clear c1 c2 c3 hg h0 hW;gi_loopw [5,6] (fun sq ok wr=>∃(pre:List Nat)(y n:Nat),y<64/\Ej y (a,b)<n/\sq=.int .i64 (FW y (a,b))/\ok=.bool (pM y (a,b))/\kq z (a,b) x=pre++uW z (a,b) n y/\Wk z x (a,b) Bf Bs Bq A wr/\J pre wr) (fun sq ok _=>if uE ok then Ej (intOf sq).toNat (a,b)+1 else 0)
 case atStart=>exact⟨[],x,8,hx,by have:=G9 x hx (a,b);omega,rfl,rfl,rfl,hW0,hJ0⟩
 case round =>
  obtain⟨pre,y,n,hy,hd,rfl,rfl,hxs,hWr,hJr⟩:=hrel;clear hJ0 hW0;have hxs':=qC hxs;have hWr':=qC hWr;clear hxs hWr;cases hon:pM y (a,b)
  ·have hx2:kq z (a,b) x=pre:=by
    rw[qa hxs'];cases n with
    | zero=>simp[uW]
    | succ n=>simp[uW,hon]
   have hx3:=qC hx2;clear hx2;gi_wp2;go_end0;exact⟨⟨_,rfl⟩,.inl (by rw[qa hx3];exact hJr)⟩
  ·obtain⟨n,rfl⟩:∃n',n=n'+1:=⟨n-1,by omega⟩;obtain⟨e1,e2⟩:=sK hon;have hdl:=tQ hy hn hon;rw[e1];have hst:uW z (a,b) (n+1) y=nx y (a,b) :: (if z (nx y (a,b))=46 then uW z (a,b) n (nx y (a,b))else[]):=by simp[uW,hon]
   have hxs2:=qa hxs';rw[hst]at hxs2;generalize nx y (a,b)=m at e2 hdl hst hxs2 ⊢;have hxs3:=qC hxs2;have hpm:pre++[m] <+: kq z (a,b) x:=⟨_,by rw[qa hxs3,qS];rfl⟩;obtain⟨fn,tmps,assign,body,hyy,hR⟩:=hY pre m wr hpm hJr;have hy':(Instr.yield l #[.int .i64 (m:Int)]).run Tryz.prog wr=.ok (.round l fn tmps assign body) wr:=hyy;clear hxs' hst hxs2 hyy e1 hon;have hm0:(0:Int)<=(m:Int):=by omega
   have hm64:(m:Int)<64:=by omega
   gi_wp2;refine hR.mono ?_;rintro e W3 ⟨f3,⟨rfl,hJ3⟩|⟨rfl,hJx3⟩⟩
   ·have hW3:=(qa hWr').fr' f3 (fun k o h=>.inl h);have d1:=hW3.qq;have d2:=hW3.bd m e2;have d3:=hW3.s0;have d4:=hW3.s1;have hW3':=qC hW3;clear hW3 hWr' hR hy';by_cases h46:z m=46
    ·rw[qI h46]at hxs3;have hz:((z m).toNat:Int)=46:=by rw[h46];rfl
     rw[hz]at d2;gi_wp2_with (refine⟨trivial,?_⟩;gi_at_call 221;refine(callsIn_wide.2 (qa hnx m e2 _)).mono ?_;rintro e w' ⟨rfl,hg⟩);go_roundw
     case rel=>exact⟨pre++[m],m,n,e2,by omega,rfl,rfl,by rw[qa hxs3,qS];rfl,(qa hW3').fr' (Q:=fun _ _=>True) (Fr.of_gr hg) (fun _ _ _=>trivial),hJ _ _ _ hJ3 (Fr.of_gr hg)⟩
     case measure =>
      simp only[intOf,uE,if_true,Int.toNat_natCast];cases hom:pM m (a,b)
      ·simp[uE]
      ·have:=tQ e2 hn hom;simp only[uE,if_true];unfold nx at this;omega
    ·rw[qF h46]at hxs3
     have hz:(((z m).toNat:Int) != 46)=true:=by
      simp only[qU];intro h;apply h46;apply q6.1;have:(z m).toNat=46:=by omega
      rw[this];rfl
     gi_wp2;refine bodyPost_ret (results_none rfl _ _ _) rfl ?_;exact⟨⟨_,rfl⟩,.inl (by rw[qa hxs3];exact hJ3)⟩
   ·gi_wp2;refine bodyPost_ret (results_none rfl _ _ _) rfl ?_;exact⟨⟨_,rfl⟩,.inr ⟨pre++[m],hpm,hJx3⟩⟩
end
def dx(c:UInt8):Bool:=decide (0<=Lib.indexByte [66,82,81,98,114,113] c)
theorem qzt(c:UInt8)(w:World):Calls Tryz.prog 151 #[.int .u8 (c.toNat:Int)] w fun e w'=>e=.returned (.bool (dx c))/\w'=w:=by
 have hu:((c.toNat:Nat):Int).toNat.toUInt8=c:=by simp
 obtain⟨ix,hix⟩:∃ix,Lib.indexByte [66,82,81,98,114,113] c=ix:=⟨_,rfl⟩;have hfar:Hid (dx c=decide (0<=ix)):=qC (by unfold dx;rw[hix]);go_enter Tryz.func151,Tryz.ntmps151;go_wp2_with(go_at_call 200;refine(Tryz.strings_IndexByte _ _ _).mono ?_;rintro e w' ⟨rfl,rfl⟩);go_ret;refine⟨zl ?_,rfl⟩;rw[qa hfar]
section
attribute [local go_sem] qd qe Oper.semAt_some
theorem jG(w:World)(o1 o2 o3:Obj):(((w.alloc o1).alloc o2).alloc o3).heap[w.heap.size]?=some o1/\(((w.alloc o1).alloc o2).alloc o3).heap[w.heap.size+1]?=some o2/\(((w.alloc o1).alloc o2).alloc o3).heap[w.heap.size+2]?=some o3/\(((w.alloc o1).alloc o2).alloc o3).heap.size=w.heap.size+3:=by
 obtain⟨h1,h2⟩:=x6 w o1 o2;refine⟨?_,?_,?_,by simp⟩
 ·rw[Below.heap_alloc _ _ _ (by simp;omega)];exact h1
 ·rw[Below.heap_alloc _ _ _ (by simp)];exact h2
 ·have:=World.alloc_heap_new ((w.alloc o1).alloc o2) o3
  rwa[World.size_alloc,World.size_alloc]at this
structure ap(A x:Nat)(a b:Int)(Bq:Nat)(w:World):Prop where
 b0:w.heap[Bq]?=some (.cells #[.pointer (some ⟨A,0,none⟩)] 224)
 b1:w.heap[Bq+1]?=some (.cells #[.int .i64 (x:Int)] 3)
 b2:w.heap[Bq+2]?=some (.cells #[.int .i64 a,.int .i64 b] 221)
def wkA(Bq:Nat):Array Value:=#[.pointer (some ⟨Bq+1,0,none⟩),.pointer (some ⟨Bq+2,0,none⟩),.pointer (some ⟨Bq,0,none⟩)]
theorem xg{V:World}{b:Nat}{x y:Value}{t:TypeId}{fr:Nat × Nat}(h:V.heap[b]?=some (.cells #[x,y] t fr)):V.cell? ⟨b,0,none⟩=some x/\V.cell? ⟨b,1,none⟩=some y:=by
 refine⟨?_,?_⟩<;>simp[World.cell?,h]
theorem ap.wk{z:Nat->UInt8}{A x:Nat}{a b:Int}{Bq:Nat}{w:World}(h:ap A x a b Bq w)(hb:Bz z A w):Wk z x (a,b) (Bq+1) (Bq+2) Bq A w :=
 ⟨(qi h.b1).1,(xg h.b2).1,(xg h.b2).2,(qi h.b0).1,hb⟩
theorem dB(A x:Nat)(a b:Int)(w:World):Calls Tryz.prog 147 #[.pointer (some ⟨A,0,none⟩),.int .i64 (x:Int),.agg #[.int .i64 a,.int .i64 b]] w fun e w'=>e=.returned (.func (.func 220) #[] (wkA w.heap.size))/\ap A x a b w.heap.size w'/\Gr w w'/\w'.heap.size=w.heap.size+3:=by
 have hmf:∀(fn:Fn)(first cap:Array Value)(w:World),(Instr.makeFunc fn first cap).run Tryz.prog w=.ok (.func fn first cap) w:=fun _ _ _ _=>rfl
 obtain⟨h1,h2,h3,h4⟩:=jG w (.cells #[.pointer (some ⟨A,0,none⟩)] 224) (.cells #[.int .i64 (x:Int)] 3) (.cells #[.int .i64 a,.int .i64 b] 221);go_enter Tryz.func147,Tryz.ntmps147;go_wp2;go_ret;exact⟨rfl,⟨h1,h2,h3⟩,(((Gr.refl w).alloc _ _).alloc _ _).alloc _ _,h4⟩
def jO:List Value:=uh.flatMap fun s=>[.int .i64 s.1,.int .i64 s.2]
def vT(w:World):Prop:=w.rangeAt 0 0 jO/\0<w.heap.size
theorem vT.gr{w w':World}(h:vT w)(g:Gr w w'):vT w' :=
 ⟨fun j v hv=>(Below.cell g (p:=⟨_,0+j,none⟩) h.2).trans (h.1 j v hv),qN h.2 (Below.size g)⟩
theorem vT.fr{Q:Nat->Obj->Prop}{w w':World}(h:vT w)(f:Fr Q w w')(hq:∀o,Q 0 o):vT w' :=
 ⟨fun j v hv=>f.cell (h.1 j v hv) (fun o _=>hq o),qN h.2 f.size⟩
theorem lJ:(Tryz.prog.info? 222).map (·.size)=some jO.length:=by kernel_rfl
def jU(k:Nat):yZ:=uh.getD k (0,1)
theorem pk(k:Nat):small (jU k)/\((jU k).1≠0\/(jU k).2≠0):=by
 have h:∀s∈uh,small s/\(s.1≠0\/s.2≠0):=by
  unfold uh small;decide
 unfold jU;rw[List.getD_eq_getElem?_getD];cases e:uh[k]? with
 | none=>exact⟨by unfold small;decide,by decide⟩
 | some s=>exact h s (List.mem_of_getElem? e)
theorem Gf(w:World):(Instr.index 222 (.agg jO.toArray) (.int .i64 0)).run Tryz.prog w=.ok (.agg #[.int .i64 (jU 0).1,.int .i64 (jU 0).2]) w:=by kernel_rfl
theorem Ge(w:World):(Instr.index 222 (.agg jO.toArray) (.int .i64 1)).run Tryz.prog w=.ok (.agg #[.int .i64 (jU 1).1,.int .i64 (jU 1).2]) w:=by kernel_rfl
theorem Gc(w:World):(Instr.index 222 (.agg jO.toArray) (.int .i64 2)).run Tryz.prog w=.ok (.agg #[.int .i64 (jU 2).1,.int .i64 (jU 2).2]) w:=by kernel_rfl
theorem Gb(w:World):(Instr.index 222 (.agg jO.toArray) (.int .i64 3)).run Tryz.prog w=.ok (.agg #[.int .i64 (jU 3).1,.int .i64 (jU 3).2]) w:=by kernel_rfl
theorem Ga(w:World):(Instr.index 222 (.agg jO.toArray) (.int .i64 4)).run Tryz.prog w=.ok (.agg #[.int .i64 (jU 4).1,.int .i64 (jU 4).2]) w:=by kernel_rfl
theorem GZ(w:World):(Instr.index 222 (.agg jO.toArray) (.int .i64 5)).run Tryz.prog w=.ok (.agg #[.int .i64 (jU 5).1,.int .i64 (jU 5).2]) w:=by kernel_rfl
theorem GY(w:World):(Instr.index 222 (.agg jO.toArray) (.int .i64 6)).run Tryz.prog w=.ok (.agg #[.int .i64 (jU 6).1,.int .i64 (jU 6).2]) w:=by kernel_rfl
theorem GX(w:World):(Instr.index 222 (.agg jO.toArray) (.int .i64 7)).run Tryz.prog w=.ok (.agg #[.int .i64 (jU 7).1,.int .i64 (jU 7).2]) w:=by kernel_rfl
theorem GW(w:World):(Instr.index 222 (.agg jO.toArray) (.int .i64 8)).run Tryz.prog w=.ok (.agg #[.int .i64 (jU 8).1,.int .i64 (jU 8).2]) w:=by kernel_rfl
theorem GV(w:World):(Instr.index 222 (.agg jO.toArray) (.int .i64 9)).run Tryz.prog w=.ok (.agg #[.int .i64 (jU 9).1,.int .i64 (jU 9).2]) w:=by kernel_rfl
theorem EU(w:World):(Instr.index 222 (.agg jO.toArray) (.int .i64 10)).run Tryz.prog w=.ok (.agg #[.int .i64 (jU 10).1,.int .i64 (jU 10).2]) w:=by kernel_rfl
theorem ET(w:World):(Instr.index 222 (.agg jO.toArray) (.int .i64 11)).run Tryz.prog w=.ok (.agg #[.int .i64 (jU 11).1,.int .i64 (jU 11).2]) w:=by kernel_rfl
theorem ES(w:World):(Instr.index 222 (.agg jO.toArray) (.int .i64 12)).run Tryz.prog w=.ok (.agg #[.int .i64 (jU 12).1,.int .i64 (jU 12).2]) w:=by kernel_rfl
theorem ER(w:World):(Instr.index 222 (.agg jO.toArray) (.int .i64 13)).run Tryz.prog w=.ok (.agg #[.int .i64 (jU 13).1,.int .i64 (jU 13).2]) w:=by kernel_rfl
theorem EQ(w:World):(Instr.index 222 (.agg jO.toArray) (.int .i64 14)).run Tryz.prog w=.ok (.agg #[.int .i64 (jU 14).1,.int .i64 (jU 14).2]) w:=by kernel_rfl
theorem EP(w:World):(Instr.index 222 (.agg jO.toArray) (.int .i64 15)).run Tryz.prog w=.ok (.agg #[.int .i64 (jU 15).1,.int .i64 (jU 15).2]) w:=by kernel_rfl
theorem Gg(k:Nat)(hk:k<16)(w:World):(Instr.index 222 (.agg jO.toArray) (.int .i64 (k:Int))).run Tryz.prog w=.ok (.agg #[.int .i64 (jU k).1,.int .i64 (jU k).2]) w:=by
 have:k=0\/k=1\/k=2\/k=3\/k=4\/k=5\/k=6\/k=7\/k=8\/k=9\/k=10\/k=11\/k=12\/k=13\/k=14\/k=15:=by omega
 rcases this with rfl|rfl|rfl|rfl|rfl|rfl|rfl|rfl|rfl|rfl|rfl|rfl|rfl|rfl|rfl|rfl
 ·exact Gf w
 ·exact Ge w
 ·exact Gc w
 ·exact Gb w
 ·exact Ga w
 ·exact GZ w
 ·exact GY w
 ·exact GX w
 ·exact GW w
 ·exact GV w
 ·exact EU w
 ·exact ET w
 ·exact ES w
 ·exact ER w
 ·exact EQ w
 ·exact EP w
def fQ(z:Nat->UInt8)(bw:Bool)(s:yZ)(far:Bool)(y:Nat):Bool:=kw (z y) bw&&ki (z y) (-s.1,-s.2)&&(!far||dx (z y))
def vq(z:Nat->UInt8)(bw:Bool)(s:yZ):Bool->List Nat->Bool
 | _,[]=>false
 | far,y :: r=>fQ z bw s far y||vq z bw s true r
theorem aF(z:Nat->UInt8)(bw:Bool)(s:yZ)(y:Nat):∀(far:Bool)(pre:List Nat),vq z bw s far (pre++[y])=(vq z bw s far pre||fQ z bw s (far||!pre.isEmpty) y)
 | far,[]=>by simp[vq]
 | far,x :: r=>by
   have:=aF z bw s y true r;simp only[List.cons_append,vq,this,Bool.true_or,List.isEmpty_cons,Bool.not_false,Bool.or_true,Bool.or_assoc]
theorem lL(z:Nat->UInt8)(bw:Bool)(s:yZ):∀(pre xs:List Nat)(far:Bool),pre <+: xs->vq z bw s far pre=true->vq z bw s far xs=true
 | [],_,_,_,h=>by simp[vq]at h
 | x :: r,[],_,h,_=>by simp at h
 | x :: r,y :: q,far,h,hh=>by
   obtain⟨rfl,h2⟩:=List.cons_prefix_cons.1 h;simp only[vq,Bool.or_eq_true]at hh ⊢;rcases hh with hh|hh
   ·exact .inl hh
   ·exact .inr (lL z bw s r q true h2 hh)
def vL(z:Nat->UInt8)(x:Nat)(bw:Bool):Bool:=(List.range 16).any fun k=>vq z bw (jU k) false (kq z (jU k) x)
theorem oM{z:Nat->UInt8}{s:yZ}:∀(n x:Nat),x<64->∀y∈uW z s n x,y<64
 | 0,_,_,y,h=>by simp[uW]at h
 | n+1,x,hx,y,h=>by
   unfold uW at h;split at h
   ·rename_i hon;have h2:=(sK hon).2;rcases List.mem_cons.1 h with rfl|h
    ·exact h2
    ·split at h
     ·exact oM n _ h2 y h
     ·cases h
   ·cases h
theorem ce{z:Nat->UInt8}{s:yZ}{x y:Nat}(hx:x<64)(h:y∈kq z s x):y<64:=oM 8 x hx y h
theorem qzn{n:Nat}{fn:Func}{tmps:Array Value}{R:Ending->World->Prop}{B:Nat}:∀(Ds:List Nat)(w:World),zY B Ds w →
  (∀w',Fr (fun k o=>k<B\/o.isCells=true) w w'->∃v,(results fn tmps).run Tryz.prog w'=.ok v w'/\R (.returned v) w')->LeavesInM Fence.wide n Tryz.prog fn tmps R (Ds.map uK) .returning w:=by
 intro Ds;induction Ds with
 | nil =>
  intro w _ hR;obtain⟨v,h1,h2⟩:=hR w (Fr.refl _ _);exact⟨_,h1,h2⟩
 | cons D Ds ih =>
  intro w hM hR;obtain⟨hB,hD⟩:=hM.2 D (by simp)
  have f:Fr (fun k o=>k<B\/o.isCells=true) w (w.putObj D (.deferred none)):=(Fr.refl _ _).putObj _ (fun o e q=>by
   rw[hD]at e;cases e;rcases q with q|q
   ·omega
   ·cases q)
  refine⟨by simp,.inl ⟨D,_,rfl,run_takeDeferred hD,ih _ ⟨(List.nodup_cons.1 hM.1).2,fun D' hD'=>⟨(hM.2 D' (List.mem_cons_of_mem _ hD')).1,?_⟩⟩ (fun w' f'=>hR w' (f.trans f'))⟩⟩;have hne:D'≠D:=fun e=>(List.nodup_cons.1 hM.1).1 (e▸hD')
  exact(World.putObj_heap_other hne).trans (hM.2 D' (List.mem_cons_of_mem _ hD')).2
theorem ig(tmps:Array Value)(w:World)(b:Nat)(v:Value)(hp:tmps.getD 6 undef=.pointer (some ⟨b,0,none⟩))(hc:w.cell? ⟨b,0,none⟩=some v):(results Tryz.f64 tmps).run Tryz.prog w=.ok v w:=by
 have hp':tmps[6]?.getD undef=.pointer (some ⟨b,0,none⟩):=by simpa using hp
 simp[results,Tryz.results64,hp',asAddr,go_sem,hc]
structure AD(bw:Bool)(A:Array Value)(w:World)(Ds:List Nat)(W:World):Prop where
 sq:W.heap[w.heap.size]?=some (.cells A 67)
 bb:W.heap[w.heap.size+1]?=some (.cells #[.bool bw] 4)
 rs:W.heap[w.heap.size+2]?=some (.cells #[.bool false] 4)
 ms:zY w.heap.size Ds W
 gr:Gr w W
theorem AD.fr{bw:Bool}{A:Array Value}{w:World}{Ds:List Nat}{W W':World}{Q:Nat->Obj->Prop}(h:AD bw A w Ds W)(f:Fr Q W W')(hq:∀k o,(k<=w.heap.size+2\/k∈Ds)->Q k o):AD bw A w Ds W' :=
 ⟨f.same _ _ h.sq (hq _ _ (.inl (by omega))),f.same _ _ h.bb (hq _ _ (.inl (by omega))),f.same _ _ h.rs (hq _ _ (.inl (by omega))),h.ms.fr f (fun k o _ _ _ hk=>hq k o (.inr hk)),Below.trans h.gr (f.below (n:=w.heap.size) (Below.size h.gr) (fun k o hk=>hq k o (.inl (by omega))))⟩
theorem n6{z:Nat->UInt8}{A:Array Value}{B:Nat}{W:World}{t:TypeId}(hA:∀i,i<64->A[i]?=some (.int .u8 ((z i).toNat:Int)))(h:W.heap[B]?=some (.cells A t)):Bz z B W:=fun i hi=>by
 rw[cell_of_row _ _ _ _ _ _ h];exact hA i hi
def AtI(z:Nat->UInt8)(x:Nat)(bw:Bool)(A:Array Value)(w:World)(gk:Nat)(a:Act)(wr:World):Prop :=
 ∃(k:Nat)(Ds:List Nat)(u4 u7 u8 u9 u10 u11 u14 u15 u16 u17 u18 u19 u20 u21 u22 u23 u24 u25 u26 u27 u28 u29 u30 u31 u32 u33 u34 u35 u36 u37 u38 u39 u40:Value),k+gk=16/\a={ tmps:=#[.agg A,.int .i64 (x:Int),.bool bw,.pointer (some ⟨w.heap.size,0,none⟩),u4,.pointer (some ⟨w.heap.size+1,0,none⟩),.pointer (some ⟨w.heap.size+2,0,none⟩),u7,u8,u9,u10,u11,.agg jO.toArray,.int .i64 (k:Int),u14,u15,u16,u17,u18,u19,u20,u21,u22,u23,u24,u25,u26,u27,u28,u29,u30,u31,u32,u33,u34,u35,u36,u37,u38,u39,u40],defers:=Ds.map uK }/\AD bw A w Ds wr/\∀j,j<k->vq z bw (jU j) false (kq z (jU j) x)=false
theorem ah(z:Nat->UInt8)(A:Array Value)(_hsz:A.size=64)(hA:∀i,i<64->A[i]?=some (.int .u8 ((z i).toNat:Int)))(x:Nat)(hx:x<64)(bw:Bool)(w:World)(hS:vT w) :
  Calls Tryz.prog 64 #[.agg A,.int .i64 (x:Int),.bool bw] w fun e w'=>e=.returned (.bool (vL z x bw))/\Gr w w':=by
 refine(callsIn_wide (n:=9)).1 ?_;refine callsIn_of_wp_marks Tryz.func64 rfl trivial ?_ rfl;simp only[Tryz.ntmps64,List.size_toArray,List.length_cons,List.length_nil,Nat.reduceAdd,Nat.reduceSub,Array.replicate_succ,Array.replicate_zero,List.push_toArray,List.append_toArray,List.nil_append,List.cons_append];refine wpIn_wide.2 ?_;obtain⟨x1,x2,x3,x4⟩:=jG w (.cells A 67) (.cells #[.bool bw] 4) (.cells #[.bool false] 4);have hg3:Gr w (((w.alloc (.cells A 67)).alloc (.cells #[.bool bw] 4)).alloc (.cells #[.bool false] 4)):=(((Gr.refl w).alloc _ _).alloc _ _).alloc _ _;have hS3:=hS.gr hg3;go_wp2_with(refine wpList_load_mid rfl 222 _ rfl 0 0 rfl jO _ hS3.1 Tryz.underlying222 rfl lJ ?_);have hat:AD bw A w [] (((w.alloc (.cells A 67)).alloc (.cells #[.bool bw] 4)).alloc (.cells #[.bool false] 4)):=⟨x1,x2,x3,⟨List.nodup_nil,fun D hD=>absurd hD List.not_mem_nil⟩,hg3⟩;generalize (((w.alloc (.cells A 67)).alloc (.cells #[.bool bw] 4)).alloc (.cells #[.bool false] 4))=w3 at hat ⊢;clear x1 x2 x3 x4 hg3 hS3 hS;refine wpIn_wide.1 (wpIn_loop_ghost (rm:=9) (AtI z x bw A w) 16 ?start ?round)
 case start=>exact⟨0,[],undef,undef,undef,undef,undef,undef,undef,undef,undef,undef,undef,undef,undef,undef,undef,undef,undef,undef,undef,undef,undef,undef,undef,undef,undef,undef,undef,undef,undef,undef,undef,undef,undef,rfl,rfl,hat,fun j hj=>absurd hj (Nat.not_lt_zero j)⟩
 case round =>
  clear hat;rintro gk a wr ⟨k,Ds,u4,u7,u8,u9,u10,u11,u14,u15,u16,u17,u18,u19,u20,u21,u22,u23,u24,u25,u26,u27,u28,u29,u30,u31,u32,u33,u34,u35,u36,u37,u38,u39,u40,hk,rfl,hM,hno⟩;have hM':=qC hM;have hno':=qC hno;clear hM hno;by_cases hlt:k<16
  ·have hix:=Gg k hlt;obtain⟨hsm,hnz⟩:=pk k
   have hno2:Hid (vq z bw (jU k) false (kq z (jU k) x)=false->∀j,j<k+1->vq z bw (jU j) false (kq z (jU j) x)=false):=qC (fun h j hj=>by
    by_cases e:j=k
    ·subst e;exact h
    ·exact qa hno' j (by omega))
   have hyes:Hid (vq z bw (jU k) false (kq z (jU k) x)=true->vL z x bw=true):=qC (fun h=>qY.2 ⟨k,qK.2 hlt,h⟩);clear hno';generalize jU k=st at hix hsm hnz hno2 hyes;obtain⟨a,b⟩:=st;simp only at hix hnz;have hk0:(0:Int)<=(k:Int):=by omega
   have hk16:(k:Int)<16:=by omega
   have hmk:=qC (fun W=>dB w.heap.size x a b W);obtain⟨y1,y2⟩:=x6 wr (.cells #[.int .i64 a,.int .i64 b] 221) (.cells #[.bool false] 4);have hgA:Gr wr ((wr.alloc (.cells #[.int .i64 a,.int .i64 b] 221)).alloc (.cells #[.bool false] 4)):=((Gr.refl wr).alloc _ _).alloc _ _;have hsA:((wr.alloc (.cells #[.int .i64 a,.int .i64 b] 221)).alloc (.cells #[.bool false] 4)).heap.size=wr.heap.size+2:=by simp
   obtain⟨y1a,y1b⟩:=xg y1;refine wpIn_wide.2 ?_;go_wp2_with(go_at_call 147;refine(qa hmk _).mono ?_;rintro e w6 ⟨rfl,hwk,hg6,hs6⟩);rw[hsA]at hwk hs6;have k0:=(Below.block hg6 wr.heap.size (by omega)).trans y1;have k1:=(Below.block hg6 (wr.heap.size+1) (by omega)).trans y2;have hM6:AD bw A w Ds w6:=(qa hM').fr (Q:=fun _ _=>True) (Fr.of_gr (Gr.trans hgA hg6)) (fun _ _ _=>trivial);have hw3:w.heap.size+3<=wr.heap.size:=by have:=(qB.1 (qa hM').rs).1;omega
   have hDs:∀D∈Ds,D<w6.heap.size:=fun D hD=>(qB.1 (hM6.ms.2 D hD).2).1
   clear hgA hsA y1 y2 y1a y1b hg6 hix hM' hmk;generalize wr.heap.size=Bs at hw3 hwk hs6 k0 k1 ⊢;have hwk6:=hwk.wk (n6 hA hM6.sq)
   have mst:∀{V V':World},AD bw A w Ds V->Fr (yv w6.heap.size (fun _=>False)) V V'->AD bw A w Ds V':=fun h f=>h.fr f (fun j o hj=>.inl (by
    rcases hj with hj|hj
    ·omega
    ·exact hDs _ hj))
   refine wpIn_wide.1 (xj (n:=9) (gf:=220) (lb:=wkA (Bs+2)) rfl (enters_of Tryz.func220 (by kernel_rfl) rfl)
    (dC z x hx a b hsm hnz (Bs+2+1) (Bs+2+2) (Bs+2) w.heap.size (fun _=>False) w6 hwk6) (fun _ h=>h.elim) (by rintro j (rfl|rfl|rfl|rfl)<;>omega) (Fr.refl _ _) (fun _=>rfl)
    (fun pre V=>AD bw A w Ds V/\V.heap[Bs]?=some (.cells #[.int .i64 a,.int .i64 b] 221)/\V.heap[Bs+1]?=some (.cells #[.bool (!pre.isEmpty)] 4)/\vq z bw (a,b) false pre=false/\w6.heap.size<=V.heap.size)
    (fun c pre V=>c=.ret/\vq z bw (a,b) false pre=true/\V.heap[w.heap.size+2]?=some (.cells #[.bool true] 4)/\zY w.heap.size Ds V/\Gr w V/\w6.heap.size<=V.heap.size)
    ?sI ?sX ⟨hM6,k0,k1,rfl,qL _⟩ ?rnd ?done ?stop)
   case sI=>exact fun s V V' h f=>⟨mst h.1 f,f.same _ _ h.2.1 (.inl (by omega)),f.same _ _ h.2.2.1 (.inl (by omega)),h.2.2.2.1,q7 h.2.2.2.2 f.size⟩
   case sX=>exact fun c s V V' h f=>⟨h.1,h.2.1,f.same _ _ h.2.2.1 (.inl (by omega)),h.2.2.2.1.fr f (fun j o _ _ _ hj=>.inl (hDs _ hj)),Below.trans h.2.2.2.2.1 (f.below (n:=w.heap.size) (Below.size h.2.2.2.2.1) (fun j o hj=>.inl (by omega))),q7 h.2.2.2.2.2 f.size⟩
   case done =>
    rintro D V hD ⟨hMV,_,_,hhit,_⟩ hK;go_wp2_with fail
    have hms:zY w.heap.size (D :: Ds) V:=⟨List.nodup_cons.2 ⟨fun h=>by have:=hDs D h;omega,hMV.ms.1⟩,fun D' hD'=>by
      rcases List.mem_cons.1 hD' with rfl|hD'
      ·exact⟨by omega,hK⟩
      ·exact hMV.ms.2 D' hD'⟩
    exact⟨gk-1,by omega,k+1,D :: Ds,_,_,_,_,_,_,_,_,_,_,_,_,_,_,_,_,_,_,_,_,_,_,_,_,_,_,_,_,_,_,_,_,_,by omega,rfl,⟨hMV.sq,hMV.bb,hMV.rs,hms,hMV.gr⟩,qa hno2 hhit⟩
   case stop =>
    rintro D c pre V hD hpre ⟨rfl,hhit,hrs,hms,hgr,_⟩ hK;have hv:Hid (vL z x bw=true):=qC (qa hyes (lL z bw (a,b) pre _ false hpre hhit))
    have hms2:zY w.heap.size (D :: Ds) V:=⟨List.nodup_cons.2 ⟨fun h=>by have:=hDs D h;omega,hms.1⟩,fun D' hD'=>by
      rcases List.mem_cons.1 hD' with rfl|hD'
      ·exact⟨by omega,hK⟩
      ·exact hms.2 D' hD'⟩
    refine wpIn_wide.2 ?_;go_wp2_with fail;refine qzn (D :: Ds) V hms2 (fun w' f=>⟨.bool true,ig _ _ (w.heap.size+2) _ rfl (qi (f.same _ _ hrs (.inr rfl))).1,by rw[qa hv],Below.trans hgr (f.below (n:=w.heap.size) (Below.size hgr) (fun j o hj=>.inl hj))⟩)
   case rnd =>
    intro l1 pre y V hbl hxy hI hl;simp only[yh];gi_wp2;refine⟨Fr.refl _ _,?_⟩;intro V2 f2 hI2 hl2;obtain⟨hM2,s2,far2,hh2,sz2⟩:=hI2;have hy64:y<64:=ce hx (C9 hxy);have hy0:(0:Int)<=(y:Int):=by omega
    have hy1:(y:Int)<64:=by omega
    have cy:=n6 hA hM2.sq y hy64;have cb:=(qi hM2.bb).1;obtain⟨cs0,cs1⟩:=xg s2;have hsn:=aF z bw (a,b) y false pre;rw[hh2]at hsn;have hman:=qC (fun W=>qxy (z y) bw W);have hback:=qC (fun W=>dH a b hsm W)
    have hsb:small (-a,-b):=by
     obtain⟨h1,h2,h3,h4⟩:=hsm;simp only at h1 h2 h3 h4;exact⟨by simp only;omega,by simp only;omega,by simp only;omega,by simp only;omega⟩
    have hgoes:=qC (fun W=>aG (z y) (-a) (-b) hsb W);have hfar:=qC (fun W=>qzt (z y) W);have hM2':=qC hM2;have far2':=qC far2;have s2':=qC s2;obtain⟨f,hf⟩:∃f,Hid ((!pre.isEmpty)=f):=⟨_,qC rfl⟩;have hne:Hid ((!(pre++[y]).isEmpty)=true):=qC (by cases pre<;>rfl)
    rw[qa hf]at far2 hsn;have cf:=(qi far2).1;obtain⟨m1,h1⟩:∃m,kw (z y) bw=m:=⟨_,rfl⟩;obtain⟨g1,h2⟩:∃m,ki (z y) (-a,-b)=m:=⟨_,rfl⟩;obtain⟨r1,h3⟩:∃m,dx (z y)=m:=⟨_,rfl⟩;have hsn2:Hid (vq z bw (a,b) false (pre++[y])=(m1&&g1&&(!f||r1))):=qC (by rw[hsn];simp only[fQ,h1,h2,h3,Bool.false_or]);rw[h1]at hman;rw[h2]at hgoes;rw[h3]at hfar
    have keep:Hid (∀W',Gr V2 W'->W'.cell? ⟨Bs+1,0,none⟩=some (.bool f)/\W'.frozen? ⟨Bs+1,0,none⟩=false/\W'.cell? ⟨w.heap.size+2,0,none⟩=some (.bool false)/\W'.frozen? ⟨w.heap.size+2,0,none⟩=false):=qC (fun W' hg=>by
     have e1:=qi ((Below.block hg _ (qB.1 far2).1).trans far2);have e2:=qi ((Below.block hg _ (qB.1 (qa hM2').rs).1).trans (qa hM2').rs);exact⟨e1.1,e1.2,e2.1,e2.2⟩)
    have fin0:Hid (∀W',Gr V2 W'->vq z bw (a,b) false (pre++[y])=false->Fr (jM w6.heap.size (fun _=>False) (fun k=>k=Bs+2+1\/k=Bs+2+2\/k=Bs+2\/k=w.heap.size)) V2 (W'.setCell ⟨Bs+1,0,none⟩ (.bool true))/\AD bw A w Ds (W'.setCell ⟨Bs+1,0,none⟩ (.bool true))/\(W'.setCell ⟨Bs+1,0,none⟩ (.bool true)).heap[Bs]?=some (.cells #[.int .i64 a,.int .i64 b] 221)/\(W'.setCell ⟨Bs+1,0,none⟩ (.bool true)).heap[Bs+1]?=some (.cells #[.bool (!(pre++[y]).isEmpty)] 4)/\vq z bw (a,b) false (pre++[y])=false/\w6.heap.size<=(W'.setCell ⟨Bs+1,0,none⟩ (.bool true)).heap.size):=qC (fun W' hg h=>by
     have e1:=(Below.block hg _ (qB.1 far2).1).trans far2;have fs:Fr (fun k o=>k≠Bs+1) V2 (W'.setCell ⟨Bs+1,0,none⟩ (.bool true)):=(Fr.of_gr hg).setCell _ (fun o _ q=>q rfl);refine⟨(Fr.of_gr hg).setCell _ ?_,(qa hM2').fr fs (fun j o hj=>?_),fs.same _ _ (qa s2') (by omega),?_,h,?_⟩
     ·rintro o-(q|q)
      ·simp only at q;omega
      ·have:=q.1;simp only at this;omega
     ·rcases hj with hj|hj
      ·omega
      ·intro e;subst e;have q1:=((qa hM2').ms.2 _ hj).2;rw[far2]at q1;cases q1
     ·rw[qa hne];exact jm e1
     ·have:=fs.size;omega)
    have fin1:Hid (∀W',Gr V2 W'->vq z bw (a,b) false (pre++[y])=true->Fr (jM w6.heap.size (fun _=>False) (fun k=>k=Bs+2+1\/k=Bs+2+2\/k=Bs+2\/k=w.heap.size)) V2 (W'.setCell ⟨w.heap.size+2,0,none⟩ (.bool true))/\vq z bw (a,b) false (pre++[y])=true/\(W'.setCell ⟨w.heap.size+2,0,none⟩ (.bool true)).heap[w.heap.size+2]?=some (.cells #[.bool true] 4)/\zY w.heap.size Ds (W'.setCell ⟨w.heap.size+2,0,none⟩ (.bool true))/\Gr w (W'.setCell ⟨w.heap.size+2,0,none⟩ (.bool true))/\w6.heap.size<=(W'.setCell ⟨w.heap.size+2,0,none⟩ (.bool true)).heap.size):=qC (fun W' hg h=>by
     have e1:=(Below.block hg _ (qB.1 (qa hM2').rs).1).trans (qa hM2').rs;have fs:Fr (fun k o=>k≠w.heap.size+2) V2 (W'.setCell ⟨w.heap.size+2,0,none⟩ (.bool true)):=(Fr.of_gr hg).setCell _ (fun o _ q=>q rfl);refine⟨(Fr.of_gr hg).setCell _ ?_,h,jm e1,(qa hM2').ms.fr fs (fun j o _ _ hj0 hj e=>?_),Below.setCell (Gr.trans (qa hM2').gr hg) (show w.heap.size<=w.heap.size+2 by omega) _,?_⟩
     ·rintro o-(q|q)
      ·simp only at q;omega
      ·have:=q.1;simp only at this;omega
     ·subst e;have q1:=((qa hM2').ms.2 _ hj).2;rw[(qa hM2').rs]at q1;cases q1
     ·have:=fs.size;omega)
    clear hM2 far2 s2 hh2 hsn;cases m1
    ·gi_wp2_with (first
      | (refine⟨trivial,?_⟩;gi_at_call 148;refine((callsIn_wide.2 (qa hman _)).inRound l1).mono ?_;rintro e wc ⟨rfl,rfl⟩;obtain⟨p1,p2,p3,p4⟩:=qa keep _ (Gr.refl _))
      | (with_reducible refine And.intro (zw _) ?_))
     all_goals first
      | exact qa fin0 _ (Gr.refl _) (by rw[qa hsn2];rfl)
      | (exfalso;rename_i xx bb h1 h2;exact absurd h1 (by simp[undef]))
      | (exfalso;rename_i xx bb h1;exact absurd h1 (by simp[undef]))
    ·cases g1
     ·gi_wp2_with (first
       | (refine⟨trivial,?_⟩;gi_at_call 148;refine((callsIn_wide.2 (qa hman _)).inRound l1).mono ?_;rintro e wc ⟨rfl,rfl⟩;obtain⟨p1,p2,p3,p4⟩:=qa keep _ (Gr.refl _))
       | (refine⟨trivial,?_⟩;gi_at_call 150;refine((callsIn_wide.2 (qa hback _)).inRound l1).mono ?_;rintro e wd ⟨rfl,hgd⟩)
       | (refine⟨trivial,?_⟩;gi_at_call 149;refine((callsIn_wide.2 (qa hgoes _)).inRound l1).mono ?_;rintro e we ⟨rfl,hge⟩;obtain⟨q1,q2,q3,q4⟩:=qa keep _ (Gr.trans hgd hge))
       | (with_reducible refine And.intro (zw _) ?_))
      all_goals first
       | exact qa fin0 _ (Gr.trans hgd hge) (by rw[qa hsn2];rfl)
       | (exfalso;rename_i xx bb h1 h2;exact absurd h1 (by simp[undef]))
       | (exfalso;rename_i xx bb h1;exact absurd h1 (by simp[undef]))
     ·cases f
      ·gi_wp2_with (first
        | (refine⟨trivial,?_⟩;gi_at_call 148;refine((callsIn_wide.2 (qa hman _)).inRound l1).mono ?_;rintro e wc ⟨rfl,rfl⟩;obtain⟨p1,p2,p3,p4⟩:=qa keep _ (Gr.refl _))
        | (refine⟨trivial,?_⟩;gi_at_call 150;refine((callsIn_wide.2 (qa hback _)).inRound l1).mono ?_;rintro e wd ⟨rfl,hgd⟩)
        | (refine⟨trivial,?_⟩;gi_at_call 149;refine((callsIn_wide.2 (qa hgoes _)).inRound l1).mono ?_;rintro e we ⟨rfl,hge⟩;obtain⟨q1,q2,q3,q4⟩:=qa keep _ (Gr.trans hgd hge))
        | (with_reducible refine And.intro (zw _) ?_))
       all_goals first
        | exact(fun t=>⟨t.1,rfl,t.2⟩) (qa fin1 _ (Gr.trans hgd hge) (by rw[qa hsn2];rfl))
        | (exfalso;rename_i xx bb h1 h2;exact absurd h1 (by simp[undef]))
        | (exfalso;rename_i xx bb h1;exact absurd h1 (by simp[undef]))
      ·cases r1
       ·gi_wp2_with (first
         | (refine⟨trivial,?_⟩;gi_at_call 148;refine((callsIn_wide.2 (qa hman _)).inRound l1).mono ?_;rintro e wc ⟨rfl,rfl⟩;obtain⟨p1,p2,p3,p4⟩:=qa keep _ (Gr.refl _))
         | (refine⟨trivial,?_⟩;gi_at_call 150;refine((callsIn_wide.2 (qa hback _)).inRound l1).mono ?_;rintro e wd ⟨rfl,hgd⟩)
         | (refine⟨trivial,?_⟩;gi_at_call 149;refine((callsIn_wide.2 (qa hgoes _)).inRound l1).mono ?_;rintro e we ⟨rfl,hge⟩;obtain⟨q1,q2,q3,q4⟩:=qa keep _ (Gr.trans hgd hge))
         | (refine⟨trivial,?_⟩;gi_at_call 151;refine((callsIn_wide.2 (qa hfar _)).inRound l1).mono ?_;rintro e wf ⟨rfl,rfl⟩)
         | (with_reducible refine And.intro (zw _) ?_))
        all_goals first
         | exact qa fin0 _ (Gr.trans hgd hge) (by rw[qa hsn2];rfl)
         | (exfalso;rename_i xx bb h1 h2;exact absurd h1 (by simp[undef]))
         | (exfalso;rename_i xx bb h1;exact absurd h1 (by simp[undef]))
       ·gi_wp2_with (first
         | (refine⟨trivial,?_⟩;gi_at_call 148;refine((callsIn_wide.2 (qa hman _)).inRound l1).mono ?_;rintro e wc ⟨rfl,rfl⟩;obtain⟨p1,p2,p3,p4⟩:=qa keep _ (Gr.refl _))
         | (refine⟨trivial,?_⟩;gi_at_call 150;refine((callsIn_wide.2 (qa hback _)).inRound l1).mono ?_;rintro e wd ⟨rfl,hgd⟩)
         | (refine⟨trivial,?_⟩;gi_at_call 149;refine((callsIn_wide.2 (qa hgoes _)).inRound l1).mono ?_;rintro e we ⟨rfl,hge⟩;obtain⟨q1,q2,q3,q4⟩:=qa keep _ (Gr.trans hgd hge))
         | (refine⟨trivial,?_⟩;gi_at_call 151;refine((callsIn_wide.2 (qa hfar _)).inRound l1).mono ?_;rintro e wf ⟨rfl,rfl⟩)
         | (with_reducible refine And.intro (zw _) ?_))
        all_goals first
         | exact(fun t=>⟨t.1,rfl,t.2⟩) (qa fin1 _ (Gr.trans hgd hge) (by rw[qa hsn2];rfl))
         | (exfalso;rename_i xx bb h1 h2;exact absurd h1 (by simp[undef]))
         | (exfalso;rename_i xx bb h1;exact absurd h1 (by simp[undef]))
  ·have hk16:k=16:=by omega
   subst hk16
   have hv:Hid (vL z x bw=false):=qC (by
    unfold vL;rw[List.any_eq_false];intro j hj;rw[qa hno' j (qK.1 hj)];decide)
   have hrs:=(qa hM').rs;obtain⟨c1,c2⟩:=qi hrs;refine wpIn_wide.2 ?_;go_wp2_with fail;have hrs2:(wr.setCell ⟨w.heap.size+2,0,none⟩ (.bool false)).heap[w.heap.size+2]?=some (.cells #[.bool false] 4):=jm hrs;have fs:Fr (fun k o=>k≠w.heap.size+2) wr (wr.setCell ⟨w.heap.size+2,0,none⟩ (.bool false)):=(Fr.refl _ _).setCell _ (fun o _ q=>q rfl);have hgr:Gr w (wr.setCell ⟨w.heap.size+2,0,none⟩ (.bool false)):=Below.setCell (qa hM').gr (show w.heap.size<=w.heap.size+2 by omega) _
   have hms:zY w.heap.size Ds (wr.setCell ⟨w.heap.size+2,0,none⟩ (.bool false)):=(qa hM').ms.fr fs (fun j o _ _ hj0 hj e=>by
    subst e;have q1:=((qa hM').ms.2 _ hj).2;rw[hrs]at q1;cases q1)
   refine qzn Ds _ hms (fun w' f=>⟨.bool false,ig _ _ (w.heap.size+2) _ rfl (qi (f.same _ _ hrs2 (.inr rfl))).1,by rw[qa hv],Below.trans hgr (f.below (n:=w.heap.size) (Below.size hgr) (fun j o hj=>.inl hj))⟩)
end
end Go.Proofs.YtnfakamfmkhlbabGreatDoor.C
