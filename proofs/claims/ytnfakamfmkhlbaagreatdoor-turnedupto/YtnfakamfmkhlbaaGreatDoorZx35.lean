import Derived.Test.YtnfakamfmkhlbaaGreatDoorZx34
import Derived.Test.YtnfakamfmkhlbaaGreatDoorZx31
import Derived.Test.YtnfakamfmkhlbaaGreatDoorZx32
import Derived.Test.YtnfakamfmkhlbaaGreatDoorZx28
import Derived.Test.YtnfakamfmkhlbaaGreatDoorKz2
set_option maxRecDepth 100000
set_option maxHeartbeats 4000000
set_option linter.unusedSimpArgs false
namespace Go.Proofs.YtnfakamfmkhlbaaGreatDoor.C
open Go.RowKit
open Go.Proofs.YtnfakamfmkhlbaaGreatDoor.P
section
variable {z:Nat->UInt8} {wh:Bool} {fc:Nat->Bool} {b:Int} {i f t cs:Nat} {u:UInt8}
theorem hom_ix:ixc 75=5/\ixc 82=3/\ixc 107=11/\ixc 114=9:=by decide +kernel
theorem Plain.keep (hP:Plain z wh b i f t u cs) (kg:i=5->t≠f+2/\t+2≠f) {n:Nat} (h1:n≠t) (h2:n≠f) (h3:ixc (z n)≠0/\ixc (z n)≠6):plZ z b (f,t,u) n=z n:=by
 rw [(xm hP kg).at' n,if_neg h1,if_neg h2];by_cases c3:n=cs
 ·exfalso
  by_cases hep:i=0/\(t:Int)=b
  ·obtain ⟨_,_,_,_,e5⟩:=hP.ep hep.1 hep.2;rw [<-c3] at e5;have:=xt wh;omega
  ·exact h1 (c3.trans (hP.nep hep))
 ·rw [if_neg c3]
theorem Plain.cast (hP:Plain z wh b i f t u cs) (kg:i=5->t≠f+2/\t+2≠f) (hC:Can z wh fc b):castOk (plZ z b (f,t,u)) (cfA fc f t 4)=true:=by
 obtain ⟨x1,x2,x3,x4⟩:=hom_ix;refine cast_of (fun h=>?_) (fun h=>?_) (fun h=>?_) (fun h=>?_)
 ·obtain ⟨a,a1,a2,a3,a4⟩:=qqp (by omega) h;obtain ⟨c1,c2⟩:=hC.c0 a;simp [homeK,homeR] at a1 a2 a3 a4;rw [hP.keep kg (n:=4) (by omega) (by omega) (by rw [c1];omega),hP.keep kg (n:=7) (by omega) (by omega) (by rw [c2];omega)];exact ⟨c1,c2⟩
 ·obtain ⟨a,a1,a2,a3,a4⟩:=qqp (by omega) h;obtain ⟨c1,c2⟩:=hC.c1 a;simp [homeK,homeR] at a1 a2 a3 a4;rw [hP.keep kg (n:=4) (by omega) (by omega) (by rw [c1];omega),hP.keep kg (n:=0) (by omega) (by omega) (by rw [c2];omega)];exact ⟨c1,c2⟩
 ·obtain ⟨a,a1,a2,a3,a4⟩:=qqp (by omega) h;obtain ⟨c1,c2⟩:=hC.c2 a;simp [homeK,homeR] at a1 a2 a3 a4;rw [hP.keep kg (n:=60) (by omega) (by omega) (by rw [c1];omega),hP.keep kg (n:=63) (by omega) (by omega) (by rw [c2];omega)];exact ⟨c1,c2⟩
 ·obtain ⟨a,a1,a2,a3,a4⟩:=qqp (by omega) h;obtain ⟨c1,c2⟩:=hC.c3 a;simp [homeK,homeR] at a1 a2 a3 a4;rw [hP.keep kg (n:=60) (by omega) (by omega) (by rw [c1];omega),hP.keep kg (n:=56) (by omega) (by omega) (by rw [c2];omega)];exact ⟨c1,c2⟩
theorem Plain.beh (hP:Plain z wh b i f t u cs) (kg:i=5->t≠f+2/\t+2≠f) (hg:goesR z wh fc b f t u=true):behOk (plZ z b (f,t,u)) (!wh) (behA z f t)=true:=by
 have hS:=xm hP kg;have hf:=hP.hf;have ht:=hP.ht;unfold behA;rw [pawn_kd];by_cases c0:kdc (z f)=0
 case neg=>rw [decide_eq_false c0];rfl
 rw [decide_eq_true c0,Bool.true_and];by_cases c2:twoP f t=true
 case neg=>rw [if_neg c2];rfl
 rw [if_pos c2];have h4:upR f t*upR f t=4:=of_decide_eq_true c2;unfold goesR at hg;simp only [Bool.and_eq_true] at hg;obtain ⟨⟨_,hu⟩,hg⟩:=hg;rw [if_pos c0] at hg;unfold pwR at hg
 have na:¬ attI (zI z) 0 (sdb wh) (f:Int) (t:Int)=true:=fun ha=>by
  have:=att0_up ha;rw [this] at h4;cases wh<;>cases h4
 rw [if_neg na] at hg;unfold pwU at hg;simp only [Bool.and_eq_true,Bool.or_eq_true,decide_eq_true_eq] at hg;obtain ⟨⟨e8,zt⟩,hg⟩:=hg;rcases hg with hg|⟨⟨hup,hr⟩,zm⟩
 ·rw [hg] at h4;cases wh<;>cases h4
 have hi0:i=0:=by have:=kd_ix hP.hi hP.hc;omega
 have hu0:lastR t=false->trn (z f) u=z f:=fun hl=>by
  rw [hl,Bool.and_false] at hu;have:=eq_of_beq hu;have u0:u=0:=Classical.byContradiction fun h=>by rw [decide_eq_true h] at this;cases this
  rw [u0];unfold trn;rw [if_pos rfl]
 have zf:=jb (p:=bg wh+i) (by have:=xt wh;omega) hP.hc;rw [hi0] at zf
 have mid:∀ n,n≠t->n≠f->z n=46->plZ z b (f,t,u) n=46:=fun n n1 n2 n3=>by
  rw [hS.at' n,if_neg n1,if_neg n2,n3];split<;>rfl
 have atf:plZ z b (f,t,u) f=46:=by rw [hS.at' f,if_neg hS.ne,if_pos rfl]
 have att:plZ z b (f,t,u) t=trn (z f) u:=by rw [hS.at' t,if_pos rfl]
 unfold upR at hup;cases wh
 ·simp only [sdb,Bool.false_eq_true,if_false] at hup hr zm
  have hl:lastR t=false:=by
   unfold lastR;rw [decide_eq_false (show ¬ t/8=0 by omega),decide_eq_false (show ¬ t/8=7 by omega)];rfl
  rw [hu0 hl,zf,show letr (bg false+0)=112 by decide +kernel] at att;obtain ⟨m,rfl⟩:∃ m,f=m+16:=⟨f-16,by omega⟩;have et:t=m:=by omega
  subst et;have em:(t+16+t)/2=t+8:=by omega
  rw [em];unfold behOk;have zm':=mid (t+8) (by omega) (by omega) (by rw [show t+16-8=t+8 by omega] at zm;exact zm);rw [show (((t+8:Nat):Int)).toNat=t+8 from Int.toNat_natCast _,show (((t+8:Nat):Int)+8).toNat=t+16 by omega,show (((t+8:Nat):Int)-8).toNat=t by omega,zm',atf,att];simp only [Bool.not_false,if_true];rw [decide_eq_true (show (40:Int)<=((t+8:Nat):Int) by omega),decide_eq_true (show ((t+8:Nat):Int)<48 by omega)];simp
 ·simp only [sdb,if_true] at hup hr zm
  have hl:lastR t=false:=by
   unfold lastR;rw [decide_eq_false (show ¬ t/8=0 by omega),decide_eq_false (show ¬ t/8=7 by omega)];rfl
  rw [hu0 hl,zf,show letr (bg true+0)=80 by decide +kernel] at att;have et:t=f+16:=by omega
  subst et;have em:(f+(f+16))/2=f+8:=by omega
  rw [em];unfold behOk;have zm':=mid (f+8) (by omega) (by omega) zm;rw [show (((f+8:Nat):Int)).toNat=f+8 from Int.toNat_natCast _,show (((f+8:Nat):Int)+8).toNat=f+16 by omega,show (((f+8:Nat):Int)-8).toNat=f by omega,zm',atf,att];simp only [Bool.not_true,Bool.false_eq_true,if_false];rw [decide_eq_true (show (16:Int)<=((f+8:Nat):Int) by omega),decide_eq_true (show ((f+8:Nat):Int)<24 by omega)];simp
theorem cas_cast {i:Nat} (h:Cas z wh i) (hC:Can z wh fc b):castOk (plZ z b (hK i,casT i,0)) (cfA fc (hK i) (casT i) 4)=true:=by
 obtain ⟨hp,hk⟩:=jf (i:=5) (by omega) h.k;have hp:pawnB (z (hK i))=false:=by rw [hp];rfl
 have hk:kingB (z (hK i))=true:=by rw [hk];rfl
 have hat:=qju (b:=b) h.hi hp hk;have hi:=h.hi;have:i=0\/i=1\/i=2\/i=3:=by omega
 refine cast_of (fun h=>?_) (fun h=>?_) (fun h=>?_) (fun h=>?_)
 all_goals
  obtain ⟨a,a1,a2,a3,a4⟩:=qqp (by omega) h;rw [hat,hat];rcases this with rfl|rfl|rfl|rfl<;>simp [hK,hR,casT,rN,homeK,homeR] at a1 a2 a3 a4 ⊢<;>first|exact hC.c0 a|exact hC.c1 a|exact hC.c2 a|exact hC.c3 a
end
theorem can_after {z:Nat->UInt8} {wh:Bool} {fc:Nat->Bool} {b h g:Int} (hcan:canS z wh fc b h g=true) (h0:-1<=b) (h1:b<=63) {f t:Nat} {u:UInt8} (hx:(f,t,u)∈movS z wh fc b):canS (plZ z b (f,t,u)) (!wh) (cfA fc f t 4) (behA z f t) (halA z f t h) (fulA wh g)=true:=by
 have hC:=qzl hcan;rw [<-can_same] at hcan ⊢;have hok:=zr _ _ _ _ _ hx;have hf:f<64:=hok.1;have ht:t<64:=hok.2;have hxl:=(zi hC h0 h1 _).2 hx;obtain ⟨i,f',t',u',e,hi,_,_,hc,hm,hu⟩:=(zg hC).1 (List.mem_filter.1 hxl).1;have e1:f=f':=by injection e
 have e2:t=t':=by injection e with _ e;injection e
 have e3:u=u':=by injection e with _ e;injection e
 subst e1 e2 e3;obtain ⟨u2,e4,_,hu1⟩:=qq2 hu;have e5:u=u2:=by injection e4 with _ e4;injection e4
 subst e5
 have hu5:u∈U5:=by
  unfold U5;rcases hu1 with e|e|e|e|e<;>rw [e]<;>decide
 have hleg:=(qzb hC h0 h1 hf ht hu5).2 hxl;unfold legR at hleg;rw [Bool.and_eq_true,bz4_pl hC hi hf ht hc hm hu] at hleg;obtain ⟨hgo,hatt⟩:=hleg;have hatt:attR (plZ z b (f,t,u)) (kingR (plZ z b (f,t,u)) wh) (!wh)=false:=by simpa using hatt
 unfold canR at hcan;simp only [Bool.and_eq_true,decide_eq_true_eq,List.all_eq_true,Bool.not_eq_true'] at hcan;obtain ⟨⟨⟨⟨⟨hbad,⟨⟨hk1,hk2⟩,hm1⟩,hm2⟩,_⟩,_⟩,ho⟩,hclk⟩:=hcan;have hB:Brd1 z:=⟨fun n hn=>hbad n (List.mem_range.2 hn),fun bb=>by cases bb<;>assumption,fun bb=>by cases bb<;>assumption⟩
 have fin:Brd1 (plZ z b (f,t,u))->castOk (plZ z b (f,t,u)) (cfA fc f t 4)=true->behOk (plZ z b (f,t,u)) (!wh) (behA z f t)=true->canR (plZ z b (f,t,u)) (!wh) (cfA fc f t 4) (behA z f t) (halA z f t h) (fulA wh g)=true:=fun hZ q1 q2=>by
  unfold canR;rw [Bool.not_not,hatt,q1,q2,clk_after hclk f t,decide_eq_true (hZ.kin true),decide_eq_true (hZ.kin false),decide_eq_true (hZ.men true),decide_eq_true (hZ.men false)];have:((List.range 64).all fun n=>!(badR (plZ z b (f,t,u)) n))=true:=List.all_eq_true.2 fun n hn=>by rw [hZ.bad n (List.mem_range.1 hn)];rfl
  rw [this];rfl
 rcases classify hC hi hf ht hc hm hu with ⟨hP,kg⟩|⟨ci,hK',a1,a2,a3,a4⟩
 ·have hnk:=no_king hi hf ht hc hgo kg (hB.kin _) ho;exact fin (hP.brd kg hu5 hgo hB hnk) (hP.cast kg hC) (hP.beh kg hgo)
 ·subst a1 a2 a3;refine fin (cas_brd hK' hB) (cas_cast hK' hC) ?_;have hpw:pawnB (z (hK ci))=false:=by rw [(jf hi hc).1,a4];rfl
  unfold behA;rw [hpw];rfl
theorem sq_names:∀ k,k<64->sqS ⟨(nameS k).toArray⟩=some k:=by decide +kernel
theorem sq_back {s:ByteArray} {n:Nat} (h:sqS s=some n):s.data.toList=nameS n:=by
 unfold sqS at h;by_cases h2:s.size=2
 ·rw [dif_pos h2] at h;by_cases h3:97<=s[0].toNat/\s[0].toNat<=104/\49<=s[1].toNat/\s[1].toNat<=56
  ·rw [if_pos h3] at h;have h:=Option.some.inj h;subst h;unfold nameS;rw [two_list s h2,show 97+(s[0].toNat-97+8*(s[1].toNat-49))%8=s[0].toNat from by omega,show 49+(s[0].toNat-97+8*(s[1].toNat-49))/8=s[1].toNat from by omega];simp
  ·rw [if_neg h3] at h;cases h
 ·rw [dif_neg h2] at h;cases h
theorem qzi (s:ByteArray) (a e:Nat):(s.extract a e).data.toList=(s.data.toList.take e).drop a:=by
 rw [ByteArray.data_extract,Array.toList_extract];simp [List.drop_take]
theorem turn_ne:∀ c:UInt8,0<=Lib.indexByte turnsL c->c≠0:=all256 (by decide +kernel)
theorem mvR_five {t:ByteArray} {f tt:Nat} {u:UInt8} (h:mvR t=some (f,tt,u)) (h5:t.size=5):u≠0:=by
 unfold mvR at h;split at h
 case isFalse=>cases h
 case isTrue h45 =>
  split at h
  case h_2=>cases h
  case h_1 a b ea eb =>
   split at h
   case isFalse=>cases h
   case isTrue hd =>
    injection h with h;injection h with h1 h;injection h with h2 h3;rw [rdT_5 h5] at h3 hd;rw [<-h3];exact turn_ne _ (of_decide_eq_true hd)
theorem mv_text {t:ByteArray} {f tt:Nat} {u:UInt8} (h:mvR t=some (f,tt,u)):t=str (mvS f tt u):=by
 have hp:=mvR_parts h;obtain ⟨e1,e2,_,_,_,h45⟩:=hp
 have s1:sqS (t.extract 0 2)=some f:=by
  unfold sqI at e1;cases hx:sqS (t.extract 0 2) with
  | none=>rw [hx] at e1;simp only at e1;omega
  | some n=>rw [hx] at e1;simp only at e1;rw [show n=f by omega]
 have s2:sqS (t.extract 2 4)=some tt:=by
  unfold sqI at e2;cases hx:sqS (t.extract 2 4) with
  | none=>rw [hx] at e2;simp only at e2;omega
  | some n=>rw [hx] at e2;simp only at e2;rw [show n=tt by omega]
 have l1:=sq_back s1;have l2:=sq_back s2;rw [qzi] at l1 l2
 have hlist:t.data.toList=mvS f tt u:=by
  unfold mvS;rw [<-l1,<-l2];have hlen:t.data.toList.length=t.size:=Array.length_toList;rcases h45 with ⟨e,u0⟩|⟨e,u0⟩
  ·rw [if_pos u0,List.append_nil];rw [List.drop_zero,List.take_of_length_le (show t.data.toList.length<=4 by omega),List.take_append_drop]
  ·rw [if_neg (mvR_five h e),u0];have h4:4<t.data.toList.length:=by omega
   have hd:t.data.toList.drop 4=[t[4]]:=by
    rw [List.drop_eq_getElem_cons h4,List.drop_eq_nil_of_le (by omega)];rfl
   rw [<-hd,List.drop_zero];have h2:(t.data.toList.take 4).take 2=t.data.toList.take 2:=by rw [List.take_take];rfl
   rw [<-h2,List.take_append_drop,List.take_append_drop]
 cases t with
 | mk d=>unfold str;simp at hlist ⊢;rw [<-hlist]
theorem mv_read' {S:ByteArray} {f tt:Nat} {u:UInt8} (hl:S.data.toList=mvS f tt u) (hf:f<64) (ht:tt<64) (hu:u∈U5):mvR S=some (f,tt,u):=by
 have n1:(nameS f).length=2:=rfl;have n2:(nameS tt).length=2:=rfl;have hmv:mvS f tt u=nameS f++(nameS tt++(if u=0 then [] else [u])):=by unfold mvS;rw [List.append_assoc]
 have x1:S.extract 0 2=⟨(nameS f).toArray⟩:=by
  have:=qzi S 0 2;rw [hl,hmv,List.take_append_of_le_length (by omega),List.take_of_length_le (by omega),List.drop_zero] at this;cases hx:S.extract 0 2 with
  | mk d=>rw [hx] at this;simp at this ⊢;rw [<-this]
 have x2:S.extract 2 4=⟨(nameS tt).toArray⟩:=by
  have:=qzi S 2 4;rw [hl] at this;unfold mvS at this;rw [List.take_append_of_le_length (by simp [n1,n2]),List.take_of_length_le (by simp [n1,n2]),List.drop_append_of_le_length (by omega),List.drop_of_length_le (by omega),List.nil_append] at this;cases hx:S.extract 2 4 with
  | mk d=>rw [hx] at this;simp at this ⊢;rw [<-this]
 have hsz:S.size=(mvS f tt u).length:=by rw [<-hl];exact Array.length_toList.symm
 have hml:(mvS f tt u).length=if u=0 then 4 else 5:=by
  unfold mvS;rw [List.length_append,List.length_append,n1,n2];split<;>rfl
 unfold mvR;rw [x1,x2,sq_names f hf,sq_names tt ht];by_cases u0:u=0
 ·rw [if_pos u0] at hml;rw [if_pos (Or.inl (hsz.trans hml))];simp only;rw [rdT_4 (hsz.trans hml),if_pos rfl,u0]
 ·rw [if_neg u0] at hml;rw [if_pos (Or.inr (hsz.trans hml))];simp only;have h5:=hsz.trans hml;have h4:4<S.size:=by omega
  have e4:S[4]=u:=by
   have h4':4<S.data.toList.length:=by rw [Array.length_toList];exact h4
   have:S.data.toList[4]=u:=by
    have e:mvS f tt u=nameS f++nameS tt++[u]:=by unfold mvS;rw [if_neg u0]
    simp only [hl,e];rfl
   rw [<-this];rfl
  rw [rdT_5 h5,e4]
  have:0<=Lib.indexByte turnsL u:=by
   have key:∀ c∈U5,c≠0->0<=Lib.indexByte turnsL c:=by decide +kernel
   exact key u hu u0
  exact if_pos (decide_eq_true this)
theorem mv_read {f tt:Nat} {u:UInt8} (hf:f<64) (ht:tt<64) (hu:u∈U5):mvR (str (mvS f tt u))=some (f,tt,u):=mv_read' rfl hf ht hu
end Go.Proofs.YtnfakamfmkhlbaaGreatDoor.C
namespace Go.Proofs.YtnfakamfmkhlbaaGreatDoor.C
open Go.ChangeShapes Go.WideShapes Go.ChangeAt Go.RowKit Go.Shelf
open Go.Proofs.YtnfakamfmkhlbaaGreatDoor.P
def hasT (T:List ByteArray) (s:ByteArray):Bool:=T.any fun x=>x.toList==s.toList
theorem hasK_any (T:List ByteArray) (hT:T.length<=1000000) (p1:Option Addr) (c1:Nat) (s:ByteArray) (w:World) (h1:El p1 T w):Calls Tryz.prog 25 #[.slice p1 T.length c1,.string s] w fun e w'=>e=.returned (.bool (hasT T s))/\w'=w:=by
 have h1':=hide h1;clear h1;obtain ⟨N,hN⟩:∃ N,N=T.length:=⟨_,rfl⟩;obtain ⟨V,hV⟩:∃ V,Hid (hasT T s=V):=⟨_,hide rfl⟩;rw [qa hV]
 have hyes:Hid (∀ j (h:j<T.length),(T[j].toList==s.toList)=true->V=true):=hide fun j h e=>by
  rw [<-qa hV];exact List.any_eq_true.2 ⟨T[j],List.getElem_mem h,e⟩
 have hnot:Hid ((∀ j (h:j<T.length),(T[j].toList==s.toList)=false)->V=false):=hide fun h=>by
  rw [<-qa hV];refine List.any_eq_false.2 fun x hx=>?_
  obtain ⟨j,hj,rfl⟩:=List.getElem_of_mem hx;rw [h j hj];simp
 rw [<-hN] at hT ⊢;go_enter Tryz.func25,Tryz.ntmps25;go_wp2_with fail;go_loopg [5] N (fun g v wr=>∃ (j:Nat),j+g=N/\v=.int .i64 (j:Int)/\(∀ k (h:k<T.length),k<j->(T[k].toList==s.toList)=false)/\wr=w)
 case atStart=>exact ⟨0,by omega,rfl,fun k _ h=>absurd h (Nat.not_lt_zero k),rfl⟩
 case round =>
  obtain ⟨j,k1,rfl,k3,hww⟩:=hrel;have hww':=hww.symm;subst hww';have k3':=hide k3;clear hww k3;by_cases hlt:j<N
  ·have hjT:j<T.length:=by omega
   obtain ⟨g1,rfl,x1⟩:=qa h1' j hjT;have hj0:(0:Int)<=(j:Int):=by omega
   have hjN:(j:Int)<(N:Int):=by omega
   obtain ⟨q,hq⟩:∃ q,(T[j].toList==s.toList)=q:=⟨_,rfl⟩
   have hnx:Hid (q=false->∀ k (h:k<T.length),k<j+1->(T[k].toList==s.toList)=false):=hide fun hf k h hk=>by
    by_cases e:k=j
    ·subst e;rw [hq,hf]
    ·exact qa k3' k h (by omega)
   have hys:Hid (q=true->V=true):=hide fun ht=>qa hyes j hjT (by rw [hq,ht])
   generalize T[j]=X at x1 hq;cases q
   ·have hn2:=hide (qa hnx rfl);clear hnx hys;go_wp2;go_roundg (gk-1)
    case measure=>omega
    case rel=>exact ⟨j+1,by omega,by go_num,qa hn2,rfl⟩
   ·have hy2:=hide (qa hys rfl);clear hnx hys;go_wp2;go_ret;exact ⟨by rw [qa hy2];rfl,rfl⟩
  ·have hV2:Hid (V=false):=hide (qa hnot fun k h=>qa k3' k h (by omega));have ej:j=N:=by omega
   go_wp2;go_ret;exact ⟨by rw [qa hV2];rfl,rfl⟩
theorem kingK_any {z:Nat->UInt8} {wh:Bool} {fc:Nat->Bool} {b h g:Int} {PA:Array Value} (r:Row z wh fc b h g PA) (bb:Bool) (y:Nat) (hy:y<64) (hk:kingR z bb=(y:Int)) (w:World):Calls Tryz.prog 27 #[.agg PA,.bool bb] w fun e w'=>e=.returned (.int .i64 (y:Int))/\Gr w w':=by
 have hb1:=heap_alloc_new w (.cells PA 25);have hg1:Hid (Gr w (w.alloc (.cells PA 25))):=hide ((Gr.refl w).alloc _ _);have hcl:Hid (∀ k,k<64->(w.alloc (.cells PA 25)).cell? ⟨w.heap.size,k,none⟩=some (.int .u8 ((z k).toNat:Int))):=hide fun k hk=>by rw [ql hb1];exact r.sq k hk
 have hat:Hid (∀ k,(∀ j,j<k->(z j==kingL bb)=false)->(z k==kingL bb)=true->k<64->k=y):=hide fun k h1 h2 h3=>by
  have:=qzd (z:=z) (b:=bb) (k:=k) h1 h2 h3;omega
 have hno:Hid ((∀ j,j<64->(z j==kingL bb)=false)->False):=hide fun h=>by
  have:=kingR_no (z:=z) (b:=bb) h;omega
 clear r hb1;go_enter Tryz.func27,Tryz.ntmps27;go_wp2;generalize w.alloc (.cells PA 25)=w1 at hg1 hcl ⊢;go_loopg [5] 64 (fun g n wr=>∃ k:Nat,k+g=64/\n=.int .i64 k/\(∀ j,j<k->(z j==kingL bb)=false)/\wr=w1)
 case atStart=>exact ⟨0,rfl,rfl,fun j hj=>absurd hj (Nat.not_lt_zero j),rfl⟩
 case round =>
  obtain ⟨k,k1,rfl,k3,hww⟩:=hrel;have hww':=hww.symm;subst hww';have k3':=hide k3;clear k3 hww;by_cases hlt:k<64
  ·have hv:=qa hcl k hlt;have hk0:(0:Int)<=(k:Int):=by omega
   have hk6:(k:Int)<64:=by omega
   have hnx:Hid ((z k==kingL bb)=false->∀ j,j<k+1->(z j==kingL bb)=false):=hide fun hf j hj=>by
    by_cases e:j=k
    ·subst e;exact hf
    ·exact qa k3' j (by omega)
   have hys:Hid ((z k==kingL bb)=true->k=y):=hide fun ht=>qa hat k (qa k3') ht hlt
   have hLb:Hid (∀ L:Int,((kingL bb).toNat:Int)=L->(((z k).toNat:Int)==L)=(z k==kingL bb)):=hide fun L hL=>by
    rw [Bool.eq_iff_iff,beq_iff_eq,beq_iff_eq,<-hL];exact ⟨fun e=>UInt8.toNat_inj.1 (by omega),fun e=>by rw [e]⟩
   obtain ⟨q,hq⟩:∃ q,Hid ((z k==kingL bb)=q):=⟨_,hide rfl⟩;cases bb
   ·have f1:=qa hLb 107 rfl;rw [qa hq] at f1 hnx hys;generalize ((z k).toNat:Int)=c at hv f1;clear hq hLb;cases q
    ·have hn2:=hide (qa hnx rfl);clear hnx hys;go_wp2;go_roundg (gk-1)
     case measure=>omega
     case rel=>exact ⟨k+1,by omega,by go_num,qa hn2,rfl⟩
    ·have hy2:=hide (qa hys rfl);clear hnx hys;go_wp2;go_ret;exact ⟨by rw [<-qa hy2];rfl,qa hg1⟩
   ·have f1:=qa hLb 75 rfl;rw [qa hq] at f1 hnx hys;generalize ((z k).toNat:Int)=c at hv f1;clear hq hLb;cases q
    ·have hn2:=hide (qa hnx rfl);clear hnx hys;go_wp2;go_roundg (gk-1)
     case measure=>omega
     case rel=>exact ⟨k+1,by omega,by go_num,qa hn2,rfl⟩
    ·have hy2:=hide (qa hys rfl);clear hnx hys;go_wp2;go_ret;exact ⟨by rw [<-qa hy2];rfl,qa hg1⟩
  ·exact (qa hno fun j hj=>qa k3' j (by omega)).elim
theorem isqK_yes (x:Int) (h0:0<=x) (h1:x<=63) (w:World):Calls Tryz.prog 115 #[.int .i64 x] w fun e w'=>e=.returned (.bool true)/\w'=w:=by
 go_enter Tryz.func115,Tryz.ntmps115;go_wp2;go_ret;refine ⟨?_,rfl⟩;show Ending.returned (Value.bool (decide (x<64)))=_;rw [decide_eq_true (by omega)]
theorem reachK_yes (k x t:Int) (k0:1<=k) (k1:k<=7) (h0:0<=x) (h1:x<=63) (w:World):Calls Tryz.prog 52 #[.int .i64 k,.int .i64 x,.int .u64 t] w fun e w'=>e=.returned (.tuple #[.int .u64 (reachI k x t),.int .i64 0])/\w'=w:=by
 go_enter Tryz.func52,Tryz.ntmps52;go_wp2_with (first|(go_at_call 115;refine (isqK_yes _ h0 h1 _).mono ?_;rintro e w' ⟨rfl,rfl⟩)|(go_at_call 116;refine (zj _ _ _ k0 k1 h0 h1 _).mono ?_;rintro e w' ⟨rfl,rfl⟩));go_ret2;exact ⟨rfl,rfl⟩
theorem onK_any (s y:Int) (h0:0<=y) (h1:y<=63) (w:World):Calls Tryz.prog 53 #[.int .u64 s,.int .i64 y] w fun e w'=>e=.returned (.bool (onI s y))/\w'=w:=by
 go_enter Tryz.func53,Tryz.ntmps53;go_wp2;go_ret;exact ⟨rfl,rfl⟩
def tkB (z:Nat->UInt8):Nat->BitVec 64
 | 0=>0#64
 | k+1=>if z k=46 then tkB z k else tkB z k ||| 1#64 <<< k
theorem tkB_bit (z:Nat->UInt8):∀ k,k<=64->∀ n,n<64->(tkB z k).getLsbD n=(decide (n<k)&&!decide (z n=46))
 | 0,_,n,hn=>by simp [tkB]
 | k+1,hk,n,hn=>by
  have ih:=tkB_bit z k (by omega) n hn;unfold tkB;by_cases hz:z k=46
  ·rw [if_pos hz,ih];by_cases e:n=k
   ·subst e;rw [hz,decide_eq_true rfl];simp
   ·rw [show decide (n<k+1)=decide (n<k) from decide_eq_decide.2 (by omega)]
  ·rw [if_neg hz,BitVec.getLsbD_or,ih,BitVec.getLsbD_shiftLeft];by_cases e:n=k
   ·subst e;rw [decide_eq_false hz];simp [hn]
   ·by_cases hlt:n<k
    ·rw [decide_eq_true hlt,decide_eq_true (show n<k+1 by omega)];simp [hlt]
    ·rw [decide_eq_false hlt,decide_eq_false (show ¬ n<k+1 by omega)];have:n-k≠0:=by omega
     simp [hlt,this]
theorem okK_ix {c:UInt8} (h:okY c=true):(c=46)=(¬ 0<=ixc c):=by
 have:∀ c:UInt8,okY c=true->decide (c=46)=!decide (0<=ixc c):=all256 (by decide +kernel);have:=this c h;apply propext;by_cases e:c=46
 ·rw [decide_eq_true e] at this;simp only [e,true_iff];intro hx;rw [e] at this;rw [decide_eq_true hx] at this;cases this
 ·rw [decide_eq_false e] at this;simp only [e,false_iff];intro hx;rw [decide_eq_false hx] at this;cases this
theorem tkB_is {z:Nat->UInt8} (hok:layOk z=true):tkB z 64=takenB (layS z 64):=by
 refine BitVec.eq_of_getLsbD_eq fun n hn=>?_
 rw [tkB_bit z 64 (by omega) n hn,qxm z n hn,decide_eq_true hn,Bool.true_and];have:=okK_ix (xe hok hn);by_cases e:z n=46
 ·rw [decide_eq_true e,decide_eq_false (by rw [<-this];exact e)];rfl
 ·rw [decide_eq_false e];have h2:0<=ixc (z n):=Classical.byContradiction fun hx=>e (by rw [this];exact hx)
  rw [decide_eq_true h2];rfl
def htB (z:Nat->UInt8) (bb:Bool) (y n:Nat):Bool:=decide (coc (z n)=sdb bb)&&attI (zI z) (kdc (z n)).toNat (sdb bb) (n:Int) (y:Int)
theorem ht_of {z:Nat->UInt8} {bb:Bool} {y n k:Nat} (hk:k<6) (h:ixc (z n)=((bg bb+k:Nat):Int)):htB z bb y n=attI (zI z) k (sdb bb) (n:Int) (y:Int):=by
 unfold htB;rw [qy hk h,(qxh hk h).2,decide_eq_true rfl,Bool.true_and]
theorem ht_no {z:Nat->UInt8} {bb:Bool} {y n:Nat} (h:∀ k,k<6->ixc (z n)≠((bg bb+k:Nat):Int)):htB z bb y n=false:=by
 unfold htB;rw [decide_eq_false,Bool.false_and];intro e;have hb:=ix_bd (z n);unfold coc sdb at e;cases bb
 ·have:=h (ixc (z n)-6).toNat;simp [bg] at this e;split at e<;>(try split at e)<;>omega
 ·have:=h (ixc (z n)).toNat;simp [bg] at this e;split at e<;>(try split at e)<;>omega
end Go.Proofs.YtnfakamfmkhlbaaGreatDoor.C
namespace Go.Proofs.YtnfakamfmkhlbaaGreatDoor.C
open Go.ChangeShapes Go.WideShapes Go.ChangeAt Go.RowKit Go.Shelf
open Go.Proofs.YtnfakamfmkhlbaaGreatDoor.P
attribute [local go_sem] qb qd
def ltK (bb:Bool):ByteArray:=if bb then ⟨#[80,78,66,82,81,75]⟩ else ⟨#[112,110,98,114,113,107]⟩
theorem ltK_ix:∀ (bb:Bool) (j:Nat),j<6->∀ W:World,(Instr.index 9 (.string (ltK bb)) (.int .i64 (j:Int))).run Tryz.prog W=.ok (.int .u8 ((letr (bg bb+j)).toNat:Int)) W
 | true,0,_,W=>by kernel_rfl
 | true,1,_,W=>by kernel_rfl
 | true,2,_,W=>by kernel_rfl
 | true,3,_,W=>by kernel_rfl
 | true,4,_,W=>by kernel_rfl
 | true,5,_,W=>by kernel_rfl
 | false,0,_,W=>by kernel_rfl
 | false,1,_,W=>by kernel_rfl
 | false,2,_,W=>by kernel_rfl
 | false,3,_,W=>by kernel_rfl
 | false,4,_,W=>by kernel_rfl
 | false,5,_,W=>by kernel_rfl
 | _,_+6,h,_=>absurd h (by omega)
theorem let_ix:∀ p,p<12->ixc (letr p)=((p:Nat):Int):=by decide +kernel
theorem or_tk (z:Nat->UInt8) (k:Nat):bits .or .u64 (U (tkB z k)) (U (1#64 <<< k))=U (tkB z k ||| 1#64 <<< k):=or_U _ _
theorem shl_U (k:Nat) (hk:k<64):IntKind.u64.wrap (2 ^ k)=U (1#64 <<< k):=by
 have:=qxx k hk;unfold oneI at this;rw [<-this,Int.toNat_natCast]
def mtB (z:Nat->UInt8) (bb:Bool) (y n k:Nat):Bool:=decide (z n=letr (bg bb+k))&&attI (zI z) k (sdb bb) (n:Int) (y:Int)
theorem qqu {z:Nat->UInt8} {wh:Bool} {fc:Nat->Bool} {b h g:Int} {PA:Array Value} (r:Row z wh fc b h g PA) (hok:layOk z=true) (y:Nat) (hy:y<64) (bb:Bool) (w:World):Calls Tryz.prog 26 #[.agg PA,.int .i64 (y:Int),.bool bb] w fun e w'=>e=.returned (.bool (attR z (y:Int) bb))/\Gr w w':=by
 have hb1:=heap_alloc_new w (.cells PA 25);have hg1:Hid (Gr w (w.alloc (.cells PA 25))):=hide ((Gr.refl w).alloc _ _);have hcl:Hid (∀ k,k<64->(w.alloc (.cells PA 25)).cell? ⟨w.heap.size,k,none⟩=some (.int .u8 ((z k).toNat:Int))):=hide fun k hk=>by rw [ql hb1];exact r.sq k hk
 obtain ⟨V,hV⟩:∃ V,Hid (attR z (y:Int) bb=V):=⟨_,hide rfl⟩;rw [qa hV]
 have hyes:Hid (∀ n k,n<64->k<6->mtB z bb y n k=true->V=true):=hide fun n k hn hk hm=>by
  unfold mtB at hm;rw [Bool.and_eq_true,decide_eq_true_eq] at hm;have hb:=xt bb;have hx:=let_ix (bg bb+k) (by omega);rw [<-hm.1] at hx;rw [<-qa hV]
  exact List.any_eq_true.2 ⟨n,List.mem_range.2 hn,by
   have:=ht_of (y:=y) hk hx;unfold htB at this;rw [this];exact hm.2⟩
 have hnot:Hid ((∀ n k,n<64->k<6->mtB z bb y n k=false)->V=false):=hide fun hm=>by
  rw [<-qa hV];refine List.any_eq_false.2 fun n hn=>?_
  have hn:=List.mem_range.1 hn
  have key:htB z bb y n=false:=by
   by_cases he:∃ k,k<6/\ixc (z n)=((bg bb+k:Nat):Int)
   ·obtain ⟨k,hk,e⟩:=he;have hb:=xt bb;rw [ht_of hk e];have:=hm n k hn hk;unfold mtB at this;rw [decide_eq_true (jb (by omega) e),Bool.true_and] at this;exact this
   ·exact ht_no fun k hk e=>he ⟨k,hk,e⟩
  unfold htB at key;rw [key];simp
 have hrc:Hid (∀ n k:Nat,n<64->k<6->onI (reachI ((kndN bb k:Nat):Int) (n:Int) (U (tkB z 64))) (y:Int)=attI (zI z) k (sdb bb) (n:Int) (y:Int)):=hide fun n k hn hk=>by
  rw [reach_U (kndN bb k) n (by unfold kndN;split<;>(try split)<;>omega) (by unfold kndN;split<;>(try split)<;>omega) hn,on_U,tkB_is hok,qqc hok hk hn hy]
 have hy0:(0:Int)<=(y:Int):=by omega
 have hy6:(y:Int)<=63:=by omega
 clear r hb1 hok;go_enter Tryz.func26,Tryz.ntmps26;go_wp2;generalize w.alloc (.cells PA 25)=w1 at hg1 hcl ⊢;go_loopg [7,8] 64 (fun g tk n wr=>∃ k:Nat,k+g=64/\n=.int .i64 k/\tk=.int .u64 (U (tkB z k))/\wr=w1)
 case atStart=>exact ⟨0,rfl,rfl,rfl,rfl⟩
 case round =>
  obtain ⟨k,k1,rfl,rfl,hww⟩:=hrel;have hww':=hww.symm;subst hww';clear hww;by_cases hlt:k<64
  ·have hv:=qa hcl k hlt;have hk0:(0:Int)<=(k:Int):=by omega
   have hk6:(k:Int)<64:=by omega
   have hsh:=shl_U k hlt;have hor:=or_tk z k;have ht:Hid (tkB z (k+1)=if z k=46 then tkB z k else tkB z k ||| 1#64 <<< k):=hide rfl;by_cases hz:z k=46
   ·rw [if_pos hz] at ht;rw [hz] at hv;clear hz;go_wp2;go_roundg (gk-1)
    case measure=>omega
    case rel=>exact ⟨k+1,by omega,by go_num,by rw [qa ht],rfl⟩
   ·rw [if_neg hz] at ht
    have hne:(((z k).toNat:Int) != 46)=true:=by
     rw [bne_iff_ne];exact fun e=>hz (UInt8.toNat_inj.1 (by have:(46:UInt8).toNat=46:=rfl;omega))
    generalize ((z k).toNat:Int)=c at hv hne;clear hz;go_wp2;go_roundg (gk-1)
    case measure=>omega
    case rel=>exact ⟨k+1,by omega,by go_num,by rw [qa ht],rfl⟩
  ·have ek:k=64:=by omega
   subst ek;clear hlt;go_upto_if 30 with fail;go_cut [9] from 29 to 30 (fun s9 wx=>s9=.string (ltK bb)/\wx=w1)
   case first =>
    cases bb
    all_goals
     go_wp2_with fail;go_meet
     case rel=>exact ⟨rfl,rfl⟩
   case rest =>
    obtain ⟨rfl,hww⟩:=hcut;have hww':=hww.symm;subst hww';clear hww;have hix:=ltK_ix bb;generalize ltK bb=S at hix ⊢;go_wp2_with fail;go_loopg [10] 64 (fun g n wr=>∃ (k d:Nat),k+g=64/\n=.int .i64 k/\(∀ n q,n<k->q<6->mtB z bb y n q=false)/\wr=w1.drewN d)
    case atStart=>exact ⟨0,0,rfl,rfl,fun n q h=>absurd h (Nat.not_lt_zero n),rfl⟩
    case round =>
     obtain ⟨k,d,k1,rfl,k3,hww⟩:=hrel;subst hww;have k3':=hide k3;clear k3;by_cases hlt:k<64
     ·have hv:=qa hcl k hlt;have hk0:(0:Int)<=(k:Int):=by omega
      have hk6:(k:Int)<64:=by omega
      go_wp2_with fail;go_loopg [11] 6 (fun g q wr=>∃ (j d:Nat),j+g=6/\q=.int .i64 j/\(∀ q,q<j->mtB z bb y k q=false)/\wr=w1.drewN d)
      case atStart=>exact ⟨0,d,rfl,rfl,fun q h=>absurd h (Nat.not_lt_zero q),rfl⟩
      case round =>
       obtain ⟨j,d',j1,rfl,j3,hww⟩:=hrel;subst hww;have j3':=hide j3;clear j3;by_cases hj:j<6
       ·have hj0:(0:Int)<=(j:Int):=by omega
        have hj6:(j:Int)<6:=by omega
        have hxx:=hix j hj;clear hix;obtain ⟨J',hJ⟩:∃ q,Hid (q=j+1):=⟨_,hide rfl⟩;have hJ1:Hid (J'+(gk-1)=6):=hide (by have:=qa hJ;omega)
        have hnx:Hid (mtB z bb y k j=false->∀ q,q<J'->mtB z bb y k q=false):=hide fun hf q hq=>by
         by_cases e:q=j
         ·rw [e];exact hf
         ·exact qa j3' q (by have:=qa hJ;omega)
        have hyk:Hid (mtB z bb y k j=true->V=true):=hide fun hm=>qa hyes k j hlt hj hm
        obtain ⟨R,hRe⟩:∃ R,Hid (reachI ((kndN bb j:Nat):Int) (k:Int) (U (tkB z 64))=R):=⟨_,hide rfl⟩;obtain ⟨A,hAe⟩:∃ A,Hid (attI (zI z) j (sdb bb) (k:Int) (y:Int)=A):=⟨_,hide rfl⟩
        have hR:Hid (∀ K:Int,K=((kndN bb j:Nat):Int)->∀ W,Calls Tryz.prog 52 #[.int .i64 K,.int .i64 (k:Int),.int .u64 (U (tkB z 64))] W fun e w'=>e=.returned (.tuple #[.int .u64 R,.int .i64 0])/\w'=W):=hide fun K hK W=>by
         rw [hK,<-qa hRe];exact reachK_yes _ _ _ (by unfold kndN;split<;>(try split)<;>omega) (by unfold kndN;split<;>(try split)<;>omega) (by omega) (by omega) W
        have hOn:Hid (∀ W,Calls Tryz.prog 53 #[.int .u64 R,.int .i64 (y:Int)] W fun e w'=>e=.returned (.bool A)/\w'=W):=hide fun W=>by
         rw [<-qa hAe,<-qa hrc k j hlt hj,qa hRe];exact onK_any _ _ hy0 hy6 W
        obtain ⟨q,hq⟩:∃ q,(((z k).toNat:Int) != ((letr (bg bb+j)).toNat:Int))=q:=⟨_,rfl⟩
        have hmn:Hid (q=true->mtB z bb y k j=false):=hide fun e=>by
         rw [e,bne_iff_ne] at hq;unfold mtB;rw [decide_eq_false (fun e2=>hq (by rw [e2])),Bool.false_and]
        have hme:Hid (q=false->mtB z bb y k j=A):=hide fun e=>by
         rw [e] at hq;have e2:((z k).toNat:Int)=((letr (bg bb+j)).toNat:Int):=by simpa using hq
         unfold mtB;rw [decide_eq_true (UInt8.toNat_inj.1 (by omega)),Bool.true_and,qa hAe]
        have hmf:Hid (q=false->A=false->mtB z bb y k j=false):=hide fun e e2=>by rw [qa hme e,e2]
        have hmt:Hid (q=false->A=true->mtB z bb y k j=true):=hide fun e e2=>by rw [qa hme e,e2]
        have hkd:Hid (¬ j=0->(j:Int)+2=((kndN bb j:Nat):Int)):=hide fun e=>by unfold kndN;rw [if_neg e];omega
        generalize ((letr (bg bb+j)).toNat:Int)=L at hxx hq;generalize ((z k).toNat:Int)=c at hv hq;clear hme hRe hAe;go_wp2_with fail;go_quiet (fail);cases q
        ·have hmf:=hide (qa hmf rfl);have hmt:=hide (qa hmt rfl);clear hmn;by_cases j0:j=0
         ·subst j0;cases bb
          ·have hR2:=hide (qa hR 2 rfl);clear hR hkd;cases A
           ·have hn2:=hide (qa hnx (qa hmf rfl));clear hnx hmf hmt hyk
            go_wp2_with (first
             | (go_at_call 52;refine (qa hR2 _).mono ?_;rintro e w' ⟨rfl,hww⟩;have hww':=hww.symm;subst hww';clear hww)
             | (go_at_call 53;refine (qa hOn _).mono ?_;rintro e w' ⟨rfl,hww⟩;have hww':=hww.symm;subst hww';clear hww))
            go_roundg (gk-1)
            case measure=>omega
            case rel=>exact ⟨J',_,qa hJ1,by rw [qa hJ];go_num,qa hn2,rfl⟩
           ·have hy2:=hide (qa hyk (qa hmt rfl));clear hnx hmf hmt hyk
            go_wp2_with (first
             | (go_at_call 52;refine (qa hR2 _).mono ?_;rintro e w' ⟨rfl,hww⟩;have hww':=hww.symm;subst hww';clear hww)
             | (go_at_call 53;refine (qa hOn _).mono ?_;rintro e w' ⟨rfl,hww⟩;have hww':=hww.symm;subst hww';clear hww))
            go_ret;exact ⟨by rw [qa hy2];rfl,Gr.trans (qa hg1) (Gr.drewN (Gr.refl _) _)⟩
          ·have hR2:=hide (qa hR 1 rfl);clear hR hkd;cases A
           ·have hn2:=hide (qa hnx (qa hmf rfl));clear hnx hmf hmt hyk
            go_wp2_with (first
             | (go_at_call 52;refine (qa hR2 _).mono ?_;rintro e w' ⟨rfl,hww⟩;have hww':=hww.symm;subst hww';clear hww)
             | (go_at_call 53;refine (qa hOn _).mono ?_;rintro e w' ⟨rfl,hww⟩;have hww':=hww.symm;subst hww';clear hww))
            go_roundg (gk-1)
            case measure=>omega
            case rel=>exact ⟨J',_,qa hJ1,by rw [qa hJ];go_num,qa hn2,rfl⟩
           ·have hy2:=hide (qa hyk (qa hmt rfl));clear hnx hmf hmt hyk
            go_wp2_with (first
             | (go_at_call 52;refine (qa hR2 _).mono ?_;rintro e w' ⟨rfl,hww⟩;have hww':=hww.symm;subst hww';clear hww)
             | (go_at_call 53;refine (qa hOn _).mono ?_;rintro e w' ⟨rfl,hww⟩;have hww':=hww.symm;subst hww';clear hww))
            go_ret;exact ⟨by rw [qa hy2];rfl,Gr.trans (qa hg1) (Gr.drewN (Gr.refl _) _)⟩
         ·have hR2:=hide (qa hR _ (qa hkd j0));have hj00:((j:Int)==0)=false:=by rw [beq_eq_false_iff_ne];omega
          clear hR hkd j0;cases A
          ·have hn2:=hide (qa hnx (qa hmf rfl));clear hnx hmf hmt hyk
           go_wp2_with (first
            | (go_at_call 52;refine (qa hR2 _).mono ?_;rintro e w' ⟨rfl,hww⟩;have hww':=hww.symm;subst hww';clear hww)
            | (go_at_call 53;refine (qa hOn _).mono ?_;rintro e w' ⟨rfl,hww⟩;have hww':=hww.symm;subst hww';clear hww))
           go_roundg (gk-1)
           case measure=>omega
           case rel=>exact ⟨J',_,qa hJ1,by rw [qa hJ];go_num,qa hn2,rfl⟩
          ·have hy2:=hide (qa hyk (qa hmt rfl));clear hnx hmf hmt hyk
           go_wp2_with (first
            | (go_at_call 52;refine (qa hR2 _).mono ?_;rintro e w' ⟨rfl,hww⟩;have hww':=hww.symm;subst hww';clear hww)
            | (go_at_call 53;refine (qa hOn _).mono ?_;rintro e w' ⟨rfl,hww⟩;have hww':=hww.symm;subst hww';clear hww))
           go_ret;exact ⟨by rw [qa hy2];rfl,Gr.trans (qa hg1) (Gr.drewN (Gr.refl _) _)⟩
        ·have hn2:=hide (qa hnx (qa hmn rfl));clear hnx hmf hmt hyk hmn hR hOn hkd;go_wp2_with fail;go_roundg (gk-1)
         case measure=>omega
         case rel=>exact ⟨J',_,qa hJ1,by rw [qa hJ];go_num,qa hn2,rfl⟩
       ·have ej:j=6:=by omega
        have hn2:Hid (∀ n q,n<k+1->q<6->mtB z bb y n q=false):=hide fun n q hn hq=>by
         by_cases e:n=k
         ·rw [e];exact qa j3' q (by omega)
         ·exact qa k3' n q (by omega) hq
        go_wp2_with fail;go_roundg (63-k)
        case measure=>omega
        case rel=>exact ⟨k+1,_,by omega,by go_num,qa hn2,rfl⟩
     ·have hV2:Hid (V=false):=hide (qa hnot fun n q hn hq=>qa k3' n q (by omega) hq);have ej:k=64:=by omega
      go_wp2;go_ret;exact ⟨by rw [qa hV2];rfl,Gr.trans (qa hg1) (Gr.drewN (Gr.refl _) _)⟩
end Go.Proofs.YtnfakamfmkhlbaaGreatDoor.C
