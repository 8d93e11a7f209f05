import Derived.Test.YtnfakamfmkhlbaaGreatDoorZf33
import Derived.Test.YtnfakamfmkhlbaaGreatDoorZf30
import Derived.Test.YtnfakamfmkhlbaaGreatDoorZf28
import Derived.Test.YtnfakamfmkhlbaaGreatDoorZf21
import Derived.Test.YtnfakamfmkhlbaaGreatDoorZf9
import Derived.Test.YtnfakamfmkhlbaaGreatDoorKz2
set_option maxRecDepth 100000
set_option maxHeartbeats 4000000
set_option linter.unusedSimpArgs false
namespace Go.Proofs.YtnfakamfmkhlbaaGreatDoor.C
open Go.RowKit
open Go.Proofs.YtnfakamfmkhlbaaGreatDoor.P
section
variable {z:Nat->UInt8} {wh:Bool} {fc:Nat->Bool} {b:Int} {i f t cs:Nat} {u:UInt8}
theorem hom_ix:ixc 75=5/\ixc 82=3/\ixc 107=11/\ixc 114=9:=by decide +kernel
theorem Plain.keep (hP:Plain z wh b i f t u cs) (kg:i=5->t≠f+2/\t+2≠f) {n:Nat} (h1:n≠t) (h2:n≠f) (h3:ixc (z n)≠0/\ixc (z n)≠6):plZ z b (f,t,u) n=z n:=by
 rw [(ja hP kg).at' n,if_neg h1,if_neg h2];by_cases c3:n=cs
 ·exfalso
  by_cases hep:i=0/\(t:Int)=b
  ·obtain ⟨_,_,_,_,e5⟩:=hP.ep hep.1 hep.2;rw [<-c3] at e5;have:=jt wh;omega
  ·exact h1 (c3.trans (hP.nep hep))
 ·rw [if_neg c3]
theorem Plain.cast (hP:Plain z wh b i f t u cs) (kg:i=5->t≠f+2/\t+2≠f) (hC:Can z wh fc b):castOk (plZ z b (f,t,u)) (cfA fc f t 4)=true:=by
 obtain ⟨x1,x2,x3,x4⟩:=hom_ix;refine cast_of (fun h=>?_) (fun h=>?_) (fun h=>?_) (fun h=>?_)
 ·obtain ⟨a,a1,a2,a3,a4⟩:=qqz (by omega) h;obtain ⟨c1,c2⟩:=hC.c0 a;simp [homeK,homeR] at a1 a2 a3 a4;rw [hP.keep kg (n:=4) (by omega) (by omega) (by rw [c1];omega),hP.keep kg (n:=7) (by omega) (by omega) (by rw [c2];omega)];exact ⟨c1,c2⟩
 ·obtain ⟨a,a1,a2,a3,a4⟩:=qqz (by omega) h;obtain ⟨c1,c2⟩:=hC.c1 a;simp [homeK,homeR] at a1 a2 a3 a4;rw [hP.keep kg (n:=4) (by omega) (by omega) (by rw [c1];omega),hP.keep kg (n:=0) (by omega) (by omega) (by rw [c2];omega)];exact ⟨c1,c2⟩
 ·obtain ⟨a,a1,a2,a3,a4⟩:=qqz (by omega) h;obtain ⟨c1,c2⟩:=hC.c2 a;simp [homeK,homeR] at a1 a2 a3 a4;rw [hP.keep kg (n:=60) (by omega) (by omega) (by rw [c1];omega),hP.keep kg (n:=63) (by omega) (by omega) (by rw [c2];omega)];exact ⟨c1,c2⟩
 ·obtain ⟨a,a1,a2,a3,a4⟩:=qqz (by omega) h;obtain ⟨c1,c2⟩:=hC.c3 a;simp [homeK,homeR] at a1 a2 a3 a4;rw [hP.keep kg (n:=60) (by omega) (by omega) (by rw [c1];omega),hP.keep kg (n:=56) (by omega) (by omega) (by rw [c2];omega)];exact ⟨c1,c2⟩
theorem Plain.beh (hP:Plain z wh b i f t u cs) (kg:i=5->t≠f+2/\t+2≠f) (hg:goesR z wh fc b f t u=true):behOk (plZ z b (f,t,u)) (!wh) (behA z f t)=true:=by
 have hS:=ja hP kg;have hf:=hP.hf;have ht:=hP.ht;unfold behA;rw [pawn_kd];by_cases c0:kdc (z f)=0
 case neg=>rw [decide_eq_false c0];rfl
 rw [decide_eq_true c0,Bool.true_and];by_cases c2:twoP f t=true
 case neg=>rw [if_neg c2];rfl
 rw [if_pos c2];have h4:upR f t*upR f t=4:=of_decide_eq_true c2;unfold goesR at hg;simp only [Bool.and_eq_true] at hg;obtain ⟨⟨_,hu⟩,hg⟩:=hg;rw [if_pos c0] at hg;unfold pwR at hg
 have na:¬ attI (zI z) 0 (sdb wh) (f:Int) (t:Int)=true:=fun ha=>by
  have:=att0_up ha;rw [this] at h4;cases wh<;>cases h4
 rw [if_neg na] at hg;unfold pwU at hg;simp only [Bool.and_eq_true,Bool.or_eq_true,decide_eq_true_eq] at hg;obtain ⟨⟨e8,zt⟩,hg⟩:=hg;rcases hg with hg|⟨⟨hup,hr⟩,zm⟩
 ·rw [hg] at h4;cases wh<;>cases h4
 have hi0:i=0:=by have:=kd_ix hP.hi hP.hc;omega
 have hu0:lastR t=false->trn (z f) u=z f:=fun hl=>by
  rw [hl,Bool.and_false] at hu;have:=eq_of_beq hu;have u0:u=0:=Classical.byContradiction fun h=>by rw [decide_eq_true h] at this;cases this
  rw [u0];unfold trn;rw [if_pos rfl]
 have zf:=zc (p:=bg wh+i) (by have:=jt wh;omega) hP.hc;rw [hi0] at zf
 have mid:∀ n,n≠t->n≠f->z n=46->plZ z b (f,t,u) n=46:=fun n n1 n2 n3=>by
  rw [hS.at' n,if_neg n1,if_neg n2,n3];split<;>rfl
 have atf:plZ z b (f,t,u) f=46:=by rw [hS.at' f,if_neg hS.ne,if_pos rfl]
 have att:plZ z b (f,t,u) t=trn (z f) u:=by rw [hS.at' t,if_pos rfl]
 unfold upR at hup;cases wh
 ·simp only [sdb,Bool.false_eq_true,if_false] at hup hr zm
  have hl:lastR t=false:=by
   unfold lastR;rw [decide_eq_false (show ¬ t/8=0 by omega),decide_eq_false (show ¬ t/8=7 by omega)];rfl
  rw [hu0 hl,zf,show letr (bg false+0)=112 by decide +kernel] at att;obtain ⟨m,rfl⟩:∃ m,f=m+16:=⟨f-16,by omega⟩;have et:t=m:=by omega
  subst et;have em:(t+16+t)/2=t+8:=by omega
  rw [em];unfold behOk;have zm':=mid (t+8) (by omega) (by omega) (by rw [show t+16-8=t+8 by omega] at zm;exact zm);rw [show (((t+8:Nat):Int)).toNat=t+8 from Int.toNat_natCast _,show (((t+8:Nat):Int)+8).toNat=t+16 by omega,show (((t+8:Nat):Int)-8).toNat=t by omega,zm',atf,att];simp only [Bool.not_false,if_true];rw [decide_eq_true (show (40:Int)<=((t+8:Nat):Int) by omega),decide_eq_true (show ((t+8:Nat):Int)<48 by omega)];simp
 ·simp only [sdb,if_true] at hup hr zm
  have hl:lastR t=false:=by
   unfold lastR;rw [decide_eq_false (show ¬ t/8=0 by omega),decide_eq_false (show ¬ t/8=7 by omega)];rfl
  rw [hu0 hl,zf,show letr (bg true+0)=80 by decide +kernel] at att;have et:t=f+16:=by omega
  subst et;have em:(f+(f+16))/2=f+8:=by omega
  rw [em];unfold behOk;have zm':=mid (f+8) (by omega) (by omega) zm;rw [show (((f+8:Nat):Int)).toNat=f+8 from Int.toNat_natCast _,show (((f+8:Nat):Int)+8).toNat=f+16 by omega,show (((f+8:Nat):Int)-8).toNat=f by omega,zm',atf,att];simp only [Bool.not_true,Bool.false_eq_true,if_false];rw [decide_eq_true (show (16:Int)<=((f+8:Nat):Int) by omega),decide_eq_true (show ((f+8:Nat):Int)<24 by omega)];simp
theorem cas_cast {i:Nat} (h:Cas z wh i) (hC:Can z wh fc b):castOk (plZ z b (hK i,casT i,0)) (cfA fc (hK i) (casT i) 4)=true:=by
 obtain ⟨hp,hk⟩:=jo (i:=5) (by omega) h.k;have hp:pawnB (z (hK i))=false:=by rw [hp];rfl
 have hk:kingB (z (hK i))=true:=by rw [hk];rfl
 have hat:=qzh (b:=b) h.hi hp hk;have hi:=h.hi;have:i=0\/i=1\/i=2\/i=3:=by omega
 refine cast_of (fun h=>?_) (fun h=>?_) (fun h=>?_) (fun h=>?_)
 all_goals
  obtain ⟨a,a1,a2,a3,a4⟩:=qqz (by omega) h;rw [hat,hat];rcases this with rfl|rfl|rfl|rfl<;>simp [hK,hR,casT,rN,homeK,homeR] at a1 a2 a3 a4 ⊢<;>first|exact hC.c0 a|exact hC.c1 a|exact hC.c2 a|exact hC.c3 a
end
theorem can_after {z:Nat->UInt8} {wh:Bool} {fc:Nat->Bool} {b h g:Int} (hcan:canS z wh fc b h g=true) (h0:-1<=b) (h1:b<=63) {f t:Nat} {u:UInt8} (hx:(f,t,u)∈movS z wh fc b):canS (plZ z b (f,t,u)) (!wh) (cfA fc f t 4) (behA z f t) (halA z f t h) (fulA wh g)=true:=by
 have hC:=qxt hcan;rw [<-can_same] at hcan ⊢;have hok:=zb _ _ _ _ _ hx;have hf:f<64:=hok.1;have ht:t<64:=hok.2;have hxl:=(jg hC h0 h1 _).2 hx;obtain ⟨i,f',t',u',e,hi,_,_,hc,hm,hu⟩:=(qqi hC).1 (List.mem_filter.1 hxl).1;have e1:f=f':=by injection e
 have e2:t=t':=by injection e with _ e;injection e
 have e3:u=u':=by injection e with _ e;injection e
 subst e1 e2 e3;obtain ⟨u2,e4,_,hu1⟩:=qxz hu;have e5:u=u2:=by injection e4 with _ e4;injection e4
 subst e5
 have hu5:u∈U5:=by
  unfold U5;rcases hu1 with e|e|e|e|e<;>rw [e]<;>decide
 have hleg:=(leg_iff hC h0 h1 hf ht hu5).2 hxl;unfold legR at hleg;rw [Bool.and_eq_true,bz4_pl hC hi hf ht hc hm hu] at hleg;obtain ⟨hgo,hatt⟩:=hleg;have hatt:attR (plZ z b (f,t,u)) (kingR (plZ z b (f,t,u)) wh) (!wh)=false:=by simpa using hatt
 unfold canR at hcan;simp only [Bool.and_eq_true,decide_eq_true_eq,List.all_eq_true,Bool.not_eq_true'] at hcan;obtain ⟨⟨⟨⟨⟨hbad,⟨⟨hk1,hk2⟩,hm1⟩,hm2⟩,_⟩,_⟩,ho⟩,hclk⟩:=hcan;have hB:Brd1 z:=⟨fun n hn=>hbad n (List.mem_range.2 hn),fun bb=>by cases bb<;>assumption,fun bb=>by cases bb<;>assumption⟩
 have fin:Brd1 (plZ z b (f,t,u))->castOk (plZ z b (f,t,u)) (cfA fc f t 4)=true->behOk (plZ z b (f,t,u)) (!wh) (behA z f t)=true->canR (plZ z b (f,t,u)) (!wh) (cfA fc f t 4) (behA z f t) (halA z f t h) (fulA wh g)=true:=fun hZ q1 q2=>by
  unfold canR;rw [Bool.not_not,hatt,q1,q2,clk_after hclk f t,decide_eq_true (hZ.kin true),decide_eq_true (hZ.kin false),decide_eq_true (hZ.men true),decide_eq_true (hZ.men false)];have:((List.range 64).all fun n=>!(badR (plZ z b (f,t,u)) n))=true:=List.all_eq_true.2 fun n hn=>by rw [hZ.bad n (List.mem_range.1 hn)];rfl
  rw [this];rfl
 rcases classify hC hi hf ht hc hm hu with ⟨hP,kg⟩|⟨ci,hK',a1,a2,a3,a4⟩
 ·have hnk:=no_king hi hf ht hc hgo kg (hB.kin _) ho;exact fin (hP.brd kg hu5 hgo hB hnk) (hP.cast kg hC) (hP.beh kg hgo)
 ·subst a1 a2 a3;refine fin (cas_brd hK' hB) (cas_cast hK' hC) ?_;have hpw:pawnB (z (hK ci))=false:=by rw [(jo hi hc).1,a4];rfl
  unfold behA;rw [hpw];rfl
theorem sq_names:∀ k,k<64->sqS ⟨(nameS k).toArray⟩=some k:=by decide +kernel
theorem sq_back {s:ByteArray} {n:Nat} (h:sqS s=some n):s.data.toList=nameS n:=by
 unfold sqS at h;by_cases h2:s.size=2
 ·rw [dif_pos h2] at h;by_cases h3:97<=s[0].toNat/\s[0].toNat<=104/\49<=s[1].toNat/\s[1].toNat<=56
  ·rw [if_pos h3] at h;have h:=Option.some.inj h;subst h;unfold nameS;rw [two_list s h2,show 97+(s[0].toNat-97+8*(s[1].toNat-49))%8=s[0].toNat from by omega,show 49+(s[0].toNat-97+8*(s[1].toNat-49))/8=s[1].toNat from by omega];simp
  ·rw [if_neg h3] at h;cases h
 ·rw [dif_neg h2] at h;cases h
theorem qz7 (s:ByteArray) (a e:Nat):(s.extract a e).data.toList=(s.data.toList.take e).drop a:=by
 rw [ByteArray.data_extract,Array.toList_extract];simp [List.drop_take]
theorem turn_ne:∀ c:UInt8,0<=Lib.indexByte turnsL c->c≠0:=all256 (by decide +kernel)
theorem mvR_five {t:ByteArray} {f tt:Nat} {u:UInt8} (h:mvR t=some (f,tt,u)) (h5:t.size=5):u≠0:=by
 unfold mvR at h;split at h
 case isFalse=>cases h
 case isTrue h45 =>
  split at h
  case h_2=>cases h
  case h_1 a b ea eb =>
   split at h
   case isFalse=>cases h
   case isTrue hd =>
    injection h with h;injection h with h1 h;injection h with h2 h3;rw [rdT_5 h5] at h3 hd;rw [<-h3];exact turn_ne _ (of_decide_eq_true hd)
theorem mv_text {t:ByteArray} {f tt:Nat} {u:UInt8} (h:mvR t=some (f,tt,u)):t=str (mvS f tt u):=by
 have hp:=mvR_parts h;obtain ⟨e1,e2,_,_,_,h45⟩:=hp
 have s1:sqS (t.extract 0 2)=some f:=by
  unfold sqI at e1;cases hx:sqS (t.extract 0 2) with
  | none=>rw [hx] at e1;simp only at e1;omega
  | some n=>rw [hx] at e1;simp only at e1;rw [show n=f by omega]
 have s2:sqS (t.extract 2 4)=some tt:=by
  unfold sqI at e2;cases hx:sqS (t.extract 2 4) with
  | none=>rw [hx] at e2;simp only at e2;omega
  | some n=>rw [hx] at e2;simp only at e2;rw [show n=tt by omega]
 have l1:=sq_back s1;have l2:=sq_back s2;rw [qz7] at l1 l2
 have hlist:t.data.toList=mvS f tt u:=by
  unfold mvS;rw [<-l1,<-l2];have hlen:t.data.toList.length=t.size:=Array.length_toList;rcases h45 with ⟨e,u0⟩|⟨e,u0⟩
  ·rw [if_pos u0,List.append_nil];rw [List.drop_zero,List.take_of_length_le (show t.data.toList.length<=4 by omega),List.take_append_drop]
  ·rw [if_neg (mvR_five h e),u0];have h4:4<t.data.toList.length:=by omega
   have hd:t.data.toList.drop 4=[t[4]]:=by
    rw [List.drop_eq_getElem_cons h4,List.drop_eq_nil_of_le (by omega)];rfl
   rw [<-hd,List.drop_zero];have h2:(t.data.toList.take 4).take 2=t.data.toList.take 2:=by rw [List.take_take];rfl
   rw [<-h2,List.take_append_drop,List.take_append_drop]
 cases t with
 | mk d=>unfold str;simp at hlist ⊢;rw [<-hlist]
theorem mv_read' {S:ByteArray} {f tt:Nat} {u:UInt8} (hl:S.data.toList=mvS f tt u) (hf:f<64) (ht:tt<64) (hu:u∈U5):mvR S=some (f,tt,u):=by
 have n1:(nameS f).length=2:=rfl;have n2:(nameS tt).length=2:=rfl;have hmv:mvS f tt u=nameS f++(nameS tt++(if u=0 then [] else [u])):=by unfold mvS;rw [List.append_assoc]
 have x1:S.extract 0 2=⟨(nameS f).toArray⟩:=by
  have:=qz7 S 0 2;rw [hl,hmv,List.take_append_of_le_length (by omega),List.take_of_length_le (by omega),List.drop_zero] at this;cases hx:S.extract 0 2 with
  | mk d=>rw [hx] at this;simp at this ⊢;rw [<-this]
 have x2:S.extract 2 4=⟨(nameS tt).toArray⟩:=by
  have:=qz7 S 2 4;rw [hl] at this;unfold mvS at this;rw [List.take_append_of_le_length (by simp [n1,n2]),List.take_of_length_le (by simp [n1,n2]),List.drop_append_of_le_length (by omega),List.drop_of_length_le (by omega),List.nil_append] at this;cases hx:S.extract 2 4 with
  | mk d=>rw [hx] at this;simp at this ⊢;rw [<-this]
 have hsz:S.size=(mvS f tt u).length:=by rw [<-hl];exact Array.length_toList.symm
 have hml:(mvS f tt u).length=if u=0 then 4 else 5:=by
  unfold mvS;rw [List.length_append,List.length_append,n1,n2];split<;>rfl
 unfold mvR;rw [x1,x2,sq_names f hf,sq_names tt ht];by_cases u0:u=0
 ·rw [if_pos u0] at hml;rw [if_pos (Or.inl (hsz.trans hml))];simp only;rw [rdT_4 (hsz.trans hml),if_pos rfl,u0]
 ·rw [if_neg u0] at hml;rw [if_pos (Or.inr (hsz.trans hml))];simp only;have h5:=hsz.trans hml;have h4:4<S.size:=by omega
  have e4:S[4]=u:=by
   have h4':4<S.data.toList.length:=by rw [Array.length_toList];exact h4
   have:S.data.toList[4]=u:=by
    have e:mvS f tt u=nameS f++nameS tt++[u]:=by unfold mvS;rw [if_neg u0]
    simp only [hl,e];rfl
   rw [<-this];rfl
  rw [rdT_5 h5,e4]
  have:0<=Lib.indexByte turnsL u:=by
   have key:∀ c∈U5,c≠0->0<=Lib.indexByte turnsL c:=by decide +kernel
   exact key u hu u0
  exact if_pos (decide_eq_true this)
theorem mv_read {f tt:Nat} {u:UInt8} (hf:f<64) (ht:tt<64) (hu:u∈U5):mvR (str (mvS f tt u))=some (f,tt,u):=mv_read' rfl hf ht hu
end Go.Proofs.YtnfakamfmkhlbaaGreatDoor.C
namespace Go.Proofs.YtnfakamfmkhlbaaGreatDoor.C
open Go.ChangeShapes Go.WideShapes Go.ChangeAt Go.RowKit Go.Shelf
open Go.Proofs.YtnfakamfmkhlbaaGreatDoor.P
attribute [local go_sem] qb qd
theorem shl_U (k:Nat) (hk:k<64):IntKind.u64.wrap (2 ^ k)=U (1#64 <<< k):=by
 have:=qje k hk;unfold oneI at this;rw [<-this,Int.toNat_natCast]
end Go.Proofs.YtnfakamfmkhlbaaGreatDoor.C
namespace Go.Proofs.YtnfakamfmkhlbaaGreatDoor.C
open Go.RowKit
open Go.Proofs.YtnfakamfmkhlbaaGreatDoor.P
theorem mov_u5 {z:Nat->UInt8} {wh:Bool} {fc:Nat->Bool} {b:Int} (hC:Can z wh fc b) (h0:-1<=b) (h1:b<=63) {x:Mv} (hx:x∈movS z wh fc b):x.2.2∈U5:=by
 obtain ⟨i,f',t',u',e,hi,_,_,hc,hm,hu⟩:=(qqi hC).1 (List.mem_filter.1 ((jg hC h0 h1 x).2 hx)).1;obtain ⟨u2,e4,_,hu1⟩:=qxz hu;have e5:u'=u2:=by injection e4 with _ e4;injection e4
 rw [e];show u'∈U5;rw [e5];unfold U5;rcases hu1 with e|e|e|e|e<;>rw [e]<;>decide
theorem zB_of {Z:Nat->UInt8} (h:∀ n,64<=n->Z n=0):Z=zB ((List.range 64).map Z):=by
 funext n;unfold zB;by_cases hn:n<64
 ·rw [List.getD_eq_getElem?_getD,List.getElem?_map,List.getElem?_range hn];rfl
 ·rw [List.getD_eq_getElem?_getD,List.getElem?_eq_none (by simp;omega)];exact h n (by omega)
theorem pos_far {s:ByteArray} {p:Pos} (hr:readS s=some p):∀ n,64<=n->posZ p n=0:=by
 obtain ⟨B,h1,h2,_⟩:=qqm s p hr;intro n hn;rw [qzu (by first|exact h1|exact h2)];unfold zB;rw [List.getD_eq_getElem?_getD,List.getElem?_eq_none (by omega)];rfl
structure Mvd (z:Nat->UInt8) (wh:Bool) (fc:Nat->Bool) (b:Int) (f t:Nat) (u:UInt8):Prop where
 far:∀ n,64<=n->plZ z b (f,t,u) n=z n
 safe:attR (plZ z b (f,t,u)) (kingR (plZ z b (f,t,u)) wh) (!wh)=false
 king:∃ y:Nat,y<64/\kingR (plZ z b (f,t,u)) wh=(y:Int)
theorem mvd_of {z:Nat->UInt8} {wh:Bool} {fc:Nat->Bool} {b:Int} (hC:Can z wh fc b) (h0:-1<=b) (h1:b<=63) {f t:Nat} {u:UInt8} (hx:(f,t,u)∈movS z wh fc b):Mvd z wh fc b f t u:=by
 have hok:=zb _ _ _ _ _ hx;have hf:f<64:=hok.1;have ht:t<64:=hok.2;have hu5:u∈U5:=mov_u5 hC h0 h1 hx;have hxl:=(jg hC h0 h1 _).2 hx;obtain ⟨i,f',t',u',e,hi,_,_,hc,hm,hu⟩:=(qqi hC).1 (List.mem_filter.1 hxl).1;have e1:f=f':=by injection e
 have e2:t=t':=by injection e with _ e;injection e
 have e3:u=u':=by injection e with _ e;injection e
 subst e1 e2 e3;have hleg:=(leg_iff hC h0 h1 hf ht hu5).2 hxl;unfold legR at hleg;rw [Bool.and_eq_true,bz4_pl hC hi hf ht hc hm hu] at hleg;refine ⟨fun n hn=>?_,by simpa using hleg.2,(jp hC h0 h1 hi hf ht hc hm hu).1⟩;rcases classify hC hi hf ht hc hm hu with ⟨hP,kg⟩|⟨ci,hK',a1,a2,a3,a4⟩
 ·rw [(ja hP kg).at' n,if_neg (by omega),if_neg (by omega),if_neg];intro ec;by_cases hep:i=0/\(t:Int)=b
  ·obtain ⟨_,hcs,_,_,_⟩:=hP.ep hep.1 hep.2;omega
  ·have:=hP.nep hep;omega
 ·subst a1 a2 a3;obtain ⟨hp,hk⟩:=jo (i:=5) (by omega) hK'.k;have hp:pawnB (z (hK ci))=false:=by rw [hp];rfl
  have hk:kingB (z (hK ci))=true:=by rw [hk];rfl
  obtain ⟨f1,f2,f3,f4,_⟩:=js ci hK'.hi;rw [qzh (b:=b) hK'.hi hp hk n,if_neg (by omega),if_neg (by omega),if_neg (by omega),if_neg (by omega)]
theorem aft_parse {s:ByteArray} {p:Pos} (hr:readS s=some p) (hcan:posCan p=true) {x:Mv} (hx:x∈movS (posZ p) p.white p.castle p.behind):∃ Q,Row (plZ (posZ p) p.behind x) (!p.white) (cfA p.castle x.1 x.2.1 4) (behA (posZ p) x.1 x.2.1) (halA (posZ p) x.1 x.2.1 p.half) (fulA p.white p.full) Q/\layOk (plZ (posZ p) p.behind x)=true/\(⟨(afW p x).toArray⟩:ByteArray).size<4294967281/\∀ e,ParseEnd ⟨(afW p x).toArray⟩ e->e=.returned (.tuple #[.agg Q,.int .i64 0]):=by
 obtain ⟨hC,hb0,hb1⟩:=qja hr hcan;obtain ⟨f,t,u⟩:=x;have hm:=mvd_of hC hb0 hb1 hx;have hca:=can_after hcan hb0 hb1 hx;have hzB:=zB_of (Z:=plZ (posZ p) p.behind (f,t,u)) fun n hn=>(hm.far n hn).trans (pos_far hr n hn)
 have hlen:((List.range 64).map (plZ (posZ p) p.behind (f,t,u))).length=64:=by simp
 have hrow:=qxk (plZ (posZ p) p.behind (f,t,u)) ((List.range 64).map fun n=>Value.int .u8 ((plZ (posZ p) p.behind (f,t,u) n).toNat:Int)).toArray (by simp) (fun i hi=>by simp [hi]) (!p.white) (cfA p.castle f t 4) (behA (posZ p) f t) (halA (posZ p) f t p.half) (fulA p.white p.full);refine ⟨_,hrow,(qxt hca).ok,qzn hca,fun e he=>?_⟩;rw [hzB] at hrow hca
 have he':ParseEnd ⟨(writeS (zB ((List.range 64).map (plZ (posZ p) p.behind (f,t,u)))) (!p.white) (cfA p.castle f t 4) (behA (posZ p) f t) (halA (posZ p) f t p.half) (fulA p.white p.full)).toArray⟩ e:=by
  rw [<-hzB];exact he
 exact qzw hlen hrow hca he'
def mr (n:Nat):Nat:=(7-n/8)*8+n%8
def mm (x:Mv):Mv:=(mr x.1,mr x.2.1,x.2.2)
theorem qz1 {z:Nat->UInt8} {wh:Bool} {fc:Nat->Bool} {b:Int} (hC:Can z wh fc b) (h0:-1<=b) (h1:b<=63) {f t:Nat} {u:UInt8} (hf:f<64) (ht:t<64) (hu:u∈U5):(f,t,u)∈movS z wh fc b↔legR z wh fc b f t u=true:=by
 rw [leg_iff hC h0 h1 hf ht hu,jg hC h0 h1]
theorem cas_fc {wh:Bool} {fc fd:Nat->Bool} (h:∀ i,i<4->fc i=fd i) (f t:Nat) (u:UInt8):casR wh fc f t u=casR wh fd f t u:=by
 have hu:∀ fc:Nat->Bool,casR wh fc f t u=if casB wh fc f t u 0 then 0 else if casB wh fc f t u 1 then 1 else if casB wh fc f t u 2 then 2 else if casB wh fc f t u 3 then 3 else -1:=fun _=>rfl
 have hc:∀ i,i<4->casB wh fc f t u i=casB wh fd f t u i:=fun i hi=>by unfold casB;rw [h i hi]
 rw [hu,hu,hc 0 (by omega),hc 1 (by omega),hc 2 (by omega),hc 3 (by omega)]
theorem leg_fc {z:Nat->UInt8} {wh:Bool} {fc fd:Nat->Bool} {b:Int} (h:∀ i,i<4->fc i=fd i) (f t:Nat) (u:UInt8):legR z wh fc b f t u=legR z wh fd b f t u:=by
 have e1:goesR z wh fc b f t u=goesR z wh fd b f t u:=by
  unfold goesR mnR;rw [cas_fc h]
 have e2:bz4 z wh fc b f t u=bz4 z wh fd b f t u:=by
  unfold bz4 kcB;rw [cas_fc h]
 unfold legR;rw [e1,e2]
theorem mov_fc {z:Nat->UInt8} {wh:Bool} {fc fd:Nat->Bool} {b:Int} (hC:Can z wh fc b) (hD:Can z wh fd b) (h0:-1<=b) (h1:b<=63) (h:∀ i,i<4->fc i=fd i) (x:Mv):x∈movS z wh fc b↔x∈movS z wh fd b:=by
 obtain ⟨f,t,u⟩:=x;constructor
 ·intro hx;have hok:=zb _ _ _ _ _ hx;have hu:u∈U5:=mov_u5 hC h0 h1 hx;rw [qz1 hD h0 h1 hok.1 hok.2 hu,<-leg_fc h];exact (qz1 hC h0 h1 hok.1 hok.2 hu).1 hx
 ·intro hx;have hok:=zb _ _ _ _ _ hx;have hu:u∈U5:=mov_u5 hD h0 h1 hx;rw [qz1 hC h0 h1 hok.1 hok.2 hu,leg_fc h];exact (qz1 hD h0 h1 hok.1 hok.2 hu).1 hx
end Go.Proofs.YtnfakamfmkhlbaaGreatDoor.C
namespace Go.Proofs.YtnfakamfmkhlbaaGreatDoor.C
open Go.ChangeShapes Go.WideShapes Go.ChangeAt Go.RowKit Go.Shelf
open Go.Proofs.YtnfakamfmkhlbaaGreatDoor.P
theorem mul_U (a b:BitVec 64):IntKind.u64.wrap (U a*U b)=U (a*b):=by
 rw [wrap_of];refine congrArg U ?_;unfold U;rw [<-Int.natCast_mul,BitVec.ofInt_natCast];exact BitVec.eq_of_toNat_eq (by rw [BitVec.toNat_ofNat,BitVec.toNat_mul])
theorem add_U (a b:BitVec 64):IntKind.u64.wrap (U a+U b)=U (a+b):=by
 rw [wrap_of];refine congrArg U ?_;unfold U;rw [<-Int.natCast_add,BitVec.ofInt_natCast];exact BitVec.eq_of_toNat_eq (by rw [BitVec.toNat_ofNat,BitVec.toNat_add])
def mixB (x:BitVec 64):BitVec 64 :=
 let a:=(x ^^^ x >>> 30)*13787848793156543929#64
 let b:=(a ^^^ a >>> 27)*10723151780598845931#64
 b ^^^ b >>> 31
def numB (s n:BitVec 64):BitVec 64:=mixB (s+n*11400714819323198485#64)
theorem shr30 (x:BitVec 64):U x/(1073741824:Int)=U (x >>> 30):=shr_U x 30
theorem shr27 (x:BitVec 64):U x/(134217728:Int)=U (x >>> 27):=shr_U x 27
theorem shr31 (x:BitVec 64):U x/(2147483648:Int)=U (x >>> 31):=shr_U x 31
def mixI (x:Int):Int :=
 let a:=IntKind.u64.wrap (bits .xor .u64 x (x/1073741824)*13787848793156543929)
 let b:=IntKind.u64.wrap (bits .xor .u64 a (a/134217728)*10723151780598845931)
 bits .xor .u64 b (b/2147483648)
theorem mxB:(13787848793156543929:Int)=U 13787848793156543929#64:=by decide +kernel
theorem mxC:(10723151780598845931:Int)=U 10723151780598845931#64:=by decide +kernel
theorem mxA:(11400714819323198485:Int)=U 11400714819323198485#64:=by decide +kernel
theorem mix_U (x:BitVec 64):mixI (U x)=U (mixB x):=by
 unfold mixI mixB;simp only;rw [shr30,xor_U,mxB,mul_U,shr27,xor_U,mxC,mul_U,shr31,xor_U]
theorem mix_any (x:Int) (w:World):Calls Tryz.prog 251 #[.int .u64 x] w fun e w'=>e=.returned (.int .u64 (mixI x))/\w'=w:=by
 go_enter Tryz.func251,Tryz.ntmps251;go_wp2;go_ret;exact ⟨qx6 (a:=mixI x) rfl,rfl⟩
def numbI (s n:Int):Int:=mixI (IntKind.u64.wrap (s+IntKind.u64.wrap (n*11400714819323198485)))
theorem numb_U (s n:BitVec 64):numbI (U s) (U n)=U (numB s n):=by
 unfold numbI numB;rw [mxA,mul_U,add_U,mix_U]
theorem mixNum_any (s n:Int) (w:World):Calls Tryz.prog 193 #[.int .u64 s,.int .u64 n] w fun e w'=>e=.returned (.int .u64 (numbI s n))/\w'=w:=by
 go_enter Tryz.func193,Tryz.ntmps193;go_wp2_with (go_at_call 251;refine (mix_any _ _).mono ?_;rintro e w' ⟨rfl,rfl⟩);go_ret;exact ⟨qx6 (a:=numbI s n) rfl,rfl⟩
end Go.Proofs.YtnfakamfmkhlbaaGreatDoor.C
namespace Go.Proofs.YtnfakamfmkhlbaaGreatDoor.C
open Go.RowKit
open Go.Proofs.YtnfakamfmkhlbaaGreatDoor.P
def gnB (n:Nat):BitVec 64:=numB 0#64 (BitVec.ofNat 64 n)
def kyB (z:Nat->UInt8):Nat->BitVec 64
 | 0=>0#64
 | n+1=>if 0<=ixc (z n) then kyB z n ^^^ gnB (64*(ixc (z n)).toNat+n+1) else kyB z n
def kyC (fc:Nat->Bool) (k:BitVec 64):Nat->BitVec 64
 | 0=>k
 | n+1=>if fc n then kyC fc k n ^^^ gnB (769+n) else kyC fc k n
def kyW (wh:Bool) (k:BitVec 64):BitVec 64:=if wh then k else k ^^^ gnB 773
def kyF (b:Int) (k:BitVec 64):BitVec 64:=if 0<=b then k ^^^ gnB (774+(b%8).toNat) else k
def keyS (z:Nat->UInt8) (wh:Bool) (fc:Nat->Bool) (b:Int):BitVec 64:=kyF b (kyW wh (kyC fc (kyB z 64) 4))
def nmB (z:Nat->UInt8):List Nat:=(List.range 64).filterMap fun n=>if 0<=ixc (z n) then some (64*(ixc (z n)).toNat+n+1) else none
def nmC (fc:Nat->Bool):List Nat:=(List.range 4).filterMap fun n=>if fc n then some (769+n) else none
def numsS (z:Nat->UInt8) (wh:Bool) (fc:Nat->Bool) (b:Int):List Nat:=nmB z++nmC fc++(if wh then [] else [773])++(if 0<=b then [774+(b%8).toNat] else [])
def xorN (k:BitVec 64) (l:List Nat):BitVec 64:=l.foldl (fun a n=>a ^^^ gnB n) k
theorem xorN_app (k:BitVec 64) (l m:List Nat):xorN k (l++m)=xorN (xorN k l) m:=List.foldl_append
theorem kyB_succ (z:Nat->UInt8) (n:Nat):kyB z (n+1)=if 0<=ixc (z n) then kyB z n ^^^ gnB (64*(ixc (z n)).toNat+n+1) else kyB z n:=rfl
theorem kyC_succ (fc:Nat->Bool) (k:BitVec 64) (n:Nat):kyC fc k (n+1)=if fc n then kyC fc k n ^^^ gnB (769+n) else kyC fc k n:=rfl
theorem kyB_is (z:Nat->UInt8) (k:Nat):kyB z k=xorN 0#64 ((List.range k).filterMap fun n=>if 0<=ixc (z n) then some (64*(ixc (z n)).toNat+n+1) else none):=by
 induction k with
 | zero=>rfl
 | succ k ih =>
  rw [List.range_succ,List.filterMap_append,xorN_app,<-ih,kyB_succ];by_cases h:0<=ixc (z k)
  ·simp [h,xorN]
  ·simp [h,xorN]
theorem kyC_is (fc:Nat->Bool) (x:BitVec 64) (k:Nat):kyC fc x k=xorN x ((List.range k).filterMap fun n=>if fc n then some (769+n) else none):=by
 induction k with
 | zero=>rfl
 | succ k ih =>
  rw [List.range_succ,List.filterMap_append,xorN_app,<-ih,kyC_succ];cases h:fc k
  ·simp [h,xorN]
  ·simp [h,xorN]
theorem key_nums (z:Nat->UInt8) (wh:Bool) (fc:Nat->Bool) (b:Int):keyS z wh fc b=xorN 0#64 (numsS z wh fc b):=by
 unfold keyS numsS;rw [xorN_app,xorN_app,xorN_app];unfold nmB nmC;rw [<-kyB_is,<-kyC_is];unfold kyF kyW;cases wh<;>by_cases h:0<=b<;>simp [h,xorN]
end Go.Proofs.YtnfakamfmkhlbaaGreatDoor.C
namespace Go.Proofs.YtnfakamfmkhlbaaGreatDoor.C
open Go.ChangeShapes Go.WideShapes Go.ChangeAt Go.RowKit Go.Shelf
open Go.Proofs.YtnfakamfmkhlbaaGreatDoor.P
attribute [local go_sem] qb qd Oper.semAt_some
def nmU (z:Nat->UInt8) (k:Nat):List Nat:=(List.range k).filterMap fun n=>if 0<=ixc (z n) then some (64*(ixc (z n)).toNat+n+1) else none
def cmU (fc:Nat->Bool) (k:Nat):List Nat:=(List.range k).filterMap fun n=>if fc n then some (769+n) else none
theorem nmU_succ (z:Nat->UInt8) (k:Nat):nmU z (k+1)=nmU z k++(if 0<=ixc (z k) then [64*(ixc (z k)).toNat+k+1] else []):=by
 unfold nmU;rw [List.range_succ,List.filterMap_append];congr 1;by_cases h:0<=ixc (z k)
 ·simp [h]
 ·simp [h]
theorem cmU_succ (fc:Nat->Bool) (k:Nat):cmU fc (k+1)=cmU fc k++(if fc k then [769+k] else []):=by
 unfold cmU;rw [List.range_succ,List.filterMap_append];congr 1;cases h:fc k<;>simp [h]
theorem nmU_pre (z:Nat->UInt8) (k:Nat):∀ d,nmU z k <+: nmU z (k+d)
 | 0=>List.prefix_refl _
 | d+1=>by rw [<-Nat.add_assoc,nmU_succ];exact (nmU_pre z k d).trans (List.prefix_append _ _)
theorem cmU_pre (fc:Nat->Bool) (k:Nat):∀ d,cmU fc k <+: cmU fc (k+d)
 | 0=>List.prefix_refl _
 | d+1=>by rw [<-Nat.add_assoc,cmU_succ];exact (cmU_pre fc k d).trans (List.prefix_append _ _)
def whN (wh:Bool):List Nat:=if wh then [] else [773]
def bhN (b:Int):List Nat:=if 0<=b then [774+(b%8).toNat] else []
theorem qzy (z:Nat->UInt8) (wh:Bool) (fc:Nat->Bool) (b:Int):numsS z wh fc b=nmU z 64++cmU fc 4++whN wh++bhN b:=rfl
theorem nums_b {z:Nat->UInt8} {wh:Bool} {fc:Nat->Bool} {b:Int} {k:Nat} (hk:k<=64):nmU z k <+: numsS z wh fc b:=by
 rw [qzy,List.append_assoc,List.append_assoc];have:=nmU_pre z k (64-k);rw [show k+(64-k)=64 from by omega] at this;exact this.trans (List.prefix_append _ _)
theorem nums_c {z:Nat->UInt8} {wh:Bool} {fc:Nat->Bool} {b:Int} {k:Nat} (hk:k<=4):nmU z 64++cmU fc k <+: numsS z wh fc b:=by
 rw [qzy,List.append_assoc,List.append_assoc];have:=cmU_pre fc k (4-k);rw [show k+(4-k)=4 from by omega] at this;exact (List.prefix_append_right_inj _).2 (this.trans (List.prefix_append _ _))
theorem cL4 {fc:Nat->Bool} {Bp:Nat} {W:World} (h:∀ i,i<4->W.cell? ⟨Bp,65+i,none⟩=some (.bool (fc i))):W.rangeAt Bp 65 [.bool (fc 0),.bool (fc 1),.bool (fc 2),.bool (fc 3)]:=by
 intro j v hv;have hj:j<4:=(List.getElem?_eq_some_iff.1 hv).1;have:j=0\/j=1\/j=2\/j=3:=by omega
 rcases this with rfl|rfl|rfl|rfl<;>(rw [<-hv];exact h _ (by omega))
theorem infoB4:(Tryz.prog.info? 23).map (·.size)=some 4:=by kernel_rfl
theorem ix4b0 (c0 c1 c2 c3:Bool) (w:World):(Instr.index 23 (.agg #[.bool c0,.bool c1,.bool c2,.bool c3]) (.int .i64 0)).run Tryz.prog w=.ok (.bool c0) w:=by kernel_rfl
theorem ix4b1 (c0 c1 c2 c3:Bool) (w:World):(Instr.index 23 (.agg #[.bool c0,.bool c1,.bool c2,.bool c3]) (.int .i64 1)).run Tryz.prog w=.ok (.bool c1) w:=by kernel_rfl
theorem ix4b2 (c0 c1 c2 c3:Bool) (w:World):(Instr.index 23 (.agg #[.bool c0,.bool c1,.bool c2,.bool c3]) (.int .i64 2)).run Tryz.prog w=.ok (.bool c2) w:=by kernel_rfl
theorem ix4b3 (c0 c1 c2 c3:Bool) (w:World):(Instr.index 23 (.agg #[.bool c0,.bool c1,.bool c2,.bool c3]) (.int .i64 3)).run Tryz.prog w=.ok (.bool c3) w:=by kernel_rfl
theorem ix4b (fc:Nat->Bool) (k:Nat) (hk:k<4) (w:World):(Instr.index 23 (.agg #[.bool (fc 0),.bool (fc 1),.bool (fc 2),.bool (fc 3)]) (.int .i64 (k:Int))).run Tryz.prog w=.ok (.bool (fc k)) w:=by
 have:k=0\/k=1\/k=2\/k=3:=by omega
 rcases this with rfl|rfl|rfl|rfl
 ·exact ix4b0 _ _ _ _ w
 ·exact ix4b1 _ _ _ _ w
 ·exact ix4b2 _ _ _ _ w
 ·exact ix4b3 _ _ _ _ w
theorem ix64N (z:Nat->UInt8) (k:Nat) (hk:k<64) (w:World):(Instr.index 22 (.agg (zL z).toArray) (.int .i64 (k:Int))).run Tryz.prog w=.ok (.int .u8 ((z k).toNat:Int)) w:=ix64 _ k hk _ ((zL_arr z).2 k hk) w
theorem numbers_it {z:Nat->UInt8} {wh:Bool} {fc:Nat->Bool} {b:Int} (hok:layOk z=true) (hb0:-1<=b) (hb1:b<=63) (B1 Bp:Nat) (T:Obj->Prop) (w:World) (h1:w.cell? ⟨B1,0,none⟩=some (.pointer (some ⟨Bp,0,none⟩))) (hps:Ps z wh fc b Bp w) :
  It Tryz.prog 250 #[.pointer (some ⟨B1,0,none⟩)] (fun x:Nat=>#[Value.int .i64 (x:Int)]) T (fun k=>k=B1\/k=Bp) (numsS z wh fc b) w:=by
 intro l B J Jx W f0 hB hJ hJx hY h0;have c0:=f0.cell h1 (fun _ _=>.inl rfl);have hP:=hps.fr f0 (fun _ _=>.inr rfl);clear f0 h1 hps;refine (callsIn_wide (n:=1)).1 ?_;refine callsIn_of_wp Tryz.func250 rfl trivial ?_ rfl;simp only [Tryz.ntmps250,List.size_toArray,List.length_cons,List.length_nil,Nat.reduceAdd,Nat.reduceSub,Array.replicate_succ,Array.replicate_zero,List.push_toArray,List.append_toArray,List.nil_append,List.cons_append];refine wpIn_wide.2 ?_;have crg:=hP.bd.range;go_wp2_with (refine wpList_load_mid rfl 22 _ rfl Bp 0 rfl (zL z) _ crg Tryz.underlying22 rfl (by rw [qjv];exact info64) ?_);refine (wpIn_wide (n:=1)).1 ?_;have hcL:=hP;gi_loopw [11] (fun p wr=>∃ k:Nat,k<=64/\p=.int .i64 (k:Int)/\wr.cell? ⟨B1,0,none⟩=some (.pointer (some ⟨Bp,0,none⟩))/\Ps z wh fc b Bp wr/\J (nmU z k) wr) (fun p _=>64-(intOf p).toNat)
 case atStart=>exact ⟨0,by omega,rfl,c0,hP,h0⟩
 case round =>
  clear c0 hP h0 crg hcL;obtain ⟨k,hk,rfl,c0,hP,hJk⟩:=hrel;have hP':=hide hP;have hJk':=hide hJk;clear hP hJk;by_cases hlt:k<64
  ·have hix:=ix64N z k hlt
   have hoy:okY (z k)=true:=by
    have hok2:=hok;unfold layOk at hok2;exact (List.all_eq_true.1 hok2) k (List.mem_range.2 hlt)
   have hk0:(0:Int)<=(k:Int):=by omega
   have hk64:(k:Int)<64:=by omega
   have ekk:IntKind.i64.wrap ((k:Int)+1)=(((k+1:Nat)):Int):=by rw [IntKind.wrap_i64];omega
   have hsu:Hid (nmU z (k+1)=nmU z k++(if 0<=ixc (z k) then [64*(ixc (z k)).toNat+k+1] else [])):=hide (nmU_succ z k);by_cases hdot:z k=46
   ·have hne:(((z k).toNat:Int) != 46)=false:=by rw [hdot];rfl
    have hs2:Hid (nmU z (k+1)=nmU z k):=hide (by rw [qa hsu,if_neg (by rw [hdot];decide),List.append_nil]);clear hsu hoy hdot;gi_wp2_with ((with_reducible apply And.intro);(first|exact trivial|(intro _ _;trivial)));go_roundw
    case rel=>exact ⟨k+1,by omega,rfl,c0,qa hP',by rw [qa hs2];exact qa hJk'⟩
    case measure=>simp only [intOf];omega
   ·have hne:(((z k).toNat:Int) != 46)=true:=by
     rw [bne_iff_ne];intro e;apply hdot;apply UInt8.toNat_inj.1;have:(z k).toNat=46:=by omega
     rw [this];rfl
    have hge:0<=ixc (z k):=by
     rw [ok_ix,Bool.or_eq_true,beq_iff_eq,decide_eq_true_eq] at hoy;exact hoy.resolve_left hdot
    have hlt12:=(ix_bd (z k)).2;obtain ⟨m,hm⟩:=Int.eq_ofNat_of_zero_le hge;have hs2:nmU z (k+1)=nmU z k++[64*m+k+1]:=by rw [qa hsu,if_pos hge,hm];rfl
    have hib:Hid (∀ W:World,Calls Tryz.prog 138 #[.string ⟨#[80,78,66,82,81,75,112,110,98,114,113,107]⟩,.int .u8 ((z k).toNat:Int)] W fun e w'=>e=.returned (.int .i64 (m:Int))/\w'=W):=hide (fun W=>by
     refine (Tryz.strings_IndexByte _ _ _).mono ?_;rintro e w' ⟨rfl,rfl⟩;have hu:((z k).toNat:Int).toNat.toUInt8=z k:=by simp
     exact ⟨by rw [<-hm];simp only [hu];rfl,rfl⟩)
    have m12:m<12:=by omega
    have e1:IntKind.i64.wrap (64*(m:Int))=64*(m:Int):=by rw [IntKind.wrap_i64];omega
    have e2:IntKind.i64.wrap (64*(m:Int)+(k:Int))=64*(m:Int)+(k:Int):=by rw [IntKind.wrap_i64];omega
    have e3:IntKind.i64.wrap (64*(m:Int)+(k:Int)+1)=((64*m+k+1:Nat):Int):=by rw [IntKind.wrap_i64];omega
    obtain ⟨fn,tmps,assign,body,hy,hR⟩:=hY (nmU z k) (64*m+k+1) wr (by rw [<-hs2];exact nums_b (by omega)) (qa hJk');have hs3:=hide hs2;clear hsu hoy hdot hs2 hge hlt12 hm;generalize 64*m+k+1=xx at hy hR e3 hs3;gi_wp2_with (refine ⟨trivial,?_⟩;gi_at_call 138;refine (callsIn_wide.2 (qa hib _)).mono ?_;rintro e w' ⟨rfl,rfl⟩);refine hR.mono ?_;rintro e W3 ⟨f3,⟨rfl,hJ3⟩|⟨rfl,hJx3⟩⟩
    ·have c3:=f3.cell c0 (fun _ _=>.inl (.inl rfl));have hP3:=(qa hP').fr f3 (fun _ _=>.inl (.inr rfl));gi_wp2;go_roundw
     case rel=>exact ⟨k+1,by omega,rfl,c3,hP3,by rw [qa hs3];exact hJ3⟩
     case measure=>simp only [intOf];omega
    ·gi_wp2;refine bodyPost_ret (results_none rfl _ _ _) rfl ?_;exact ⟨⟨_,rfl⟩,.inr ⟨nmU z k++[xx],by rw [<-qa hs3];exact nums_b (by omega),hJx3⟩⟩
  ·have ek:k=64:=by omega
   subst ek;clear hlt;have hP:=qa hP';have crg:=cL4 hP.c;refine wpIn_wide.2 ?_;go_wp2_with (refine wpList_load_mid rfl 23 _ rfl Bp 65 rfl [.bool (fc 0),.bool (fc 1),.bool (fc 2),.bool (fc 3)] _ crg Tryz.underlying23 rfl infoB4 ?_);refine (wpIn_wide (n:=1)).1 ?_;gi_loopw [33] (fun p wr=>∃ k:Nat,k<=4/\p=.int .i64 (k:Int)/\wr.cell? ⟨B1,0,none⟩=some (.pointer (some ⟨Bp,0,none⟩))/\Ps z wh fc b Bp wr/\J (nmU z 64++cmU fc k) wr) (fun p _=>4-(intOf p).toNat)
   case atStart=>exact ⟨0,by omega,rfl,c0,hP,by rw [show cmU fc 0=[] from rfl,List.append_nil];exact qa hJk'⟩
   case round =>
    clear c0 hP hP' hJk' crg;obtain ⟨k,hk,rfl,c0,hP,hJk⟩:=hrel;have hP':=hide hP;have hJk':=hide hJk;clear hP hJk;by_cases hlt:k<4
    ·have hix:=ix4b fc k hlt;have hk0:(0:Int)<=(k:Int):=by omega
     have hk64:(k:Int)<4:=by omega
     have ekk:IntKind.i64.wrap ((k:Int)+1)=(((k+1:Nat)):Int):=by rw [IntKind.wrap_i64];omega
     have hsu:Hid (cmU fc (k+1)=cmU fc k++(if fc k then [769+k] else [])):=hide (cmU_succ fc k);cases hfk:fc k
     ·have hs2:Hid (nmU z 64++cmU fc (k+1)=nmU z 64++cmU fc k):=hide (by rw [qa hsu,hfk];simp);rw [hfk] at hix;clear hsu hfk;gi_wp2_with ((with_reducible apply And.intro);(first|exact trivial|(intro _ _;trivial)));go_roundw
      case rel=>exact ⟨k+1,by omega,rfl,c0,qa hP',by rw [qa hs2];exact qa hJk'⟩
      case measure=>simp only [intOf];omega
     ·have hs2:nmU z 64++cmU fc (k+1)=nmU z 64++cmU fc k++[769+k]:=by rw [qa hsu,hfk];simp
      have e3:IntKind.i64.wrap (769+(k:Int))=((769+k:Nat):Int):=by rw [IntKind.wrap_i64];omega
      obtain ⟨fn,tmps,assign,body,hy,hR⟩:=hY (nmU z 64++cmU fc k) (769+k) wr (by rw [<-hs2];exact nums_c (by omega)) (qa hJk');have hs3:=hide hs2;rw [hfk] at hix;clear hsu hfk hs2;generalize 769+k=xx at hy hR e3 hs3;gi_wp2;refine hR.mono ?_;rintro e W3 ⟨f3,⟨rfl,hJ3⟩|⟨rfl,hJx3⟩⟩
      ·have c3:=f3.cell c0 (fun _ _=>.inl (.inl rfl));have hP3:=(qa hP').fr f3 (fun _ _=>.inl (.inr rfl));gi_wp2;go_roundw
       case rel=>exact ⟨k+1,by omega,rfl,c3,hP3,by rw [qa hs3];exact hJ3⟩
       case measure=>simp only [intOf];omega
      ·gi_wp2;refine bodyPost_ret (results_none rfl _ _ _) rfl ?_;exact ⟨⟨_,rfl⟩,.inr ⟨nmU z 64++cmU fc k++[xx],by rw [<-qa hs3];exact nums_c (by omega),hJx3⟩⟩
    ·have ek:k=4:=by omega
     subst ek;clear hlt;have hfi:=hide (qzy z wh fc b);obtain ⟨pre,hpre⟩:∃ l,Hid (l=nmU z 64++cmU fc 4):=⟨_,hide rfl⟩;rw [<-qa hpre] at hJk' hfi;have cw:=(qa hP').wh;have cb:=(qa hP').b;have hbn:Hid (bhN b=if 0<=b then [774+(b%8).toNat] else []):=hide rfl;cases wh
     ·have hn1:numsS z false fc b=pre++[773]++bhN b:=qa hfi;obtain ⟨fn,tmps,assign,body,hy,hR⟩:=hY pre 773 wr (by rw [hn1];exact List.prefix_append _ _) (qa hJk');have hn1':=hide hn1;simp only [show ((773:Nat):Int)=773 from rfl] at hy;clear hfi hpre hn1;gi_wp2;refine (wpIn_wide (n:=1)).1 ?_;gi_wp2;refine hR.mono ?_;rintro e W3 ⟨f3,⟨rfl,hJ3⟩|⟨rfl,hJx3⟩⟩
      ·have c3:=f3.cell c0 (fun _ _=>.inl (.inl rfl));have cb3:=((qa hP').fr f3 (fun _ _=>.inl (.inr rfl))).b;by_cases hb:0<=b
       ·rw [if_pos hb] at hbn;obtain ⟨fn,tmps,assign,body,hy2,hR2⟩:=hY (pre++[773]) (774+(b%8).toNat) W3 (by rw [qa hn1',qa hbn];exact List.prefix_refl _) hJ3;have e1:IntKind.i64.wrap (774+b%8)=((774+(b%8).toNat:Nat):Int):=by rw [IntKind.wrap_i64];omega
        have e2:b.tmod 8=b%8:=Int.tmod_eq_emod_of_nonneg hb;have hfin:=hide (show pre++[773]++[774+(b%8).toNat]=numsS z false fc b by rw [qa hn1',qa hbn]);clear hbn hn1';generalize 774+(b%8).toNat=xx at hy2 hR2 e1 hfin;gi_wp2;refine hR2.mono ?_;rintro e W4 ⟨f4,⟨rfl,hJ4⟩|⟨rfl,hJx4⟩⟩
        ·gi_wp2;go_end0;exact ⟨⟨_,rfl⟩,.inl (by rw [<-qa hfin];exact hJ4)⟩
        ·gi_wp2;go_end0;exact ⟨⟨_,rfl⟩,.inr ⟨_,by rw [<-qa hfin];exact List.prefix_refl _,hJx4⟩⟩
       ·rw [if_neg hb] at hbn;gi_wp2;go_end0;exact ⟨⟨_,rfl⟩,.inl (by rw [qa hn1',qa hbn,List.append_nil];exact hJ3)⟩
      ·gi_wp2;refine bodyPost_ret (results_none rfl _ _ _) rfl ?_;exact ⟨⟨_,rfl⟩,.inr ⟨pre++[773],by rw [qa hn1'];exact List.prefix_append _ _,hJx3⟩⟩
     ·have hn1':Hid (numsS z true fc b=pre++bhN b):=hide (by rw [qa hfi];simp [whN]);clear hfi hpre;by_cases hb:0<=b
      ·rw [if_pos hb] at hbn;obtain ⟨fn,tmps,assign,body,hy2,hR2⟩:=hY pre (774+(b%8).toNat) wr (by rw [qa hn1',qa hbn];exact List.prefix_refl _) (qa hJk');have e1:IntKind.i64.wrap (774+b%8)=((774+(b%8).toNat:Nat):Int):=by rw [IntKind.wrap_i64];omega
       have e2:b.tmod 8=b%8:=Int.tmod_eq_emod_of_nonneg hb;have hfin:=hide (show pre++[774+(b%8).toNat]=numsS z true fc b by rw [qa hn1',qa hbn]);clear hbn hn1';generalize 774+(b%8).toNat=xx at hy2 hR2 e1 hfin;gi_wp2;refine (wpIn_wide (n:=1)).1 ?_;gi_wp2_with ((with_reducible apply And.intro);(first|exact trivial|(intro _ _;trivial)));refine hR2.mono ?_;rintro e W4 ⟨f4,⟨rfl,hJ4⟩|⟨rfl,hJx4⟩⟩
       ·gi_wp2;go_end0;exact ⟨⟨_,rfl⟩,.inl (by rw [<-qa hfin];exact hJ4)⟩
       ·gi_wp2;go_end0;exact ⟨⟨_,rfl⟩,.inr ⟨_,by rw [<-qa hfin];exact List.prefix_refl _,hJx4⟩⟩
      ·rw [if_neg hb] at hbn;gi_wp2;refine (wpIn_wide (n:=1)).1 ?_;gi_wp2_with ((with_reducible apply And.intro);(first|exact trivial|(intro _ _;trivial)));go_end0;exact ⟨⟨_,rfl⟩,.inl (by rw [qa hn1',qa hbn,List.append_nil];exact qa hJk')⟩
end Go.Proofs.YtnfakamfmkhlbaaGreatDoor.C
