import Derived.Test.YtnfakamfmkhlbabGreatDoorUm42
set_option maxRecDepth 100000
set_option maxHeartbeats 4000000
set_option linter.unusedSimpArgs false
namespace Go.Proofs.YtnfakamfmkhlbabGreatDoor.C
open Go.ChangeShapes Go.WideShapes Go.ChangeAt Go.RowKit Go.Shelf Go.Proofs.YtnfakamfmkhlbabGreatDoor.P
attribute [local go_sem] qd qe Oper.semAt_some
theorem Ae(s t:ByteArray):∃(S:ByteArray)(k:Int),∀e,vl s t e->e=.returned (.tuple #[.string S,.int .i64 k]):=by
 rcases qv5 s t with⟨p,x,hr,hcan,hm,hx,_⟩|⟨k,hk,herr,_⟩
 ·exact⟨_,0,fun e h=>mB hr hcan hm hx h⟩
 ·refine⟨⟨#[]⟩,k,fun e h=>?_⟩;rcases h with⟨k',hk',herr',rfl⟩|⟨q,y,a,b,c,d,rfl⟩
  ·rw[dz herr herr']
  ·exact(fY herr a b c d).elim
theorem BW(s t:ByteArray):∃(S:ByteArray)(k:Int),∀e,vU s t e->e=.returned (.tuple #[.string S,.int .i64 k]):=by
 rcases xy s with⟨p,hr,hcan,_⟩|⟨k,hk,hbad,_⟩
 ·have o:=Ok.of hr hcan;cases hl:cU (xM p) p.white (yC p.castle) p.behind t with
  | nil =>
   refine⟨⟨#[]⟩,4,fun e h=>?_⟩;rcases h with⟨k,a,_⟩|⟨q,a,_,b,rfl⟩|⟨q,y,a,_,b,rfl⟩
   ·exact(pD a hr hcan).elim
   ·rfl
   ·rw[hr]at a;rw[<-qP a,hl]at b;cases b
  | cons x l =>
   have hx:x∈cU (xM p) p.white (yC p.castle) p.behind t:=by rw[hl];exact List.mem_cons_self ..
   refine⟨xJ (yJ x),0,fun e h=>?_⟩;rcases h with⟨k,a,_⟩|⟨q,a,_,b,rfl⟩|⟨q,y,a,_,b,rfl⟩
   ·exact(pD a hr hcan).elim
   ·rw[hr]at a;rw[<-qP a,hl]at b;cases b
   ·rw[hr]at a;rw[<-qP a]at b;obtain⟨x1,x2⟩:=qV.1 hx;have:t=xJ (uj (xM p) p.white (yC p.castle) p.behind x):=(q8 x2).symm;rw[this]at b;rw[Ad o x1 b]
 ·refine⟨⟨#[]⟩,k,fun e h=>?_⟩;rcases h with⟨k',a,rfl⟩|⟨q,a,b,_⟩|⟨q,y,a,b,_⟩
  ·rw[dz (t:=⟨#[]⟩) (.inl hbad) (.inl a)]
  ·exact(pD hbad a b).elim
  ·exact(pD hbad a b).elim
theorem bP(s t x:ByteArray)(hs:s.size<4294967281)(ht:t.size<4294967281)(m:Int)(w:World)(hc:Ct m w)(htb:uV w) :
  Calls Tryz.prog 13 #[.string s,.string t,.string x] w fun e w'=>e=.returned (.bool true)/\Gr w w':=by
 obtain⟨S1,k1,hS⟩:=Ae s t;obtain⟨S2,k2,hL⟩:=BW s x;have h1:Hid (∀W,Gr w W->Calls Tryz.prog 14 #[.string s,.string t] W fun e w'=>e=.returned (.tuple #[.string S1,.int .i64 k1])/\Gr W w'):=qC fun W gW=>(qkc s t hs ht m W (hc.gr gW) (htb.gr gW)).mono fun e w' k=>⟨hS e k.1,k.2⟩
 have h2:Hid (∀W,Gr w W->Calls Tryz.prog 28 #[.string s,.string t] W fun e w'=>e=.returned (.tuple #[.string S1,.int .i64 k1])/\Gr W w'):=qC fun W _=>(eP s t hs W).mono fun e w' k=>⟨hS e k.1,k.2⟩
 have h3:Hid (∀W,Gr w W->Calls Tryz.prog 16 #[.string s,.string x] W fun e w'=>e=.returned (.tuple #[.string S2,.int .i64 k2])/\Gr W w'):=qC fun W gW=>(dM s x hs m W (hc.gr gW) (htb.gr gW)).mono fun e w' k=>⟨hL e k.1,k.2⟩
 have h4:Hid (∀W,Gr w W->Calls Tryz.prog 29 #[.string s,.string x] W fun e w'=>e=.returned (.tuple #[.string S2,.int .i64 k2])/\Gr W w'):=qC fun W _=>(mb s x hs W).mono fun e w' k=>⟨hL e k.1,k.2⟩
 clear hS hL hc htb hs ht;go_enter Tryz.func13,Tryz.ntmps13;go_upto_region 2 with(go_at_call 14;refine(qa h1 _ (Gr.refl _)).mono ?_;rintro e w1 ⟨rfl,hg1⟩);go_upto_region 3 with(go_at_call 28;refine(qa h2 _ hg1).mono ?_;rintro e w2 ⟨rfl,hg2⟩);have hg2':=Gr.trans hg1 hg2;clear hg1 hg2;go_upto_region 4 with(go_at_call 16;refine(qa h3 _ hg2').mono ?_;rintro e w3 ⟨rfl,hg3⟩);have hg3':=Gr.trans hg2' hg3;clear hg2' hg3;go_upto_region 5 with(go_at_call 29;refine(qa h4 _ hg3').mono ?_;rintro e w4 ⟨rfl,hg4⟩);have hg4':=qC (Gr.trans hg3' hg4);clear hg3' hg4 h1 h2 h3 h4;go_wp2_with(go_at_call 30;refine(BQ _ _).mono ?_;rintro e w' ⟨rfl,hww⟩;have hww':=hww.symm;subst hww';clear hww);go_ret;exact⟨by simp,qa hg4'⟩
theorem eO(s t x:ByteArray)(hs:s.size<4294967281)(ht:t.size<4294967281)(m:Int)(w:World)(hc:Ct m w)(htb:uV w) :
  Calls Tryz.prog 4 #[.string s,.string t,.string x] w fun e w'=>e=.returned (.bool true)/\Gr w w':=by
 have h1:=qC (ou m w hc htb);have h2:=qC (fun W (gW:Gr w W)=>bP s t x hs ht m W (hc.gr gW) (htb.gr gW));clear hc htb hs ht;go_enter Tryz.func4,Tryz.ntmps4
 go_wp2_with(first
  | (go_at_call 12;refine(qa h1).mono ?_;rintro e w1 ⟨rfl,hg1⟩)
  | (go_at_call 13;refine(qa h2 _ hg1).mono ?_;rintro e w2 ⟨rfl,hg2⟩))
 go_ret;exact⟨rfl,Gr.trans hg1 hg2⟩
end Go.Proofs.YtnfakamfmkhlbabGreatDoor.C
