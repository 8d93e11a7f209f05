import Derived.Test.YtnfakamfmkhlbaaGreatDoorZe41
set_option maxRecDepth 100000
set_option maxHeartbeats 4000000
set_option linter.unusedSimpArgs false
namespace Go.Proofs.YtnfakamfmkhlbaaGreatDoor.C
open Go.ChangeShapes Go.WideShapes Go.ChangeAt Go.RowKit Go.Shelf
open Go.Proofs.YtnfakamfmkhlbaaGreatDoor.P
attribute [local go_sem] qd qi Oper.semAt_some
theorem dividesL_any (s:ByteArray) (hs:s.size<4294967281) (D n:Int) (m:Int) (w:World) (hc:Ct m w) (ht:Tabs w):Calls Tryz.prog 31 #[.string s,.int .i64 D,.int .i64 n] w fun e w'=>(∃ v,e=.returned (.tuple #[v,.bool true]))/\Gr w w':=by
 obtain ⟨L,k,hlen,hone⟩:=div_one s D n
 have h1:Hid (Calls Tryz.prog 35 #[.string s,.int .i64 D,.int .i64 n] w fun e w'=>(∃ p cap,e=.returned (.tuple #[.slice p L.length cap,.int .i64 k])/\L.length<=cap/\El2 p L w')/\Gr w w'):=hide ((qzf s hs D n m w hc ht).mono fun e w' h=>by
  obtain ⟨v,rfl,hv⟩:=hone _ _ _ h.1;obtain ⟨p,cap,rfl,a,b⟩:=cts_form hv;exact ⟨⟨p,cap,rfl,a,b⟩,h.2⟩)
 have h2:Hid (∀ W,Calls Tryz.prog 56 #[.string s,.int .i64 D,.int .i64 n] W fun e w'=>(∃ p cap,e=.returned (.tuple #[.slice p L.length cap,.int .i64 k])/\L.length<=cap/\El2 p L w')/\Gr W w'):=hide (fun W=>(divideR_any s hs D n W).mono fun e w' h=>by
  obtain ⟨v,rfl,hv⟩:=hone _ _ _ h.1;obtain ⟨p,cap,rfl,a,b⟩:=cts_form hv;exact ⟨⟨p,cap,rfl,a,b⟩,h.2⟩)
 have h3:Hid (∀ (p1 p2:Option Addr) (c1 c2:Nat) (W:World),El2 p1 L W->El2 p2 L W->Calls Tryz.prog 57 #[.slice p1 L.length c1,.slice p2 L.length c2] W fun e w'=>e=.returned (.bool true)/\Gr W w'):=hide (fun p1 p2 c1 c2 W a b=>qze L hlen p1 p2 c1 c2 W a b);clear hc ht hone hs;go_enter Tryz.func31,Tryz.ntmps31;go_upto_region 2 with (go_at_call 35;refine (qa h1).mono ?_;rintro e w1 ⟨⟨p1,cap1,rfl,hcap1,hel1⟩,hg1⟩);have hel1':Hid (El2 p1 L w1):=hide hel1;clear hel1 h1;go_upto_region 3 with (go_at_call 56;refine (qa h2 _).mono ?_;rintro e w2 ⟨⟨p2,cap2,rfl,hcap2,hel2⟩,hg2⟩);have hel1'':=hide ((qa hel1').gr hg2);have hel2':Hid (El2 p2 L w2):=hide hel2;have hg12:=Gr.trans hg1 hg2;clear hel2 hel1' h2 hg1 hg2;go_upto_region 4 with (go_at_call 57;refine (qa h3 _ _ _ _ _ (qa hel1'') (qa hel2')).mono ?_;rintro e w3 ⟨rfl,hg3⟩);have hg:=hide (Gr.trans hg12 hg3);clear hg12 hg3 hel1'' hel2' h3;go_wp2_with (go_at_call 16;refine (num_any _ _).mono ?_;rintro e w' ⟨rfl,hww⟩;have hww':=hww.symm;subst hww';clear hww);go_ret2;exact ⟨⟨.slice p1 L.length cap1,rfl⟩,qa hg⟩
theorem divides_any (s:ByteArray) (hs:s.size<4294967281) (D n:Int) (m:Int) (w:World) (hc:Ct m w) (ht:Tabs w):Calls Tryz.prog 9 #[.string s,.int .i64 D,.int .i64 n] w fun e w'=>e=.returned (.bool true)/\Gr w w':=by
 have h0:=hide (sure_any m w hc ht);have h1:Hid (∀ W,Gr w W->Calls Tryz.prog 30 #[.string s] W fun e w'=>e=.returned (.bool true)/\Gr W w'):=hide fun W hg=>keysL_any s hs m W (hc.gr hg)
 have h2:Hid (∀ W,Gr w W->Calls Tryz.prog 31 #[.string s,.int .i64 D,.int .i64 n] W fun e w'=>(∃ v,e=.returned (.tuple #[v,.bool true]))/\Gr W w'):=hide fun W hg=>dividesL_any s hs D n m W (hc.gr hg) (ht.gr hg)
 clear hc ht hs;go_enter Tryz.func9,Tryz.ntmps9;go_upto_region 2 with (go_at_call 17;refine (qa h0).mono ?_;rintro e w1 ⟨rfl,hg1⟩);go_upto_region 3 with (go_at_call 30;refine (qa h1 _ hg1).mono ?_;rintro e w2 ⟨rfl,hg2⟩);have hg12:=Gr.trans hg1 hg2;clear hg1 hg2 h0 h1;go_upto_region 4 with (go_at_call 31;refine (qa h2 _ hg12).mono ?_;rintro e w3 ⟨⟨v,rfl⟩,hg3⟩);have hg:=hide (Gr.trans hg12 hg3);clear hg12 hg3 h2;go_wp2_with fail;go_ret;exact ⟨rfl,qa hg⟩
end Go.Proofs.YtnfakamfmkhlbaaGreatDoor.C
