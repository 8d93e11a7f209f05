import Derived.Test.YtnfakamfmkhlbaaGreatDoorZs41
import Derived.Test.YtnfakamfmkhlbaaGreatDoorZs44
set_option maxRecDepth 100000
set_option maxHeartbeats 4000000
set_option linter.unusedSimpArgs false
namespace Go.Proofs.YtnfakamfmkhlbaaGreatDoor.C
open Go.RowKit
open Go.Proofs.YtnfakamfmkhlbaaGreatDoor.P
theorem pawn_kd:∀ c:UInt8,pawnB c=decide (kdc c=0):=all256 (by decide +kernel)
theorem beq_int (a b:Int):(a==b)=decide (a=b):=rfl
theorem bfc_cfA (fc:Nat->Bool) (f t n k:Nat):bfc fc f t n k=cfA fc f t n k:=by
 unfold bfc cfA toB toA tchB;simp only [beq_int];cases decide ((f:Int)=homeK k)<;>cases decide ((f:Int)=homeR k)<;>cases decide ((t:Int)=homeK k)<;>cases decide ((t:Int)=homeR k)<;>rfl
theorem bg_ful (wh:Bool) {g:Int} (g1:g<=65535):bgI wh g=fulA wh g:=by
 unfold bgI fulA;cases wh
 ·by_cases h:g<65535
  ·rw [decide_eq_true h];simp only [Bool.not_false,Bool.and_self,if_true,Bool.false_eq_true,if_false];omega
  ·rw [decide_eq_false h];simp only [Bool.not_false,Bool.and_false,Bool.false_eq_true,if_false];omega
 ·rfl
theorem bh_hal (z:Nat->UInt8) (b:Int) (f t:Nat) {h:Int} (h1:h<=65535):bhI z b f t h=halA z f t h:=by
 unfold bhI halA zeroH pasB;rw [pawn_kd];by_cases c:kdc (z f)=0
 ·rw [decide_eq_true c];rfl
 ·rw [decide_eq_false c];simp only [Bool.false_and,Bool.or_false,Bool.false_or];by_cases d:z t=46
  ·rw [decide_eq_true d];simp only [Bool.not_true,Bool.false_eq_true,if_false];split<;>omega
  ·rw [decide_eq_false d];rfl
theorem att0_up {z:Nat->UInt8} {wh:Bool} {f t:Nat} (h:attI (zI z) 0 (sdb wh) (f:Int) (t:Int)=true):upR f t=sdb wh:=by
 unfold attI at h;rw [if_pos rfl,Bool.and_eq_true] at h;have h2:=of_decide_eq_true h.2;unfold upR;omega
theorem bb_beh {z:Nat->UInt8} {wh:Bool} {fc:Nat->Bool} {b:Int} {f t:Nat} {u:UInt8} (hg:goesR z wh fc b f t u=true):bbI z wh f t=behA z f t:=by
 unfold bbI behA twoB twoP;rw [pawn_kd];by_cases c:kdc (z f)=0
 ·rw [decide_eq_true c,Bool.true_and,Bool.true_and];unfold goesR at hg;rw [Bool.and_eq_true,if_pos c] at hg;have hg:=hg.2;unfold pwR at hg
  have key:upR f t=sdb wh\/(upR f t=2*sdb wh/\f%8=t%8):=by
   by_cases ha:attI (zI z) 0 (sdb wh) (f:Int) (t:Int)=true
   ·exact .inl (att0_up ha)
   ·rw [if_neg ha] at hg;unfold pwU at hg;simp only [Bool.and_eq_true,Bool.or_eq_true,decide_eq_true_eq] at hg;obtain ⟨⟨h1,_⟩,h3|h3⟩:=hg
    ·exact .inl h3
    ·exact .inr ⟨h3.1.1,h1⟩
  rcases key with e|⟨e,e8⟩
  ·rw [e];cases wh<;>rfl
  ·cases wh
   ·have e':upR f t=-2:=e;rw [e'];show (f:Int)+8*sdb false=(((f+t)/2:Nat):Int);unfold upR at e';unfold sdb;simp only [Bool.false_eq_true,if_false];omega
   ·have e':upR f t=2:=e;rw [e'];show (f:Int)+8*sdb true=(((f+t)/2:Nat):Int);unfold upR at e';unfold sdb;simp only [if_true];omega
 ·rw [decide_eq_false c];rfl
end Go.Proofs.YtnfakamfmkhlbaaGreatDoor.C
