import Derived.Test.YtnfakamfmkhlbabDoorMw7
namespace Go.Proofs.YtnfakamfmkhlbabDoor.C
open Go.ChangeShapes Go.WideShapes Go.ChangeAt Go.RowKit Go.Shelf
open Go.Proofs.YtnfakamfmkhlbabDoor.P

theorem i64_and1023 (n : Int) : bits .and .i64 n 1023 = n % 1024 := by
  have h63 : (BitVec.ofInt 64 1023).toNat = 2 ^ 10 - 1 := by decide
  have key : (BitVec.ofInt 64 n &&& BitVec.ofInt 64 1023).toNat = (n % ((2 ^ 64 : Nat) : Int)).toNat % 2 ^ 10 := by
    rw [BitVec.toNat_and, BitVec.toNat_ofInt, h63, Nat.and_two_pow_sub_one_eq_mod]
  show IntKind.i64.wrap ((BitVec.ofInt 64 n &&& BitVec.ofInt 64 1023).toNat : Nat) = n % 1024
  rw [key, IntKind.wrap_i64]
  omega
theorem low_ten (n : Int) : ∃ x : Nat, x < 1024 ∧ bits .and .i64 n 1023 = (x : Int) := by
  refine ⟨(n % 1024).toNat, by omega, ?_⟩
  rw [i64_and1023]; omega
theorem place_is2 (f t : BitVec 64) (b : Nat) : IntKind.u64.wrap (U f * U t) / 2 ^ (64 - b) = ((plc f b t : Nat) : Int) := by
  rw [← place_is, Int.mul_comm]

set_option maxRecDepth 100000 in
set_option maxHeartbeats 8000000 in
theorem magical_any (rk : Bool) (sq : Int) (sd : BitVec 64) (tr : Int) (A B : BitVec 64) (w : World) (hc : Cx w) :
    Calls Tryd.prog 4 #[.bool rk, .int .i64 sq, .int .u64 (U sd), .int .i64 tr, .int .u64 (U A), .int .u64 (U B)] w fun e w' => e = .returned (.bool true) ∧ Gr w w' := by
  obtain ⟨x, hx, hsq⟩ := low_six sq
  obtain ⟨n, hn, htr⟩ := low_ten tr
  have main : ∀ k : Nat, (k = 4 ∨ k = 5) → ((k : Int) = if rk = true then 5 else 4) → Calls Tryd.prog 4 #[.bool rk, .int .i64 sq, .int .u64 (U sd), .int .i64 tr, .int .u64 (U A), .int .u64 (U B)] w fun e w' => e = .returned (.bool true) ∧ Gr w w' := by
    intro k hk hkr
    obtain ⟨hb1, hb2⟩ := bits_le k x hk hx
    have hno : Hid (∀ W, Cx W → Calls Tryd.prog 5 #[.int .i64 (k : Int), .int .i64 (x : Int), .int .u64 0, .int .i64 6] W fun e w' => e = .returned (.tuple #[.bool false, .int .i64 0]) ∧ Gr W w') := hide (fun W c => by
      have := magic_yes k x hk hx 0#64 6 (by decide) (by decide) W c
      rw [no_zero k x hk hx 6, ← U_zero] at this
      exact this)
    have hyes : Hid (∀ W, Cx W → Calls Tryd.prog 5 #[.int .i64 4, .int .i64 0, .int .u64 72340172838076673, .int .i64 7] W fun e w' => e = .returned (.tuple #[.bool true, .int .i64 0]) ∧ Gr W w') := hide (fun W c => by
      have := magic_yes 4 0 (.inl rfl) (by decide) 72340172838076673#64 7 (by decide) (by decide) W c
      rw [yes_40, show U 72340172838076673#64 = 72340172838076673 from by decide +kernel] at this
      exact this)
    have hfind : Hid (∀ W, Cx W → Calls Tryd.prog 7 #[.int .i64 (k : Int), .int .i64 (x : Int), .int .u64 (U sd), .int .i64 (n : Int)] W fun e w' => ∃ (F : BitVec 64) (K : Nat), e = .returned (.tuple #[.int .u64 (U F), .int .i64 (K : Int), .int .i64 0]) ∧ K ≤ n ∧ (K = 0 → F = 0#64) ∧ (K ≠ 0 → fits (vws k x) F (sqs (mtr k x)).length = true) ∧ Gr W w') := hide (fun W c => (findr_yes k x hk hx sd n (by omega) W c).mono fun e w' h => by
      obtain ⟨⟨F, K, hF, rfl⟩, hg⟩ := h
      rcases hF with ⟨m, m1, m2, m3, _, e⟩ | ⟨_, e⟩
      · simp only [Ending.returned.injEq, Value.tuple.injEq, Array.mk.injEq, List.cons.injEq, Value.int.injEq, true_and, and_true] at e
        obtain ⟨rfl, rfl⟩ := e
        exact ⟨_, m, rfl, m2, (fun h => by omega), fun _ => m3, hg⟩
      · simp only [Ending.returned.injEq, Value.tuple.injEq, Array.mk.injEq, List.cons.injEq, Value.int.injEq, true_and, and_true] at e
        obtain ⟨rfl, rfl⟩ := e
        exact ⟨0#64, 0, by rw [← U_zero]; rfl, Nat.zero_le _, fun _ => rfl, fun h => absurd rfl h, hg⟩)
    have hmat := hide (fun W => matters_any k x hk hx W)
    have hrch := hide (fun t W => reach_U2 k x hk hx t W)
    have hmg : Hid (∀ (F : BitVec 64) (W : World), Cx W → fits (vws k x) F (sqs (mtr k x)).length = true → Calls Tryd.prog 5 #[.int .i64 (k : Int), .int .i64 (x : Int), .int .u64 (U F), .int .i64 ((sqs (mtr k x)).length : Int)] W fun e w' => e = .returned (.tuple #[.bool true, .int .i64 0]) ∧ Gr W w') := hide (fun F W c h => by
      have := magic_yes k x hk hx F (sqs (mtr k x)).length hb1 hb2 W c
      rw [h] at this
      exact this)
    have htell : Hid (∀ F, fits (vws k x) F (sqs (mtr k x)).length = true → plc F (sqs (mtr k x)).length (A &&& mtr k x) = plc F (sqs (mtr k x)).length (B &&& mtr k x) → reachB k x (A &&& mtr k x) = reachB k x (B &&& mtr k x)) := hide (fun F h e => fits_tells k x hk hx F _ h _ _ (by rw [BitVec.and_assoc, BitVec.and_self]) (by rw [BitVec.and_assoc, BitVec.and_self]) e)
    have ea : bits .and .u64 (U A) (U (mtr k x)) = U (A &&& mtr k x) := and_U _ _
    have eb : bits .and .u64 (U B) (U (mtr k x)) = U (B &&& mtr k x) := and_U _ _
    generalize (sqs (mtr k x)).length = bn at hb1 hb2 hfind hmat hmg htell
    generalize mtr k x = M at hmat htell ea eb
    generalize A &&& M = S at ea htell
    generalize B &&& M = T at eb htell
    have hc' := hide hc
    have hkr' : (rk = true ∧ k = 5) ∨ (rk = false ∧ k = 4) := by
      cases rk
      · right; refine ⟨rfl, ?_⟩; simp at hkr; omega
      · left; refine ⟨rfl, ?_⟩; simp at hkr; omega
    clear hkr hk
    rcases hkr' with ⟨rfl, rfl⟩ | ⟨rfl, rfl⟩
    all_goals
      simp only [Int.cast_ofNat_Int] at hno hfind hmat hrch hmg
      go_enter Tryd.func4, Tryd.ntmps4
      go_upto_region 6 with (go_at_call 5; (try rw [hsq]); refine (unhide hno _ (unhide hc')).mono ?_; rintro e w1 ⟨rfl, hg1⟩)
      have hc1 := hide ((unhide hc').gr hg1)
      have hgA := hide hg1
      clear hno hc' hg1
      go_upto_region 7 with (go_at_call 5; refine (unhide hyes _ (unhide hc1)).mono ?_; rintro e w2 ⟨rfl, hg2⟩)
      have hc2 := hide ((unhide hc1).gr hg2)
      have hgB := hide (Gr.trans (unhide hgA) hg2)
      clear hyes hc1 hg2 hgA
      go_upto_region 10 with (go_at_call 7; refine (unhide hfind _ (unhide hc2)).mono ?_; rintro e w3 ⟨F, K, rfl, hKn, hK0, hK1, hg3⟩)
      have hc3 := hide ((unhide hc2).gr hg3)
      have hgC := hide (Gr.trans (unhide hgB) hg3)
      clear hfind hc2 hg3 hgB
      by_cases hK : K = 0
      · have hF := hK0 hK
        subst hK
        subst hF
        have hU : U 0#64 = 0 := U_zero.symm
        clear hK0 hK1 hmg htell hmat hrch
        go_wp2
        go_ret
        exact ⟨rfl, unhide hgC⟩
      · have hm3 := hide (hK1 hK)
        have hKf : ((K : Int) == 0) = false := by rw [beq_eq_false_iff_ne]; omega
        clear hK0 hK1
        go_upto_region 16 with (first
          | (go_at_call 10; refine (unhide hmat _).mono ?_; rintro e w' ⟨rfl, hww⟩; have hww' := hww.symm; subst hww'; clear hww)
          | (go_at_call 5; refine (unhide hmg F _ (unhide hc3) (unhide hm3)).mono ?_; rintro e w4 ⟨rfl, hg4⟩))
        have hgD := hide (Gr.trans (unhide hgC) hg4)
        have pa := place_is2 F S bn
        have pb := place_is2 F T bn
        have htell' := hide (unhide htell F (unhide hm3))
        clear hgC hg4 hm3 htell hmg hmat hc3
        by_cases hp : plc F bn S = plc F bn T
        · have hr := unhide htell' hp
          have h0 : (((plc F bn S : Nat) : Int) != ((plc F bn T : Nat) : Int)) = false := by rw [hp]; simp
          generalize plc F bn S = p at pa h0
          generalize plc F bn T = q at pb h0
          have hrs := hide (unhide hrch S)
          have hrt := hide (unhide hrch T)
          rw [hr] at hrs
          clear hrch htell' hp hr
          go_upto_region 21 with (go_at_call 11; refine (unhide hrs _).mono ?_; rintro e w' ⟨rfl, rfl⟩)
          go_wp2_with (go_at_call 11; refine (unhide hrt _).mono ?_; rintro e w' ⟨rfl, rfl⟩)
          go_ret
          exact ⟨rfl, unhide hgD⟩
        · have h0 : (((plc F bn S : Nat) : Int) != ((plc F bn T : Nat) : Int)) = true := bne_iff_ne.2 (by omega)
          generalize plc F bn S = p at pa h0
          generalize plc F bn T = q at pb h0
          have hrs := hide (unhide hrch S)
          have hrt := hide (unhide hrch T)
          clear hrch htell' hp
          go_upto_region 21 with (go_at_call 11; refine (unhide hrs _).mono ?_; rintro e w' ⟨rfl, rfl⟩)
          go_wp2_with (go_at_call 11; refine (unhide hrt _).mono ?_; rintro e w' ⟨rfl, rfl⟩)
          go_ret
          exact ⟨rfl, unhide hgD⟩
  cases rk
  · exact main 4 (.inl rfl) rfl
  · exact main 5 (.inr rfl) rfl

end Go.Proofs.YtnfakamfmkhlbabDoor.C
