import Derived.Test.YtnfakamfmkhlbabDoorSq
import Derived.Test.YtnfakamfmkhlbabDoorMag
namespace Go.Proofs.YtnfakamfmkhlbabDoor.C
open Go.ChangeShapes Go.WideShapes Go.ChangeAt Go.RowKit Go.Shelf
open Go.Proofs.YtnfakamfmkhlbabDoor.P

theorem mul_U (a b : BitVec 64) : IntKind.u64.wrap (U a * U b) = U (a * b) := by
  rw [wrap_of]
  refine congrArg U ?_
  unfold U
  rw [← Int.natCast_mul, BitVec.ofInt_natCast]
  exact BitVec.eq_of_toNat_eq (by rw [BitVec.toNat_ofNat, BitVec.toNat_mul])
theorem add_U (a b : BitVec 64) : IntKind.u64.wrap (U a + U b) = U (a + b) := by
  rw [wrap_of]
  refine congrArg U ?_
  unfold U
  rw [← Int.natCast_add, BitVec.ofInt_natCast]
  exact BitVec.eq_of_toNat_eq (by rw [BitVec.toNat_ofNat, BitVec.toNat_add])

/-! the generator -/
def mixB (x : BitVec 64) : BitVec 64 :=
  let a := (x ^^^ x >>> 30) * 13787848793156543929#64
  let b := (a ^^^ a >>> 27) * 10723151780598845931#64
  b ^^^ b >>> 31
def numB (s n : BitVec 64) : BitVec 64 := mixB (s + n * 11400714819323198485#64)
def facB (s k : BitVec 64) : BitVec 64 := numB s (3#64 * k - 2#64) &&& numB s (3#64 * k - 1#64) &&& numB s (3#64 * k)

theorem shr30 (x : BitVec 64) : U x / (1073741824 : Int) = U (x >>> 30) := shr_U x 30
theorem shr27 (x : BitVec 64) : U x / (134217728 : Int) = U (x >>> 27) := shr_U x 27
theorem shr31 (x : BitVec 64) : U x / (2147483648 : Int) = U (x >>> 31) := shr_U x 31

def mixI (x : Int) : Int :=
  let a := IntKind.u64.wrap (bits .xor .u64 x (x / 1073741824) * 13787848793156543929)
  let b := IntKind.u64.wrap (bits .xor .u64 a (a / 134217728) * 10723151780598845931)
  bits .xor .u64 b (b / 2147483648)
theorem cB : (13787848793156543929 : Int) = U 13787848793156543929#64 := by decide +kernel
theorem cC : (10723151780598845931 : Int) = U 10723151780598845931#64 := by decide +kernel
theorem cA : (11400714819323198485 : Int) = U 11400714819323198485#64 := by decide +kernel
theorem mix_U (x : BitVec 64) : mixI (U x) = U (mixB x) := by
  unfold mixI mixB
  simp only
  rw [shr30, xor_U, cB, mul_U, shr27, xor_U, cC, mul_U, shr31, xor_U]
theorem mix_any (x : Int) (w : World) : Calls Tryd.prog 46 #[.int .u64 x] w fun e w' => e = .returned (.int .u64 (mixI x)) ∧ w' = w := by
  go_enter Tryd.func46, Tryd.ntmps46
  go_wp2
  go_ret
  exact ⟨ret_int (a := mixI x) rfl, rfl⟩
def numbI (s n : Int) : Int := mixI (IntKind.u64.wrap (s + IntKind.u64.wrap (n * 11400714819323198485)))
theorem numb_U (s n : BitVec 64) : numbI (U s) (U n) = U (numB s n) := by
  unfold numbI numB
  rw [cA, mul_U, add_U, mix_U]
theorem number_any (s n : Int) (w : World) : Calls Tryd.prog 43 #[.int .u64 s, .int .u64 n] w fun e w' => e = .returned (.int .u64 (numbI s n)) ∧ w' = w := by
  go_enter Tryd.func43, Tryd.ntmps43
  go_wp2_with (go_at_call 46; refine (mix_any _ _).mono ?_; rintro e w' ⟨rfl, rfl⟩)
  go_ret
  exact ⟨ret_int (a := numbI s n) rfl, rfl⟩
def facI (s k : Int) : Int := bits .and .u64 (bits .and .u64 (numbI s (IntKind.u64.wrap (IntKind.u64.wrap (3 * k) - 2))) (numbI s (IntKind.u64.wrap (IntKind.u64.wrap (3 * k) - 1)))) (numbI s (IntKind.u64.wrap (3 * k)))
theorem fac_U (s k : BitVec 64) : facI (U s) (U k) = U (facB s k) := by
  unfold facI facB
  rw [show (3 : Int) = U 3#64 from by decide +kernel, show (2 : Int) = U 2#64 from by decide +kernel, show (1 : Int) = U 1#64 from by decide +kernel, mul_U, sub_U, sub_U, numb_U, numb_U, numb_U, and_U, and_U]
theorem factor_any (s k : Int) (w : World) : Calls Tryd.prog 28 #[.int .u64 s, .int .u64 k] w fun e w' => e = .returned (.int .u64 (facI s k)) ∧ w' = w := by
  go_enter Tryd.func28, Tryd.ntmps28
  go_wp2_with (go_at_call 43; refine (number_any _ _ _).mono ?_; rintro e w' ⟨rfl, rfl⟩)
  go_ret
  exact ⟨ret_int (a := facI s k) rfl, rfl⟩

theorem slider_yes (k : Int) (hk : k = 4 ∨ k = 5) (w : World) : Calls Tryd.prog 12 #[.int .i64 k] w fun e w' => e = .returned (.bool true) ∧ w' = w := by
  rcases hk with rfl | rfl
  · go_enter Tryd.func12, Tryd.ntmps12
    go_wp2
    go_ret
    exact ⟨rfl, rfl⟩
  · go_enter Tryd.func12, Tryd.ntmps12
    go_wp2
    go_ret
    exact ⟨rfl, rfl⟩

/-! all sets of some squares -/
theorem subsets_any (s : BitVec 64) (w : World) : Calls Tryd.prog 38 #[.int .u64 (U s)] w fun e w' => e = .returned (.func (.func 45) #[] #[.pointer (some ⟨w.heap.size, 0, none⟩)]) ∧ w' = w.alloc (.cells #[.int .u64 (U s)] 46) := by
  have hmf : ∀ (fn : Fn) (first cap : Array Value) (w : World), (Instr.makeFunc fn first cap).run Tryd.prog w = .ok (.func fn first cap) w := fun _ _ _ _ => rfl
  go_enter Tryd.func38, Tryd.ntmps38
  go_wp2
  go_ret
  exact ⟨rfl, rfl⟩

attribute [local go_sem] Oper.semAt_some

set_option maxRecDepth 100000 in
set_option maxHeartbeats 4000000 in
theorem sub1_in (n : Nat) (hn : 1 ≤ n) (l Bn : Nat) (Kp : World → World → Prop) (s : BitVec 64) (hKc : ∀ A B, Kp A B → A.cell? ⟨Bn, 0, none⟩ = some (.int .u64 (U s)) → B.cell? ⟨Bn, 0, none⟩ = some (.int .u64 (U s))) (J Jx : List (BitVec 64) → World → Prop)
    (hY : ∀ pre x W, J pre W → pre.length < (subs s 0#64).length → YieldAt Fence.wide (n - 1) Tryd.prog l #[.int .u64 (U x)] W fun e W' =>
      (e = .returned (.bool true) ∧ J (pre ++ [x]) W' ∧ Kp W W') ∨ (e = .returned (.bool false) ∧ Jx (pre ++ [x]) W'))
    (W : World) (hBn : W.cell? ⟨Bn, 0, none⟩ = some (.int .u64 (U s))) (h0 : J [] W) :
    CallsIn Fence.wide n Tryd.prog 45 #[.func (.yield l) #[] #[], .pointer (some ⟨Bn, 0, none⟩)] W fun e W' => (∃ v, e = .returned v) ∧
      ((∃ ys, ys = subs s 0#64 ∧ J ys W') ∨ (∃ pre, pre <+: subs s 0#64 ∧ Jx pre W')) := by
  refine callsIn_of_wp Tryd.func45 rfl trivial ?_ rfl
  simp only [Tryd.ntmps45, List.size_toArray, List.length_cons, List.length_nil, Nat.reduceAdd, Nat.reduceSub, Array.replicate_succ, Array.replicate_zero, List.push_toArray, List.append_toArray, List.nil_append, List.cons_append]
  gi_wp2
  gi_loopw [3] (fun p wr => ∃ (pre : List (BitVec 64)) (q : BitVec 64), p = .int .u64 (U q) ∧ subs s 0#64 = pre ++ subs s q ∧ q &&& s = q ∧ wr.cell? ⟨Bn, 0, none⟩ = some (.int .u64 (U s)) ∧ J pre wr) (fun p _ => (subs s (BitVec.ofInt 64 (intOf p))).length)
  case atStart => exact ⟨[], 0#64, by rw [U_zero], rfl, BitVec.zero_and, hBn, h0⟩
  case round =>
    obtain ⟨pre, q, rfl, hx, hq, hcb, hJs⟩ := hrel
    obtain ⟨rest, hrest⟩ := subs_head s q hq
    obtain ⟨fn, tmps, assign, body, hy, hR⟩ := hY pre q wr hJs (by rw [hx, hrest]; simp)
    have hx' := hide hx
    have hq' := hide hq
    have hr' := hide hrest
    clear hx hq hrest
    gi_wp2
    refine hR.mono ?_
    rintro e W3 (⟨rfl, hJ3, hk3⟩ | ⟨rfl, hJx3⟩)
    · have hc3 : W3.cell? ⟨Bn, 0, none⟩ = some (.int .u64 (U s)) := hKc _ _ hk3 hcb
      by_cases e : q = s
      · have hne : (U q != U s) = false := by rw [e]; simp
        have hend : Hid (subs s 0#64 = pre ++ [q]) := hide (by rw [unhide hx', e, subs_last])
        clear e
        gi_wp2
        go_end0
        exact ⟨⟨_, rfl⟩, .inl ⟨pre ++ [q], (unhide hend).symm, hJ3⟩⟩
      · have hne : (U q != U s) = true := by
          simp only [bne_iff_ne]
          intro h
          exact e (U_inj h)
        have e1 : IntKind.u64.wrap (U q - U s) = U (q - s) := sub_U q s
        have e2 : bits .and .u64 (U (q - s)) (U s) = U (nxt s q) := and_U _ _
        have hst := hide (subs_step s q (unhide hq') e)
        gi_wp2
        go_roundw
        case rel => exact ⟨pre ++ [q], nxt s q, rfl, by rw [unhide hx', unhide hst]; simp, nxt_sub s q, hc3, hJ3⟩
        case measure => simp only [intOf]; rw [ofInt_U, ofInt_U, unhide hst]; simp
    · gi_wp2
      go_end0
      exact ⟨⟨_, rfl⟩, .inr ⟨pre ++ [q], ⟨rest, by rw [unhide hx', unhide hr']; simp⟩, hJx3⟩⟩

theorem sub_stops (n : Nat) (hn : 1 ≤ n) (Bn : Nat) (Kp : World → World → Prop) (s : BitVec 64) (hKc : ∀ A B, Kp A B → A.cell? ⟨Bn, 0, none⟩ = some (.int .u64 (U s)) → B.cell? ⟨Bn, 0, none⟩ = some (.int .u64 (U s))) (w : World) (hB : Bn < w.heap.size) (hc : w.cell? ⟨Bn, 0, none⟩ = some (.int .u64 (U s))) :
    SeqStopsK Fence.wide n Tryd.prog 45 #[.pointer (some ⟨Bn, 0, none⟩)] (fun x : BitVec 64 => #[Value.int .u64 (U x)]) Kp (fun ys => ys = subs s 0#64) (fun pre => pre <+: subs s 0#64) (subs s 0#64).length w := fun l J Jx W hW _ _ hY h0 =>
  sub1_in n hn l Bn Kp s hKc J Jx hY W ((hW.cell (p := ⟨Bn, 0, none⟩) hB).trans hc) h0

end Go.Proofs.YtnfakamfmkhlbabDoor.C
