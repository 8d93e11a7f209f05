import Derived.Test.YtnfakamfmkhlbabDoorMr6
import Derived.Test.YtnfakamfmkhlbabDoorMw7
namespace Go.Proofs.YtnfakamfmkhlbabDoor.C
open Go.ChangeShapes Go.WideShapes Go.ChangeAt Go.RowKit Go.Shelf
open Go.Proofs.YtnfakamfmkhlbabDoor.P

theorem magicR_yes (k x : Nat) (hk : k = 4 ∨ k = 5) (hx : x < 64) (f : BitVec 64) (b : Nat) (hb1 : 1 ≤ b) (hb2 : b ≤ 12) (w : World) :
    Calls Tryd.prog 6 #[.int .i64 (k : Int), .int .i64 (x : Int), .int .u64 (U f), .int .i64 (b : Int)] w fun e w' => e = .returned (.tuple #[.bool (fits (vws k x) f b), .int .i64 0]) ∧ Gr w w' := by
  have his := hide (magicR_any k x hk hx f b hb1 hb2 w)
  generalize fits (vws k x) f b = q at his ⊢
  rcases hk with rfl | rfl
  all_goals
    simp only [Int.cast_ofNat_Int] at his ⊢
    go_enter Tryd.func6, Tryd.ntmps6
    go_wp2_with (go_at_call 15; refine (unhide his).mono ?_; rintro e w1 ⟨rfl, hg1⟩)
    go_ret2
    exact ⟨rfl, hg1⟩

theorem three_U (j : Nat) (hj : j ≤ 10000) : U (3#64 * BitVec.ofNat 64 (j + 1)) = 3 * ((j : Int) + 1) := by
  unfold U
  rw [BitVec.toNat_mul, BitVec.toNat_ofNat]
  show ((3 * ((j + 1) % 18446744073709551616) % 18446744073709551616 : Nat) : Int) = _
  omega
set_option linter.unusedSimpArgs false in
set_option maxRecDepth 100000 in
set_option maxHeartbeats 8000000 in
theorem findR_yes (k x : Nat) (hk : k = 4 ∨ k = 5) (hx : x < 64) (s : BitVec 64) (n : Nat) (hn : n ≤ 10000) (w : World) :
    Calls Tryd.prog 8 #[.int .i64 (k : Int), .int .i64 (x : Int), .int .u64 (U s), .int .i64 (n : Int)] w fun e w' => FindEnd3 k x s n e ∧ Gr w w' := by
  have hml : 1 ≤ (mtrR k x).length ∧ (mtrR k x).length ≤ 12 ∧ (sqs (mtr k x)).length = (mtrR k x).length := by
    have := mtrR_len x hx
    rcases hk with rfl | rfl
    · exact ⟨this.2.2.2.2.1, this.2.2.1, this.1.symm⟩
    · exact ⟨this.2.2.2.2.2, this.2.2.2.1, this.2.1.symm⟩
  obtain ⟨hm1, hm2, hsm⟩ := hml
  have hmt := hide (matterR_any k x hk hx w)
  have hmg := hide (fun F W => magicR_any k x hk hx F (mtrR k x).length hm1 hm2 W)
  have hend : Hid (∀ F K, ((∃ m, 1 ≤ m ∧ m ≤ n ∧ fits (vws k x) (facN s m) (mtrR k x).length = true ∧ (∀ i, 1 ≤ i → i < m → fits (vws k x) (facN s i) (mtrR k x).length = false) ∧ F = U (facN s m) ∧ K = (m : Int)) ∨ ((∀ i, 1 ≤ i → i ≤ n → fits (vws k x) (facN s i) (mtrR k x).length = false) ∧ F = 0 ∧ K = 0)) → FindEnd3 k x s n (.returned (.tuple #[.int .u64 F, .int .i64 K, .int .i64 0]))) := hide (fun F K h => ⟨F, K, by
    unfold FindEnd
    rw [hsm]
    rcases h with ⟨m, a, b, c, d, rfl, rfl⟩ | ⟨a, rfl, rfl⟩
    · exact .inl ⟨m, a, b, c, d, rfl⟩
    · exact .inr ⟨a, rfl⟩, rfl⟩)
  have hgen := hide (fun N W => generated_any s N W)
  clear hsm
  rcases hk with rfl | rfl
  · simp only [Int.cast_ofNat_Int] at hmt hmg ⊢
    go_enter Tryd.func8, Tryd.ntmps8
    go_wp2_with (go_at_call 17; refine (unhide hmt).mono ?_; rintro e w1 ⟨v, rfl, hv, hg1⟩; obtain ⟨ma, mcap, rfl, hform⟩ := hv.form; have hg1' := hide hg1; clear hv hg1 hform)
    clear hmt
    generalize (mtrR 4 x).length = b at hm1 hm2 hmg hend ⊢
    go_loopg [12] n (fun gm i wr => ∃ j : Nat, j + gm = n ∧ i = .int .i64 ((j : Int) + 1) ∧ Gr w wr ∧ ∀ m, 1 ≤ m → m ≤ j → fits (vws 4 x) (facN s m) b = false)
    case atStart => exact ⟨0, by omega, rfl, unhide hg1', fun m h1 h2 => by omega⟩
    case round =>
      clear hg1'
      obtain ⟨j, j1, rfl, hG, hno⟩ := hrel
      have hG' := hide hG
      have hno' := hide hno
      clear hG hno
      by_cases hlt : j < n
      · have ew : IntKind.u64.wrap (3 * ((j : Int) + 1)) = U (3#64 * BitVec.ofNat 64 (j + 1)) := by rw [three_U j (by omega), IntKind.wrap_u64]; omega
        have hfn : Hid (numB s (3#64 * BitVec.ofNat 64 (j + 1) - 2#64) &&& numB s (3#64 * BitVec.ofNat 64 (j + 1) - 1#64) &&& numB s (3#64 * BitVec.ofNat 64 (j + 1)) = facN s (j + 1)) := hide rfl
        generalize 3#64 * BitVec.ofNat 64 (j + 1) = N at ew hfn
        have e2 : IntKind.u64.wrap (U N - 2) = U (N - 2#64) := by rw [show (2 : Int) = U 2#64 from by decide +kernel]; exact sub_U _ _
        have e1 : IntKind.u64.wrap (U N - 1) = U (N - 1#64) := by rw [show (1 : Int) = U 1#64 from by decide +kernel]; exact sub_U _ _
        have a1 := and_U (numB s (N - 2#64)) (numB s (N - 1#64))
        have a2 := and_U (numB s (N - 2#64) &&& numB s (N - 1#64)) (numB s N)
        rw [unhide hfn] at a2
        obtain ⟨q, hq⟩ : ∃ q, Hid (fits (vws 4 x) (facN s (j + 1)) b = q) := ⟨_, hide rfl⟩
        cases q
        · have hno2 : Hid (∀ m, 1 ≤ m → m ≤ j + 1 → fits (vws 4 x) (facN s m) b = false) := hide (fun m h1 h2 => by
            by_cases e : m = j + 1
            · rw [e]; exact unhide hq
            · exact unhide hno' m h1 (by omega))
          go_wp2_with (first
            | (go_at_call 18; refine (unhide hgen _ _).mono ?_; rintro e w' ⟨rfl, hww⟩; have hww' := hww.symm; subst hww'; clear hww)
            | (go_at_call 15; refine (unhide hmg _ _).mono ?_; rintro e w6 ⟨rfl, hg6⟩; rw [unhide hq]))
          go_roundg (gk - 1)
          case measure => omega
          case rel => exact ⟨j + 1, by omega, by simp, Gr.trans (unhide hG') hg6, unhide hno2⟩
        · have hen := hide (unhide hend (U (facN s (j + 1))) ((j : Int) + 1) (.inl ⟨j + 1, by omega, by omega, unhide hq, fun i h1 h2 => unhide hno' i h1 (by omega), rfl, by simp⟩))
          go_wp2_with (first
            | (go_at_call 18; refine (unhide hgen _ _).mono ?_; rintro e w' ⟨rfl, hww⟩; have hww' := hww.symm; subst hww'; clear hww)
            | (go_at_call 15; refine (unhide hmg _ _).mono ?_; rintro e w6 ⟨rfl, hg6⟩; rw [unhide hq]))
          exact bodyPost_ret (v := .tuple #[.int .u64 (U (facN s (j + 1))), .int .i64 ((j : Int) + 1), .int .i64 0]) (by simp [results, Tryd.results8, go_sem]) rfl ⟨unhide hen, Gr.trans (unhide hG') hg6⟩
      · have ej : j = n := by omega
        subst ej
        have hen := hide (unhide hend 0 0 (.inr ⟨unhide hno', rfl, rfl⟩))
        go_wp2_with fail
        exact bodyPost_ret (v := .tuple #[.int .u64 0, .int .i64 0, .int .i64 0]) (by simp [results, Tryd.results8, go_sem]) rfl ⟨unhide hen, unhide hG'⟩
  · simp only [Int.cast_ofNat_Int] at hmt hmg ⊢
    go_enter Tryd.func8, Tryd.ntmps8
    go_wp2_with (go_at_call 17; refine (unhide hmt).mono ?_; rintro e w1 ⟨v, rfl, hv, hg1⟩; obtain ⟨ma, mcap, rfl, hform⟩ := hv.form; have hg1' := hide hg1; clear hv hg1 hform)
    clear hmt
    generalize (mtrR 5 x).length = b at hm1 hm2 hmg hend ⊢
    go_loopg [12] n (fun gm i wr => ∃ j : Nat, j + gm = n ∧ i = .int .i64 ((j : Int) + 1) ∧ Gr w wr ∧ ∀ m, 1 ≤ m → m ≤ j → fits (vws 5 x) (facN s m) b = false)
    case atStart => exact ⟨0, by omega, rfl, unhide hg1', fun m h1 h2 => by omega⟩
    case round =>
      clear hg1'
      obtain ⟨j, j1, rfl, hG, hno⟩ := hrel
      have hG' := hide hG
      have hno' := hide hno
      clear hG hno
      by_cases hlt : j < n
      · have ew : IntKind.u64.wrap (3 * ((j : Int) + 1)) = U (3#64 * BitVec.ofNat 64 (j + 1)) := by rw [three_U j (by omega), IntKind.wrap_u64]; omega
        have hfn : Hid (numB s (3#64 * BitVec.ofNat 64 (j + 1) - 2#64) &&& numB s (3#64 * BitVec.ofNat 64 (j + 1) - 1#64) &&& numB s (3#64 * BitVec.ofNat 64 (j + 1)) = facN s (j + 1)) := hide rfl
        generalize 3#64 * BitVec.ofNat 64 (j + 1) = N at ew hfn
        have e2 : IntKind.u64.wrap (U N - 2) = U (N - 2#64) := by rw [show (2 : Int) = U 2#64 from by decide +kernel]; exact sub_U _ _
        have e1 : IntKind.u64.wrap (U N - 1) = U (N - 1#64) := by rw [show (1 : Int) = U 1#64 from by decide +kernel]; exact sub_U _ _
        have a1 := and_U (numB s (N - 2#64)) (numB s (N - 1#64))
        have a2 := and_U (numB s (N - 2#64) &&& numB s (N - 1#64)) (numB s N)
        rw [unhide hfn] at a2
        obtain ⟨q, hq⟩ : ∃ q, Hid (fits (vws 5 x) (facN s (j + 1)) b = q) := ⟨_, hide rfl⟩
        cases q
        · have hno2 : Hid (∀ m, 1 ≤ m → m ≤ j + 1 → fits (vws 5 x) (facN s m) b = false) := hide (fun m h1 h2 => by
            by_cases e : m = j + 1
            · rw [e]; exact unhide hq
            · exact unhide hno' m h1 (by omega))
          go_wp2_with (first
            | (go_at_call 18; refine (unhide hgen _ _).mono ?_; rintro e w' ⟨rfl, hww⟩; have hww' := hww.symm; subst hww'; clear hww)
            | (go_at_call 15; refine (unhide hmg _ _).mono ?_; rintro e w6 ⟨rfl, hg6⟩; rw [unhide hq]))
          go_roundg (gk - 1)
          case measure => omega
          case rel => exact ⟨j + 1, by omega, by simp, Gr.trans (unhide hG') hg6, unhide hno2⟩
        · have hen := hide (unhide hend (U (facN s (j + 1))) ((j : Int) + 1) (.inl ⟨j + 1, by omega, by omega, unhide hq, fun i h1 h2 => unhide hno' i h1 (by omega), rfl, by simp⟩))
          go_wp2_with (first
            | (go_at_call 18; refine (unhide hgen _ _).mono ?_; rintro e w' ⟨rfl, hww⟩; have hww' := hww.symm; subst hww'; clear hww)
            | (go_at_call 15; refine (unhide hmg _ _).mono ?_; rintro e w6 ⟨rfl, hg6⟩; rw [unhide hq]))
          exact bodyPost_ret (v := .tuple #[.int .u64 (U (facN s (j + 1))), .int .i64 ((j : Int) + 1), .int .i64 0]) (by simp [results, Tryd.results8, go_sem]) rfl ⟨unhide hen, Gr.trans (unhide hG') hg6⟩
      · have ej : j = n := by omega
        subst ej
        have hen := hide (unhide hend 0 0 (.inr ⟨unhide hno', rfl, rfl⟩))
        go_wp2_with fail
        exact bodyPost_ret (v := .tuple #[.int .u64 0, .int .i64 0, .int .i64 0]) (by simp [results, Tryd.results8, go_sem]) rfl ⟨unhide hen, unhide hG'⟩

end Go.Proofs.YtnfakamfmkhlbabDoor.C
