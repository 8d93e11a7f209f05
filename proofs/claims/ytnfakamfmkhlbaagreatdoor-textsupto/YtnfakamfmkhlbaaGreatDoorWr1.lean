import Derived.Test.YtnfakamfmkhlbaaGreatDoorNota4
import Derived.Laws.IdiomStrings
namespace Go.Proofs.YtnfakamfmkhlbaaGreatDoor.C
open Go.ChangeShapes Go.WideShapes Go.ChangeAt Go.RowKit
attribute [local go_sem] setCell_drewN alloc_drewN

theorem ret_str {a b : ByteArray} (h : a = b) : Ending.returned (.string a) = .returned (.string b) := by rw [h]

theorem wside_any (b : Bool) (w : World) : Calls Tryz.prog 81 #[.bool b] w fun e w' => e = .returned (.string ⟨#[if b then 119 else 98]⟩) ∧ w' = w := by
  cases b
  · go_enter Tryz.func81, Tryz.ntmps81
    go_wp2
    go_ret
    exact ⟨rfl, rfl⟩
  · go_enter Tryz.func81, Tryz.ntmps81
    go_wp2
    go_ret
    exact ⟨rfl, rfl⟩

theorem conv_bytes (w : World) (a : Addr) (cap : Nat) (l : List UInt8) (hc : ∀ i (h : i < l.length), w.cell? (a.add i) = some (.int .u8 ((l[i]).toNat : Int))) :
    (convert 101 9 (.slice (some a) l.length cap)).run Tryz.prog w = .ok (.string ⟨l.toArray⟩) w :=
  run_convert_bytes_back w 101 9 5 a cap l Tryz.underlying101 Tryz.underlying5 Tryz.underlying9 hc

def nameS (n : Nat) : List UInt8 := [UInt8.ofNat (97 + n % 8), UInt8.ofNat (49 + n / 8)]
theorem name_any (n : Nat) (h : n < 64) (w : World) : Calls Tryz.prog 151 #[.int .i64 n] w fun e w' => e = .returned (.string ⟨(nameS n).toArray⟩) ∧ Gr w w' := by
  have e1 : ((UInt8.ofNat (97 + n % 8)).toNat : Int) = 97 + (n : Int) % 8 := by simp; omega
  have e2 : ((UInt8.ofNat (49 + n / 8)).toNat : Int) = 49 + (n : Int) / 8 := by simp; omega
  have hcv := conv_bytes (w.alloc (.cells #[.int .u8 (97 + (n : Int) % 8), .int .u8 (49 + (n : Int) / 8)] 5)) ⟨w.heap.size, 0, none⟩ 2 (nameS n) (by
    intro i hi
    rw [Addr.add_lit, Nat.zero_add, World.cell?_alloc_at _ _ _ _ rfl]
    have : i = 0 ∨ i = 1 := by simp [nameS] at hi; omega
    rcases this with rfl | rfl
    · show some (Value.int .u8 (97 + (n : Int) % 8)) = some (.int .u8 ((UInt8.ofNat (97 + n % 8)).toNat : Int)); rw [e1]
    · show some (Value.int .u8 (49 + (n : Int) / 8)) = some (.int .u8 ((UInt8.ofNat (49 + n / 8)).toNat : Int)); rw [e2])
  have hcv' : (convert 101 9 (.slice (some ⟨w.heap.size, 0, none⟩) 2 2)).run Tryz.prog (w.alloc (.cells #[.int .u8 (97 + (n : Int) % 8), .int .u8 (49 + (n : Int) / 8)] 5)) = .ok (.string ⟨(nameS n).toArray⟩) (w.alloc (.cells #[.int .u8 (97 + (n : Int) % 8), .int .u8 (49 + (n : Int) / 8)] 5)) := hcv
  clear hcv e1 e2
  go_enter Tryz.func151, Tryz.ntmps151
  go_wp2
  go_ret
  exact ⟨rfl, (Gr.refl _).alloc _ _⟩

def wbehS (n : Int) : List UInt8 := if n = -1 then [45] else nameS n.toNat
theorem wbehind_any (n : Int) (h : n = -1 ∨ (0 ≤ n ∧ n < 64)) (w : World) : Calls Tryz.prog 83 #[.int .i64 n] w fun e w' => e = .returned (.string ⟨(wbehS n).toArray⟩) ∧ Gr w w' := by
  by_cases h1 : n = -1
  · subst h1
    go_enter Tryz.func83, Tryz.ntmps83
    go_wp2
    go_ret
    exact ⟨rfl, Gr.refl _⟩
  · obtain ⟨k, rfl⟩ := Int.eq_ofNat_of_zero_le (show 0 ≤ n by omega)
    have hk : k < 64 := by omega
    have e : wbehS (k : Int) = nameS k := by unfold wbehS; rw [if_neg h1]; simp
    have hne : ((k : Int) == -1) = false := by simp
    rw [e]
    clear h1 h e
    go_enter Tryz.func83, Tryz.ntmps83
    go_wp2_with (go_at_call 151; refine (name_any k hk _).mono ?_; rintro e w' ⟨rfl, hg⟩)
    go_ret
    exact ⟨rfl, hg⟩

def wcS (f : Nat → Bool) : Nat → List UInt8
  | 0 => []
  | i + 1 => wcS f i ++ (if f i then [clc i] else [])
def wcastS (f : Nat → Bool) : List UInt8 := if (wcS f 4).isEmpty then [45] else wcS f 4

theorem wcS_step (f : Nat → Bool) (i : Nat) : wcS f (i + 1) = wcS f i ++ (if f i then [clc i] else []) := rfl
theorem bytes_app (a b : ByteArray) : (a ++ b).data.toList = a.data.toList ++ b.data.toList := by simp

set_option maxHeartbeats 1000000 in
theorem wcastle_any (f : Nat → Bool) (w : World) : Calls Tryz.prog 82 #[.agg #[.bool (f 0), .bool (f 1), .bool (f 2), .bool (f 3)]] w fun e w' => e = .returned (.string ⟨(wcastS f).toArray⟩) ∧ Gr w w' := by
  obtain ⟨b0, hb0⟩ : ∃ b, Hid (f 0 = b) := ⟨_, rfl⟩
  obtain ⟨b1, hb1⟩ : ∃ b, Hid (f 1 = b) := ⟨_, rfl⟩
  obtain ⟨b2, hb2⟩ : ∃ b, Hid (f 2 = b) := ⟨_, rfl⟩
  obtain ⟨b3, hb3⟩ : ∃ b, Hid (f 3 = b) := ⟨_, rfl⟩
  rw [unhide hb0, unhide hb1, unhide hb2, unhide hb3]
  have i0 : ∀ w, (Instr.index 23 (.agg #[.bool b0, .bool b1, .bool b2, .bool b3]) (.int .i64 0)).run Tryz.prog w = .ok (.bool b0) w := fun _ => by kernel_rfl
  have i1 : ∀ w, (Instr.index 23 (.agg #[.bool b0, .bool b1, .bool b2, .bool b3]) (.int .i64 1)).run Tryz.prog w = .ok (.bool b1) w := fun _ => by kernel_rfl
  have i2 : ∀ w, (Instr.index 23 (.agg #[.bool b0, .bool b1, .bool b2, .bool b3]) (.int .i64 2)).run Tryz.prog w = .ok (.bool b2) w := fun _ => by kernel_rfl
  have i3 : ∀ w, (Instr.index 23 (.agg #[.bool b0, .bool b1, .bool b2, .bool b3]) (.int .i64 3)).run Tryz.prog w = .ok (.bool b3) w := fun _ => by kernel_rfl
  go_enter Tryz.func82, Tryz.ntmps82
  go_wp2
  go_loopg [3, 7] 4 (fun g t n wr => ∃ i : Nat, i + g = 4 ∧ n = .int .i64 i ∧ (∃ q : ByteArray, t = .string q ∧ q.data.toList = wcS f i ∧ q.size ≤ i) ∧ wr = w.alloc (.cells #[.bool b0, .bool b1, .bool b2, .bool b3] 23))
  case atStart => exact ⟨0, rfl, rfl, ⟨_, rfl, rfl, Nat.le_refl _⟩, rfl⟩
  case round =>
    obtain ⟨i, k1, rfl, ⟨q, rfl, hq0, hqs⟩, rfl⟩ := hrel
    have hq := hide hq0
    clear hq0
    by_cases hlt : i < 4
    · have hi : i = 0 ∨ i = 1 ∨ i = 2 ∨ i = 3 := by omega
      rcases hi with rfl | rfl | rfl | rfl
      · cases b0
        · have hst : Hid (wcS f 1 = wcS f 0) := hide (by rw [wcS_step, unhide hb0]; simp)
          go_wp2
          go_roundg (gk - 1)
          case measure => omega
          case rel => exact ⟨1, by omega, rfl, ⟨q, rfl, by rw [unhide hst]; exact unhide hq, by omega⟩, rfl⟩
        · have hst : Hid (wcS f 1 = wcS f 0 ++ [clc 0]) := hide (by rw [wcS_step, unhide hb0]; simp)
          go_wp2
          go_roundg (gk - 1)
          case measure => omega
          case rel =>
            refine ⟨1, by omega, rfl, ⟨_, rfl, ?_, ?_⟩, rfl⟩
            · rw [unhide hst, bytes_app, unhide hq]; rfl
            · rw [ByteArray.size_append]; have : (ByteArray.extract ⟨#[75, 81, 107, 113]⟩ 0 1).size = 1 := rfl
              omega
      · cases b1
        · have hst : Hid (wcS f 2 = wcS f 1) := hide (by rw [wcS_step, unhide hb1]; simp)
          go_wp2
          go_roundg (gk - 1)
          case measure => omega
          case rel => exact ⟨2, by omega, rfl, ⟨q, rfl, by rw [unhide hst]; exact unhide hq, by omega⟩, rfl⟩
        · have hst : Hid (wcS f 2 = wcS f 1 ++ [clc 1]) := hide (by rw [wcS_step, unhide hb1]; simp)
          go_wp2
          go_roundg (gk - 1)
          case measure => omega
          case rel =>
            refine ⟨2, by omega, rfl, ⟨_, rfl, ?_, ?_⟩, rfl⟩
            · rw [unhide hst, bytes_app, unhide hq]; rfl
            · rw [ByteArray.size_append]; have : (ByteArray.extract ⟨#[75, 81, 107, 113]⟩ 1 2).size = 1 := rfl
              omega
      · cases b2
        · have hst : Hid (wcS f 3 = wcS f 2) := hide (by rw [wcS_step, unhide hb2]; simp)
          go_wp2
          go_roundg (gk - 1)
          case measure => omega
          case rel => exact ⟨3, by omega, rfl, ⟨q, rfl, by rw [unhide hst]; exact unhide hq, by omega⟩, rfl⟩
        · have hst : Hid (wcS f 3 = wcS f 2 ++ [clc 2]) := hide (by rw [wcS_step, unhide hb2]; simp)
          go_wp2
          go_roundg (gk - 1)
          case measure => omega
          case rel =>
            refine ⟨3, by omega, rfl, ⟨_, rfl, ?_, ?_⟩, rfl⟩
            · rw [unhide hst, bytes_app, unhide hq]; rfl
            · rw [ByteArray.size_append]; have : (ByteArray.extract ⟨#[75, 81, 107, 113]⟩ 2 3).size = 1 := rfl
              omega
      · cases b3
        · have hst : Hid (wcS f 4 = wcS f 3) := hide (by rw [wcS_step, unhide hb3]; simp)
          go_wp2
          go_roundg (gk - 1)
          case measure => omega
          case rel => exact ⟨4, by omega, rfl, ⟨q, rfl, by rw [unhide hst]; exact unhide hq, by omega⟩, rfl⟩
        · have hst : Hid (wcS f 4 = wcS f 3 ++ [clc 3]) := hide (by rw [wcS_step, unhide hb3]; simp)
          go_wp2
          go_roundg (gk - 1)
          case measure => omega
          case rel =>
            refine ⟨4, by omega, rfl, ⟨_, rfl, ?_, ?_⟩, rfl⟩
            · rw [unhide hst, bytes_app, unhide hq]; rfl
            · rw [ByteArray.size_append]; have : (ByteArray.extract ⟨#[75, 81, 107, 113]⟩ 3 4).size = 1 := rfl
              omega
    · have ei : i = 4 := by omega
      subst ei
      have hem : q.toList.isEmpty = (wcS f 4).isEmpty := by rw [Lib.toList_data, unhide hq]
      cases hb : (wcS f 4).isEmpty
      · rw [hb] at hem
        have hqq : Hid (q = ⟨(wcastS f).toArray⟩) := hide (by
          unfold wcastS; rw [hb]
          have := unhide hq
          cases q with | mk d => simp at this ⊢; rw [← this])
        clear hb
        go_wp2
        go_ret
        exact ⟨ret_str (unhide hqq), (Gr.refl _).alloc _ _⟩
      · rw [hb] at hem
        have hqq : Hid (wcastS f = [45]) := hide (by unfold wcastS; rw [hb]; rfl)
        clear hb
        go_wp2
        go_ret
        exact ⟨ret_str (by rw [unhide hqq]), (Gr.refl _).alloc _ _⟩

end Go.Proofs.YtnfakamfmkhlbaaGreatDoor.C
