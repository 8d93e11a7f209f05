import Derived.Test.YtnfakamfmkhlbaaGreatDoorNota2
import Derived.Lib.IndexLaws
namespace Go.Proofs.YtnfakamfmkhlbaaGreatDoor.C
open Go.ChangeShapes Go.WideShapes Go.ChangeAt Go.RowKit

theorem ib_at : ∀ {l : List UInt8} {c : UInt8} {k : Nat}, (∀ j, j < k → l[j]? ≠ some c) → l[k]? = some c → Lib.indexByte l c = (k : Int)
  | [], _, _, _, h => by simp at h
  | b :: l, c, 0, _, h => by
      have : b = c := by simpa using h
      unfold Lib.indexByte; simp [this]
  | b :: l, c, k + 1, hn, h => by
      have hb : (b == c) = false := by
        have := hn 0 (by omega)
        simpa using this
      have ih := ib_at (l := l) (c := c) (k := k) (fun j hj => by have := hn (j + 1) (by omega); simpa using this) (by simpa using h)
      unfold Lib.indexByte
      rw [hb, ih]
      have : ((k : Int) == -1) = false := by simp
      simp [this]
theorem ib_no : ∀ {l : List UInt8} {c : UInt8}, (∀ j, j < l.length → l[j]? ≠ some c) → Lib.indexByte l c = -1
  | [], _, _ => rfl
  | b :: l, c, hn => by
      have hb : (b == c) = false := by
        have := hn 0 (by simp)
        simpa using this
      have ih := ib_no (l := l) (c := c) (fun j hj => by have := hn (j + 1) (by simp; omega); simpa using this)
      unfold Lib.indexByte
      rw [hb, ih]; rfl
theorem byte_at (s : ByteArray) (k : Nat) (h : k < s.size) : s.data.toList[k]? = some s[k] := by
  rw [Array.getElem?_toList]; exact Array.getElem?_eq_getElem _

set_option maxRecDepth 10000 in
set_option maxHeartbeats 1000000 in
theorem place_any (s : ByteArray) (hs : s.size ≤ maxLen) (c : UInt8) (w : World) : Calls Tryz.prog 118 #[.string s, .int .u8 (c.toNat : Int)] w fun e w' => e = .returned (.int .i64 (Lib.indexByte s.data.toList c)) ∧ w' = w := by
  unfold maxLen at hs
  go_enter Tryz.func118, Tryz.ntmps118
  go_wp2
  go_loopg [5] s.size (fun g i wr => ∃ k : Nat, k + g = s.size ∧ i = .int .i64 k ∧ (∀ j, j < k → s.data.toList[j]? ≠ some c) ∧ wr = w)
  case atStart => exact ⟨0, by omega, rfl, fun j hj => absurd hj (Nat.not_lt_zero j), rfl⟩
  case round =>
    obtain ⟨k, k1, rfl, k3, rfl⟩ := hrel
    have k3' := hide k3
    clear k3
    by_cases hlt : k < s.size
    · have hb := hide (byte_at s k hlt)
      by_cases hc : s[k] = c
      · have hend : Hid (Lib.indexByte s.data.toList c = (k : Int)) := hide (ib_at (unhide k3') (by rw [unhide hb, hc]))
        subst hc
        go_wp2
        go_ret
        exact ⟨ret_int (unhide hend).symm, rfl⟩
      · have hne : ((s[k].toNat : Int) == (c.toNat : Int)) = false := by
          rw [beq_eq_false_iff_ne]
          intro h
          exact hc (UInt8.toNat_inj.1 (by omega))
        have hc' := hide hc
        go_wp2
        go_roundg (gk - 1)
        case measure => omega
        case rel => exact ⟨k + 1, by omega, by go_num, (by
          intro j hj
          by_cases hjk : j = k
          · subst hjk; rw [unhide hb]; intro h; exact unhide hc' (Option.some.inj h)
          · exact unhide k3' j (by omega)), rfl⟩
    · have ek : k = s.size := by omega
      have hend : Hid (Lib.indexByte s.data.toList c = -1) := hide (ib_no (by
        intro j hj
        exact unhide k3' j (by rw [ek]; rw [Array.length_toList] at hj; exact hj)))
      subst ek
      go_wp2
      go_ret
      exact ⟨ret_int (unhide hend).symm, rfl⟩

end Go.Proofs.YtnfakamfmkhlbaaGreatDoor.C
