import Derived.Test.YtnfakamfmkhlbaaGreatDoorNota
namespace Go.Proofs.YtnfakamfmkhlbaaGreatDoor.C
open Go.ChangeShapes Go.WideShapes Go.ChangeAt Go.RowKit

def clc : Nat → UInt8
  | 0 => 75
  | 1 => 81
  | 2 => 107
  | _ => 113
def restS (l : List UInt8) : Nat → List UInt8
  | 0 => l
  | i + 1 => Lib.trimPrefix (restS l i) [clc i]
def leftS (l : List UInt8) (i : Nat) : Bool := Lib.hasPrefix (restS l i) [clc i]

set_option maxRecDepth 10000 in
set_option maxHeartbeats 1000000 in
theorem castle_dash (s : ByteArray) (h : s.toList = [45]) (w : World) : Calls Tryz.prog 70 #[.string s] w fun e w' => e = .returned (.tuple #[.agg #[.bool false, .bool false, .bool false, .bool false], .bool true]) ∧ Gr w w' := by
  go_enter Tryz.func70, Tryz.ntmps70
  go_wp2
  refine bodyPost_ret (v := .tuple #[.agg #[.bool false, .bool false, .bool false, .bool false], .bool true]) (by simp [results, Tryz.results70, go_sem]) rfl ⟨rfl, ?_⟩
  repeat (first | exact Gr.refl _ | apply Gr.alloc)

def CastEnd (l : List UInt8) (e : Ending) : Prop :=
  e = .returned (.tuple #[.agg #[.bool (leftS l 0), .bool (leftS l 1), .bool (leftS l 2), .bool (leftS l 3)], .bool (!l.isEmpty && (restS l 4).isEmpty)])

theorem arr4 (A : Array Value) (hs : A.size = 4) (f : Nat → Bool) (h : ∀ j, j < 4 → A[j]? = some (.bool (f j))) : A = #[.bool (f 0), .bool (f 1), .bool (f 2), .bool (f 3)] := by
  apply Array.ext_getElem?
  intro i
  by_cases hi : i < 4
  · rw [h i hi]
    have : i = 0 ∨ i = 1 ∨ i = 2 ∨ i = 3 := by omega
    rcases this with rfl | rfl | rfl | rfl <;> rfl
  · rw [Array.getElem?_eq_none (by omega), Array.getElem?_eq_none (by simp; omega)]

theorem set4 (A : Array Value) (hs : A.size = 4) (f : Nat → Bool) (i : Nat) (hi : i < 4) (b : Bool) (hb : b = f i) (h : ∀ j, j < i → A[j]? = some (.bool (f j))) :
    (A.setIfInBounds i (.bool b)).size = 4 ∧ ∀ j, j < i + 1 → (A.setIfInBounds i (.bool b))[j]? = some (.bool (f j)) := by
  refine ⟨by simpa using hs, ?_⟩
  intro j hj
  rw [Array.getElem?_setIfInBounds]
  by_cases e : i = j
  · subst e; rw [if_pos rfl, if_pos (by omega), hb]
  · rw [if_neg e]; exact h j (by omega)

set_option maxRecDepth 10000 in
set_option maxHeartbeats 2000000 in
theorem castle_loop (s : ByteArray) (h : (s.toList == [45]) = false) (w : World) : Calls Tryz.prog 70 #[.string s] w fun e w' => CastEnd s.data.toList e ∧ Gr w w' := by
  go_enter Tryz.func70, Tryz.ntmps70
  go_wp2
  go_loopg [5, 11] 4 (fun g r n wr => ∃ i : Nat, i + g = 4 ∧ n = .int .i64 i ∧ (∃ q : ByteArray, r = .string q ∧ q.data.toList = restS s.data.toList i) ∧ ∃ A : Array Value, wr = (w.alloc (Obj.cells #[.bool false, .bool false, .bool false, .bool false] 23)).alloc (Obj.cells A 23) ∧ A.size = 4 ∧ ∀ j, j < i → A[j]? = some (.bool (leftS s.data.toList j)))
  case atStart => exact ⟨0, rfl, rfl, ⟨s, rfl, rfl⟩, _, rfl, rfl, fun j hj => by omega⟩
  case round =>
    obtain ⟨i, i1, rfl, ⟨q, rfl, hq0⟩, A, rfl, hs, hA0⟩ := hrel
    have hA := hide hA0
    have hq := hide hq0
    clear hA0 hq0
    by_cases hlt : i < 4
    · have hcell : ((w.alloc (Obj.cells #[.bool false, .bool false, .bool false, .bool false] 23)).alloc (Obj.cells A 23)).cell? ⟨w.heap.size + 1, i, none⟩ = some (A[i]'(by omega)) := by
        rw [cell_of_row _ _ _ _ _ _ (heap_alloc2_new _ _ _)]; exact Array.getElem?_eq_getElem _
      have hi : i = 0 ∨ i = 1 ∨ i = 2 ∨ i = 3 := by omega
      rcases hi with rfl | rfl | rfl | rfl
      · go_wp2_with (go_at_call 135; refine (Tryz.strings_CutPrefix _ _ _).mono ?_; rintro e w' ⟨rfl, rfl⟩)
        go_roundg (gk - 1)
        case measure => omega
        case rel =>
          obtain ⟨e1, e2⟩ := set4 A hs (leftS s.data.toList) 0 hlt (Lib.hasPrefix q.data.toList [clc 0]) (by unfold leftS; rw [unhide hq]) (unhide hA)
          refine ⟨1, by omega, rfl, ⟨_, rfl, ?_⟩, _, rfl, e1, e2⟩
          show Lib.trimPrefix q.data.toList [clc 0] = Lib.trimPrefix (restS s.data.toList 0) [clc 0]
          rw [unhide hq]
      · go_wp2_with (go_at_call 135; refine (Tryz.strings_CutPrefix _ _ _).mono ?_; rintro e w' ⟨rfl, rfl⟩)
        go_roundg (gk - 1)
        case measure => omega
        case rel =>
          obtain ⟨e1, e2⟩ := set4 A hs (leftS s.data.toList) 1 hlt (Lib.hasPrefix q.data.toList [clc 1]) (by unfold leftS; rw [unhide hq]) (unhide hA)
          refine ⟨2, by omega, rfl, ⟨_, rfl, ?_⟩, _, rfl, e1, e2⟩
          show Lib.trimPrefix q.data.toList [clc 1] = Lib.trimPrefix (restS s.data.toList 1) [clc 1]
          rw [unhide hq]
      · go_wp2_with (go_at_call 135; refine (Tryz.strings_CutPrefix _ _ _).mono ?_; rintro e w' ⟨rfl, rfl⟩)
        go_roundg (gk - 1)
        case measure => omega
        case rel =>
          obtain ⟨e1, e2⟩ := set4 A hs (leftS s.data.toList) 2 hlt (Lib.hasPrefix q.data.toList [clc 2]) (by unfold leftS; rw [unhide hq]) (unhide hA)
          refine ⟨3, by omega, rfl, ⟨_, rfl, ?_⟩, _, rfl, e1, e2⟩
          show Lib.trimPrefix q.data.toList [clc 2] = Lib.trimPrefix (restS s.data.toList 2) [clc 2]
          rw [unhide hq]
      · go_wp2_with (go_at_call 135; refine (Tryz.strings_CutPrefix _ _ _).mono ?_; rintro e w' ⟨rfl, rfl⟩)
        go_roundg (gk - 1)
        case measure => omega
        case rel =>
          obtain ⟨e1, e2⟩ := set4 A hs (leftS s.data.toList) 3 hlt (Lib.hasPrefix q.data.toList [clc 3]) (by unfold leftS; rw [unhide hq]) (unhide hA)
          refine ⟨4, by omega, rfl, ⟨_, rfl, ?_⟩, _, rfl, e1, e2⟩
          show Lib.trimPrefix q.data.toList [clc 3] = Lib.trimPrefix (restS s.data.toList 3) [clc 3]
          rw [unhide hq]
    · have ei : i = 4 := by omega
      subst ei
      have eA := arr4 A hs _ (unhide hA)
      subst eA
      have hq2 := unhide hq
      have hemp : q.toList.isEmpty = (restS s.data.toList 4).isEmpty := by rw [← hq2, Lib.toList_data]
      have hse : s.toList.isEmpty = s.data.toList.isEmpty := by rw [Lib.toList_data]
      generalize hb1 : s.data.toList.isEmpty = b1 at hse
      generalize hb2 : (restS s.data.toList 4).isEmpty = b2 at hemp
      have hb1' := hide hb1
      have hb2' := hide hb2
      clear hb1 hb2 hq2
      cases b1 <;> cases b2
      all_goals
        go_wp2
        refine bodyPost_ret (v := .tuple #[.agg #[.bool (leftS s.data.toList 0), .bool (leftS s.data.toList 1), .bool (leftS s.data.toList 2), .bool (leftS s.data.toList 3)], .bool (!s.data.toList.isEmpty && (restS s.data.toList 4).isEmpty)]) (by rw [unhide hb1', unhide hb2']; simp [results, Tryz.results70, go_sem]) rfl ⟨rfl, ?_⟩
        repeat (first | exact Gr.refl _ | apply Gr.alloc)

/-- the third word: what it lets, if it has the form. -/
def castS (l : List UInt8) : Option (Nat → Bool) :=
  if l = [45] then some (fun _ => false) else if !l.isEmpty && (restS l 4).isEmpty then some (leftS l) else none

def CastleEnd (l : List UInt8) (e : Ending) : Prop := ∃ f : Nat → Bool, e = .returned (.tuple #[.agg #[.bool (f 0), .bool (f 1), .bool (f 2), .bool (f 3)], .bool (castS l).isSome]) ∧ ∀ g, castS l = some g → f = g

theorem castle_any (s : ByteArray) (w : World) : Calls Tryz.prog 70 #[.string s] w fun e w' => CastleEnd s.data.toList e ∧ Gr w w' := by
  by_cases h : s.toList = [45]
  · refine (castle_dash s h w).mono ?_
    rintro e w' ⟨rfl, hg⟩
    have e1 : castS s.data.toList = some (fun _ => false) := by unfold castS; rw [if_pos (by rw [← Lib.toList_data]; exact h)]
    exact ⟨⟨fun _ => false, by rw [e1]; rfl, fun g hg => by rw [e1] at hg; simpa using hg⟩, hg⟩
  · refine (castle_loop s (by simpa using h) w).mono ?_
    rintro e w' ⟨he, hg⟩
    have h' : ¬ s.data.toList = [45] := by rw [← Lib.toList_data]; exact h
    refine ⟨⟨leftS s.data.toList, ?_, ?_⟩, hg⟩
    · rw [he]
      congr 4
      unfold castS
      rw [if_neg h']
      cases (!s.data.toList.isEmpty && (restS s.data.toList 4).isEmpty) <;> rfl
    · intro g hg
      unfold castS at hg
      rw [if_neg h'] at hg
      cases hb : (!s.data.toList.isEmpty && (restS s.data.toList 4).isEmpty) with
      | true => rw [hb] at hg; simpa using hg
      | false => rw [hb] at hg; exact absurd hg (by simp)

end Go.Proofs.YtnfakamfmkhlbaaGreatDoor.C
