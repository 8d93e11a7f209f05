import Derived.Test.YtnfakamfmkhlbaaGreatDoorRows
import Derived.Test.YtnfakamfmkhlbaaGreatDoorKit
import Derived.Test.YtnfakamfmkhlbaaGreatDoorShelf
import Derived.WalkKit
import Derived.ProofKit
import Derived.OpenShut
import Derived.Outline
import Derived.WalkLawsBesides
import Derived.LoopTactic
import Derived.Deep.LoopGhost
import Derived.Deep.QuietTactic
import Derived.BigQuiet
import Derived.Below
import Derived.Laws.Rows
namespace Go.Proofs.YtnfakamfmkhlbaaGreatDoor.C
open Go.ChangeShapes Go.WideShapes Go.ChangeAt Go.RowKit

theorem ret2_int {k : IntKind} {a b : Int} {v : Value} (h : a = b) : Ending.returned (.tuple #[.int k a, v]) = .returned (.tuple #[.int k b, v]) := by rw [h]

/-! ### words -/
theorem side_any (s : ByteArray) (w : World) : Calls Tryz.prog 69 #[.string s] w fun e w' => e = .returned (.tuple #[.bool (s.toList == [119]), .bool (s.toList == [119] || s.toList == [98])]) ∧ w' = w := by
  by_cases h : s.toList = [119]
  · have e1 : (s.toList == [119]) = true := by simpa using h
    rw [e1]
    go_enter Tryz.func69, Tryz.ntmps69
    go_wp2
    go_ret2
    exact ⟨rfl, rfl⟩
  · have e1 : (s.toList == [119]) = false := by simpa using h
    rw [e1]
    go_enter Tryz.func69, Tryz.ntmps69
    go_wp2
    go_ret2
    exact ⟨rfl, rfl⟩

def sqS (s : ByteArray) : Option Nat :=
  if h : s.size = 2 then
    if 97 ≤ s[0].toNat ∧ s[0].toNat ≤ 104 ∧ 49 ≤ s[1].toNat ∧ s[1].toNat ≤ 56 then some (s[0].toNat - 97 + 8 * (s[1].toNat - 49)) else none
  else none

theorem square_no (s : ByteArray) (h : sqS s = none) (w : World) : Calls Tryz.prog 136 #[.string s] w fun e w' => e = .returned (.tuple #[.int .i64 0, .bool false]) ∧ w' = w := by
  unfold sqS at h
  have hh := hide h
  clear h
  by_cases h2 : s.size = 2
  · have hc : ¬ (97 ≤ s[0].toNat ∧ s[0].toNat ≤ 104 ∧ 49 ≤ s[1].toNat ∧ s[1].toNat ≤ 56) := by
      intro g
      have := unhide hh
      rw [dif_pos h2, if_pos g] at this
      exact absurd this (by simp)
    clear hh
    have hc' := hide hc
    clear hc
    go_enter Tryz.func136, Tryz.ntmps136
    go_wp2
    all_goals first | (go_ret2; exact ⟨rfl, rfl⟩) | (exfalso; have := unhide hc'; simp at *; omega)
  · clear hh
    go_enter Tryz.func136, Tryz.ntmps136
    go_wp2
    go_ret2
    exact ⟨rfl, rfl⟩

theorem square_yes (s : ByteArray) (n : Nat) (h : sqS s = some n) (w : World) : Calls Tryz.prog 136 #[.string s] w fun e w' => e = .returned (.tuple #[.int .i64 n, .bool true]) ∧ Gr w w' := by
  unfold sqS at h
  by_cases h2 : s.size = 2
  · rw [dif_pos h2] at h
    by_cases hc : 97 ≤ s[0].toNat ∧ s[0].toNat ≤ 104 ∧ 49 ≤ s[1].toNat ∧ s[1].toNat ≤ 56
    · rw [if_pos hc] at h
      obtain ⟨c1, c2, c3, c4⟩ := hc
      have hn : Hid (s[0].toNat - 97 + 8 * (s[1].toNat - 49) = n) := hide (by simpa using h)
      clear h
      go_enter Tryz.func136, Tryz.ntmps136
      go_wp2
      go_region
      all_goals
        go_wp2
        go_ret2
        exact ⟨ret2_int (by have := unhide hn; omega), (Gr.refl _).drew⟩
    · rw [if_neg hc] at h; exact absurd h (by simp)
  · rw [dif_neg h2] at h; exact absurd h (by simp)

def natI : Option Nat → Option Int
  | some n => some (n : Int)
  | none => none
def behS (s : ByteArray) : Option Int := if s.toList = [45] then some (-1) else natI (sqS s)

theorem behind_any (s : ByteArray) (w : World) : Calls Tryz.prog 71 #[.string s] w fun e w' => (∃ v : Int, e = .returned (.tuple #[.int .i64 v, .bool (behS s).isSome]) ∧ ∀ n, behS s = some n → v = n) ∧ Gr w w' := by
  by_cases h : s.toList = [45]
  · have e1 : behS s = some (-1) := by unfold behS; rw [if_pos h]
    rw [e1]
    go_enter Tryz.func71, Tryz.ntmps71
    go_wp2
    go_ret2
    exact ⟨⟨-1, rfl, fun n hn => by simpa using hn⟩, Gr.refl _⟩
  · have e0 : behS s = natI (sqS s) := by unfold behS; rw [if_neg h]
    have e9 : (s.toList == [45]) = false := by simpa using h
    clear h
    cases hs : sqS s with
    | none =>
      rw [hs] at e0
      rw [e0]
      have hs' := hide hs
      clear hs e0
      go_enter Tryz.func71, Tryz.ntmps71
      go_wp2_with (go_at_call 136; refine (square_no s (unhide hs') _).mono ?_; rintro e w' ⟨rfl, rfl⟩)
      go_ret2
      exact ⟨⟨0, rfl, fun n hn => by simp [natI] at hn⟩, Gr.refl _⟩
    | some m =>
      rw [hs] at e0
      rw [e0]
      have hs' := hide hs
      clear hs e0
      go_enter Tryz.func71, Tryz.ntmps71
      go_wp2_with (go_at_call 136; refine (square_yes s m (unhide hs') _).mono ?_; rintro e w' ⟨rfl, hg⟩)
      go_ret2
      exact ⟨⟨m, rfl, fun n hn => by simpa [natI] using hn⟩, hg⟩

/-! ### clocks -/
def dv (l : List UInt8) : Nat := l.foldl (fun n c => 10 * n + (c.toNat - 48)) 0
def dg (c : UInt8) : Bool := decide (48 ≤ c.toNat ∧ c.toNat ≤ 57)
def numS (d : Nat) (l : List UInt8) : Option Nat :=
  if 1 ≤ l.length ∧ l.length ≤ d ∧ (1 < l.length → l.head? ≠ some 48) ∧ l.all dg = true then some (dv l) else none
def clkS (l : List UInt8) : Option Nat :=
  if 1 ≤ l.length ∧ l.length ≤ 5 ∧ (1 < l.length → l.head? ≠ some 48) ∧ l.all dg = true ∧ dv l ≤ 65535 then some (dv l) else none
theorem clk_num (l : List UInt8) : clkS l = (numS 5 l).filter fun n => decide (n ≤ 65535) := by
  unfold clkS numS
  by_cases h : 1 ≤ l.length ∧ l.length ≤ 5 ∧ (1 < l.length → l.head? ≠ some 48) ∧ l.all dg = true
  · rw [if_pos h]
    by_cases g : dv l ≤ 65535
    · rw [if_pos ⟨h.1, h.2.1, h.2.2.1, h.2.2.2, g⟩]; simp [Option.filter, g]
    · rw [if_neg (fun x => g x.2.2.2.2)]; simp [Option.filter, g]
  · rw [if_neg h, if_neg (fun x => h ⟨x.1, x.2.1, x.2.2.1, x.2.2.2.1⟩)]; rfl

theorem dv_snoc (l : List UInt8) (c : UInt8) : dv (l ++ [c]) = 10 * dv l + (c.toNat - 48) := by
  unfold dv; rw [List.foldl_append]; rfl
theorem dv_lt : ∀ (n : Nat) (l : List UInt8), l.length = n → l.all dg = true → dv l < 10 ^ n := by
  intro n
  induction n with
  | zero => intro l h _; have : l = [] := List.length_eq_zero_iff.mp h; subst this; simp [dv]
  | succ n ih =>
    intro l h ha
    have hne : l ≠ [] := fun e => by subst e; simp at h
    have e := List.dropLast_concat_getLast hne
    rw [← e, dv_snoc]
    rw [← e, List.all_append] at ha
    simp only [Bool.and_eq_true, List.all_cons, List.all_nil, Bool.and_true] at ha
    have := ih l.dropLast (by simp [h]) ha.1
    have hd : (l.getLast hne).toNat ≤ 57 := by have := ha.2; simp [dg] at this; omega
    rw [Nat.pow_succ]
    omega
theorem take_snoc (s : ByteArray) (k : Nat) (h : k < s.size) : s.data.toList.take (k + 1) = s.data.toList.take k ++ [s[k]] := by
  rw [List.take_succ_eq_append_getElem (by simpa using h)]; rfl
theorem head_0 (s : ByteArray) (h : 0 < s.size) : s.data.toList.head? = some s[0] := by
  have := take_snoc s 0 h
  cases e : s.data.toList with
  | nil => rw [e] at this; simp at this
  | cons a r => rw [e] at this; simp at this; simp [this]

theorem not_all (s : ByteArray) (k : Nat) (h : k < s.size) (hd : dg s[k] = false) : s.data.toList.all dg = false := by
  rw [← List.take_append_drop (k + 1) s.data.toList, take_snoc s k h, List.all_append, List.all_append]
  simp only [List.all_cons, List.all_nil, hd, Bool.false_and, Bool.and_false]
def ClkEnd (s : ByteArray) (e : Ending) : Prop := ∃ v : Int, e = .returned (.tuple #[.int .i64 v, .bool (clkS s.data.toList).isSome]) ∧ ∀ n, clkS s.data.toList = some n → v = (n : Int)
theorem ClkEnd.none {s : ByteArray} (h : clkS s.data.toList = none) : ClkEnd s (.returned (.tuple #[.int .i64 0, .bool false])) := ⟨0, by rw [h]; rfl, fun n hn => by rw [h] at hn; exact absurd hn (by simp)⟩

def NumEnd (d : Nat) (s : ByteArray) (e : Ending) : Prop := e = .returned (.tuple #[.int .i64 (((numS d s.data.toList).getD 0 : Nat) : Int), .bool (numS d s.data.toList).isSome])
theorem NumEnd.none {d : Nat} {s : ByteArray} (h : numS d s.data.toList = none) : NumEnd d s (.returned (.tuple #[.int .i64 0, .bool false])) := by unfold NumEnd; rw [h]; rfl

theorem number_ends (d : Nat) (_hd9 : d ≤ 9) (s : ByteArray) (hs : s.size ≤ maxLen) (h : s.size < 1 ∨ d < s.size ∨ (1 < s.size ∧ s.data.toList.head? = some 48)) (w : World) : Calls Tryz.prog 137 #[.string s, .int .i64 (d : Int)] w fun e w' => NumEnd d s e ∧ w' = w := by
  have hno : numS d s.data.toList = none := by
    unfold numS
    rw [if_neg]
    rintro ⟨g1, g2, g3, _⟩
    simp only [Array.length_toList, ByteArray.size_data] at g1 g2 g3
    rcases h with h | h | h
    · omega
    · omega
    · exact g3 h.1 h.2
  have hend := hide (NumEnd.none hno)
  clear hno
  unfold maxLen at hs
  by_cases c1 : s.size < 1
  · go_enter Tryz.func137, Tryz.ntmps137
    go_wp2
    go_ret2
    exact ⟨unhide hend, rfl⟩
  · by_cases c2 : d < s.size
    · go_enter Tryz.func137, Tryz.ntmps137
      go_wp2
      go_ret2
      exact ⟨unhide hend, rfl⟩
    · have c3 : 1 < s.size := by omega
      have c4 : s[0] = 48 := by
        rcases h with h | h | h
        · omega
        · omega
        · have := head_0 s (by omega); rw [h.2] at this; simpa using this.symm
      have c5 : s[0].toNat = 48 := by rw [c4]; rfl
      clear h c4
      go_enter Tryz.func137, Tryz.ntmps137
      go_wp2
      go_ret2
      exact ⟨unhide hend, rfl⟩

set_option maxHeartbeats 1000000 in
theorem number_loop (d : Nat) (hd9 : d ≤ 9) (s : ByteArray) (h1 : 1 ≤ s.size) (h5 : s.size ≤ d) (h0 : s.size ≤ 1 ∨ s.data.toList.head? ≠ some 48) (w : World) : Calls Tryz.prog 137 #[.string s, .int .i64 (d : Int)] w fun e w' => NumEnd d s e ∧ w' = w := by
  have hbad : Hid (∀ k (h : k < s.size), dg s[k] = false → NumEnd d s (.returned (.tuple #[.int .i64 0, .bool false]))) := by
    intro k h hd
    apply NumEnd.none
    unfold numS
    rw [if_neg]
    rintro ⟨_, _, _, g⟩
    rw [not_all s k h hd] at g
    exact absurd g (by decide)
  have hgood : Hid (s.data.toList.all dg = true → NumEnd d s (.returned (.tuple #[.int .i64 (dv s.data.toList), .bool true]))) := by
    intro hall
    have hz : 1 ≤ s.data.toList.length ∧ s.data.toList.length ≤ d ∧ (1 < s.data.toList.length → s.data.toList.head? ≠ some 48) := by
      simp only [Array.length_toList, ByteArray.size_data]
      exact ⟨h1, h5, fun h => h0.resolve_left (by omega)⟩
    unfold NumEnd
    have : numS d s.data.toList = some (dv s.data.toList) := by
      unfold numS
      rw [if_pos ⟨hz.1, hz.2.1, hz.2.2, hall⟩]
    rw [this]; rfl
  have hz : s.size ≤ 1 ∨ ((s[0].toNat : Int) == 48) = false := by
    rcases h0 with h0 | h0
    · exact Or.inl h0
    · right
      have := head_0 s (by omega)
      rw [this] at h0
      have : s[0] ≠ 48 := fun e => h0 (by rw [e])
      simp only [beq_eq_false_iff_ne]
      intro e
      exact this (UInt8.toNat_inj.mp (by simp; omega))
  clear h0
  by_cases hz1 : s.size ≤ 1
  all_goals
    have hz2 : 1 < s.size → ((s[0].toNat : Int) == 48) = false := fun h => hz.resolve_left (by omega)
    clear hz
    try have hz3 := hz2 (by omega)
    clear hz2
    have hds : decide (d < s.size) = false := by simp; omega
    go_enter Tryz.func137, Tryz.ntmps137
    go_wp2
    go_loopg [6, 29] s.size (fun g n i wr => ∃ k : Nat, k + g = s.size ∧ i = .int .i64 k ∧ n = .int .i64 (dv (s.data.toList.take k)) ∧ (s.data.toList.take k).all dg = true ∧ wr = w)
    case atStart => exact ⟨0, by omega, rfl, rfl, rfl, rfl⟩
    case round =>
      obtain ⟨k, k1, rfl, rfl, hall, rfl⟩ := hrel
      have hb := dv_lt k (s.data.toList.take k) (by simp; omega) hall
      have hall' := hide hall
      clear hall
      by_cases hlt : k < s.size
      · have hb' : 10 ^ k ≤ 10 ^ 8 := Nat.pow_le_pow_right (by omega) (by omega)
        have hbb : dv (s.data.toList.take k) ≤ 99999999 := by omega
        clear hb hb'
        have hts := hide (take_snoc s k hlt)
        generalize hd : dv (s.data.toList.take k) = dd at hbb
        have hd' := hide hd
        clear hd
        by_cases c1 : s[k].toNat < 48
        · go_wp2
          go_ret2
          exact ⟨unhide hbad k hlt (by simp [dg]; omega), rfl⟩
        · by_cases c2 : 57 < s[k].toNat
          · go_wp2
            go_ret2
            exact ⟨unhide hbad k hlt (by simp [dg]; omega), rfl⟩
          · go_wp2
            go_roundg (gk - 1)
            case measure => omega
            case rel =>
              refine ⟨k + 1, by omega, by go_num, ?_, ?_, rfl⟩
              · rw [unhide hts, dv_snoc, unhide hd']
                congr 1
                omega
              · rw [unhide hts, List.all_append, unhide hall']
                simp [dg]; omega
      · have ek : k = s.size := by omega
        subst ek
        have hfull : s.data.toList.take s.size = s.data.toList := List.take_of_length_le (by simp)
        rw [hfull] at hall' hb ⊢
        clear hfull
        have hend := hide (unhide hgood (unhide hall'))
        clear hgood hall' hbad
        generalize dv s.data.toList = dd at hend hb ⊢
        have hb5 : dd < 1000000000 := by have : 10 ^ s.size ≤ 10 ^ 9 := Nat.pow_le_pow_right (by omega) (by omega); omega
        clear hb
        go_wp2
        go_ret2
        exact ⟨unhide hend, rfl⟩

theorem number_any (d : Nat) (hd9 : d ≤ 9) (s : ByteArray) (hs : s.size ≤ maxLen) (w : World) : Calls Tryz.prog 137 #[.string s, .int .i64 (d : Int)] w fun e w' => NumEnd d s e ∧ w' = w := by
  by_cases h : s.size < 1 ∨ d < s.size ∨ (1 < s.size ∧ s.data.toList.head? = some 48)
  · exact number_ends d hd9 s hs h w
  · exact number_loop d hd9 s (by omega) (by omega) (by
      by_cases g : s.size ≤ 1
      · exact Or.inl g
      · exact Or.inr fun e => h (Or.inr (Or.inr ⟨by omega, e⟩))) w
theorem numS_lt (d : Nat) (hd9 : d ≤ 9) (l : List UInt8) : (numS d l).getD 0 < 1000000000 := by
  unfold numS
  split
  · rename_i h
    have := dv_lt l.length l rfl h.2.2.2
    have h2 : 10 ^ l.length ≤ 10 ^ 9 := Nat.pow_le_pow_right (by omega) (by omega)
    show dv l < _
    omega
  · decide

theorem clock_any (s : ByteArray) (hs : s.size ≤ maxLen) (w : World) : Calls Tryz.prog 72 #[.string s] w fun e w' => ClkEnd s e ∧ w' = w := by
  have hnum := hide (number_any 5 (by omega) s hs w)
  have hend : Hid (ClkEnd s (.returned (.tuple #[.int .i64 (((numS 5 s.data.toList).getD 0 : Nat) : Int), .bool ((numS 5 s.data.toList).isSome && decide (((numS 5 s.data.toList).getD 0 : Int) ≤ 65535))]))) := by
    refine ⟨(((numS 5 s.data.toList).getD 0 : Nat) : Int), ?_, ?_⟩
    · congr 4
      rw [clk_num]
      cases h : numS 5 s.data.toList with
      | none => rfl
      | some n => by_cases g : n ≤ 65535 <;> simp [Option.filter, g] <;> omega
    · intro n hn
      rw [clk_num] at hn
      cases h : numS 5 s.data.toList with
      | none => rw [h] at hn; exact absurd hn (by simp [Option.filter])
      | some m =>
        rw [h] at hn
        simp only [Option.filter] at hn
        split at hn
        · simp only [Option.some.injEq] at hn; rw [hn]; rfl
        · exact absurd hn (by simp)
  unfold NumEnd at hnum
  have hlt := numS_lt 5 (by omega) s.data.toList
  generalize (numS 5 s.data.toList).getD 0 = v at hnum hend hlt
  generalize (numS 5 s.data.toList).isSome = b at hnum hend
  by_cases hv : v ≤ 65535
  · cases b
    all_goals
      go_enter Tryz.func72, Tryz.ntmps72
      go_wp2_with (go_at_call 137; refine (unhide hnum).mono ?_; rintro e w' ⟨rfl, rfl⟩)
      go_ret2
      exact ⟨by have := unhide hend; simpa [hv, show ((v : Int) ≤ 65535) from by omega] using this, rfl⟩
  · cases b
    all_goals
      go_enter Tryz.func72, Tryz.ntmps72
      go_wp2_with (go_at_call 137; refine (unhide hnum).mono ?_; rintro e w' ⟨rfl, rfl⟩)
      go_ret2
      exact ⟨by have := unhide hend; simpa [hv, show ¬ ((v : Int) ≤ 65535) from by omega] using this, rfl⟩

end Go.Proofs.YtnfakamfmkhlbaaGreatDoor.C
