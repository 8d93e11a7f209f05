import Derived.Test.YtnfakamfmkhlbaaGreatDoorWr1
import Derived.Maps.AppendAt
namespace Go.Proofs.YtnfakamfmkhlbaaGreatDoor.C
open Go.ChangeShapes Go.WideShapes Go.ChangeAt Go.RowKit
attribute [local go_sem] setCell_drewN alloc_drewN

theorem infoB : (Tryz.prog.info? 5).map (fun i => (i.zero, i.size, i.bytes)) = some (some (.int .u8 0), 1, 1) := by kernel_rfl
def bcells (l : List UInt8) : List Value := l.map (fun c => Value.int .u8 (c.toNat : Int))
def Txt (base : Nat) (v : Value) (l : List UInt8) (w : World) : Prop := w.ownsRow base 5 1 v l.length (bcells l)

theorem txt_block {base : Nat} {v : Value} {l : List UInt8} {w : World} (h : Txt base v l w) : ∀ k, v.ownBlock = some k → base ≤ k := by
  intro k hk
  rcases h.2 with ⟨rfl, _⟩ | ⟨g, cap, cur, rfl, hg, _⟩
  · simp [Value.ownBlock] at hk
  · simp [Value.ownBlock] at hk; omega

theorem gap_zero (v : Value) (w : World) : Calls Tryz.prog 226 #[v, .int .i64 0] w fun e w' => e = .returned v ∧ w' = w := by
  go_enter Tryz.func226, Tryz.ntmps226
  go_wp2
  go_ret
  exact ⟨rfl, rfl⟩

def gapS (g : Nat) : List UInt8 := if g = 0 then [] else [UInt8.ofNat (48 + g)]

set_option maxHeartbeats 1000000 in
theorem gap_some (base : Nat) (v : Value) (l : List UInt8) (hl : l.length ≤ 64) (g : Nat) (h1 : 1 ≤ g) (h9 : g ≤ 9) (w : World) (hb : base ≤ w.heap.size) (ht : Txt base v l w) :
    Calls Tryz.prog 226 #[v, .int .i64 g] w fun e w' => ∃ v', e = .returned v' ∧ Txt base v' (l ++ [UInt8.ofNat (48 + g)]) w' ∧ Below base w w' := by
  have ht' := hide ht
  clear ht
  obtain ⟨i0, hi, hz0, hz1, hz2⟩ := info_parts infoB
  have hne : ((g : Int) == 0) = false := by simp; omega
  have hu : Hid (((UInt8.ofNat (48 + g)).toNat : Int) = 48 + (g : Int)) := hide (by simp; omega)
  go_enter Tryz.func226, Tryz.ntmps226
  go_wp2_with (at_builtin; refine wpList_append_own _ rfl (.tmp 8) (.tmp 12) 101 rfl base 5 i0 (.int .u8 0) 1 1 Tryz.underlying101 hi hz0 hz1 hz2 rfl (by decide) v l.length (bcells l) rfl ((unhide ht').alloc _) ⟨w.heap.size, 0, none⟩ 1 1 [.int .u8 (48 + (g : Int))] rfl rfl (cell_one_new _ _ _) (by simp [Value.oneCell']) (by unfold maxLen; omega) (by omega) (by simp; omega) ?_; intro v' w1 hown' hgrow hnil)
  go_ret
  refine ⟨v', rfl, ?_, ?_⟩
  · unfold Txt bcells
    rw [List.map_append, List.length_append]
    show World.ownsRow _ _ _ _ _ _ (_ ++ [Value.int .u8 _])
    rw [unhide hu]
    exact hown'
  · exact ((Below.refl base w).alloc hb _).grown hgrow (by simp; omega) (txt_block (unhide ht'))

theorem gap_any (base : Nat) (v : Value) (l : List UInt8) (hl : l.length ≤ 64) (g : Nat) (h9 : g ≤ 9) (w : World) (hb : base ≤ w.heap.size) (ht : Txt base v l w) :
    Calls Tryz.prog 226 #[v, .int .i64 g] w fun e w' => ∃ v', e = .returned v' ∧ Txt base v' (l ++ gapS g) w' ∧ Below base w w' := by
  by_cases h0 : g = 0
  · subst h0
    refine (gap_zero v w).mono ?_
    rintro e w' ⟨rfl, rfl⟩
    exact ⟨v, rfl, by simpa [gapS] using ht, Below.refl _ _⟩
  · have e : gapS g = [UInt8.ofNat (48 + g)] := by unfold gapS; rw [if_neg h0]
    rw [e]
    exact gap_some base v l hl g (by omega) h9 w hb ht

def wrK (z : Nat → UInt8) : Nat → List UInt8 × Nat
  | 0 => ([], 0)
  | k + 1 => if z k = 46 then ((wrK z k).1, (wrK z k).2 + 1) else ((wrK z k).1 ++ gapS (wrK z k).2 ++ [z k], 0)
theorem wrK_bd (z : Nat → UInt8) : ∀ k, (wrK z k).1.length ≤ 2 * k ∧ (wrK z k).2 ≤ k
  | 0 => ⟨Nat.le_refl _, Nat.le_refl _⟩
  | k + 1 => by
      have h := wrK_bd z k
      unfold wrK
      have hg : (gapS (wrK z k).2).length ≤ 1 := by unfold gapS; split <;> simp
      split
      · exact ⟨by simp; omega, by simp; omega⟩
      · exact ⟨by simp; omega, by simp⟩
def wrankS (z : Nat → UInt8) : List UInt8 := (wrK z 8).1 ++ gapS (wrK z 8).2

theorem conv_nil (w : World) : (convert 101 9 (.slice none 0 0)).run Tryz.prog w = .ok (.string ⟨#[]⟩) w := by kernel_rfl

theorem txt_conv {base : Nat} {v : Value} {l : List UInt8} {w : World} (h : Txt base v l w) : (convert 101 9 v).run Tryz.prog w = .ok (.string ⟨l.toArray⟩) w := by
  rcases h.2 with ⟨rfl, hn⟩ | ⟨g, cap, cur, rfl, hg, hh, hn, hc, hs, ht⟩
  · have : l = [] := List.length_eq_zero_iff.mp hn
    subst this
    exact conv_nil w
  · refine conv_bytes w ⟨g, 0, none⟩ cap l (fun i hi => ?_)
    rw [Addr.add_lit, Nat.zero_add, cell_of_row _ _ _ _ _ _ hh]
    have : cur.toList[i]? = (cur.toList.take (l.length * 1))[i]? := by rw [List.getElem?_take, if_pos (by omega)]
    rw [← Array.getElem?_toList, this, ht]
    simp [bcells, hi]

set_option maxRecDepth 10000 in
set_option maxHeartbeats 2000000 in
theorem wrank_any (z : Nat → UInt8) (b o c : Nat) (w : World) (hb : b < w.heap.size) (hz : ∀ i, i < 8 → w.cell? ⟨b, o + i, none⟩ = some (.int .u8 ((z i).toNat : Int))) :
    Calls Tryz.prog 150 #[.slice (some ⟨b, o, none⟩) 8 c] w fun e w' => e = .returned (.string ⟨(wrankS z).toArray⟩) ∧ Gr w w' := by
  have hz' := hide hz
  clear hz
  obtain ⟨i0, hi, hz0, hz1, hz2⟩ := info_parts infoB
  have hi' := hide hi
  clear hi
  go_enter Tryz.func150, Tryz.ntmps150
  go_wp2
  go_loopg [3, 4, 9] 8 (fun G t g i wr => ∃ k : Nat, k + G = 8 ∧ i = .int .i64 k ∧ g = .int .i64 (wrK z k).2 ∧ Txt w.heap.size t (wrK z k).1 wr ∧ Below w.heap.size w wr)
  case atStart => exact ⟨0, rfl, rfl, rfl, ⟨rfl, Or.inl ⟨rfl, rfl⟩⟩, Below.refl _ _⟩
  case round =>
    obtain ⟨k, k1, rfl, rfl, ht0, hbe0⟩ := hrel
    have ht := hide ht0
    have hbe := hide hbe0
    clear ht0 hbe0
    have hbd := wrK_bd z k
    by_cases hlt : k < 8
    · have hcell : wr.cell? ⟨b, o + k, none⟩ = some (.int .u8 ((z k).toNat : Int)) := (Below.cell (unhide hbe) (p := ⟨b, o + k, none⟩) hb).trans (unhide hz' k hlt)
      by_cases h46 : z k = 46
      · have hst : Hid (wrK z (k + 1) = ((wrK z k).1, (wrK z k).2 + 1)) := hide (by rw [wrK, if_pos h46])
        have hnn : ((z k).toNat : Int) = 46 := by rw [h46]; rfl
        rw [hnn] at hcell
        clear hnn h46
        go_wp2
        go_roundg (gk - 1)
        case measure => omega
        case rel => exact ⟨k + 1, by omega, by go_num, by rw [unhide hst]; go_num, by rw [unhide hst]; exact unhide ht, unhide hbe⟩
      · have hst : Hid (wrK z (k + 1) = ((wrK z k).1 ++ gapS (wrK z k).2 ++ [z k], 0)) := hide (by rw [wrK, if_neg h46])
        have hnn : (((z k).toNat : Int) == 46) = false := by
          simp only [beq_eq_false_iff_ne]
          intro e
          exact h46 (UInt8.toNat_inj.mp (by simp; omega))
        clear h46
        go_wp2_with fail
        refine (gap_any w.heap.size _ _ (by omega) _ (by omega) _ (Below.size (unhide hbe)) (unhide ht)).mono ?_
        rintro e w1 ⟨v1, rfl, ht1, hb1⟩
        have hs1 : w.heap.size ≤ w1.heap.size := by have := Below.size (unhide hbe); have := Below.size hb1; omega
        have hgl : (gapS (wrK z k).2).length ≤ 1 := by unfold gapS; split <;> simp
        have hll : ((wrK z k).1 ++ gapS (wrK z k).2).length ≤ 40 := by simp; omega
        have ht1' := hide ht1
        have hb1' := hide ((unhide hbe).trans hb1)
        clear ht1 hb1 hcell hgl
        go_wp2_with (at_builtin; refine wpList_append_own _ rfl (.tmp 19) (.tmp 21) 101 rfl w.heap.size 5 i0 (.int .u8 0) 1 1 Tryz.underlying101 (unhide hi') hz0 hz1 hz2 rfl (by decide) v1 _ _ rfl ((unhide ht1').alloc _) ⟨w1.heap.size, 0, none⟩ 1 1 [.int .u8 ((z k).toNat : Int)] rfl rfl (cell_one_new _ _ _) (by simp [Value.oneCell']) (by unfold maxLen; omega) (by omega) (by simp; omega) ?_; intro v' w2 hown' hgrow hnil)
        have hT : Hid (Txt w.heap.size v' (wrK z (k + 1)).1 w2) := hide (by
          rw [unhide hst]
          unfold Txt bcells
          rw [List.map_append, List.length_append]
          exact hown')
        have hB : Hid (Below w.heap.size w w2) := hide (((unhide hb1').alloc hs1 _).grown hgrow (by simp; omega) (txt_block (unhide ht1')))
        clear hown' hgrow hnil
        go_wp2
        go_roundg (gk - 1)
        case measure => omega
        case rel => exact ⟨k + 1, by omega, by go_num, by rw [unhide hst]; rfl, unhide hT, unhide hB⟩
    · have ek : k = 8 := by omega
      subst ek
      go_wp2_with fail
      refine (gap_any w.heap.size _ _ (by omega) _ (by omega) _ (Below.size (unhide hbe)) (unhide ht)).mono ?_
      rintro e w1 ⟨v1, rfl, ht1, hb1⟩
      have hcv := txt_conv ht1
      have hB := hide ((unhide hbe).trans hb1)
      clear ht1 hb1
      go_wp2
      go_ret
      exact ⟨rfl, unhide hB⟩

end Go.Proofs.YtnfakamfmkhlbaaGreatDoor.C
