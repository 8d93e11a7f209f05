import Derived.Test.YtnfakamfmkhlbabDoorMagR
namespace Go.Proofs.YtnfakamfmkhlbabDoor.P

theorem len_le {α : Type} [DecidableEq α] : ∀ (l m : List α), l.Nodup → (∀ a ∈ l, a ∈ m) → l.length ≤ m.length
  | [], _, _, _ => Nat.zero_le _
  | a :: l, m, hn, hs => by
      obtain ⟨h1, h2⟩ := List.nodup_cons.1 hn
      have hm := hs a (List.mem_cons_self ..)
      have := len_le l (m.erase a) h2 (fun b hb => (List.mem_erase_of_ne (fun e => h1 (by rw [← e]; exact hb))).2 (hs b (List.mem_cons_of_mem _ hb)))
      rw [List.length_erase_of_mem hm] at this
      have hp : 0 < m.length := List.length_pos_of_mem hm
      simp only [List.length_cons]
      omega
theorem subs_ge (s : BitVec 64) : ∀ n p q, s.toNat - p.toNat ≤ n → p &&& s = p → q ∈ subs s p → p.toNat ≤ q.toNat := by
  intro n
  induction n with
  | zero =>
    intro p q h1 h hq
    have e : p = s := BitVec.eq_of_toNat_eq (by have := sub_le h; omega)
    subst e
    rw [subs_last] at hq
    rw [List.mem_singleton.mp hq]; exact Nat.le_refl _
  | succ n ih =>
    intro p q h1 h hq
    by_cases e : p = s
    · subst e; rw [subs_last] at hq; rw [List.mem_singleton.mp hq]; exact Nat.le_refl _
    · have hg := nxt_gt s p h e
      have hl := sub_le (nxt_sub s p)
      rw [subs_step s p h e] at hq
      rcases List.mem_cons.mp hq with rfl | hq
      · exact Nat.le_refl _
      · have := ih (nxt s p) q (by omega) (nxt_sub s p) hq
        omega
theorem subs_nodup (s : BitVec 64) : ∀ n p, s.toNat - p.toNat ≤ n → p &&& s = p → (subs s p).Nodup := by
  intro n
  induction n with
  | zero =>
    intro p h1 h
    have e : p = s := BitVec.eq_of_toNat_eq (by have := sub_le h; omega)
    subst e
    rw [subs_last]; simp
  | succ n ih =>
    intro p h1 h
    by_cases e : p = s
    · subst e; rw [subs_last]; simp
    · have hg := nxt_gt s p h e
      have hl := sub_le (nxt_sub s p)
      rw [subs_step s p h e, List.nodup_cons]
      refine ⟨fun hm => ?_, ih (nxt s p) (by omega) (nxt_sub s p)⟩
      have := subs_ge s _ (nxt s p) p (Nat.le_refl _) (nxt_sub s p) hm
      omega
theorem subs_len (k x : Nat) (hk : k = 4 ∨ k = 5) (hx : x < 64) : (subs (mtr k x) 0#64).length ≤ 4096 := by
  have h1 : (mtrR k x).length ≤ 12 := by
    have := mtrR_len x hx
    rcases hk with rfl | rfl
    · exact this.2.2.1
    · exact this.2.2.2.1
  have h2 := len_le (subs (mtr k x) 0#64) ((List.range (2 ^ (mtrR k x).length)).map (setR k x)) (subs_nodup _ _ _ (Nat.le_refl _) BitVec.zero_and) (fun t ht => by
    obtain ⟨c, c1, c2⟩ := setR_all k x hk hx t (subs_sub _ _ _ _ (Nat.le_refl _) BitVec.zero_and ht)
    exact List.mem_map.2 ⟨c, List.mem_range.2 c1, c2⟩)
  rw [List.length_map, List.length_range] at h2
  exact Nat.le_trans h2 (Nat.pow_le_pow_right (by decide) h1)
theorem bits_le (k x : Nat) (hk : k = 4 ∨ k = 5) (hx : x < 64) : 1 ≤ (sqs (mtr k x)).length ∧ (sqs (mtr k x)).length ≤ 12 := by
  have := mtrR_len x hx
  rcases hk with rfl | rfl
  · rw [← this.1]; exact ⟨this.2.2.2.2.1, this.2.2.1⟩
  · rw [← this.2.1]; exact ⟨this.2.2.2.2.2, this.2.2.2.1⟩

end Go.Proofs.YtnfakamfmkhlbabDoor.P
