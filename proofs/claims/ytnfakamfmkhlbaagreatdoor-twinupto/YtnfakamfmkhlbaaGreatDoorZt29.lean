import Derived.Test.YtnfakamfmkhlbaaGreatDoorZt28
import Derived.Test.YtnfakamfmkhlbaaGreatDoorZt26
namespace Go.Proofs.YtnfakamfmkhlbaaGreatDoor.C

open Go.RowKit

open Go.Proofs.YtnfakamfmkhlbaaGreatDoor.P

theorem sqs_mem {s : BitVec 64} {n : Nat} : n ∈ sqs s ↔ n < 64 ∧ s.getLsbD n = true := by
  unfold sqs; rw [List.mem_filter, List.mem_range]

/-- a move of a position, as it is aimed at. -/
theorem alU_mem {z : Nat → UInt8} {wh : Bool} {fc : Nat → Bool} {b : Int} (hC : Can z wh fc b) {x : Mv} : x ∈ alU z wh fc b 64 ↔ ∃ i f t u, x = (f, t, u) ∧ i < 6 ∧ f < 64 ∧ t < 64 ∧ ixc (z f) = ((bg wh + i : Nat) : Int) ∧ t ∈ tgL z wh fc b f ∧ (f, t, u) ∈ turnsB (decide (i = 0)) f t := by
  unfold alU alS
  rw [List.mem_flatMap]
  constructor
  · rintro ⟨f, hf, h⟩
    have hf := List.mem_range.1 hf
    split at h
    · rename_i hm
      rw [man_co (lay_ok hC.ok hf), decide_eq_true_eq] at hm
      obtain ⟨i, hi, e1, _⟩ := ix_of_co hm
      obtain ⟨t, ht, h⟩ := List.mem_flatMap.1 h
      unfold alF at h
      rw [(pk_is hi e1).1] at h
      obtain ⟨u, rfl, _, _⟩ := turn_u h
      have ht64 : t < 64 := by
        unfold tgL at ht
        rw [List.mem_append, List.mem_filter] at ht
        rcases ht with ⟨a, _⟩ | ht
        · exact att_lt hf a
        · obtain ⟨hp, hk⟩ := pk_is hi e1
          rw [hp, hk] at ht
          by_cases e0 : i = 0
          · rw [decide_eq_true e0, if_pos rfl, ah_list hf (hC.pw wh f hf (by rw [e1, e0]; rfl))] at ht
            have hr := hC.pw wh f hf (by rw [e1, e0]; rfl)
            rcases ht with ⟨a, _⟩ | ⟨a, c, _⟩
            · rw [a]; unfold fw; split <;> omega
            · rw [c]; unfold startR at a; unfold fw; cases wh <;> simp at a <;> simp <;> omega
          · rw [decide_eq_false e0, if_neg (by simp)] at ht
            by_cases e5 : i = 5
            · subst e5
              rw [decide_eq_true rfl, if_pos rfl] at ht
              obtain ⟨h1, h2⟩ := king_home hC hf e1
              rcases List.mem_append.1 ht with ht | ht
              · unfold cgR at ht
                split at ht
                · rename_i hh
                  rw [Bool.and_eq_true] at hh
                  rw [List.mem_singleton.1 ht, h1 hh.1]
                  cases wh <;> decide
                · cases ht
              · unfold cgM at ht
                split at ht
                · rw [List.mem_singleton.1 ht]; omega
                · cases ht
            · rw [decide_eq_false e5, if_neg (by simp)] at ht; cases ht
      exact ⟨i, f, t, u, rfl, hi, hf, ht64, e1, ht, h⟩
    · cases h
  · rintro ⟨i, f, t, u, rfl, hi, hf, ht, hc, hm, hu⟩
    refine ⟨f, List.mem_range.2 hf, ?_⟩
    rw [if_pos (by rw [man_co (lay_ok hC.ok hf)]; exact decide_eq_true (coc_ix hi hc))]
    refine List.mem_flatMap.2 ⟨t, hm, ?_⟩
    unfold alF
    rw [(pk_is hi hc).1]; exact hu

/-- legal in one way just if in the other. -/
theorem legal_same {z : Nat → UInt8} {wh : Bool} {fc : Nat → Bool} {b : Int} (hC : Can z wh fc b) (h0 : -1 ≤ b) (h1 : b ≤ 63) {i f t : Nat} {u : UInt8} (hi : i < 6) (hf : f < 64) (ht : t < 64) (hc : ixc (z f) = ((bg wh + i : Nat) : Int)) (hm : t ∈ tgL z wh fc b f) (hu : (f, t, u) ∈ turnsB (decide (i = 0)) f t) :
    (∃ y : Nat, y < 64 ∧ kingR (plZ z b (f, t, u)) wh = (y : Int)) ∧ legalB (layS z 64) wh (behB b) i f t = letP z wh b (f, t, u) := by
  rcases classify hC hi hf ht hc hm hu with ⟨hP, kg⟩ | ⟨ci, hK', e1, e2, e3, e4⟩
  · exact legal_plain hP kg hC.ok (hC.k1 wh) h0 h1
  · subst e1 e2 e3 e4
    obtain ⟨a1, a2⟩ := cas_letters hC (b := b) hK'
    exact ⟨⟨casT ci, ht, a1⟩, by rw [a2, cas_sets hC h0 h1 hK']⟩

/-- what the way of letters asks of a position. -/
theorem letOk_of {z : Nat → UInt8} {wh : Bool} {fc : Nat → Bool} {b : Int} (hC : Can z wh fc b) (h0 : -1 ≤ b) (h1 : b ≤ 63) : LetOk z wh fc b := by
  have king : ∀ f t u, (f, t, u) ∈ alU z wh fc b 64 → kingB (z f) = true → (t = f + 2 ∨ t + 2 = f) → f = 4 ∨ f = 60 := fun f t u hx hk he => by
    obtain ⟨i, f', t', u', e, hi, hf, ht, hc, hm, hu⟩ := (alU_mem hC).1 hx
    have e1 : f = f' := by injection e
    have e2 : t = t' := by injection e with _ e; injection e
    have e3 : u = u' := by injection e with _ e; injection e
    subst e1 e2 e3
    rcases classify hC hi hf ht hc hm hu with ⟨hP, kg⟩ | ⟨ci, hK', e1, _, _, _⟩
    · rw [(pk_is hi hc).2, decide_eq_true_eq] at hk
      have := kg hk
      omega
    · rw [e1]; unfold hK; split <;> omega
  refine ⟨fun f hf hm hk hfc => ?_, fun f t u hx hk he => ?_, fun f t u hx hk he => ?_, fun x hx => ?_⟩
  · rw [man_co (lay_ok hC.ok hf), decide_eq_true_eq] at hm
    obtain ⟨i, hi, e1, _⟩ := ix_of_co hm
    rw [(pk_is hi e1).2, decide_eq_true_eq] at hk
    subst hk
    obtain ⟨h1, h2⟩ := king_home hC hf e1
    rw [Bool.or_eq_true] at hfc
    rcases hfc with e | e
    · rw [h1 e]; cases wh <;> decide
    · rw [h2 e]; cases wh <;> decide
  · have := king f t u hx hk (.inl he); omega
  · have := king f t u hx hk (.inr he); omega
  · obtain ⟨i, f, t, u, rfl, hi, hf, ht, hc, hm, hu⟩ := (alU_mem hC).1 hx
    exact (legal_same hC h0 h1 hi hf ht hc hm hu).1

/-- both ways find the same. -/
theorem same_mem {z : Nat → UInt8} {wh : Bool} {fc : Nat → Bool} {b : Int} (hC : Can z wh fc b) (h0 : -1 ≤ b) (h1 : b ≤ 63) (x : Mv) : x ∈ letL z wh fc b ↔ x ∈ movS z wh fc b := by
  have hbg := bg_two wh
  unfold letL movS uptoS placeS fromS toS
  rw [List.mem_filter, alU_mem hC]
  simp only [List.mem_flatMap, List.mem_range, sqs_mem]
  constructor
  · rintro ⟨⟨i, f, t, u, rfl, hi, hf, ht, hc, hm, hu⟩, hl⟩
    refine ⟨i, hi, f, ⟨hf, by rw [lay64 z _ f hf]; exact decide_eq_true hc⟩, t, ⟨ht, (targ_same hC h0 h1 hi hf ht hc).1 hm⟩, ?_⟩
    rw [(legal_same hC h0 h1 hi hf ht hc hm hu).2, if_pos hl]
    exact hu
  · rintro ⟨i, hi, f, ⟨hf, hfb⟩, t, ⟨ht, htb⟩, hx⟩
    rw [lay64 z _ f hf, decide_eq_true_eq] at hfb
    have hm := (targ_same hC h0 h1 hi hf ht hfb).2 htb
    split at hx
    · rename_i hl
      obtain ⟨u, rfl, _, _⟩ := turn_u hx
      refine ⟨⟨i, f, t, u, rfl, hi, hf, ht, hfb, hm, hx⟩, ?_⟩
      rw [← (legal_same hC h0 h1 hi hf ht hfb hm hx).2]; exact hl
    · cases hx

end Go.Proofs.YtnfakamfmkhlbaaGreatDoor.C

namespace Go.Proofs.YtnfakamfmkhlbaaGreatDoor.C

open Go.RowKit

open Go.Proofs.YtnfakamfmkhlbaaGreatDoor.P

/-! none comes twice, and the order is one -/

theorem sub_flat {α β : Type} {A B : α → List β} : ∀ l : List α, (∀ k ∈ l, (A k).Sublist (B k)) → (l.flatMap A).Sublist (l.flatMap B)
  | [], _ => by simp
  | a :: r, h => by
      rw [List.flatMap_cons, List.flatMap_cons]
      exact List.Sublist.append (h a (List.mem_cons_self ..)) (sub_flat r fun k hk => h k (List.mem_cons_of_mem _ hk))

theorem up_sub (z : Nat → UInt8) : ∀ l : List Nat, (upT z l).Sublist l
  | [] => by simp [upT]
  | a :: r => by
      unfold upT
      split
      · exact List.Sublist.cons_cons a (up_sub z r)
      · exact List.Sublist.cons_cons a (List.nil_sublist r)

theorem far_nodup : ∀ x, x < 64 → ((List.range 16).flatMap fun k => if k < 8 then rr k x else []).Nodup := by decide +kernel

theorem near_nodup : ∀ x, x < 64 → ((List.range 16).flatMap fun k => if onB x (stN k) then [nx x (stN k)] else []).Nodup := by decide +kernel

theorem attU_nodup {z : Nat → UInt8} {f : Nat} (hf : f < 64) {bw : Bool} {i : Nat} (hi : i < 6) (hc : ixc (z f) = ((bg bw + i : Nat) : Int)) : (attU z f 16).Nodup := by
  have hbg : bg bw = 0 ∨ bg bw = 6 := by cases bw <;> simp [bg]
  have hp : bg bw + i < 12 := by omega
  have hz := letr_of hp hc
  have hm : (bg bw + i) % 6 = i := by omega
  have hF := far_is (bg bw + i) hp
  rw [hm] at hF
  unfold attU
  cases hfar : isFar i with
  | true =>
    have hG := far_goes (bg bw + i) hp (by rw [hm]; exact hfar)
    refine List.Nodup.sublist (sub_flat _ fun k hk => ?_) (far_nodup f hf)
    have hk := List.mem_range.1 hk
    unfold attS
    rw [hz, (hG k hk).1, hF, hfar, if_pos rfl]
    by_cases h8 : k < 8
    · rw [if_pos h8]
      split
      · unfold wkL; rw [wk_up]; exact up_sub z _
      · exact List.nil_sublist _
    · rw [if_neg (by simp [h8]), if_neg h8]
      exact List.nil_sublist _
  | false =>
    refine List.Nodup.sublist (sub_flat _ fun k hk => ?_) (near_nodup f hf)
    unfold attS
    rw [hz, hF, hfar, wk_take]
    split
    · rw [if_neg (by simp)]; exact List.Sublist.refl _
    · exact List.nil_sublist _

theorem rr_nodup : ∀ x, x < 64 → (rr 0 x).Nodup ∧ (rr 4 x).Nodup := by decide +kernel

theorem pawn_file {f : Nat → Int} {s x y : Int} (h : attI f 0 s x y = true) : y % 8 ≠ x % 8 := by
  unfold attI at h
  rw [if_pos rfl, Bool.and_eq_true, beq_iff_eq, beq_iff_eq] at h
  intro e
  rw [e] at h
  have := h.1
  unfold ab at this
  split at this <;> omega

theorem tgL_nodup {z : Nat → UInt8} {wh : Bool} {fc : Nat → Bool} {b : Int} (hC : Can z wh fc b) {f : Nat} (hf : f < 64) {i : Nat} (hi : i < 6) (hc : ixc (z f) = ((bg wh + i : Nat) : Int)) : (tgL z wh fc b f).Nodup := by
  obtain ⟨hp, hk⟩ := pk_is hi hc
  have hA := attU_nodup hf hi hc
  unfold tgL
  rw [hp, hk, List.nodup_append]
  refine ⟨List.Pairwise.filter _ hA, ?_, ?_⟩
  · by_cases e0 : i = 0
    · rw [decide_eq_true e0, if_pos rfl]
      unfold ahT
      refine List.Nodup.sublist ((List.takeWhile_sublist _).trans (List.take_sublist _ _)) ?_
      unfold wkL
      rw [wk_up]
      refine List.Nodup.sublist (up_sub z _) ?_
      cases wh
      · exact (rr_nodup f hf).2
      · exact (rr_nodup f hf).1
    · rw [decide_eq_false e0, if_neg (by simp)]
      by_cases e5 : i = 5
      · rw [decide_eq_true e5, if_pos rfl, List.nodup_append]
        refine ⟨by unfold cgR; split <;> simp, by unfold cgM; split <;> simp, fun a ha c hc e => ?_⟩
        unfold cgR at ha
        unfold cgM at hc
        split at ha
        · split at hc
          · simp at ha hc; omega
          · cases hc
        · cases ha
      · rw [decide_eq_false e5, if_neg (by simp)]; exact List.nodup_nil
  · intro a ha c hc' e
    subst e
    have ha := (List.mem_filter.1 ha).1
    have ha64 := att_lt hf ha
    rw [att_mem hf hi hc ha64] at ha
    by_cases e0 : i = 0
    · subst e0
      have hr := hC.pw wh f hf hc
      rw [decide_eq_true rfl, if_pos rfl, ah_list hf hr] at hc'
      have h1 := pawn_file ha
      rcases hc' with ⟨e, _⟩ | ⟨hs, e, _⟩
      · unfold fw at e; cases wh <;> simp at e <;> omega
      · unfold fw at e; unfold startR at hs; cases wh <;> simp at e hs <;> omega
    · rw [decide_eq_false e0, if_neg (by simp)] at hc'
      by_cases e5 : i = 5
      · subst e5
        rw [decide_eq_true rfl, if_pos rfl] at hc'
        have := (attI_free ha).1
        rw [attI_side _ 5 (by omega) _ 1] at this
        have hk2 := king_step f hf a ha64 this
        obtain ⟨h1, h2⟩ := king_home hC hf hc
        rcases List.mem_append.1 hc' with h | h
        · unfold cgR at h
          split at h
          · simp at h; omega
          · cases h
        · unfold cgM at h
          split at h
          · rename_i hh
            rw [Bool.and_eq_true] at hh
            have hfe := h2 hh.1
            have : 2 ≤ f := by rw [hfe]; cases wh <;> decide
            simp at h; omega
          · cases h
      · rw [decide_eq_false e5, if_neg (by simp)] at hc'; cases hc'

theorem turns_nodup (p : Bool) (f t : Nat) : (turnsB p f t).Nodup := by
  unfold turnsB
  split
  · simp
  · simp

theorem turns_ft {p : Bool} {f t : Nat} {x : Mv} (h : x ∈ turnsB p f t) : x.1 = f ∧ x.2.1 = t := by
  obtain ⟨u, rfl, _⟩ := turn_u h
  exact ⟨rfl, rfl⟩

theorem letL_nodup {z : Nat → UInt8} {wh : Bool} {fc : Nat → Bool} {b : Int} (hC : Can z wh fc b) : (letL z wh fc b).Nodup := by
  unfold letL
  refine List.Pairwise.filter _ ?_
  unfold alU
  rw [List.pairwise_flatMap]
  constructor
  · intro f hf
    have hf := List.mem_range.1 hf
    unfold alS
    split
    · rename_i hm
      rw [man_co (lay_ok hC.ok hf), decide_eq_true_eq] at hm
      obtain ⟨i, hi, e1, _⟩ := ix_of_co hm
      rw [List.pairwise_flatMap]
      refine ⟨fun t _ => turns_nodup _ _ _, (tgL_nodup hC hf hi e1).imp fun {a c} hne x hx y hy e => ?_⟩
      subst e
      exact hne ((turns_ft hx).2.symm.trans (turns_ft hy).2)
    · exact List.Pairwise.nil
  · refine (List.nodup_range (n := 64)).imp fun {a c} hne x hx y hy e => ?_
    subst e
    have key : ∀ f, x ∈ alS z wh fc b f → x.1 = f := fun f h => by
      unfold alS at h
      split at h
      · obtain ⟨t, _, h⟩ := List.mem_flatMap.1 h
        exact (turns_ft h).1
      · cases h
    exact hne ((key a hx).symm.trans (key c hy))

theorem sqs_nodup (s : BitVec 64) : (sqs s).Nodup := List.Pairwise.filter _ (List.nodup_range (n := 64))

theorem movS_nodup (z : Nat → UInt8) (wh : Bool) (fc : Nat → Bool) (b : Int) : (movS z wh fc b).Nodup := by
  have kf : ∀ (m : Nat → BitVec 64) (own oth beh : BitVec 64) (k f : Nat) (x : Mv), x ∈ fromS m wh own oth beh fc k f → x.1 = f := fun m own oth beh k f x h => by
    unfold fromS toS at h
    obtain ⟨t, _, h⟩ := List.mem_flatMap.1 h
    split at h
    · exact (turns_ft h).1
    · cases h
  unfold movS uptoS List.Nodup
  rw [List.pairwise_flatMap]
  constructor
  · intro k _
    unfold placeS
    rw [List.pairwise_flatMap]
    constructor
    · intro f _
      unfold fromS
      rw [List.pairwise_flatMap]
      constructor
      · intro t _
        unfold toS
        split
        · exact turns_nodup _ _ _
        · exact List.Pairwise.nil
      · refine (sqs_nodup _).imp fun {a c} hne x hx y hy e => ?_
        subst e
        unfold toS at hx hy
        split at hx
        · split at hy
          · exact hne ((turns_ft hx).2.symm.trans (turns_ft hy).2)
          · cases hy
        · cases hx
    · refine (sqs_nodup _).imp fun {a c} hne x hx y hy e => ?_
      subst e
      exact hne ((kf _ _ _ _ _ _ _ hx).symm.trans (kf _ _ _ _ _ _ _ hy))
  · refine (List.nodup_range (n := 6)).imp fun {a c} hne x hx y hy e => ?_
    subst e
    unfold placeS at hx hy
    obtain ⟨f, hf, hx⟩ := List.mem_flatMap.1 hx
    obtain ⟨g, hg, hy⟩ := List.mem_flatMap.1 hy
    have e1 := kf _ _ _ _ _ _ _ hx
    have e2 := kf _ _ _ _ _ _ _ hy
    rw [sqs_mem] at hf hg
    rw [lay64 z _ f hf.1, decide_eq_true_eq] at hf
    rw [lay64 z _ g hg.1, decide_eq_true_eq] at hg
    rw [← e2, e1, hf.2] at hg
    have := hg.2
    exact hne (by omega)

theorem nmq_inj : ∀ f, f < 64 → ∀ g, g < 64 → nameS f = nameS g → f = g := by decide +kernel

theorem txtq_inj {x y : Mv} (hx : okM x) (hy : okM y) (h : txt x = txt y) : x = y := by
  obtain ⟨f, t, u⟩ := x
  obtain ⟨f', t', u'⟩ := y
  unfold txt mvS at h
  simp only at h
  rw [List.append_assoc, List.append_assoc] at h
  obtain ⟨h1, h2⟩ := List.append_inj h rfl
  obtain ⟨h2, h3⟩ := List.append_inj h2 rfl
  have e1 := nmq_inj f hx.1 f' hy.1 h1
  have e2 := nmq_inj t hx.2 t' hy.2 h2
  have e3 : u = u' := by
    by_cases a : u = 0
    · by_cases c : u' = 0
      · rw [a, c]
      · rw [if_pos a, if_neg c] at h3; cases h3
    · by_cases c : u' = 0
      · rw [if_neg a, if_pos c] at h3; cases h3
      · rw [if_neg a, if_neg c] at h3; injection h3
  rw [e1, e2, e3]

theorem eq_of_rising {α : Type} {r : α → α → Prop} (asym : ∀ a b, r a b → ¬ r b a) : ∀ (l1 l2 : List α), l1.Pairwise r → l2.Pairwise r → (∀ x, x ∈ l1 ↔ x ∈ l2) → l1 = l2
  | [], [], _, _, _ => rfl
  | [], b :: r2, _, _, h => absurd ((h b).2 (List.mem_cons_self ..)) (by simp)
  | a :: r1, [], _, _, h => absurd ((h a).1 (List.mem_cons_self ..)) (by simp)
  | a :: r1, b :: r2, h1, h2, h => by
      rw [List.pairwise_cons] at h1 h2
      have hab : a = b := by
        rcases List.mem_cons.1 ((h a).1 (List.mem_cons_self ..)) with e | e
        · exact e
        · rcases List.mem_cons.1 ((h b).2 (List.mem_cons_self ..)) with e' | e'
          · exact e'.symm
          · exact absurd (h1.1 b e') (asym _ _ (h2.1 a e))
      subst hab
      have irr : ¬ r a a := fun k => asym _ _ k k
      rw [eq_of_rising asym r1 r2 h1.2 h2.2 fun x => ?_]
      constructor
      · intro hx
        rcases List.mem_cons.1 ((h x).1 (List.mem_cons_of_mem _ hx)) with e | e
        · rw [e] at hx; exact absurd (h1.1 a hx) irr
        · exact e
      · intro hx
        rcases List.mem_cons.1 ((h x).2 (List.mem_cons_of_mem _ hx)) with e | e
        · rw [e] at hx; exact absurd (h2.1 a hx) irr
        · exact e

/-- sorted moves rise, if none comes twice. -/
theorem sortM_rise {xs : List Mv} (hn : xs.Nodup) (hok : ∀ x ∈ xs, okM x) : (sortM xs).Pairwise fun x y => txt x < txt y := by
  have h1 : (sortM xs).Pairwise fun x y => (!ltM y x) = true := by
    unfold sortM
    refine List.pairwise_mergeSort (fun a b c h1 h2 => ?_) (fun a b => ?_) xs
    · unfold ltM at *
      simp only [Bool.not_eq_true', decide_eq_false_iff_not] at *
      exact List.not_lt.2 (List.le_trans (List.not_lt.1 h1) (List.not_lt.1 h2))
    · unfold ltM
      rw [Bool.or_eq_true]
      simp only [Bool.not_eq_true', decide_eq_false_iff_not]
      rcases List.le_total (txt a) (txt b) with h | h
      · exact .inl (List.not_lt.2 h)
      · exact .inr (List.not_lt.2 h)
  have h2 : (sortM xs).Nodup := List.Nodup.perm hn (sortM_perm xs).symm
  have hok' : ∀ x ∈ sortM xs, okM x := fun x hx => hok x ((sortM_perm xs).mem_iff.1 hx)
  have h3 : (sortM xs).Pairwise fun x y => (!ltM y x) = true ∧ x ≠ y := List.Pairwise.and h1 h2
  refine List.Pairwise.imp_of_mem (fun {a c} ha hc h => ?_) h3
  unfold ltM at h
  simp only [Bool.not_eq_true', decide_eq_false_iff_not] at h
  by_cases hlt : txt a < txt c
  · exact hlt
  · exact absurd (txtq_inj (hok' a ha) (hok' c hc) (List.le_antisymm (List.not_lt.1 h.1) (List.not_lt.1 hlt))) h.2

/-- BOTH WAYS FIND THE SAME, none twice, in order. -/
theorem twin {z : Nat → UInt8} {wh : Bool} {fc : Nat → Bool} {b : Int} (hC : Can z wh fc b) (h0 : -1 ≤ b) (h1 : b ≤ 63) : sortM (letL z wh fc b) = sortM (movS z wh fc b) ∧ (sortM (movS z wh fc b)).Pairwise fun x y => txt x < txt y := by
  have hk := letOk_of hC h0 h1
  have r1 := sortM_rise (letL_nodup hC) (fun x hx => alU_ok hk.home (List.mem_filter.1 hx).1)
  have r2 := sortM_rise (movS_nodup z wh fc b) (movS_ok z wh fc b)
  refine ⟨eq_of_rising (fun a c h => List.lt_asymm h) _ _ r1 r2 fun x => ?_, r2⟩
  rw [(sortM_perm _).mem_iff, (sortM_perm _).mem_iff]
  exact same_mem hC h0 h1 x

end Go.Proofs.YtnfakamfmkhlbaaGreatDoor.C

namespace Go.Proofs.YtnfakamfmkhlbaaGreatDoor.C

open Go.RowKit

open Go.Proofs.YtnfakamfmkhlbaaGreatDoor.P

/-! the position at first -/

def startE : List Mv := [(1, 18, 0), (1, 16, 0), (6, 23, 0), (6, 21, 0), (8, 16, 0), (8, 24, 0), (9, 17, 0), (9, 25, 0), (10, 18, 0), (10, 26, 0), (11, 19, 0), (11, 27, 0), (12, 20, 0), (12, 28, 0), (13, 21, 0), (13, 29, 0), (14, 22, 0), (14, 30, 0), (15, 23, 0), (15, 31, 0)]

def startS : List Mv := [(8, 16, 0), (8, 24, 0), (1, 16, 0), (1, 18, 0), (9, 17, 0), (9, 25, 0), (10, 18, 0), (10, 26, 0), (11, 19, 0), (11, 27, 0), (12, 20, 0), (12, 28, 0), (13, 21, 0), (13, 29, 0), (6, 21, 0), (6, 23, 0), (14, 22, 0), (14, 30, 0), (15, 23, 0), (15, 31, 0)]

theorem start_let : (readS firstB).map (fun p => letL (posZ p) p.white p.castle p.behind) = some startE := by decide +kernel

theorem start_rest : (readS firstB).map (fun p => (posCan p, deadB (posZ p), attLB (posZ p) 4 false, kingR (posZ p) p.white, p.white)) = some (true, false, false, 4, true) := by decide +kernel

theorem start_rise : startS.Pairwise fun x y => txt x < txt y := by decide +kernel

theorem start_same : (startE.all fun x => startS.contains x) = true ∧ (startS.all fun x => startE.contains x) = true := by decide +kernel

/-- of a position that was read and that can be. -/
theorem pos_can {s : ByteArray} {p : Pos} (hr : readS s = some p) (hc : posCan p = true) : Can (posZ p) p.white p.castle p.behind ∧ -1 ≤ p.behind ∧ p.behind ≤ 63 := ⟨can_good hc, read_beh hr⟩

theorem pos_twin {s : ByteArray} {p : Pos} (hr : readS s = some p) (hc : posCan p = true) : sortM (waL p 1) = sortM (waL p 2) ∧ (sortM (waL p 2)).Pairwise fun x y => txt x < txt y := by
  obtain ⟨h, h0, h1⟩ := pos_can hr hc
  exact twin h h0 h1

theorem pos_let {s : ByteArray} {p : Pos} (hr : readS s = some p) (hc : posCan p = true) : LetOk (posZ p) p.white p.castle p.behind := by
  obtain ⟨h, h0, h1⟩ := pos_can hr hc
  exact letOk_of h h0 h1

theorem pos_king {s : ByteArray} {p : Pos} (hr : readS s = some p) (hc : posCan p = true) : 0 ≤ kingR (posZ p) p.white ∧ kingR (posZ p) p.white ≤ 63 := by
  obtain ⟨h, _, _⟩ := pos_can hr hc
  obtain ⟨y, hy, _, e⟩ := one_king (h.k1 p.white)
  omega

/-- what the calls answer of the position at first. -/
theorem start_is : ∃ p, readS firstB = some p ∧ posCan p = true ∧ sortM (waL p 1) = startS ∧ sortM (waL p 2) = startS ∧ lookV (posZ p) p.white p.castle p.behind = stateA false 20 0 := by
  obtain ⟨p, h1, hl⟩ := Option.map_eq_some_iff.1 start_let
  have h2 := start_rest
  rw [h1] at h2
  simp only [Option.map_some, Option.some.injEq, Prod.mk.injEq] at h2
  obtain ⟨hc, hd, ha, hk, hw⟩ := h2
  obtain ⟨hC, h0, hb1⟩ := pos_can h1 hc
  obtain ⟨tw, tr⟩ := pos_twin h1 hc
  have hs : sortM (waL p 2) = startS := by
    refine eq_of_rising (fun a c h => List.lt_asymm h) _ _ tr start_rise fun x => ?_
    rw [← tw, (sortM_perm _).mem_iff]
    show x ∈ letL (posZ p) p.white p.castle p.behind ↔ _
    rw [hl]
    constructor
    · intro hx
      have := List.all_eq_true.1 start_same.1 x hx
      simpa using this
    · intro hx
      have := List.all_eq_true.1 start_same.2 x hx
      simpa using this
  have hlen : (movS (posZ p) p.white p.castle p.behind).length = 20 := by
    have : (sortM (movS (posZ p) p.white p.castle p.behind)).length = 20 := by rw [show movS (posZ p) p.white p.castle p.behind = waL p 2 from rfl, hs]; rfl
    rwa [sortM_len] at this
  have hch : chkS (posZ p) p.white = false := by
    unfold chkS
    rw [hk, show ((4 : Int)) = ((4 : Nat) : Int) from rfl, attacked_same hC.ok _ 4 (by omega), ← attL_same hC.ok (by omega), hw]
    exact ha
  refine ⟨p, h1, hc, by rw [tw, hs], hs, ?_⟩
  unfold lookV
  rw [hch, hlen]
  unfold overN
  rw [hd]
  rfl

end Go.Proofs.YtnfakamfmkhlbaaGreatDoor.C

namespace Go.Proofs.YtnfakamfmkhlbaaGreatDoor.C

open Go.ChangeShapes Go.WideShapes Go.ChangeAt Go.RowKit Go.Shelf

open Go.Proofs.YtnfakamfmkhlbaaGreatDoor.P

attribute [local go_sem] setCell_drewN alloc_drewN Oper.semAt_some

theorem strs_form {w : World} {base : Nat} {v : Value} {xs : List ByteArray} (h : Strs base v xs w) : ∃ p cap, v = .slice p xs.length cap ∧ xs.length ≤ cap ∧ ∀ i (hi : i < xs.length), ∃ g, p = some ⟨g, 0, none⟩ ∧ w.cell? ⟨g, i, none⟩ = some (.string xs[i]) := by
  rcases h.2 with ⟨rfl, hn⟩ | ⟨g, cap, cur, rfl, hb, hg, hn, hm, hcs, htk⟩
  · have : xs = [] := by simpa using hn
    subst this
    exact ⟨none, 0, rfl, Nat.le_refl _, fun i hi => absurd hi (Nat.not_lt_zero i)⟩
  · refine ⟨_, _, rfl, hn, fun i hi => ⟨g, rfl, ?_⟩⟩
    simp only [World.cell?]
    rw [hg]
    show cur[i]? = _
    rw [← Array.getElem?_toList, ← List.getElem?_take_of_lt (show i < xs.length * 1 by omega), htk, List.getElem?_map, List.getElem?_eq_getElem hi]
    rfl

def tA : ByteArray := ⟨#[97, 50, 97, 51]⟩

def tB : ByteArray := ⟨#[104, 50, 104, 52]⟩

theorem start_txt : txts startS = tA :: ((txts startS).drop 1).take 18 ++ [tB] ∧ (txts startS).length = 20 := by decide +kernel

/-- what rook.Moves answers of the position at first. -/
def StEnd (e : Ending) (w' : World) : Prop := ∃ g cap, e = .returned (.tuple #[.slice (some ⟨g, 0, none⟩) 20 cap, .int .i64 0]) ∧ 20 ≤ cap ∧ w'.cell? ⟨g, 0, none⟩ = some (.string tA) ∧ w'.cell? ⟨g, 19, none⟩ = some (.string tB)

theorem startMoves (n : Int) (hn : n = 1 ∨ n = 2) (m : Int) (w : World) (hc : Ct m w) (ht : Tabs w) : Calls Tryz.prog 20 #[.string firstB, .int .i64 n] w fun e w' => StEnd e w' ∧ Gr w w' := by
  obtain ⟨p, h1, h2, h3, h4, _⟩ := start_is
  refine (rookMoves_any firstB (by decide +kernel) n (fun q a b => pos_let a b) m w hc ht).mono fun e w' h => ⟨?_, h.2⟩
  have hs : sortM (waL p n) = startS := by rcases hn with rfl | rfl; exact h3; exact h4
  rcases h.1 with ⟨a, _⟩ | ⟨q, a, b, _⟩ | ⟨q, _, _, a, _⟩ | ⟨q, v, a, _, _, rfl, hv⟩
  · rw [h1] at a; cases a
  · rw [h1] at a; rw [← Option.some.inj a, h2] at b; cases b
  · exact absurd hn a
  · rw [h1] at a
    rw [← Option.some.inj a, hs] at hv
    obtain ⟨pp, cap, rfl, hcap, hel⟩ := strs_form hv
    have hl := start_txt.2
    obtain ⟨g, rfl, e0⟩ := hel 0 (by rw [hl]; omega)
    obtain ⟨g', eg, e19⟩ := hel 19 (by rw [hl]; omega)
    cases eg
    refine ⟨g, cap, by rw [hl], by rw [← hl]; exact hcap, ?_, ?_⟩
    · rw [e0]; rfl
    · rw [e19]; rfl

theorem startLook (m : Int) (w : World) (hc : Ct m w) (ht : Tabs w) : Calls Tryz.prog 21 #[.string firstB] w fun e w' => e = .returned (.tuple #[.agg (stateA false 20 0), .int .i64 0]) ∧ Gr w w' := by
  obtain ⟨p, h1, h2, _, _, h5⟩ := start_is
  refine (rookLook_any firstB (by decide +kernel) (fun q a b => pos_king a b) m w hc ht).mono fun e w' h => ⟨?_, h.2⟩
  rcases h.1 with ⟨k, hb, _⟩ | ⟨q, a, _, rfl⟩
  · rcases hb with ⟨_, a⟩ | ⟨_, q, a, b⟩
    · rw [h1] at a; cases a
    · rw [h1] at a; rw [← Option.some.inj a, h2] at b; cases b
  · rw [h1] at a
    rw [← Option.some.inj a, h5]

end Go.Proofs.YtnfakamfmkhlbaaGreatDoor.C

namespace Go.Proofs.YtnfakamfmkhlbaaGreatDoor.C

open Go.ChangeShapes Go.WideShapes Go.ChangeAt Go.RowKit Go.Shelf

open Go.Proofs.YtnfakamfmkhlbaaGreatDoor.P

attribute [local go_sem] setCell_drewN alloc_drewN Oper.semAt_some

theorem state_cells {W : World} {b : Nat} {c : Bool} {n o : Int} (h : W.heap[b]? = some (.cells (stateA c n o) 44)) : W.cell? ⟨b, 0, none⟩ = some (.bool c) ∧ W.cell? ⟨b, 1, none⟩ = some (.int .i64 n) ∧ W.cell? ⟨b, 2, none⟩ = some (.int .i64 o) := by
  refine ⟨?_, ?_, ?_⟩ <;> (rw [cell_of_row _ _ _ _ _ _ h]; rfl)

set_option maxRecDepth 100000 in
set_option maxHeartbeats 4000000 in
theorem begin_tw (m : Int) (w : World) (hc : Ct m w) (ht : Tabs w) : Calls Tryz.prog 19 #[] w fun e w' => e = .returned (.bool true) ∧ Gr w w' := by
  have h1 : Hid (∀ n : Int, (n = 1 ∨ n = 2) → ∀ W, Gr w W → Calls Tryz.prog 20 #[.string firstB, .int .i64 n] W fun e w' => StEnd e w' ∧ Gr W w') := hide fun n hn W hg => startMoves n hn m W (hc.gr hg) (ht.gr hg)
  have h2 : Hid (∀ W, Gr w W → Calls Tryz.prog 21 #[.string firstB] W fun e w' => e = .returned (.tuple #[.agg (stateA false 20 0), .int .i64 0]) ∧ Gr W w') := hide fun W hg => startLook m W (hc.gr hg) (ht.gr hg)
  clear hc ht
  go_enter Tryz.func19, Tryz.ntmps19
  generalize hF : (⟨#[114, 110, 98, 113, 107, 98, 110, 114, 47, 112, 112, 112, 112, 112, 112, 112, 112, 47, 56, 47, 56, 47, 56, 47, 56, 47, 80, 80, 80, 80, 80, 80, 80, 80, 47, 82, 78, 66, 81, 75, 66, 78, 82, 32, 119, 32, 75, 81, 107, 113, 32, 45, 32, 48, 32, 49]⟩ : ByteArray) = F
  rw [show firstB = F from hF] at h1 h2
  clear hF
  go_upto_region 2 with (go_at_call 20; refine (unhide h1 1 (.inl rfl) _ (Gr.refl _)).mono ?_; rintro e w1 ⟨⟨g1, cap1, rfl, hcap1, a0, a19⟩, hg1⟩)
  go_upto_region 3 with (go_at_call 20; refine (unhide h1 2 (.inr rfl) _ hg1).mono ?_; rintro e w2 ⟨⟨g2, cap2, rfl, hcap2, b0, b19⟩, hg2⟩)
  have hg12 := Gr.trans hg1 hg2
  have la : g1 < w1.heap.size := World.block_lt_of_cell? w1 _ a0
  have lb : g2 < w2.heap.size := World.block_lt_of_cell? w2 _ b0
  have a0 := (Below.cell hg2 (p := ⟨g1, 0, none⟩) la).trans a0
  have a19 := (Below.cell hg2 (p := ⟨g1, 19, none⟩) la).trans a19
  have la2 : g1 < w2.heap.size := Nat.lt_of_lt_of_le la (Below.size hg2)
  clear hg1 hg2 h1 la
  go_upto_region 4 with (first
    | (go_at_call 21; refine (unhide h2 _ hg12).mono ?_; rintro e w3 ⟨rfl, hg3⟩)
    | (refine wpList_store_row rfl 44 _ _ rfl w3.heap.size (stateA false 20 0) rfl rfl 44 (stateA false 0 0) (heap_alloc_new _ _) infoSt rfl (stateA_ones _ _ _) ?_))
  show Code.wp _ _ _ _ ((w3.alloc (.cells (stateA false 0 0) 44)).setRow w3.heap.size (stateA false 20 0))
  have hg34 : Gr w3 ((w3.alloc (.cells (stateA false 0 0) 44)).setRow w3.heap.size (stateA false 20 0)) := ((Gr.refl w3).alloc _ _).setRow _ (Nat.le_refl _) _
  have hst : ((w3.alloc (.cells (stateA false 0 0) 44)).setRow w3.heap.size (stateA false 20 0)).heap[w3.heap.size]? = some (.cells (stateA false 20 0) 44) := setRow_heap _ _ _ _ _ _ (heap_alloc_new w3 _)
  have hg24 := Gr.trans hg3 hg34
  have hgw := Gr.trans hg12 hg24
  generalize ((w3.alloc (.cells (stateA false 0 0) 44)).setRow w3.heap.size (stateA false 20 0)) = w4 at hst hg24 hgw ⊢
  generalize w3.heap.size = b4 at hst ⊢
  have a0 := (Below.cell hg24 (p := ⟨g1, 0, none⟩) la2).trans a0
  have a19 := (Below.cell hg24 (p := ⟨g1, 19, none⟩) la2).trans a19
  have b0 := (Below.cell hg24 (p := ⟨g2, 0, none⟩) lb).trans b0
  have b19 := (Below.cell hg24 (p := ⟨g2, 19, none⟩) lb).trans b19
  obtain ⟨s0, s1, s2⟩ := state_cells hst
  have hgw' := hide hgw
  clear hg24 hgw hg12 hst hg34 hg3 h2 la2 lb
  simp only [tA, tB] at a0 a19 b0 b19
  go_upto_region 6 with fail
  go_wp2
  all_goals
    go_ret
    exact ⟨rfl, unhide hgw'⟩

end Go.Proofs.YtnfakamfmkhlbaaGreatDoor.C

namespace Go.Proofs.YtnfakamfmkhlbaaGreatDoor.C

open Go.ChangeShapes Go.WideShapes Go.ChangeAt Go.RowKit Go.Shelf

open Go.Proofs.YtnfakamfmkhlbaaGreatDoor.P

attribute [local go_sem] setCell_drewN alloc_drewN Oper.semAt_some

/-- a list of texts that a call answers. -/
def MoEnd (T : List ByteArray) (k : Int) (e : Ending) (w' : World) : Prop := ∃ p cap, e = .returned (.tuple #[.slice p T.length cap, .int .i64 k]) ∧ T.length ≤ cap ∧ ∀ i (hi : i < T.length), ∃ g, p = some ⟨g, 0, none⟩ ∧ w'.cell? ⟨g, i, none⟩ = some (.string T[i])

def Rise (T : List ByteArray) : Prop := ∀ i (hi : i + 1 < T.length), Op.bytesLess (T[i]'(by omega)).toList T[i + 1].toList = true

/-- what both ways and Look answer of any text. -/
theorem twin_ends (s : ByteArray) (hs : s.size < 4294967281) : ∃ (T : List ByteArray) (k : Int) (c : Bool) (o : Int), Rise T ∧ T.length ≤ 1000000 ∧
    (∀ n : Int, (n = 1 ∨ n = 2) → ∀ m w, Ct m w → Tabs w → Calls Tryz.prog 20 #[.string s, .int .i64 n] w fun e w' => MoEnd T k e w' ∧ Gr w w') ∧
    (∀ m w, Ct m w → Tabs w → Calls Tryz.prog 21 #[.string s] w fun e w' => e = .returned (.tuple #[.agg (stateA c (T.length : Int) o), .int .i64 k]) ∧ Gr w w') := by
  rcases parse_split s with ⟨p, hr, hcan, _⟩ | ⟨k, hk, hbad, _⟩
  · obtain ⟨tw, tr⟩ := pos_twin hr hcan
    have hl : (txts (sortM (waL p 2))).length = (movS (posZ p) p.white p.castle p.behind).length := by
      unfold txts; rw [List.length_map, sortM_len]; rfl
    refine ⟨txts (sortM (waL p 2)), 0, chkS (posZ p) p.white, overN (posZ p) (chkS (posZ p) p.white) ((movS (posZ p) p.white p.castle p.behind).length : Int), ?_, by rw [hl]; exact movS_len _ _ _ _, fun n hn m w hc ht => ?_, fun m w hc ht => ?_⟩
    · intro i hi
      have hl2 : (txts (sortM (waL p 2))).length = (sortM (waL p 2)).length := by unfold txts; rw [List.length_map]
      have := List.pairwise_iff_getElem.1 tr i (i + 1) (by omega) (by omega) (by omega)
      have e1 : ∀ j (h : j < (txts (sortM (waL p 2))).length), (txts (sortM (waL p 2)))[j] = str (txt ((sortM (waL p 2))[j]'(by omega))) := fun j h => by simp [txts]
      rw [e1 i (by omega), e1 (i + 1) hi, str_list, str_list, bytesLess_eq]
      exact decide_eq_true this
    · refine (rookMoves_any s hs n (fun q a b => pos_let a b) m w hc ht).mono fun e w' h => ⟨?_, h.2⟩
      have hsn : sortM (waL p n) = sortM (waL p 2) := by
        rcases hn with rfl | rfl
        · exact tw
        · rfl
      rcases h.1 with ⟨a, _⟩ | ⟨q, a, b, _⟩ | ⟨q, _, _, a, _⟩ | ⟨q, v, a, _, _, rfl, hv⟩
      · rw [hr] at a; cases a
      · rw [hr] at a; rw [← Option.some.inj a, hcan] at b; cases b
      · exact absurd hn a
      · rw [hr] at a
        rw [← Option.some.inj a, hsn] at hv
        obtain ⟨pp, cap, rfl, hcap, hel⟩ := strs_form hv
        exact ⟨pp, cap, rfl, hcap, hel⟩
    · refine (rookLook_any s hs (fun q a b => pos_king a b) m w hc ht).mono fun e w' h => ⟨?_, h.2⟩
      rcases h.1 with ⟨k, hb, _⟩ | ⟨q, a, _, rfl⟩
      · rcases hb with ⟨_, a⟩ | ⟨_, q, a, b⟩
        · rw [hr] at a; cases a
        · rw [hr] at a; rw [← Option.some.inj a, hcan] at b; cases b
      · rw [hr] at a
        rw [← Option.some.inj a, hl]; rfl
  · refine ⟨[], k, false, 0, fun i hi => absurd hi (by simp), by simp, fun n hn m w hc ht => ?_, fun m w hc ht => ?_⟩
    · refine (rookMoves_any s hs n (fun q a b => pos_let a b) m w hc ht).mono fun e w' h => ⟨?_, h.2⟩
      rcases hbad with ⟨rfl, hr⟩ | ⟨rfl, p, hr, hcan⟩
      · rcases h.1 with ⟨a, rfl⟩ | ⟨q, a, b, _⟩ | ⟨q, a, _⟩ | ⟨q, v, a, _⟩
        · exact ⟨none, 0, rfl, Nat.le_refl _, fun i hi => absurd hi (Nat.not_lt_zero i)⟩
        · rw [hr] at a; cases a
        · rw [hr] at a; cases a
        · rw [hr] at a; cases a
      · rcases h.1 with ⟨a, _⟩ | ⟨q, a, b, rfl⟩ | ⟨q, a, b, _⟩ | ⟨q, v, a, b, _⟩
        · rw [hr] at a; cases a
        · exact ⟨none, 0, rfl, Nat.le_refl _, fun i hi => absurd hi (Nat.not_lt_zero i)⟩
        · rw [hr] at a; rw [← Option.some.inj a, hcan] at b; cases b
        · rw [hr] at a; rw [← Option.some.inj a, hcan] at b; cases b
    · refine (rookLook_any s hs (fun q a b => pos_king a b) m w hc ht).mono fun e w' h => ⟨?_, h.2⟩
      rcases h.1 with ⟨k', hb, rfl⟩ | ⟨q, a, b, _⟩
      · rcases hbad with ⟨rfl, hr⟩ | ⟨rfl, p, hr, hcan⟩
        · rcases hb with ⟨rfl, _⟩ | ⟨_, q, a, _⟩
          · rfl
          · rw [hr] at a; cases a
        · rcases hb with ⟨_, a⟩ | ⟨rfl, _⟩
          · rw [hr] at a; cases a
          · rfl
      · rcases hbad with ⟨_, hr⟩ | ⟨_, p, hr, hcan⟩
        · rw [hr] at a; cases a
        · rw [hr] at a; rw [← Option.some.inj a, hcan] at b; cases b

structure Tw (w : World) (p1 p2 : Option Addr) (T : List ByteArray) (b4 : Nat) (c : Bool) (o : Int) (W : World) : Prop where
  a : ∀ i (hi : i < T.length), ∃ g, p1 = some ⟨g, 0, none⟩ ∧ W.cell? ⟨g, i, none⟩ = some (.string T[i])
  b : ∀ i (hi : i < T.length), ∃ g, p2 = some ⟨g, 0, none⟩ ∧ W.cell? ⟨g, i, none⟩ = some (.string T[i])
  st : W.heap[b4]? = some (.cells (stateA c (T.length : Int) o) 44)
  gr : Gr w W

theorem el_gr {T : List ByteArray} {p : Option Addr} {W W' : World} (h : ∀ i (hi : i < T.length), ∃ g, p = some ⟨g, 0, none⟩ ∧ W.cell? ⟨g, i, none⟩ = some (.string T[i])) (hg : Gr W W') : ∀ i (hi : i < T.length), ∃ g, p = some ⟨g, 0, none⟩ ∧ W'.cell? ⟨g, i, none⟩ = some (.string T[i]) := fun i hi => by
  obtain ⟨g, e, hx⟩ := h i hi
  exact ⟨g, e, (Below.cell hg (p := ⟨g, i, none⟩) (World.block_lt_of_cell? W _ hx)).trans hx⟩

set_option maxRecDepth 100000 in
set_option maxHeartbeats 8000000 in
theorem twin_any (s : ByteArray) (hs : s.size < 4294967281) (m : Int) (w : World) (hc : Ct m w) (ht : Tabs w) : Calls Tryz.prog 5 #[.string s] w fun e w' => e = .returned (.bool true) ∧ Gr w w' := by
  obtain ⟨T, k, c, o, hrise, hlen, hmv, hlk⟩ := twin_ends s hs
  have h0 := hide (begin_tw m w hc ht)
  have h1 : Hid (∀ n : Int, (n = 1 ∨ n = 2) → ∀ W, Gr w W → Calls Tryz.prog 20 #[.string s, .int .i64 n] W fun e w' => MoEnd T k e w' ∧ Gr W w') := hide fun n hn W hg => hmv n hn m W (hc.gr hg) (ht.gr hg)
  have h2 : Hid (∀ W, Gr w W → Calls Tryz.prog 21 #[.string s] W fun e w' => e = .returned (.tuple #[.agg (stateA c (T.length : Int) o), .int .i64 k]) ∧ Gr W w') := hide fun W hg => hlk m W (hc.gr hg) (ht.gr hg)
  have hrise' := hide hrise
  clear hc ht hmv hlk hs hrise
  go_enter Tryz.func5, Tryz.ntmps5
  go_upto_region 4 with (go_at_call 19; refine (unhide h0).mono ?_; rintro e w0 ⟨rfl, hg0⟩)
  go_upto_region 5 with (go_at_call 20; refine (unhide h1 1 (.inl rfl) _ hg0).mono ?_; rintro e w1 ⟨⟨p1, cap1, rfl, hcap1, hel1⟩, hg1⟩)
  have hg01 := Gr.trans hg0 hg1
  have hel1' := hide hel1
  clear hel1 hg0 hg1
  go_upto_region 6 with (go_at_call 20; refine (unhide h1 2 (.inr rfl) _ hg01).mono ?_; rintro e w2 ⟨⟨p2, cap2, rfl, hcap2, hel2⟩, hg2⟩)
  have hg02 := Gr.trans hg01 hg2
  have hel1' := hide (el_gr (unhide hel1') hg2)
  have hel2' := hide hel2
  clear hel2 hg01 hg2 h0
  go_upto_region 7 with (first
    | (go_at_call 21; refine (unhide h2 _ hg02).mono ?_; rintro e w3 ⟨rfl, hg3⟩)
    | (refine wpList_store_row rfl 44 _ _ rfl w3.heap.size (stateA c (T.length : Int) o) rfl rfl 44 (stateA false 0 0) (heap_alloc_new _ _) infoSt rfl (stateA_ones _ _ _) ?_))
  show Code.wp _ _ _ _ ((w3.alloc (.cells (stateA false 0 0) 44)).setRow w3.heap.size (stateA c (T.length : Int) o))
  have hg34 : Gr w3 ((w3.alloc (.cells (stateA false 0 0) 44)).setRow w3.heap.size (stateA c (T.length : Int) o)) := ((Gr.refl w3).alloc _ _).setRow _ (Nat.le_refl _) _
  have hg24 := Gr.trans hg3 hg34
  have htw : Hid (Tw w p1 p2 T w3.heap.size c o ((w3.alloc (.cells (stateA false 0 0) 44)).setRow w3.heap.size (stateA c (T.length : Int) o))) := hide ⟨el_gr (unhide hel1') hg24, el_gr (unhide hel2') hg24, setRow_heap _ _ _ _ _ _ (heap_alloc_new w3 _), Gr.trans hg02 hg24⟩
  generalize ((w3.alloc (.cells (stateA false 0 0) 44)).setRow w3.heap.size (stateA c (T.length : Int) o)) = w4 at htw ⊢
  generalize w3.heap.size = b4 at htw ⊢
  obtain ⟨s0, s1, s2⟩ := state_cells (unhide htw).st
  clear hel1' hel2' hg02 hg24 hg34 hg3 h1 h2
  obtain ⟨N, hN⟩ : ∃ N, N = T.length := ⟨_, rfl⟩
  rw [← hN] at hlen hcap1 hcap2 s1 ⊢
  go_upto_region 9 with fail
  clear s0 s1 s2
  go_upto_region 10 with fail
  go_loopg [10] N (fun g v wr => ∃ (j d : Nat), j + g = N ∧ v = .int .i64 (j : Int) ∧ wr = w4.drewN d)
  case atStart => exact ⟨0, 0, by omega, rfl, rfl⟩
  case round =>
    obtain ⟨j, d, k1, rfl, rfl⟩ := hrel
    by_cases hlt : j < N
    · obtain ⟨g1, rfl, x1⟩ := (unhide htw).a j (by omega)
      obtain ⟨g2, rfl, x2⟩ := (unhide htw).b j (by omega)
      have hj0 : (0 : Int) ≤ (j : Int) := by omega
      have hjN : (j : Int) < (N : Int) := by omega
      cases j with
      | zero =>
        generalize T[0]'(by omega) = X at x1 x2
        have f1 := neq_run X
        go_upto_region 12 with fail
        go_quiet (fail)
        all_goals
          go_wp2
          go_roundg (gk - 1)
          case measure => omega
          case rel => exact ⟨1, _, by omega, by go_num, rfl⟩
      | succ j =>
        obtain ⟨g3, e3, x3⟩ := (unhide htw).a j (by omega)
        cases e3
        have f2 := unhide hrise' j (by omega)
        generalize T[j + 1]'(by omega) = Y at x1 x2 f2
        generalize T[j]'(by omega) = X at x3 f2
        have f1 := neq_run Y
        go_upto_region 12 with fail
        go_quiet (fail)
        all_goals
          go_wp2
          go_roundg (gk - 1)
          case measure => omega
          case rel => exact ⟨j + 1 + 1, _, by omega, by go_num, rfl⟩
    · have ej : j = N := by omega
      go_wp2
      go_ret
      exact ⟨rfl, Gr.drewN (unhide htw).gr _⟩

end Go.Proofs.YtnfakamfmkhlbaaGreatDoor.C
