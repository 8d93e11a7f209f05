import Derived.Test.YtnfakamfmkhlbaaGreatDoorZg34
import Derived.Test.YtnfakamfmkhlbaaGreatDoorZg32
import Derived.Test.YtnfakamfmkhlbaaGreatDoorZg14
import Derived.Stop.RegionWithIn
namespace Go.Proofs.YtnfakamfmkhlbaaGreatDoor.C
open Go.RowKit
open Go.Proofs.YtnfakamfmkhlbaaGreatDoor.P
theorem sqs_mem {s : BitVec 64} {n : Nat} : n ∈ sqs s ↔ n < 64 ∧ s.getLsbD n = true := by
 unfold sqs; rw [List.mem_filter, List.mem_range]
theorem alU_mem {z : Nat → UInt8} {wh : Bool} {fc : Nat → Bool} {b : Int} (hC : Can z wh fc b) {x : Mv} : x ∈ alU z wh fc b 64 ↔ ∃ i f t u, x = (f, t, u) ∧ i < 6 ∧ f < 64 ∧ t < 64 ∧ ixc (z f) = ((bg wh + i : Nat) : Int) ∧ t ∈ tgL z wh fc b f ∧ (f, t, u) ∈ turnsB (decide (i = 0)) f t := by
 unfold alU alS
 rw [List.mem_flatMap]
 constructor
 ·rintro ⟨f, hf, h⟩
  have hf := List.mem_range.1 hf
  split at h
  ·rename_i hm
   rw [man_co (lay_ok hC.ok hf), decide_eq_true_eq] at hm
   obtain ⟨i, hi, e1, _⟩ := ix_of_co hm
   obtain ⟨t, ht, h⟩ := List.mem_flatMap.1 h
   unfold alF at h
   rw [(pk_is hi e1).1] at h
   obtain ⟨u, rfl, _, _⟩ := turn_u h
   have ht64 : t < 64 := by
    unfold tgL at ht
    rw [List.mem_append, List.mem_filter] at ht
    rcases ht with ⟨a, _⟩ | ht
    ·exact att_lt hf a
    ·obtain ⟨hp, hk⟩ := pk_is hi e1
     rw [hp, hk] at ht
     by_cases e0 : i = 0
     ·rw [decide_eq_true e0, if_pos rfl, ah_list hf (hC.pw wh f hf (by rw [e1, e0]; rfl))] at ht
      have hr := hC.pw wh f hf (by rw [e1, e0]; rfl)
      rcases ht with ⟨a, _⟩ | ⟨a, c, _⟩
      ·rw [a]; unfold fw; split <;> omega
      ·rw [c]; unfold startR at a; unfold fw; cases wh <;> simp at a <;> simp <;> omega
     ·rw [decide_eq_false e0, if_neg (by simp)] at ht
      by_cases e5 : i = 5
      ·subst e5
       rw [decide_eq_true rfl, if_pos rfl] at ht
       obtain ⟨h1, h2⟩ := king_home hC hf e1
       rcases List.mem_append.1 ht with ht | ht
       ·unfold cgR at ht
        split at ht
        ·rename_i hh
         rw [Bool.and_eq_true] at hh
         rw [List.mem_singleton.1 ht, h1 hh.1]
         cases wh <;> decide
        ·cases ht
       ·unfold cgM at ht
        split at ht
        ·rw [List.mem_singleton.1 ht]; omega
        ·cases ht
      ·rw [decide_eq_false e5, if_neg (by simp)] at ht; cases ht
   exact ⟨i, f, t, u, rfl, hi, hf, ht64, e1, ht, h⟩
  ·cases h
 ·rintro ⟨i, f, t, u, rfl, hi, hf, ht, hc, hm, hu⟩
  refine ⟨f, List.mem_range.2 hf, ?_⟩
  rw [if_pos (by rw [man_co (lay_ok hC.ok hf)]; exact decide_eq_true (coc_ix hi hc))]
  refine List.mem_flatMap.2 ⟨t, hm, ?_⟩
  unfold alF
  rw [(pk_is hi hc).1]; exact hu
theorem legal_same {z : Nat → UInt8} {wh : Bool} {fc : Nat → Bool} {b : Int} (hC : Can z wh fc b) (h0 : -1 ≤ b) (h1 : b ≤ 63) {i f t : Nat} {u : UInt8} (hi : i < 6) (hf : f < 64) (ht : t < 64) (hc : ixc (z f) = ((bg wh + i : Nat) : Int)) (hm : t ∈ tgL z wh fc b f) (hu : (f, t, u) ∈ turnsB (decide (i = 0)) f t) :
  (∃ y : Nat, y < 64 ∧ kingR (plZ z b (f, t, u)) wh = (y : Int)) ∧ legalB (layS z 64) wh (behB b) i f t = letP z wh b (f, t, u) := by
 rcases classify hC hi hf ht hc hm hu with ⟨hP, kg⟩ | ⟨ci, hK', e1, e2, e3, e4⟩
 ·exact legal_plain hP kg hC.ok (hC.k1 wh) h0 h1
 ·subst e1 e2 e3 e4
  obtain ⟨a1, a2⟩ := cas_letters hC (b := b) hK'
  exact ⟨⟨casT ci, ht, a1⟩, by rw [a2, cas_sets hC h0 h1 hK']⟩
theorem letOk_of {z : Nat → UInt8} {wh : Bool} {fc : Nat → Bool} {b : Int} (hC : Can z wh fc b) (h0 : -1 ≤ b) (h1 : b ≤ 63) : LetOk z wh fc b := by
 have king : ∀ f t u, (f, t, u) ∈ alU z wh fc b 64 → kingB (z f) = true → (t = f + 2 ∨ t + 2 = f) → f = 4 ∨ f = 60 := fun f t u hx hk he => by
  obtain ⟨i, f', t', u', e, hi, hf, ht, hc, hm, hu⟩ := (alU_mem hC).1 hx
  have e1 : f = f' := by injection e
  have e2 : t = t' := by injection e with _ e; injection e
  have e3 : u = u' := by injection e with _ e; injection e
  subst e1 e2 e3
  rcases classify hC hi hf ht hc hm hu with ⟨hP, kg⟩ | ⟨ci, hK', e1, _, _, _⟩
  ·rw [(pk_is hi hc).2, decide_eq_true_eq] at hk
   have := kg hk
   omega
  ·rw [e1]; unfold hK; split <;> omega
 refine ⟨fun f hf hm hk hfc => ?_, fun f t u hx hk he => ?_, fun f t u hx hk he => ?_, fun x hx => ?_⟩
 ·rw [man_co (lay_ok hC.ok hf), decide_eq_true_eq] at hm
  obtain ⟨i, hi, e1, _⟩ := ix_of_co hm
  rw [(pk_is hi e1).2, decide_eq_true_eq] at hk
  subst hk
  obtain ⟨h1, h2⟩ := king_home hC hf e1
  rw [Bool.or_eq_true] at hfc
  rcases hfc with e | e
  ·rw [h1 e]; cases wh <;> decide
  ·rw [h2 e]; cases wh <;> decide
 ·have := king f t u hx hk (.inl he); omega
 ·have := king f t u hx hk (.inr he); omega
 ·obtain ⟨i, f, t, u, rfl, hi, hf, ht, hc, hm, hu⟩ := (alU_mem hC).1 hx
  exact (legal_same hC h0 h1 hi hf ht hc hm hu).1
theorem same_mem {z : Nat → UInt8} {wh : Bool} {fc : Nat → Bool} {b : Int} (hC : Can z wh fc b) (h0 : -1 ≤ b) (h1 : b ≤ 63) (x : Mv) : x ∈ letL z wh fc b ↔ x ∈ movS z wh fc b := by
 have hbg := bg_two wh
 unfold letL movS uptoS placeS fromS toS
 rw [List.mem_filter, alU_mem hC]
 simp only [List.mem_flatMap, List.mem_range, sqs_mem]
 constructor
 ·rintro ⟨⟨i, f, t, u, rfl, hi, hf, ht, hc, hm, hu⟩, hl⟩
  refine ⟨i, hi, f, ⟨hf, by rw [lay64 z _ f hf]; exact decide_eq_true hc⟩, t, ⟨ht, (targ_same hC h0 h1 hi hf ht hc).1 hm⟩, ?_⟩
  rw [(legal_same hC h0 h1 hi hf ht hc hm hu).2, if_pos hl]
  exact hu
 ·rintro ⟨i, hi, f, ⟨hf, hfb⟩, t, ⟨ht, htb⟩, hx⟩
  rw [lay64 z _ f hf, decide_eq_true_eq] at hfb
  have hm := (targ_same hC h0 h1 hi hf ht hfb).2 htb
  split at hx
  ·rename_i hl
   obtain ⟨u, rfl, _, _⟩ := turn_u hx
   refine ⟨⟨i, f, t, u, rfl, hi, hf, ht, hfb, hm, hx⟩, ?_⟩
   rw [← (legal_same hC h0 h1 hi hf ht hfb hm hx).2]; exact hl
  ·cases hx
theorem sub_flat {α β : Type} {A B : α → List β} : ∀ l : List α, (∀ k ∈ l, (A k).Sublist (B k)) → (l.flatMap A).Sublist (l.flatMap B)
 | [], _ => by simp
 | a :: r, h => by
   rw [List.flatMap_cons, List.flatMap_cons]
   exact List.Sublist.append (h a (List.mem_cons_self ..)) (sub_flat r fun k hk => h k (List.mem_cons_of_mem _ hk))
theorem up_sub (z : Nat → UInt8) : ∀ l : List Nat, (upT z l).Sublist l
 | [] => by simp [upT]
 | a :: r => by
   unfold upT
   split
   ·exact List.Sublist.cons_cons a (up_sub z r)
   ·exact List.Sublist.cons_cons a (List.nil_sublist r)
theorem far_nodup : ∀ x, x < 64 → ((List.range 16).flatMap fun k => if k < 8 then rr k x else []).Nodup := by decide +kernel
theorem near_nodup : ∀ x, x < 64 → ((List.range 16).flatMap fun k => if onB x (stN k) then [nx x (stN k)] else []).Nodup := by decide +kernel
theorem attU_nodup {z : Nat → UInt8} {f : Nat} (hf : f < 64) {bw : Bool} {i : Nat} (hi : i < 6) (hc : ixc (z f) = ((bg bw + i : Nat) : Int)) : (attU z f 16).Nodup := by
 have hbg : bg bw = 0 ∨ bg bw = 6 := by cases bw <;> simp [bg]
 have hp : bg bw + i < 12 := by omega
 have hz := letr_of hp hc
 have hm : (bg bw + i) % 6 = i := by omega
 have hF := far_is (bg bw + i) hp
 rw [hm] at hF
 unfold attU
 cases hfar : isFar i with
 | true =>
  have hG := far_goes (bg bw + i) hp (by rw [hm]; exact hfar)
  refine List.Nodup.sublist (sub_flat _ fun k hk => ?_) (far_nodup f hf)
  have hk := List.mem_range.1 hk
  unfold attS
  rw [hz, (hG k hk).1, hF, hfar, if_pos rfl]
  by_cases h8 : k < 8
  ·rw [if_pos h8]
   split
   ·unfold wkL; rw [wk_up]; exact up_sub z _
   ·exact List.nil_sublist _
  ·rw [if_neg (by simp [h8]), if_neg h8]
   exact List.nil_sublist _
 | false =>
  refine List.Nodup.sublist (sub_flat _ fun k hk => ?_) (near_nodup f hf)
  unfold attS
  rw [hz, hF, hfar, wk_take]
  split
  ·rw [if_neg (by simp)]; exact List.Sublist.refl _
  ·exact List.nil_sublist _
theorem rr_nodup : ∀ x, x < 64 → (rr 0 x).Nodup ∧ (rr 4 x).Nodup := by decide +kernel
theorem pawn_file {f : Nat → Int} {s x y : Int} (h : attI f 0 s x y = true) : y % 8 ≠ x % 8 := by
 unfold attI at h
 rw [if_pos rfl, Bool.and_eq_true, beq_iff_eq, beq_iff_eq] at h
 intro e
 rw [e] at h
 have := h.1
 unfold ab at this
 split at this <;> omega
theorem tgL_nodup {z : Nat → UInt8} {wh : Bool} {fc : Nat → Bool} {b : Int} (hC : Can z wh fc b) {f : Nat} (hf : f < 64) {i : Nat} (hi : i < 6) (hc : ixc (z f) = ((bg wh + i : Nat) : Int)) : (tgL z wh fc b f).Nodup := by
 obtain ⟨hp, hk⟩ := pk_is hi hc
 have hA := attU_nodup hf hi hc
 unfold tgL
 rw [hp, hk, List.nodup_append]
 refine ⟨List.Pairwise.filter _ hA, ?_, ?_⟩
 ·by_cases e0 : i = 0
  ·rw [decide_eq_true e0, if_pos rfl]
   unfold ahT
   refine List.Nodup.sublist ((List.takeWhile_sublist _).trans (List.take_sublist _ _)) ?_
   unfold wkL
   rw [wk_up]
   refine List.Nodup.sublist (up_sub z _) ?_
   cases wh
   ·exact (rr_nodup f hf).2
   ·exact (rr_nodup f hf).1
  ·rw [decide_eq_false e0, if_neg (by simp)]
   by_cases e5 : i = 5
   ·rw [decide_eq_true e5, if_pos rfl, List.nodup_append]
    refine ⟨by unfold cgR; split <;> simp, by unfold cgM; split <;> simp, fun a ha c hc e => ?_⟩
    unfold cgR at ha
    unfold cgM at hc
    split at ha
    ·split at hc
     ·simp at ha hc; omega
     ·cases hc
    ·cases ha
   ·rw [decide_eq_false e5, if_neg (by simp)]; exact List.nodup_nil
 ·intro a ha c hc' e
  subst e
  have ha := (List.mem_filter.1 ha).1
  have ha64 := att_lt hf ha
  rw [att_mem hf hi hc ha64] at ha
  by_cases e0 : i = 0
  ·subst e0
   have hr := hC.pw wh f hf hc
   rw [decide_eq_true rfl, if_pos rfl, ah_list hf hr] at hc'
   have h1 := pawn_file ha
   rcases hc' with ⟨e, _⟩ | ⟨hs, e, _⟩
   ·unfold fw at e; cases wh <;> simp at e <;> omega
   ·unfold fw at e; unfold startR at hs; cases wh <;> simp at e hs <;> omega
  ·rw [decide_eq_false e0, if_neg (by simp)] at hc'
   by_cases e5 : i = 5
   ·subst e5
    rw [decide_eq_true rfl, if_pos rfl] at hc'
    have := (attI_free ha).1
    rw [attI_side _ 5 (by omega) _ 1] at this
    have hk2 := king_step f hf a ha64 this
    obtain ⟨h1, h2⟩ := king_home hC hf hc
    rcases List.mem_append.1 hc' with h | h
    ·unfold cgR at h
     split at h
     ·simp at h; omega
     ·cases h
    ·unfold cgM at h
     split at h
     ·rename_i hh
      rw [Bool.and_eq_true] at hh
      have hfe := h2 hh.1
      have : 2 ≤ f := by rw [hfe]; cases wh <;> decide
      simp at h; omega
     ·cases h
   ·rw [decide_eq_false e5, if_neg (by simp)] at hc'; cases hc'
theorem turns_nodup (p : Bool) (f t : Nat) : (turnsB p f t).Nodup := by
 unfold turnsB
 split
 ·simp
 ·simp
theorem turns_ft {p : Bool} {f t : Nat} {x : Mv} (h : x ∈ turnsB p f t) : x.1 = f ∧ x.2.1 = t := by
 obtain ⟨u, rfl, _⟩ := turn_u h
 exact ⟨rfl, rfl⟩
theorem letL_nodup {z : Nat → UInt8} {wh : Bool} {fc : Nat → Bool} {b : Int} (hC : Can z wh fc b) : (letL z wh fc b).Nodup := by
 unfold letL
 refine List.Pairwise.filter _ ?_
 unfold alU
 rw [List.pairwise_flatMap]
 constructor
 ·intro f hf
  have hf := List.mem_range.1 hf
  unfold alS
  split
  ·rename_i hm
   rw [man_co (lay_ok hC.ok hf), decide_eq_true_eq] at hm
   obtain ⟨i, hi, e1, _⟩ := ix_of_co hm
   rw [List.pairwise_flatMap]
   refine ⟨fun t _ => turns_nodup _ _ _, (tgL_nodup hC hf hi e1).imp fun {a c} hne x hx y hy e => ?_⟩
   subst e
   exact hne ((turns_ft hx).2.symm.trans (turns_ft hy).2)
  ·exact List.Pairwise.nil
 ·refine (List.nodup_range (n := 64)).imp fun {a c} hne x hx y hy e => ?_
  subst e
  have key : ∀ f, x ∈ alS z wh fc b f → x.1 = f := fun f h => by
   unfold alS at h
   split at h
   ·obtain ⟨t, _, h⟩ := List.mem_flatMap.1 h
    exact (turns_ft h).1
   ·cases h
  exact hne ((key a hx).symm.trans (key c hy))
theorem sqs_nodup (s : BitVec 64) : (sqs s).Nodup := List.Pairwise.filter _ (List.nodup_range (n := 64))
theorem movS_nodup (z : Nat → UInt8) (wh : Bool) (fc : Nat → Bool) (b : Int) : (movS z wh fc b).Nodup := by
 have kf : ∀ (m : Nat → BitVec 64) (own oth beh : BitVec 64) (k f : Nat) (x : Mv), x ∈ fromS m wh own oth beh fc k f → x.1 = f := fun m own oth beh k f x h => by
  unfold fromS toS at h
  obtain ⟨t, _, h⟩ := List.mem_flatMap.1 h
  split at h
  ·exact (turns_ft h).1
  ·cases h
 unfold movS uptoS List.Nodup
 rw [List.pairwise_flatMap]
 constructor
 ·intro k _
  unfold placeS
  rw [List.pairwise_flatMap]
  constructor
  ·intro f _
   unfold fromS
   rw [List.pairwise_flatMap]
   constructor
   ·intro t _
    unfold toS
    split
    ·exact turns_nodup _ _ _
    ·exact List.Pairwise.nil
   ·refine (sqs_nodup _).imp fun {a c} hne x hx y hy e => ?_
    subst e
    unfold toS at hx hy
    split at hx
    ·split at hy
     ·exact hne ((turns_ft hx).2.symm.trans (turns_ft hy).2)
     ·cases hy
    ·cases hx
  ·refine (sqs_nodup _).imp fun {a c} hne x hx y hy e => ?_
   subst e
   exact hne ((kf _ _ _ _ _ _ _ hx).symm.trans (kf _ _ _ _ _ _ _ hy))
 ·refine (List.nodup_range (n := 6)).imp fun {a c} hne x hx y hy e => ?_
  subst e
  unfold placeS at hx hy
  obtain ⟨f, hf, hx⟩ := List.mem_flatMap.1 hx
  obtain ⟨g, hg, hy⟩ := List.mem_flatMap.1 hy
  have e1 := kf _ _ _ _ _ _ _ hx
  have e2 := kf _ _ _ _ _ _ _ hy
  rw [sqs_mem] at hf hg
  rw [lay64 z _ f hf.1, decide_eq_true_eq] at hf
  rw [lay64 z _ g hg.1, decide_eq_true_eq] at hg
  rw [← e2, e1, hf.2] at hg
  have := hg.2
  exact hne (by omega)
theorem nmq_inj : ∀ f, f < 64 → ∀ g, g < 64 → nameS f = nameS g → f = g := by decide +kernel
theorem txtq_inj {x y : Mv} (hx : okM x) (hy : okM y) (h : txt x = txt y) : x = y := by
 obtain ⟨f, t, u⟩ := x
 obtain ⟨f', t', u'⟩ := y
 unfold txt mvS at h
 simp only at h
 rw [List.append_assoc, List.append_assoc] at h
 obtain ⟨h1, h2⟩ := List.append_inj h rfl
 obtain ⟨h2, h3⟩ := List.append_inj h2 rfl
 have e1 := nmq_inj f hx.1 f' hy.1 h1
 have e2 := nmq_inj t hx.2 t' hy.2 h2
 have e3 : u = u' := by
  by_cases a : u = 0
  ·by_cases c : u' = 0
   ·rw [a, c]
   ·rw [if_pos a, if_neg c] at h3; cases h3
  ·by_cases c : u' = 0
   ·rw [if_neg a, if_pos c] at h3; cases h3
   ·rw [if_neg a, if_neg c] at h3; injection h3
 rw [e1, e2, e3]
theorem eq_of_rising {α : Type} {r : α → α → Prop} (asym : ∀ a b, r a b → ¬ r b a) : ∀ (l1 l2 : List α), l1.Pairwise r → l2.Pairwise r → (∀ x, x ∈ l1 ↔ x ∈ l2) → l1 = l2
 | [], [], _, _, _ => rfl
 | [], b :: r2, _, _, h => absurd ((h b).2 (List.mem_cons_self ..)) (by simp)
 | a :: r1, [], _, _, h => absurd ((h a).1 (List.mem_cons_self ..)) (by simp)
 | a :: r1, b :: r2, h1, h2, h => by
   rw [List.pairwise_cons] at h1 h2
   have hab : a = b := by
    rcases List.mem_cons.1 ((h a).1 (List.mem_cons_self ..)) with e | e
    ·exact e
    ·rcases List.mem_cons.1 ((h b).2 (List.mem_cons_self ..)) with e' | e'
     ·exact e'.symm
     ·exact absurd (h1.1 b e') (asym _ _ (h2.1 a e))
   subst hab
   have irr : ¬ r a a := fun k => asym _ _ k k
   rw [eq_of_rising asym r1 r2 h1.2 h2.2 fun x => ?_]
   constructor
   ·intro hx
    rcases List.mem_cons.1 ((h x).1 (List.mem_cons_of_mem _ hx)) with e | e
    ·rw [e] at hx; exact absurd (h1.1 a hx) irr
    ·exact e
   ·intro hx
    rcases List.mem_cons.1 ((h x).2 (List.mem_cons_of_mem _ hx)) with e | e
    ·rw [e] at hx; exact absurd (h2.1 a hx) irr
    ·exact e
theorem sortM_rise {xs : List Mv} (hn : xs.Nodup) (hok : ∀ x ∈ xs, okM x) : (sortM xs).Pairwise fun x y => txt x < txt y := by
 have h1 : (sortM xs).Pairwise fun x y => (!ltM y x) = true := by
  unfold sortM
  refine List.pairwise_mergeSort (fun a b c h1 h2 => ?_) (fun a b => ?_) xs
  ·unfold ltM at *
   simp only [Bool.not_eq_true', decide_eq_false_iff_not] at *
   exact List.not_lt.2 (List.le_trans (List.not_lt.1 h1) (List.not_lt.1 h2))
  ·unfold ltM
   rw [Bool.or_eq_true]
   simp only [Bool.not_eq_true', decide_eq_false_iff_not]
   rcases List.le_total (txt a) (txt b) with h | h
   ·exact .inl (List.not_lt.2 h)
   ·exact .inr (List.not_lt.2 h)
 have h2 : (sortM xs).Nodup := List.Nodup.perm hn (sortM_perm xs).symm
 have hok' : ∀ x ∈ sortM xs, okM x := fun x hx => hok x ((sortM_perm xs).mem_iff.1 hx)
 have h3 : (sortM xs).Pairwise fun x y => (!ltM y x) = true ∧ x ≠ y := List.Pairwise.and h1 h2
 refine List.Pairwise.imp_of_mem (fun {a c} ha hc h => ?_) h3
 unfold ltM at h
 simp only [Bool.not_eq_true', decide_eq_false_iff_not] at h
 by_cases hlt : txt a < txt c
 ·exact hlt
 ·exact absurd (txtq_inj (hok' a ha) (hok' c hc) (List.le_antisymm (List.not_lt.1 h.1) (List.not_lt.1 hlt))) h.2
theorem twin {z : Nat → UInt8} {wh : Bool} {fc : Nat → Bool} {b : Int} (hC : Can z wh fc b) (h0 : -1 ≤ b) (h1 : b ≤ 63) : sortM (letL z wh fc b) = sortM (movS z wh fc b) ∧ (sortM (movS z wh fc b)).Pairwise fun x y => txt x < txt y := by
 have hk := letOk_of hC h0 h1
 have r1 := sortM_rise (letL_nodup hC) (fun x hx => alU_ok hk.home (List.mem_filter.1 hx).1)
 have r2 := sortM_rise (movS_nodup z wh fc b) (movS_ok z wh fc b)
 refine ⟨eq_of_rising (fun a c h => List.lt_asymm h) _ _ r1 r2 fun x => ?_, r2⟩
 rw [(sortM_perm _).mem_iff, (sortM_perm _).mem_iff]
 exact same_mem hC h0 h1 x
theorem pos_can {s : ByteArray} {p : Pos} (hr : readS s = some p) (hc : posCan p = true) : Can (posZ p) p.white p.castle p.behind ∧ -1 ≤ p.behind ∧ p.behind ≤ 63 := ⟨can_good hc, read_beh hr⟩
theorem pos_twin {s : ByteArray} {p : Pos} (hr : readS s = some p) (hc : posCan p = true) : sortM (waL p 1) = sortM (waL p 2) ∧ (sortM (waL p 2)).Pairwise fun x y => txt x < txt y := by
 obtain ⟨h, h0, h1⟩ := pos_can hr hc
 exact twin h h0 h1
theorem pos_let {s : ByteArray} {p : Pos} (hr : readS s = some p) (hc : posCan p = true) : LetOk (posZ p) p.white p.castle p.behind := by
 obtain ⟨h, h0, h1⟩ := pos_can hr hc
 exact letOk_of h h0 h1
end Go.Proofs.YtnfakamfmkhlbaaGreatDoor.C
namespace Go.Proofs.YtnfakamfmkhlbaaGreatDoor.C
open Go.ChangeShapes Go.WideShapes Go.ChangeAt Go.RowKit Go.Shelf
open Go.Proofs.YtnfakamfmkhlbaaGreatDoor.P
attribute [local go_sem] setCell_drewN alloc_drewN Oper.semAt_some
theorem strs_form {w : World} {base : Nat} {v : Value} {xs : List ByteArray} (h : Strs base v xs w) : ∃ p cap, v = .slice p xs.length cap ∧ xs.length ≤ cap ∧ ∀ i (hi : i < xs.length), ∃ g, p = some ⟨g, 0, none⟩ ∧ w.cell? ⟨g, i, none⟩ = some (.string xs[i]) := by
 rcases h.2 with ⟨rfl, hn⟩ | ⟨g, cap, cur, rfl, hb, hg, hn, hm, hcs, htk⟩
 ·have : xs = [] := by simpa using hn
  subst this
  exact ⟨none, 0, rfl, Nat.le_refl _, fun i hi => absurd hi (Nat.not_lt_zero i)⟩
 ·refine ⟨_, _, rfl, hn, fun i hi => ⟨g, rfl, ?_⟩⟩
  simp only [World.cell?]
  rw [hg]
  show cur[i]? = _
  rw [← Array.getElem?_toList, ← List.getElem?_take_of_lt (show i < xs.length * 1 by omega), htk, List.getElem?_map, List.getElem?_eq_getElem hi]
  rfl
def MoEnd (T : List ByteArray) (k : Int) (e : Ending) (w' : World) : Prop := ∃ p cap, e = .returned (.tuple #[.slice p T.length cap, .int .i64 k]) ∧ T.length ≤ cap ∧ ∀ i (hi : i < T.length), ∃ g, p = some ⟨g, 0, none⟩ ∧ w'.cell? ⟨g, i, none⟩ = some (.string T[i])
theorem el_gr {T : List ByteArray} {p : Option Addr} {W W' : World} (h : ∀ i (hi : i < T.length), ∃ g, p = some ⟨g, 0, none⟩ ∧ W.cell? ⟨g, i, none⟩ = some (.string T[i])) (hg : Gr W W') : ∀ i (hi : i < T.length), ∃ g, p = some ⟨g, 0, none⟩ ∧ W'.cell? ⟨g, i, none⟩ = some (.string T[i]) := fun i hi => by
 obtain ⟨g, e, hx⟩ := h i hi
 exact ⟨g, e, (Below.cell hg (p := ⟨g, i, none⟩) (World.block_lt_of_cell? W _ hx)).trans hx⟩
end Go.Proofs.YtnfakamfmkhlbaaGreatDoor.C
