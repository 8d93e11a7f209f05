import Derived.Test.YtnfakamfmkhlbaaGreatDoorZw2
import Derived.Lib.ConvBytes
import Derived.Lib.SlBytesRow
namespace Go.Proofs.YtnfakamfmkhlbaaGreatDoor.C
open Go.RowKit
open Go.Proofs.YtnfakamfmkhlbaaGreatDoor.P
/-- A is B, turned over. -/
def MoR (A B : Nat → UInt8) : Prop := ∀ n, n < 64 → A (mr n) = mc (B n)
theorem mo_z (z : Nat → UInt8) : MoR (mZ z) z := fun _ hn => mZ_mr hn
theorem MoR.upd {A B : Nat → UInt8} (h : MoR A B) {x x' : Nat} {c c' : UInt8} (hx : x < 64) (ex : x' = mr x) (ec : c' = mc c) : MoR (upd A x' c') (upd B x c) := fun n hn => by
  subst ex ec
  unfold C.upd
  by_cases e : n = x
  · rw [if_pos e, if_pos (by rw [e])]
  · rw [if_neg e, if_neg (fun e' => e (mr_inj hn hx e'))]; exact h n hn
theorem mc_dot : (46 : UInt8) = mc 46 := by decide
theorem man_mc : ∀ k, k < 6 → ∀ wh : Bool, manL k (!wh) = mc (manL k wh) := by decide +kernel
theorem plU_lt6 (u : UInt8) : plU u < 6 := by unfold plU; split; omega; split; omega; split <;> omega
theorem casR_no {wh : Bool} {fc : Nat → Bool} {f t : Nat} {u : UInt8} (hu : u ≠ 0) : casR wh fc f t u = -1 := by
  have hn : ∀ i, casB wh fc f t u i = false := fun i => by
    unfold casB
    have : ((u.toNat : Int) == 0) = false := beq_eq_false_iff_ne.2 fun e => hu (UInt8.toNat_inj.1 (by have : (0 : UInt8).toNat = 0 := rfl; omega))
    rw [this, Bool.and_false]
  have hu : casR wh fc f t u = if casB wh fc f t u 0 then 0 else if casB wh fc f t u 1 then 1 else if casB wh fc f t u 2 then 2 else if casB wh fc f t u 3 then 3 else -1 := rfl
  rw [hu, hn, hn, hn, hn]; rfl
theorem casR_ex {wh : Bool} {fc : Nat → Bool} {f t : Nat} (h : 0 ≤ casR wh fc f t 0) : ∃ i, i < 4 ∧ wh = decide (i < 2) ∧ fc i = true ∧ f = hK i ∧ t = casT i ∧ casR wh fc f t 0 = (i : Int) := by
  have hu : casR wh fc f t 0 = if casB wh fc f t 0 0 then 0 else if casB wh fc f t 0 1 then 1 else if casB wh fc f t 0 2 then 2 else if casB wh fc f t 0 3 then 3 else -1 := rfl
  have go : ∀ i, i < 4 → casB wh fc f t 0 i = true → ∃ i, i < 4 ∧ wh = decide (i < 2) ∧ fc i = true ∧ f = hK i ∧ t = casT i ∧ casR wh fc f t 0 = (i : Int) := fun i hi hc => by
    obtain ⟨a1, a2, a3, a4⟩ := (qxi hi).1 hc
    exact ⟨i, hi, a2, a1, a3, a4, casR_is hi a1 a2 a3 a4⟩
  by_cases c0 : casB wh fc f t 0 0 = true
  · exact go 0 (by omega) c0
  · by_cases c1 : casB wh fc f t 0 1 = true
    · exact go 1 (by omega) c1
    · by_cases c2 : casB wh fc f t 0 2 = true
      · exact go 2 (by omega) c2
      · by_cases c3 : casB wh fc f t 0 3 = true
        · exact go 3 (by omega) c3
        · rw [hu, if_neg c0, if_neg c1, if_neg c2, if_neg c3] at h
          omega
theorem casR_mr {wh : Bool} {fc : Nat → Bool} {f t : Nat} (hf : f < 64) (ht : t < 64) : (∃ i, i < 4 ∧ f = hK i ∧ t = casT i ∧ casR wh fc f t 0 = (i : Int) ∧ casR (!wh) (fcm fc) (mr f) (mr t) 0 = ((s4 i : Nat) : Int)) ∨ (¬ 0 ≤ casR wh fc f t 0 ∧ ¬ 0 ≤ casR (!wh) (fcm fc) (mr f) (mr t) 0) := by
  by_cases h : 0 ≤ casR wh fc f t 0
  · left
    obtain ⟨i, hi, a1, a2, a3, a4, a5⟩ := casR_ex h
    obtain ⟨b1, b2, b3, b4, _⟩ := s4_facts i hi
    exact ⟨i, hi, a3, a4, a5, casR_is b1 (by unfold fcm; rw [b2]; exact a2) (s4_dec hi a1) (by rw [a3, b3]) (by rw [a4, b4])⟩
  · right
    refine ⟨h, fun h' => h ?_⟩
    obtain ⟨i, hi, a1, a2, a3, a4, a5⟩ := casR_ex h'
    obtain ⟨b1, b2, b3, b4, _⟩ := s4_facts i hi
    rw [casR_is (i := s4 i) b1 a2 (by have := s4_dec hi a1; rw [Bool.not_not] at this; exact this) (by rw [b3, ← a3, mr_mr hf]) (by rw [b4, ← a4, mr_mr ht])]
    omega
theorem home_mr : ∀ i, i < 4 → (homeR (s4 i)).toNat = mr (homeR i).toNat ∧ (mr (hK i) + mr (casT i)) / 2 = mr ((hK i + casT i) / 2) ∧ (homeR i).toNat < 64 ∧ (hK i + casT i) / 2 < 64 := by decide +kernel
theorem bz4_mr {z : Nat → UInt8} (hok : layOk z = true) {wh : Bool} {fc : Nat → Bool} {b : Int} (h0 : -1 ≤ b) (h1 : b ≤ 63) {f t : Nat} (hf : f < 64) (ht : t < 64) (u : UInt8) : MoR (bz4 (mZ z) (!wh) (fcm fc) (bm b) (mr f) (mr t) u) (bz4 z wh fc b f t u) := by
  have m1 : MoR (bz1 (mZ z) (bm b) (mr f) (mr t)) (bz1 z b f t) := by
    have e : pasB (mZ z) (bm b) (mr f) (mr t) = pasB z b f t := by
      unfold pasB
      rw [kd_mr hok hf, (mr_div hf).2, (mr_div ht).2, show decide (((mr t : Nat) : Int) = bm b) = decide ((t : Int) = b) from decide_eq_decide.2 (bm_eq h0 h1 ht)]
    unfold bz1
    rw [e]
    split
    · refine (mo_z z).upd (by omega) ?_ mc_dot
      unfold mr; omega
    · exact mo_z z
  have m2 : MoR (bz2 (mZ z) (bm b) (mr f) (mr t)) (bz2 z b f t) := (m1.upd ht rfl (mo_z z f hf)).upd hf rfl mc_dot
  have m3 : MoR (bz3 (mZ z) (!wh) (bm b) (mr f) (mr t) u) (bz3 z wh b f t u) := by
    unfold bz3
    split
    · exact m2
    · exact m2.upd ht rfl (man_mc _ (plU_lt6 u) wh)
  unfold bz4 kcB
  rw [kd_mr hok hf]
  by_cases hu : u = 0
  · subst hu
    rcases casR_mr (wh := wh) (fc := fc) hf ht with ⟨i, hi, e1, e2, e3, e4⟩ | ⟨e1, e2⟩
    · obtain ⟨q1, q2, q3, q4⟩ := home_mr i hi
      rw [e3, e4, decide_eq_true (show (0 : Int) ≤ ((s4 i : Nat) : Int) by omega), decide_eq_true (show (0 : Int) ≤ ((i : Nat) : Int) by omega), Int.toNat_natCast, Int.toNat_natCast]
      split
      · refine (m3.upd q3 q1 mc_dot).upd (by rw [e1, e2]; exact q4) (by rw [e1, e2]; exact q2) (man_mc 3 (by omega) wh)
      · exact m3
    · rw [decide_eq_false e1, decide_eq_false e2, Bool.and_false]
      exact m3
  · rw [casR_no hu, casR_no hu]
    simpa using m3
end Go.Proofs.YtnfakamfmkhlbaaGreatDoor.C
namespace Go.Proofs.YtnfakamfmkhlbaaGreatDoor.C
open Go.RowKit
open Go.Proofs.YtnfakamfmkhlbaaGreatDoor.P
theorem MoR.is {A B : Nat → UInt8} (m : MoR A B) {n : Nat} (hn : n < 64) : A n = mZ B n := by
  have := m (mr n) (mr_lt hn)
  rw [mr_mr hn] at this
  rw [mZ_lt hn]
  exact this
theorem king_mr {A B : Nat → UInt8} (hok : layOk B = true) (m : MoR A B) {wh : Bool} (hk : kinR B wh 64 = 1) : ∃ y : Nat, y < 64 ∧ kingR B wh = (y : Int) ∧ kingR A (!wh) = ((mr y : Nat) : Int) := by
  obtain ⟨y, hy, hu⟩ := qx3 hk
  have ka : ∀ j, j < 64 → (A j == kingL (!wh)) = decide (mr j = y) := fun j hj => by
    rw [king_ix, m.is hj, mZ_lt hj]
    have h6 := (mc_ok _ (xe hok (mr_lt hj))).2.2.2.2.2 wh 5 (by omega)
    exact decide_eq_decide.2 (h6.trans (hu (mr j) (mr_lt hj)))
  refine ⟨y, hy, qzd (fun j hj => ?_) ?_ hy, qzd (fun j hj => ?_) ?_ (mr_lt hy)⟩
  · rw [king_ix, decide_eq_false fun e => absurd ((hu j (by omega)).1 e) (by omega)]
  · rw [king_ix, decide_eq_true ((hu y hy).2 rfl)]
  · have hj' : j < 64 := Nat.lt_trans hj (mr_lt hy)
    rw [ka j hj', decide_eq_false fun e => absurd hj (by rw [← e, mr_mr hj']; omega)]
  · rw [ka _ (mr_lt hy), decide_eq_true (mr_mr hy)]
theorem attR_mo {A B : Nat → UInt8} (hok : layOk B = true) (m : MoR A B) {wh : Bool} {y : Nat} (hy : y < 64) : attR A ((mr y : Nat) : Int) (!wh) = attR B (y : Int) wh := by
  rw [← attR_mr hok hy]
  unfold attR
  have hmy := mr_lt hy
  have key : ∀ n, n ∈ List.range 64 → (decide (coc (A n) = sdb (!wh)) && attI (zI A) (kdc (A n)).toNat (sdb (!wh)) (n : Int) ((mr y : Nat) : Int)) = (decide (coc (mZ B n) = sdb (!wh)) && attI (zI (mZ B)) (kdc (mZ B n)).toNat (sdb (!wh)) (n : Int) ((mr y : Nat) : Int)) := fun n hn => by
    have hn := List.mem_range.1 hn
    rw [m.is hn, attI_congr (f := zI A) (g := zI (mZ B)) (fun k hk => by unfold zI; rw [m.is hk]) _ _ _ _ (by omega) (by omega) (by omega) (by omega)]
  rw [Bool.eq_iff_iff, List.any_eq_true, List.any_eq_true]
  exact ⟨fun ⟨n, hn, h⟩ => ⟨n, hn, by rw [← key n hn]; exact h⟩, fun ⟨n, hn, h⟩ => ⟨n, hn, by rw [key n hn]; exact h⟩⟩
theorem goes_one {z : Nat → UInt8} {wh : Bool} {fc : Nat → Bool} {b : Int} (hC : Can z wh fc b) (hB : Brd1 z) (h0 : -1 ≤ b) (h1 : b ≤ 63) {f t : Nat} {u : UInt8} (hf : f < 64) (ht : t < 64) (hu : u ∈ U5) (hg : goesR z wh fc b f t u = true) : layOk (bz4 z wh fc b f t u) = true ∧ kinR (bz4 z wh fc b f t u) wh 64 = 1 := by
  obtain ⟨i, hi, hc, hm, htu⟩ := (goes_iff hC hf ht hu).1 hg
  rw [bz4_pl hC hi hf ht hc hm htu]
  refine ⟨pl_ok hC hi hf ht hc hm htu, ?_⟩
  rcases classify hC hi hf ht hc hm htu with ⟨hP, kg⟩ | ⟨ci, hK', e1, e2, e3, e4⟩
  · exact kin_after hP (pl_at hP kg) (hC.k1 wh) h0 h1
  · subst e1 e2 e3
    exact (cas_brd hK' hB).kin wh
theorem leg_mr {z : Nat → UInt8} {wh : Bool} {fc : Nat → Bool} {b : Int} (hC : Can z wh fc b) (hB : Brd1 z) (h0 : -1 ≤ b) (h1 : b ≤ 63) {f t : Nat} {u : UInt8} (hf : f < 64) (ht : t < 64) (hu : u ∈ U5) : legR (mZ z) (!wh) (fcm fc) (bm b) (mr f) (mr t) u = legR z wh fc b f t u := by
  unfold legR
  rw [goes_mr hC.ok h0 h1 hf ht]
  cases hg : goesR z wh fc b f t u with
  | false => rfl
  | true =>
    obtain ⟨a1, a2⟩ := goes_one hC hB h0 h1 hf ht hu hg
    have m := bz4_mr hC.ok (wh := wh) (fc := fc) h0 h1 hf ht u
    obtain ⟨y, hy, e1, e2⟩ := king_mr a1 m a2
    rw [e1, e2, attR_mo (wh := !wh) a1 m hy]
end Go.Proofs.YtnfakamfmkhlbaaGreatDoor.C
namespace Go.Proofs.YtnfakamfmkhlbaaGreatDoor.C
open Go.RowKit
open Go.Proofs.YtnfakamfmkhlbaaGreatDoor.P
theorem mr_perm : ((List.range 64).map mr).Perm (List.range 64) := by
  have hnd : ((List.range 64).map mr).Nodup := by decide +kernel
  rw [List.perm_ext_iff_of_nodup hnd List.nodup_range]
  intro a
  rw [List.mem_map, List.mem_range]
  constructor
  · rintro ⟨n, hn, rfl⟩
    exact mr_lt (List.mem_range.1 hn)
  · intro ha
    exact ⟨mr a, List.mem_range.2 (mr_lt ha), mr_mr ha⟩
theorem cnt_mr {p q : Nat → Bool} (h : ∀ n, n < 64 → p n = q (mr n)) : ((List.range 64).filter p).length = ((List.range 64).filter q).length := by
  rw [← List.countP_eq_length_filter, ← List.countP_eq_length_filter, ← mr_perm.countP_eq q, List.countP_map]
  refine List.countP_congr fun n hn => ?_
  simp only [Function.comp]
  rw [h n (List.mem_range.1 hn)]
theorem men_mr {z : Nat → UInt8} (hok : layOk z = true) (bb : Bool) : menR (mZ z) (!bb) 64 = menR z bb 64 := by
  unfold menR
  refine cnt_mr fun n hn => ?_
  have := co_mr hok (wh := bb) (mr_lt hn)
  rw [mr_mr hn] at this
  exact this
theorem kin_mr {z : Nat → UInt8} (hok : layOk z = true) (bb : Bool) : kinR (mZ z) (!bb) 64 = kinR z bb 64 := by
  unfold kinR
  refine cnt_mr fun n hn => ?_
  rw [mZ_lt hn]
  exact decide_eq_decide.2 ((mc_ok _ (xe hok (mr_lt hn))).2.2.2.2.2 bb 5 (by omega))
theorem bad_mr {z : Nat → UInt8} (hok : layOk z = true) {n : Nat} (hn : n < 64) : badR (mZ z) (mr n) = badR z n := by
  unfold badR
  rw [kd_mr hok hn, (mr_div hn).1, show (mZ z (mr n) == 46) = (z n == 46) from by rw [Bool.eq_iff_iff, beq_iff_eq, beq_iff_eq]; exact dot_mr hok hn]
  by_cases h0 : n / 8 = 0
  · rw [decide_eq_true h0, decide_eq_false (show ¬ 7 - n / 8 = 0 by omega), decide_eq_true (show 7 - n / 8 = 7 by omega)]; rfl
  · by_cases h7 : n / 8 = 7
    · rw [decide_eq_false h0, decide_eq_true h7, decide_eq_true (show 7 - n / 8 = 0 by omega)]; rfl
    · rw [decide_eq_false h0, decide_eq_false h7, decide_eq_false (show ¬ 7 - n / 8 = 0 by omega), decide_eq_false (show ¬ 7 - n / 8 = 7 by omega)]
theorem mZ_at {z : Nat → UInt8} {n k : Nat} {c d : UInt8} (hk : mr n = k) (hz : z k = c) (hd : mc c = d) (hn : n < 64 := by omega) : mZ z n = d := by
  rw [mZ_lt hn, hk, hz, hd]
theorem cast_mr {z : Nat → UInt8} {wh : Bool} {fc : Nat → Bool} {b : Int} (hC : Can z wh fc b) : castOk (mZ z) (fcm fc) = true := by
  refine cast_of (fun h => ?_) (fun h => ?_) (fun h => ?_) (fun h => ?_)
  · obtain ⟨a, d⟩ := hC.c2 h
    exact ⟨mZ_at rfl a (by decide), mZ_at rfl d (by decide)⟩
  · obtain ⟨a, d⟩ := hC.c3 h
    exact ⟨mZ_at rfl a (by decide), mZ_at rfl d (by decide)⟩
  · obtain ⟨a, d⟩ := hC.c0 h
    exact ⟨mZ_at rfl a (by decide), mZ_at rfl d (by decide)⟩
  · obtain ⟨a, d⟩ := hC.c1 h
    exact ⟨mZ_at rfl a (by decide), mZ_at rfl d (by decide)⟩
theorem beh_mr {z : Nat → UInt8} {wh : Bool} {b : Int} (h : behOk z wh b = true) : behOk (mZ z) (!wh) (bm b) = true := by
  unfold behOk at h ⊢
  rw [Bool.or_eq_true, decide_eq_true_eq] at h ⊢
  rcases h with h | h
  · left; subst h; rfl
  · right
    cases wh
    · simp only [Bool.false_eq_true, if_false, Bool.and_eq_true, decide_eq_true_eq] at h
      simp only [Bool.not_false, if_true, Bool.and_eq_true, decide_eq_true_eq]
      obtain ⟨⟨⟨⟨a, b1⟩, c⟩, d⟩, e⟩ := h
      have eb : bm b = b + 24 := by unfold bm mr; rw [if_neg (by omega)]; omega
      rw [eb]
      have t1 := mZ_at (z := z) (n := (b + 24).toNat) (k := b.toNat) (by unfold mr; omega) (u8_of (d := 46) c rfl) rfl
      have t2 := mZ_at (z := z) (n := (b + 24 + 8).toNat) (k := (b - 8).toNat) (by unfold mr; omega) (u8_of (d := 46) d rfl) rfl
      have t3 := mZ_at (z := z) (n := (b + 24 - 8).toNat) (k := (b + 8).toNat) (by unfold mr; omega) (u8_of (d := 80) e rfl) rfl
      rw [t1, t2, t3]
      exact ⟨⟨⟨⟨by omega, by omega⟩, rfl⟩, rfl⟩, rfl⟩
    · simp only [if_true, Bool.and_eq_true, decide_eq_true_eq] at h
      simp only [Bool.not_true, Bool.false_eq_true, if_false, Bool.and_eq_true, decide_eq_true_eq]
      obtain ⟨⟨⟨⟨a, b1⟩, c⟩, d⟩, e⟩ := h
      have eb : bm b = b - 24 := by unfold bm mr; rw [if_neg (by omega)]; omega
      rw [eb]
      have t1 := mZ_at (z := z) (n := (b - 24).toNat) (k := b.toNat) (by unfold mr; omega) (u8_of (d := 46) c rfl) rfl
      have t2 := mZ_at (z := z) (n := (b - 24 - 8).toNat) (k := (b + 8).toNat) (by unfold mr; omega) (u8_of (d := 46) d rfl) rfl
      have t3 := mZ_at (z := z) (n := (b - 24 + 8).toNat) (k := (b - 8).toNat) (by unfold mr; omega) (u8_of (d := 112) e rfl) rfl
      rw [t1, t2, t3]
      exact ⟨⟨⟨⟨by omega, by omega⟩, rfl⟩, rfl⟩, rfl⟩
theorem brd_of {z : Nat → UInt8} {wh : Bool} {fc : Nat → Bool} {b h g : Int} (hcan : canS z wh fc b h g = true) : Brd1 z ∧ attR z (kingR z (!wh)) wh = false ∧ clkOk h g = true := by
  rw [← can_same] at hcan
  unfold canR at hcan
  simp only [Bool.and_eq_true, decide_eq_true_eq, List.all_eq_true, Bool.not_eq_true'] at hcan
  obtain ⟨⟨⟨⟨⟨hbad, ⟨⟨hk1, hk2⟩, hm1⟩, hm2⟩, _⟩, _⟩, ho⟩, hclk⟩ := hcan
  exact ⟨⟨fun n hn => hbad n (List.mem_range.2 hn), fun bb => by cases bb <;> assumption, fun bb => by cases bb <;> assumption⟩, ho, hclk⟩
/-- a position that can be, turned over, can be. -/
theorem can_mr {z : Nat → UInt8} {wh : Bool} {fc : Nat → Bool} {b h g : Int} (hcan : canS z wh fc b h g = true) : canS (mZ z) (!wh) (fcm fc) (bm b) h g = true := by
  have hC := qzl hcan
  obtain ⟨hB, ho, hclk⟩ := brd_of hcan
  rw [← can_same]
  unfold canR
  obtain ⟨y, hy, e1, e2⟩ := king_mr hC.ok (mo_z z) (hB.kin (!wh))
  rw [e1] at ho
  have hatt : attR (mZ z) (kingR (mZ z) (!!wh)) (!wh) = false := by rw [e2, attR_mr hC.ok hy]; exact ho
  have k1 : ∀ bb, kinR (mZ z) bb 64 = 1 := fun bb => by have := kin_mr hC.ok (!bb); rw [Bool.not_not] at this; rw [this]; exact hB.kin _
  have n1 : ∀ bb, menR (mZ z) bb 64 ≤ 16 := fun bb => by have := men_mr hC.ok (!bb); rw [Bool.not_not] at this; rw [this]; exact hB.men _
  have : ((List.range 64).all fun n => !(badR (mZ z) n)) = true := List.all_eq_true.2 fun n hn => by
    have hn := List.mem_range.1 hn
    have e := bad_mr hC.ok (mr_lt hn)
    rw [mr_mr hn] at e
    rw [e, hB.bad _ (mr_lt hn)]; rfl
  rw [hatt, cast_mr hC, beh_mr hC.beh, hclk, decide_eq_true (k1 true), decide_eq_true (k1 false), decide_eq_true (n1 true), decide_eq_true (n1 false), this]
  rfl
end Go.Proofs.YtnfakamfmkhlbaaGreatDoor.C
namespace Go.Proofs.YtnfakamfmkhlbaaGreatDoor.C
open Go.RowKit
open Go.Proofs.YtnfakamfmkhlbaaGreatDoor.P
def mm (x : Mv) : Mv := (mr x.1, mr x.2.1, x.2.2)
theorem mm_mm {x : Mv} (h : okM x) : mm (mm x) = x := by
  obtain ⟨f, t, u⟩ := x
  unfold mm
  rw [mr_mr h.1, mr_mr h.2]
theorem bm_bd {b : Int} (h0 : -1 ≤ b) (h1 : b ≤ 63) : -1 ≤ bm b ∧ bm b ≤ 63 := by
  unfold bm
  split
  · omega
  · have := mr_lt (show b.toNat < 64 by omega)
    omega
theorem mov_iff {z : Nat → UInt8} {wh : Bool} {fc : Nat → Bool} {b : Int} (hC : Can z wh fc b) (h0 : -1 ≤ b) (h1 : b ≤ 63) {f t : Nat} {u : UInt8} (hf : f < 64) (ht : t < 64) (hu : u ∈ U5) : (f, t, u) ∈ movS z wh fc b ↔ legR z wh fc b f t u = true := by
  rw [qzb hC h0 h1 hf ht hu, zi hC h0 h1]
/-- the moves of a position turned over are its moves, turned over. -/
theorem mov_mr {z : Nat → UInt8} {wh : Bool} {fc : Nat → Bool} {b h g : Int} (hcan : canS z wh fc b h g = true) (h0 : -1 ≤ b) (h1 : b ≤ 63) {x : Mv} (hx : okM x) : mm x ∈ movS (mZ z) (!wh) (fcm fc) (bm b) ↔ x ∈ movS z wh fc b := by
  obtain ⟨f, t, u⟩ := x
  have hf : f < 64 := hx.1
  have ht : t < 64 := hx.2
  have hC := qzl hcan
  have hC' := qzl (can_mr hcan)
  obtain ⟨b0, b1⟩ := bm_bd h0 h1
  have hl := leg_mr hC (brd_of hcan).1 h0 h1 hf ht (u := u)
  constructor
  · intro h
    have hu : u ∈ U5 := mov_u5 hC' b0 b1 h
    rw [mov_iff hC h0 h1 hf ht hu, ← hl hu, ← mov_iff hC' b0 b1 (mr_lt hf) (mr_lt ht) hu]
    exact h
  · intro h
    have hu : u ∈ U5 := mov_u5 hC h0 h1 h
    show (mr f, mr t, u) ∈ _
    rw [mov_iff hC' b0 b1 (mr_lt hf) (mr_lt ht) hu, hl hu, ← mov_iff hC h0 h1 hf ht hu]
    exact h
theorem len_mr {z : Nat → UInt8} {wh : Bool} {fc : Nat → Bool} {b h g : Int} (hcan : canS z wh fc b h g = true) (h0 : -1 ≤ b) (h1 : b ≤ 63) : (movS (mZ z) (!wh) (fcm fc) (bm b)).length = (movS z wh fc b).length := by
  have hok := zr z wh fc b
  have hok' := zr (mZ z) (!wh) (fcm fc) (bm b)
  have hnd : ((movS z wh fc b).map mm).Nodup := by
    rw [List.nodup_iff_pairwise_ne, List.pairwise_map]
    exact (List.nodup_iff_pairwise_ne.1 (movS_nodup z wh fc b)).imp_of_mem fun {a c} ha hc hac e => hac (by rw [← mm_mm (hok a ha), e, mm_mm (hok c hc)])
  have hp : ((movS z wh fc b).map mm).Perm (movS (mZ z) (!wh) (fcm fc) (bm b)) := by
    rw [List.perm_ext_iff_of_nodup hnd (movS_nodup _ _ _ _)]
    intro a
    rw [List.mem_map]
    constructor
    · rintro ⟨x, hx, rfl⟩
      exact (mov_mr hcan h0 h1 (hok x hx)).2 hx
    · intro ha
      have ho := hok' a ha
      have ho2 : okM (mm a) := ⟨mr_lt ho.1, mr_lt ho.2⟩
      exact ⟨mm a, (mov_mr hcan h0 h1 ho2).1 (by rw [mm_mm ho]; exact ha), mm_mm ho⟩
  rw [← hp.length_eq, List.length_map]
theorem mc_dead : ∀ c : UInt8, okY c = true → restC (mc c) = restC c ∧ lightC (mc c) = lightC c := all256 (by decide +kernel)
theorem dead_mr {z : Nat → UInt8} (hok : layOk z = true) : deadB (mZ z) = deadB z := by
  have key : ∀ n, n < 64 → restC (mZ z n) = restC (z (mr n)) ∧ lightC (mZ z n) = lightC (z (mr n)) := fun n hn => by rw [mZ_lt hn]; exact mc_dead _ (xe hok (mr_lt hn))
  unfold deadB ltN
  rw [cnt_mr (p := fun i => lightC (mZ z i)) (q := fun i => lightC (z i)) fun n hn => (key n hn).2]
  have : (List.range 64).all (fun i => restC (mZ z i) || lightC (mZ z i)) = (List.range 64).all (fun i => restC (z i) || lightC (z i)) := by
    rw [Bool.eq_iff_iff, List.all_eq_true, List.all_eq_true]
    constructor
    · intro h n hn
      have hn := List.mem_range.1 hn
      have := h (mr n) (List.mem_range.2 (mr_lt hn))
      obtain ⟨e1, e2⟩ := key (mr n) (mr_lt hn)
      rw [e1, e2, mr_mr hn] at this
      exact this
    · intro h n hn
      have hn := List.mem_range.1 hn
      obtain ⟨e1, e2⟩ := key n hn
      rw [e1, e2]
      exact h (mr n) (List.mem_range.2 (mr_lt hn))
  rw [this]
theorem chk_mr {z : Nat → UInt8} {wh : Bool} {fc : Nat → Bool} {b : Int} (hC : Can z wh fc b) : chkS (mZ z) (!wh) = chkS z wh := by
  obtain ⟨y, hy, e1, e2⟩ := king_mr hC.ok (mo_z z) (hC.k1 wh)
  have hm := mr_lt hy
  rw [chk_ref hC.ok (by omega) (by omega), chk_ref (lay_mr hC.ok) (by omega) (by omega), e1, e2]
  exact attR_mr hC.ok hy
/-- a position turned over stands likewise. -/
theorem look_mr {z : Nat → UInt8} {wh : Bool} {fc : Nat → Bool} {b h g : Int} (hcan : canS z wh fc b h g = true) (h0 : -1 ≤ b) (h1 : b ≤ 63) : lookV (mZ z) (!wh) (fcm fc) (bm b) = lookV z wh fc b := by
  have hC := qzl hcan
  unfold lookV
  rw [len_mr hcan h0 h1, chk_mr hC]
  unfold overN
  rw [dead_mr hC.ok]
/-! a move's text, turned over -/
def ovL (s : List UInt8) : List UInt8 := (s.set 1 (105 - s.getD 1 0)).set 3 (105 - s.getD 3 0)
theorem name_mr : ∀ n, n < 64 → nameS (mr n) = (nameS n).set 1 (105 - (nameS n).getD 1 0) := by decide +kernel
theorem ov_txt {x : Mv} (hx : okM x) : txt (mm x) = ovL (txt x) := by
  obtain ⟨f, t, u⟩ := x
  unfold mm txt mvS
  simp only
  rw [name_mr f hx.1, name_mr t hx.2]
  rfl
end Go.Proofs.YtnfakamfmkhlbaaGreatDoor.C
namespace Go.Proofs.YtnfakamfmkhlbaaGreatDoor.C
open Go.RowKit
open Go.Proofs.YtnfakamfmkhlbaaGreatDoor.P
/-! what was written is read again -/
theorem read_written {B : List UInt8} (hB : B.length = 64) {wh : Bool} {f : Nat → Bool} {b h g : Int} (k : canS (zB B) wh f b h g = true) : ∃ p, readS ⟨(writeS (zB B) wh f b h g).toArray⟩ = some p ∧ posCan p = true ∧ posZ p = zB B ∧ p.white = wh ∧ (∀ i, i < 4 → p.castle i = f i) ∧ p.behind = b := by
  obtain ⟨k0, k1, k2, k3⟩ := can_gives k
  have hall : B.all okL = true := by
    rw [List.all_eq_true]
    intro c hc
    obtain ⟨i, hi, rfl⟩ := List.getElem_of_mem hc
    have := k0 i (by omega)
    unfold zB at this
    rwa [List.getD_eq_getElem?_getD, List.getElem?_eq_getElem hi] at this
  obtain ⟨hn, rfl⟩ := Int.eq_ofNat_of_zero_le k2.1
  obtain ⟨gn, rfl⟩ := Int.eq_ofNat_of_zero_le (show 0 ≤ g by omega)
  obtain ⟨p, p1, p2, p3, c0, c1, c2, c3, p4, p5, p6⟩ := write_forth B hB hall wh f b k1 hn gn (by omega) (by omega) ⟨(writeS (zB B) wh f b hn gn).toArray⟩ rfl
  have hc : ∀ i, i < 4 → p.castle i = f i := fun i hi => by
    have : i = 0 ∨ i = 1 ∨ i = 2 ∨ i = 3 := by omega
    rcases this with rfl | rfl | rfl | rfl
    · exact c0
    · exact c1
    · exact c2
    · exact c3
  have hcan : posCan p = true := by
    unfold posCan
    rw [qj4 p2, p3, p4, p5, p6, canS_congr _ _ _ _ _ hc]
    exact k
  exact ⟨p, p1, hcan, qj4 p2, p3, hc, p4⟩
/-! the rights beyond the fourth say nothing -/
theorem cas_fc {wh : Bool} {fc fd : Nat → Bool} (h : ∀ i, i < 4 → fc i = fd i) (f t : Nat) (u : UInt8) : casR wh fc f t u = casR wh fd f t u := by
  have hu : ∀ fc : Nat → Bool, casR wh fc f t u = if casB wh fc f t u 0 then 0 else if casB wh fc f t u 1 then 1 else if casB wh fc f t u 2 then 2 else if casB wh fc f t u 3 then 3 else -1 := fun _ => rfl
  have hc : ∀ i, i < 4 → casB wh fc f t u i = casB wh fd f t u i := fun i hi => by unfold casB; rw [h i hi]
  rw [hu, hu, hc 0 (by omega), hc 1 (by omega), hc 2 (by omega), hc 3 (by omega)]
theorem leg_fc {z : Nat → UInt8} {wh : Bool} {fc fd : Nat → Bool} {b : Int} (h : ∀ i, i < 4 → fc i = fd i) (f t : Nat) (u : UInt8) : legR z wh fc b f t u = legR z wh fd b f t u := by
  have e1 : goesR z wh fc b f t u = goesR z wh fd b f t u := by
    unfold goesR mnR
    rw [cas_fc h]
  have e2 : bz4 z wh fc b f t u = bz4 z wh fd b f t u := by
    unfold bz4 kcB
    rw [cas_fc h]
  unfold legR
  rw [e1, e2]
theorem mov_fc {z : Nat → UInt8} {wh : Bool} {fc fd : Nat → Bool} {b : Int} (hC : Can z wh fc b) (hD : Can z wh fd b) (h0 : -1 ≤ b) (h1 : b ≤ 63) (h : ∀ i, i < 4 → fc i = fd i) (x : Mv) : x ∈ movS z wh fc b ↔ x ∈ movS z wh fd b := by
  obtain ⟨f, t, u⟩ := x
  constructor
  · intro hx
    have hok := zr _ _ _ _ _ hx
    have hu : u ∈ U5 := mov_u5 hC h0 h1 hx
    rw [mov_iff hD h0 h1 hok.1 hok.2 hu, ← leg_fc h]
    exact (mov_iff hC h0 h1 hok.1 hok.2 hu).1 hx
  · intro hx
    have hok := zr _ _ _ _ _ hx
    have hu : u ∈ U5 := mov_u5 hD h0 h1 hx
    rw [mov_iff hC h0 h1 hok.1 hok.2 hu, leg_fc h]
    exact (mov_iff hD h0 h1 hok.1 hok.2 hu).1 hx
theorem movlen_fc {z : Nat → UInt8} {wh : Bool} {fc fd : Nat → Bool} {b : Int} (hC : Can z wh fc b) (hD : Can z wh fd b) (h0 : -1 ≤ b) (h1 : b ≤ 63) (h : ∀ i, i < 4 → fc i = fd i) : (movS z wh fc b).length = (movS z wh fd b).length :=
  ((List.perm_ext_iff_of_nodup (movS_nodup z wh fc b) (movS_nodup z wh fd b)).2 (mov_fc hC hD h0 h1 h)).length_eq
end Go.Proofs.YtnfakamfmkhlbaaGreatDoor.C
namespace Go.Proofs.YtnfakamfmkhlbaaGreatDoor.C
open Go.ChangeShapes Go.WideShapes Go.ChangeAt Go.RowKit Go.Shelf
open Go.Proofs.YtnfakamfmkhlbaaGreatDoor.P
attribute [local go_sem] qb qd Oper.semAt_some
theorem bw_gr (w : World) (s : ByteArray) : Gr w (Lib.bytesWorld w 5 s) := by
  refine ⟨rfl, rfl, rfl, ?_, fun j hj => Lib.bytesWorld_at_old w _ s j hj⟩
  rw [Lib.bytesWorld_size]; omega
/-- a row of bytes. -/
def RB (l : List UInt8) (B : Nat) (W : World) : Prop := ∀ i (h : i < l.length), W.cell? ⟨B, i, none⟩ = some (.int .u8 ((l[i]).toNat : Int))
theorem RB.set {l : List UInt8} {B : Nat} {W : World} (h : RB l B W) {i : Nat} (hi : i < l.length) (c : UInt8) {v : Int} (hv : v = (c.toNat : Int)) : RB (l.set i c) B (W.setCell ⟨B, i, none⟩ (.int .u8 v)) := fun j hj => by
  subst hv
  rw [List.length_set] at hj
  rw [List.getElem_set]
  by_cases e : i = j
  · subst e
    rw [if_pos rfl, World.cell?_setCell_same' W _ _ (by rw [h i hi]; rfl)]
  · rw [if_neg e, World.cell?_setCell_other W _ _ _ (fun h => by cases h; exact e rfl)]
    exact h j hj
theorem gd_at {l : List UInt8} {i : Nat} (h : i < l.length) : l.getD i 0 = l[i] := by rw [List.getD_eq_getElem?_getD, List.getElem?_eq_getElem h, Option.getD_some]
theorem ov_num : ∀ c : UInt8, (105 - (c.toNat : Int)) % 256 = (((105 : UInt8) - c).toNat : Int) := all256 (by decide +kernel)
set_option linter.unusedSimpArgs false in
set_option maxRecDepth 100000 in
set_option maxHeartbeats 4000000 in
theorem ovr_any (s : ByteArray) (h4 : 4 ≤ s.size) (w : World) : Calls Tryz.prog 29 #[.string s] w fun e w' => e = .returned (.string ⟨(ovL s.data.toList).toArray⟩) ∧ Gr w w' := by
  have kc := fun (w : World) => Lib.run_convert_string_bytes (P := Tryz.prog) w 9 101 5 s Tryz.underlying9 Tryz.underlying101 Tryz.underlying5
  have hls : s.data.toList.length = s.size := by simp
  have hx : Hid (RB s.data.toList w.heap.size (Lib.bytesWorld w 5 s)) := hide fun j hj => by
    rw [hls] at hj
    rw [Lib.bytesWorld_cell w _ s j hj, gd_at (by rw [hls]; exact hj)]
  have hf : Hid (∀ j, j < s.size → (Lib.bytesWorld w 5 s).frozen? ⟨w.heap.size, j, none⟩ = false) := hide fun j hj => by
    have : s.size ≤ (Lib.bytesCells w 5 s).size := by unfold Lib.bytesCells; simp
    simp [World.frozen?, Lib.bytesWorld_at_new]
    omega
  have hg := hide (bw_gr w s)
  have hB : Hid (∀ W v j, Gr w W → Gr w (W.setCell ⟨w.heap.size, j, none⟩ v)) := hide fun W v j g => Below.setCell g (Nat.le_refl _) v
  obtain ⟨L, hL⟩ : ∃ L, s.data.toList = L := ⟨_, rfl⟩
  rw [hL] at hls hx ⊢
  have hov : Hid (ovL L = (L.set 1 (105 - L.getD 1 0)).set 3 (105 - L.getD 3 0)) := hide rfl
  have hol : (ovL L).length = s.size := by rw [← hls]; unfold ovL; rw [List.length_set, List.length_set]
  have g1 : L.getD 1 0 = L[1]'(by omega) := gd_at _
  have g3 : L.getD 3 0 = L[3]'(by omega) := gd_at _
  rw [g1, g3] at hov
  have x1 := qa hx 1 (by omega)
  have x3 := qa hx 3 (by omega)
  have r1 := hide ((qa hx).set (i := 1) (by omega) ((105 : UInt8) - L[1]'(by omega)) (ov_num _))
  have r3 := hide ((qa r1).set (i := 3) (by rw [List.length_set]; omega) ((105 : UInt8) - L[3]'(by omega)) (ov_num _))
  rw [← qa hov] at r3
  clear hL g1 g3 r1 hov
  generalize L[1]'(by omega) = c1 at x1 r3
  generalize L[3]'(by omega) = c3 at x3 r3
  have f1 := qa hf 1 (by omega)
  have f3 := qa hf 3 (by omega)
  generalize ovL L = O at hol r3 ⊢
  clear hx hf hls
  have x1 := hide x1
  have x3 := hide x3
  have f1 := hide f1
  have f3 := hide f3
  have hol := hide hol
  go_enter Tryz.func29, Tryz.ntmps29
  go_upto_region 2 with fail
  clear kc
  have x1 := qa x1
  have x3 := qa x3
  have f1 := qa f1
  have f3 := qa f3
  generalize Lib.bytesWorld w 5 s = w1 at x1 x3 f1 f3 r3 hg ⊢
  generalize w.heap.size = B at x1 x3 f1 f3 r3 hB ⊢
  go_upto_region 3 with fail
  go_upto_region 4 with fail
  have hgA := hide (qa hB _ (.int .u8 ((105 - (c3.toNat : Int)) % 256)) 3 (qa hB _ (.int .u8 ((105 - (c1.toNat : Int)) % 256)) 1 (qa hg)))
  generalize (w1.setCell ⟨B, 1, none⟩ (.int .u8 ((105 - (c1.toNat : Int)) % 256))).setCell ⟨B, 3, none⟩ (.int .u8 ((105 - (c3.toNat : Int)) % 256)) = w2 at r3 hgA ⊢
  have cv := fun cap => zk w2 ⟨B, 0, none⟩ cap O (fun i h => by rw [show (Addr.mk B 0 none).add i = ⟨B, i, none⟩ from by simp [Addr.add]; exact Eq.symm]; exact qa r3 i h)
  rw [qa hol] at cv
  clear x1 x3 f1 f3 r3 hg hB
  go_wp2
  go_ret
  exact ⟨rfl, qa hgA⟩
end Go.Proofs.YtnfakamfmkhlbaaGreatDoor.C
namespace Go.Proofs.YtnfakamfmkhlbaaGreatDoor.C
open Go.ChangeShapes Go.WideShapes Go.ChangeAt Go.RowKit
open Go.Proofs.YtnfakamfmkhlbaaGreatDoor.P
attribute [local go_sem] qb qd
/-- p, the result and q of turned, in a world. -/
structure Tn (w : World) (PA : Array Value) (B : Nat) (Q : Array Value) (W : World) : Prop where
  pa : W.heap[w.heap.size]? = some (.cells PA 25)
  rs : W.heap[w.heap.size + 1]? = some (.cells Tryz.zeroCells25 25)
  q : W.heap[B]? = some (.cells Q 25)
  lo : w.heap.size + 1 < B
  gr : Gr w W
theorem Tn.set {w W : World} {PA Q : Array Value} {B : Nat} (h : Tn w PA B Q W) (i : Nat) (v : Value) : Tn w PA B (Q.setIfInBounds i v) (W.setCell ⟨B, i, none⟩ v) := by
  have fs : Fr (fun k _ => k ≠ B) W (W.setCell ⟨B, i, none⟩ v) := (Fr.refl _ _).setCell _ (fun o _ q => q rfl)
  have lo := h.lo
  exact ⟨fs.same _ _ h.pa (by omega), fs.same _ _ h.rs (by omega), qr h.q, lo, Below.setCell h.gr (show w.heap.size ≤ B by omega) _⟩
theorem Tn.op {w W : World} {PA Q : Array Value} {B : Nat} (h : Tn w PA B Q W) (k : Nat) : W.frozen? ⟨B, k, none⟩ = false := xu h.q
theorem Tn.at {w W : World} {PA Q : Array Value} {B : Nat} (h : Tn w PA B Q W) {k : Nat} {v : Value} (hv : Q[k]? = some v) : W.cell? ⟨B, k, none⟩ = some v := by
  rw [ql h.q]; exact hv
theorem Tn.p {w W : World} {PA Q : Array Value} {B : Nat} (h : Tn w PA B Q W) {k : Nat} {v : Value} (hv : PA[k]? = some v) : W.cell? ⟨w.heap.size, k, none⟩ = some v := by
  rw [ql h.pa]; exact hv
theorem xor_mr : ∀ k, k < 64 → bits .xor .i64 ((k : Nat) : Int) 56 = ((mr k : Nat) : Int) := by decide +kernel
theorem xor_mc : ∀ c : UInt8, c ≠ 46 → bits .xor .u8 (c.toNat : Int) 32 = ((mc c).toNat : Int) := all256 (by decide +kernel)
/-- q, its first k squares turned over. -/
def QT (z : Nat → UInt8) (PA : Array Value) (k : Nat) (Q : Array Value) : Prop := Q.size = 72 ∧ ∀ j, j < 72 → Q[j]? = if j < k then some (.int .u8 ((mZ z j).toNat : Int)) else PA[j]?
theorem QT.step {z : Nat → UInt8} {PA Q : Array Value} {k : Nat} (hk : k < 64) (h : QT z PA k Q) {v : Int} (hv : v = ((mZ z k).toNat : Int)) : QT z PA (k + 1) (Q.setIfInBounds k (.int .u8 v)) := by
  subst hv
  refine ⟨by rw [Array.size_setIfInBounds]; exact h.1, fun j hj => ?_⟩
  by_cases e : j = k
  · subst e
    rw [Array.getElem?_setIfInBounds_self_of_lt (by rw [h.1]; omega), if_pos (by omega)]
  · rw [Array.getElem?_setIfInBounds_ne (fun x => e x.symm), h.2 j hj]
    by_cases l : j < k
    · rw [if_pos l, if_pos (by omega)]
    · rw [if_neg l, if_neg (by omega)]
set_option linter.unusedSimpArgs false in
set_option maxRecDepth 100000 in
set_option maxHeartbeats 1000000 in
theorem trd_any {z : Nat → UInt8} {wh : Bool} {fc : Nat → Bool} {b h g : Int} {PA : Array Value} (r : Row z wh fc b h g PA) (h0 : -1 ≤ b) (h1 : b ≤ 63) (w : World) :
    Calls Tryz.prog 28 #[.agg PA] w fun e w' => ∃ Q, e = .returned (.agg Q) ∧ Row (mZ z) (!wh) (fcm fc) (bm b) h g Q ∧ Gr w w' := by
  have hz := r.size
  have hone := hide (jq r)
  have y1 := heap_alloc_new w (.cells PA 25)
  have y2 := heap_alloc_new (w.alloc (.cells PA 25)) (.cells Tryz.zeroCells25 25)
  have y3 := (Below.heap_alloc (w.alloc (.cells PA 25)) (.cells Tryz.zeroCells25 25) w.heap.size (by rw [World.size_alloc]; omega)).trans y1
  have y4 : ((w.alloc (.cells PA 25)).alloc (.cells Tryz.zeroCells25 25)).heap.size = w.heap.size + 2 := by rw [World.size_alloc, World.size_alloc]
  have y5 : Gr w ((w.alloc (.cells PA 25)).alloc (.cells Tryz.zeroCells25 25)) := ((Gr.refl w).alloc _ _).alloc _ _
  rw [World.size_alloc] at y2
  have y2 := hide y2
  have y3 := hide y3
  have y4 := hide y4
  have y5 := hide y5
  clear y1
  go_enter Tryz.func28, Tryz.ntmps28
  go_upto_region 1 with fail
  generalize (w.alloc (.cells PA 25)).alloc (.cells Tryz.zeroCells25 25) = w1 at y2 y3 y4 y5 ⊢
  have hrow := hide (rowOf (qa y3))
  go_upto_region 2 with (first
    | (refine qj (by rfl) _ rfl w.heap.size rfl hz (qa hrow) ?_)
    | (refine wpList_store_row rfl 25 _ _ rfl w1.heap.size PA rfl rfl 25 Tryz.zeroCells25 (heap_alloc_new _ _) (by rw [hz]; exact infoP) (by rw [hz]; rfl) (qa hone) ?_))
  show Code.wp _ _ _ _ ((w1.alloc (.cells Tryz.zeroCells25 25)).setRow w1.heap.size PA)
  have hg3 : Gr w1 ((w1.alloc (.cells Tryz.zeroCells25 25)).setRow w1.heap.size PA) := ((Gr.refl w1).alloc _ _).setRow _ (Nat.le_refl _) _
  have hT : Tn w PA w1.heap.size PA ((w1.alloc (.cells Tryz.zeroCells25 25)).setRow w1.heap.size PA) := ⟨(Below.block hg3 _ (by rw [qa y4]; omega)).trans (qa y3), (Below.block hg3 _ (by rw [qa y4]; omega)).trans (qa y2), setRow_heap _ _ _ _ _ _ (heap_alloc_new w1 _), by rw [qa y4]; omega, Gr.trans (qa y5) hg3⟩
  generalize ((w1.alloc (.cells Tryz.zeroCells25 25)).setRow w1.heap.size PA) = w3 at hT ⊢
  generalize w1.heap.size = B at hT ⊢
  have hT := hide hT
  have r := hide r
  have hQ : Hid (QT z PA 0 PA) := hide ⟨hz, fun j hj => by rw [if_neg (by omega)]⟩
  clear hg3 hrow y2 y3 y4 y5
  go_upto_region 3 with fail
  go_loopg [4] 64 (fun g n wr => ∃ (k : Nat) (Q : Array Value), k + g = 64 ∧ n = .int .i64 k ∧ Tn w PA B Q wr ∧ QT z PA k Q)
  case atStart => exact ⟨0, PA, rfl, rfl, qa hT, qa hQ⟩
  case round =>
    obtain ⟨k, Q, k1, rfl, k2, k3⟩ := hrel
    have k2' := hide k2
    have k3' := hide k3
    by_cases hlt : k < 64
    · have hk0 : (0 : Int) ≤ (k : Int) := by omega
      have hk6 : (k : Int) < 64 := by omega
      have hxk := xor_mr k hlt
      have hm := mr_lt hlt
      have hm0 : (0 : Int) ≤ ((mr k : Nat) : Int) := by omega
      have hm6 : ((mr k : Nat) : Int) < 64 := by omega
      have c1 := k2.p ((qa r).sq (mr k) hm)
      have c2 := k2.at ((k3.2 k (by omega)).trans ((if_neg (Nat.lt_irrefl k)).trans ((qa r).sq k hlt)))
      have c3 := k2.op k
      by_cases e : z (mr k) = 46
      · have hv : mZ z k = 46 := by rw [mZ_lt hlt, e]; rfl
        rw [e] at c1
        have hfin := hide (fun (v : Int) (hv : v = 46) => (⟨k2.set k (.int .u8 v), k3.step hlt (v := v) (by rw [hv, mZ_lt hlt, e]; rfl)⟩ : Tn w PA B (Q.setIfInBounds k (.int .u8 v)) (wr.setCell ⟨B, k, none⟩ (.int .u8 v)) ∧ QT z PA (k + 1) (Q.setIfInBounds k (.int .u8 v))))
        clear k2 k3 k2' k3' hv e
        go_wp2
        go_roundg (gk - 1)
        case measure => omega
        case rel => exact ⟨k + 1, _, by omega, by go_num, (qa hfin 46 rfl).1, (qa hfin 46 rfl).2⟩
      · have hx8 := xor_mc _ e
        have hne : (((z (mr k)).toNat : Int) != 46) = true := by
          rw [bne_iff_ne]; exact fun q => e (UInt8.toNat_inj.1 (by show (z (mr k)).toNat = 46; omega))
        have hfin := hide (fun (v : Int) (hv : v = ((mc (z (mr k))).toNat : Int)) => (⟨k2.set k (.int .u8 v), k3.step hlt (v := v) (by rw [hv, mZ_lt hlt])⟩ : Tn w PA B (Q.setIfInBounds k (.int .u8 v)) (wr.setCell ⟨B, k, none⟩ (.int .u8 v)) ∧ QT z PA (k + 1) (Q.setIfInBounds k (.int .u8 v))))
        clear k2 k3 k2' k3' e
        generalize ((mc (z (mr k))).toNat : Int) = d at hx8 hfin
        generalize ((z (mr k)).toNat : Int) = c at hx8 hne c1
        go_wp2
        go_roundg (gk - 1)
        case measure => omega
        case rel => exact ⟨k + 1, _, by omega, by go_num, (qa hfin d rfl).1, (qa hfin d rfl).2⟩
    · have ek : k = 64 := by omega
      subst ek
      have hR0 : Row (mZ z) wh fc b h g Q := by
        have hr := qa r
        have tl : ∀ j, 64 ≤ j → j < 72 → Q[j]? = PA[j]? := fun j h1 h2 => (k3.2 j h2).trans (if_neg (by omega))
        exact ⟨k3.1, fun i hi => (k3.2 i (by omega)).trans (if_pos hi), (tl 64 (by omega) (by omega)).trans hr.wh, fun i hi => (tl (65 + i) (by omega) (by omega)).trans (hr.c i hi), (tl 69 (by omega) (by omega)).trans hr.b, (tl 70 (by omega) (by omega)).trans hr.h, (tl 71 (by omega) (by omega)).trans hr.g⟩
      have hT0 := k2
      clear k2 k3 k2' k3' hT hQ
      have cw := hT0.p (qa r).wh
      have qw := hT0.at hR0.wh
      have ow := hT0.op 64
      go_upto_region 10 with fail
      show Code.wp _ _ _ _ (wr.setCell ⟨B, 64, none⟩ (.bool (!wh)))
      have hT1 := hT0.set 64 (.bool (!wh))
      have hR1 : Row (mZ z) (!wh) fc b h g (Q.setIfInBounds 64 (.bool (!wh))) := hR0.setWh (!wh)
      clear hT0 hR0 cw qw ow
      generalize wr.setCell ⟨B, 64, none⟩ (.bool (!wh)) = w10 at hT1 ⊢
      generalize Q.setIfInBounds 64 (.bool (!wh)) = Q1 at hT1 hR1
      have p0 := hT1.p ((qa r).c 0 (by omega))
      have p1 := hT1.p ((qa r).c 1 (by omega))
      have p2 := hT1.p ((qa r).c 2 (by omega))
      have p3 := hT1.p ((qa r).c 3 (by omega))
      have q0 := hT1.at (hR1.c 0 (by omega))
      have q1 := hT1.at (hR1.c 1 (by omega))
      have q2 := hT1.at (hR1.c 2 (by omega))
      have q3 := hT1.at (hR1.c 3 (by omega))
      have o0 := hT1.op 65
      have o1 := hT1.op 66
      have o2 := hT1.op 67
      have o3 := hT1.op 68
      have hT1 := hide hT1
      have hR1 := hide hR1
      simp only [Nat.reduceAdd] at p0 p1 p2 p3 q0 q1 q2 q3
      go_upto_region 11 with fail
      show Code.wp _ _ _ _ ((((w10.setCell ⟨B, 65, none⟩ (.bool (fc 2))).setCell ⟨B, 66, none⟩ (.bool (fc 3))).setCell ⟨B, 67, none⟩ (.bool (fc 0))).setCell ⟨B, 68, none⟩ (.bool (fc 1)))
      have hT2 := ((((qa hT1).set 65 (.bool (fc 2))).set 66 (.bool (fc 3))).set 67 (.bool (fc 0))).set 68 (.bool (fc 1))
      have hR2 : Row (mZ z) (!wh) (fcm fc) b h g ((((Q1.setIfInBounds 65 (.bool (fc 2))).setIfInBounds 66 (.bool (fc 3))).setIfInBounds 67 (.bool (fc 0))).setIfInBounds 68 (.bool (fc 1))) := by
        have hr := ((((qa hR1).setC 0 (by omega) (fc 2)).setC 1 (by omega) (fc 3)).setC 2 (by omega) (fc 0)).setC 3 (by omega) (fc 1)
        refine ⟨hr.size, hr.sq, hr.wh, fun i hi => (hr.c i hi).trans ?_, hr.b, hr.h, hr.g⟩
        have : i = 0 ∨ i = 1 ∨ i = 2 ∨ i = 3 := by omega
        rcases this with rfl | rfl | rfl | rfl <;> rfl
      clear p0 p1 p2 p3 q0 q1 q2 q3 o0 o1 o2 o3 hT1 hR1
      generalize (((w10.setCell ⟨B, 65, none⟩ (.bool (fc 2))).setCell ⟨B, 66, none⟩ (.bool (fc 3))).setCell ⟨B, 67, none⟩ (.bool (fc 0))).setCell ⟨B, 68, none⟩ (.bool (fc 1)) = w11 at hT2 ⊢
      generalize (((Q1.setIfInBounds 65 (.bool (fc 2))).setIfInBounds 66 (.bool (fc 3))).setIfInBounds 67 (.bool (fc 0))).setIfInBounds 68 (.bool (fc 1)) = Q2 at hT2 hR2
      have pb := hT2.p (qa r).b
      have qb := hT2.at hR2.b
      have ob := hT2.op 69
      have hT2 := hide hT2
      have hR2 := hide hR2
      by_cases hb : 0 ≤ b
      · have hb3 : bits .xor .i64 b 56 = bm b := by
          have := xor_mr b.toNat (by omega)
          rw [Int.toNat_of_nonneg hb] at this
          rw [this]; unfold bm; rw [if_neg (by omega)]
        have hbd : decide (0 ≤ b) = true := decide_eq_true hb
        go_upto_region 13 with fail
        show Code.wp _ _ _ _ (w11.setCell ⟨B, 69, none⟩ (.int .i64 (bm b)))
        have hT3 := hide ((qa hT2).set 69 (.int .i64 (bm b)))
        have hR3 := hide ((qa hR2).setB (bm b))
        clear hT2 hR2 pb qb ob
        generalize w11.setCell ⟨B, 69, none⟩ (.int .i64 (bm b)) = w13 at hT3 ⊢
        generalize Q2.setIfInBounds 69 (.int .i64 (bm b)) = Q3 at hT3 hR3
        have hqz := (qa hR3).size
        have hq1 := jq (qa hR3)
        have hrow := hide (rowOf (qa hT3).q)
        have hrs := hide (qa hT3).rs
        go_wp2_with (first
          | (refine qj (by rfl) _ rfl B rfl hqz (qa hrow) ?_)
          | (refine wpList_store_row rfl 25 _ _ rfl (w.heap.size + 1) Q3 rfl rfl 25 Tryz.zeroCells25 (qa hrs) (by rw [hqz]; exact infoP) (by rw [hqz]; rfl) hq1 ?_))
        exact bodyPost_ret (v := .agg Q3) (results_cell_row Tryz.results28 _ _ (w.heap.size + 1) 25 _ (0, 0) _ rfl (setRow_heap _ _ _ _ _ _ (qa hrs)) Tryz.underlying25 rfl (by rw [hqz]; exact infoP)) rfl ⟨Q3, rfl, qa hR3, (qa hT3).gr.setRow _ (by omega) _⟩
      · have hb3 : Hid (bm b = b) := hide (by unfold bm; rw [if_pos (by omega)])
        have hbd : decide (0 ≤ b) = false := decide_eq_false hb
        go_upto_region 13 with fail
        have hqz := (qa hR2).size
        have hq1 := jq (qa hR2)
        have hrow := hide (rowOf (qa hT2).q)
        have hrs := hide (qa hT2).rs
        go_wp2_with (first
          | (refine qj (by rfl) _ rfl B rfl hqz (qa hrow) ?_)
          | (refine wpList_store_row rfl 25 _ _ rfl (w.heap.size + 1) Q2 rfl rfl 25 Tryz.zeroCells25 (qa hrs) (by rw [hqz]; exact infoP) (by rw [hqz]; rfl) hq1 ?_))
        exact bodyPost_ret (v := .agg Q2) (results_cell_row Tryz.results28 _ _ (w.heap.size + 1) 25 _ (0, 0) _ rfl (setRow_heap _ _ _ _ _ _ (qa hrs)) Tryz.underlying25 rfl (by rw [hqz]; exact infoP)) rfl ⟨Q2, rfl, by rw [qa hb3]; exact qa hR2, (qa hT2).gr.setRow _ (by omega) _⟩
end Go.Proofs.YtnfakamfmkhlbaaGreatDoor.C
