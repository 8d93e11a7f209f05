import Derived.Test.YtnfakamfmkhlbaaGreatDoorZg27
import Derived.Test.YtnfakamfmkhlbaaGreatDoorKz
namespace Go.Proofs.YtnfakamfmkhlbaaGreatDoor.C
open Go.ChangeShapes Go.WideShapes Go.ChangeAt Go.RowKit Go.Shelf
open Go.Proofs.YtnfakamfmkhlbaaGreatDoor.P
attribute [local go_sem] setCell_drewN alloc_drewN Oper.semAt_some
def cgF (wh : Bool) : Nat := if wh then 0 else 2
def cgR (z : Nat → UInt8) (wh : Bool) (fc : Nat → Bool) (k : Nat) : List Nat := if fc (cgF wh) && mcB z wh (k : Int) 1 2 then [k + 2] else []
def cgM (z : Nat → UInt8) (wh : Bool) (fc : Nat → Bool) (k : Nat) : List Nat := if fc (cgF wh + 1) && mcB z wh (k : Int) (-1) 3 then [k - 2] else []
structure Cg (z : Nat → UInt8) (wh : Bool) (fc : Nat → Bool) (b : Int) (k B1 B2 B3 Bp : Nat) (W : World) : Prop where
 b1 : W.cell? ⟨B1, 0, none⟩ = some (.pointer (some ⟨Bp, 0, none⟩))
 b2 : W.cell? ⟨B2, 0, none⟩ = some (.int .i64 (cgF wh : Int))
 b3 : W.cell? ⟨B3, 0, none⟩ = some (.int .i64 (k : Int))
 ps : Ps z wh fc b Bp W
 st : StTab W
theorem Cg.fr {z : Nat → UInt8} {wh : Bool} {fc : Nat → Bool} {b : Int} {k B1 B2 B3 Bp : Nat} {W W' : World} {Q : Nat → Obj → Prop} (h : Cg z wh fc b k B1 B2 B3 Bp W) (g : Fr Q W W') (hq : ∀ k o, (k = B1 ∨ k = B2 ∨ k = B3 ∨ k = Bp ∨ k = 1) → W.heap[k]? = some o → Q k o) : Cg z wh fc b k B1 B2 B3 Bp W' :=
 ⟨g.cell h.b1 (fun o e => hq _ o (by simp) e), g.cell h.b2 (fun o e => hq _ o (by simp) e), g.cell h.b3 (fun o e => hq _ o (by simp) e), h.ps.fr g (fun o e => hq _ o (by simp) e), ⟨fun j v hv => g.cell (h.st.1 j v hv) (fun o e => hq _ o (by simp) e), Nat.lt_of_lt_of_le h.st.2 g.size⟩⟩
theorem Cg.gr {z : Nat → UInt8} {wh : Bool} {fc : Nat → Bool} {b : Int} {k B1 B2 B3 Bp : Nat} {W W' : World} (h : Cg z wh fc b k B1 B2 B3 Bp W) (g : Gr W W') : Cg z wh fc b k B1 B2 B3 Bp W' := h.fr (Q := fun _ _ => True) (Fr.of_gr g) (fun _ _ _ _ => trivial)
theorem out_of {J Jx : List Nat → World → Prop} {Q : Nat → Obj → Prop} {V : World} {pre : List Nat} {e : Ending} {W : World} (h : Fr Q V W ∧ ((e = .returned (.bool true) ∧ J pre W) ∨ (e = .returned (.bool false) ∧ Jx pre W))) : ∃ v : Bool, e = .returned (.bool v) ∧ Fr Q V W ∧ (match v with | true => J pre W | false => Jx pre W) := by
 obtain ⟨f, ⟨rfl, h⟩ | ⟨rfl, h⟩⟩ := h
 ·exact ⟨true, rfl, f, h⟩
 ·exact ⟨false, rfl, f, h⟩
def NorQ (X : Act → World → Prop) : Exit → Act → World → Prop
 | .normal, a, w => X a w
 | _, _, _ => False
def Cs0 (l B1 B2 B3 : Nat) (r : Bool) (a : Act) : Prop := ∃ u4 u5 u6 u7 u8 u9 u10 u11 u12 u13 u14 u15 u16 u17 u18 u19 u20 u21 u22 u23 u25 u26 u27 u28 u29 u30 u31 u32 u33 u34 u35 u36 u37 u38 u39 u40 u41 u42 u43 u44 u45 : Value, a = { tmps := #[.func (.yield l) #[] #[], .pointer (some ⟨B1, 0, none⟩), .pointer (some ⟨B2, 0, none⟩), .pointer (some ⟨B3, 0, none⟩), u4, u5, u6, u7, u8, u9, u10, u11, u12, u13, u14, u15, u16, u17, u18, u19, u20, u21, u22, u23, .bool r, u25, u26, u27, u28, u29, u30, u31, u32, u33, u34, u35, u36, u37, u38, u39, u40, u41, u42, u43, u44, u45], defers := [] }
def Cs1 (l B1 B2 B3 : Nat) (r : Bool) (a : Act) : Prop := ∃ u4 u5 u6 u7 u8 u9 u10 u11 u12 u13 u14 u15 u16 u17 u18 u19 u20 u21 u22 u23 u24 u25 u26 u27 u28 u29 u30 u31 u32 u33 u34 u35 u36 u37 u38 u39 u40 u41 u42 u43 u44 : Value, a = { tmps := #[.func (.yield l) #[] #[], .pointer (some ⟨B1, 0, none⟩), .pointer (some ⟨B2, 0, none⟩), .pointer (some ⟨B3, 0, none⟩), u4, u5, u6, u7, u8, u9, u10, u11, u12, u13, u14, u15, u16, u17, u18, u19, u20, u21, u22, u23, u24, u25, u26, u27, u28, u29, u30, u31, u32, u33, u34, u35, u36, u37, u38, u39, u40, u41, u42, u43, u44, .bool r], defers := [] }
def CsE (Cx : World → Prop) (J Jx : List Nat → World → Prop) (xs all : List Nat) (r : Bool) (w : World) : Prop := (r = false ∧ Cx w ∧ J xs w) ∨ (r = true ∧ ∃ q, q <+: all ∧ Jx q w)
def CsQ0 (l B1 B2 B3 : Nat) (Cx : World → Prop) (J Jx : List Nat → World → Prop) (xs all : List Nat) (a : Act) (w : World) : Prop := ∃ r, Cs0 l B1 B2 B3 r a ∧ CsE Cx J Jx xs all r w
def CsQ1 (l B1 B2 B3 : Nat) (Cx : World → Prop) (J Jx : List Nat → World → Prop) (xs all : List Nat) (a : Act) (w : World) : Prop := ∃ r, Cs1 l B1 B2 B3 r a ∧ CsE Cx J Jx xs all r w
theorem cs0_mk {l B1 B2 B3 : Nat} {r : Bool} {u4 u5 u6 u7 u8 u9 u10 u11 u12 u13 u14 u15 u16 u17 u18 u19 u20 u21 u22 u23 u25 u26 u27 u28 u29 u30 u31 u32 u33 u34 u35 u36 u37 u38 u39 u40 u41 u42 u43 u44 u45 : Value} : Cs0 l B1 B2 B3 r { tmps := #[.func (.yield l) #[] #[], .pointer (some ⟨B1, 0, none⟩), .pointer (some ⟨B2, 0, none⟩), .pointer (some ⟨B3, 0, none⟩), u4, u5, u6, u7, u8, u9, u10, u11, u12, u13, u14, u15, u16, u17, u18, u19, u20, u21, u22, u23, .bool r, u25, u26, u27, u28, u29, u30, u31, u32, u33, u34, u35, u36, u37, u38, u39, u40, u41, u42, u43, u44, u45], defers := [] } := ⟨u4, u5, u6, u7, u8, u9, u10, u11, u12, u13, u14, u15, u16, u17, u18, u19, u20, u21, u22, u23, u25, u26, u27, u28, u29, u30, u31, u32, u33, u34, u35, u36, u37, u38, u39, u40, u41, u42, u43, u44, u45, rfl⟩
theorem cs1_mk {l B1 B2 B3 : Nat} {r : Bool} {u4 u5 u6 u7 u8 u9 u10 u11 u12 u13 u14 u15 u16 u17 u18 u19 u20 u21 u22 u23 u24 u25 u26 u27 u28 u29 u30 u31 u32 u33 u34 u35 u36 u37 u38 u39 u40 u41 u42 u43 u44 : Value} : Cs1 l B1 B2 B3 r { tmps := #[.func (.yield l) #[] #[], .pointer (some ⟨B1, 0, none⟩), .pointer (some ⟨B2, 0, none⟩), .pointer (some ⟨B3, 0, none⟩), u4, u5, u6, u7, u8, u9, u10, u11, u12, u13, u14, u15, u16, u17, u18, u19, u20, u21, u22, u23, u24, u25, u26, u27, u28, u29, u30, u31, u32, u33, u34, u35, u36, u37, u38, u39, u40, u41, u42, u43, u44, .bool r], defers := [] } := ⟨u4, u5, u6, u7, u8, u9, u10, u11, u12, u13, u14, u15, u16, u17, u18, u19, u20, u21, u22, u23, u24, u25, u26, u27, u28, u29, u30, u31, u32, u33, u34, u35, u36, u37, u38, u39, u40, u41, u42, u43, u44, rfl⟩
set_option linter.unusedSimpArgs false in
set_option maxRecDepth 100000 in
set_option maxHeartbeats 2000000 in
theorem castlings_it {z : Nat → UInt8} {wh : Bool} {fc : Nat → Bool} {b : Int} {k B1 B2 B3 Bp : Nat} (hk : k < 64) (hh0 : (fc (cgF wh) || fc (cgF wh + 1)) = true → k = 4 ∨ k = 60) (T : Obj → Prop) (w : World) (hw : Cg z wh fc b k B1 B2 B3 Bp w) :
  It Tryz.prog 316 #[.pointer (some ⟨B1, 0, none⟩), .pointer (some ⟨B2, 0, none⟩), .pointer (some ⟨B3, 0, none⟩)] encI T (fun k => k = B1 ∨ k = B2 ∨ k = B3 ∨ k = Bp ∨ k = 1) (cgR z wh fc k ++ cgM z wh fc k) w := by
 intro l B J Jx W f0 hB hJ hJx hY h0
 have hW := hw.fr f0 (fun k o hk _ => hk)
 clear f0 hw
 have hcf : cgF wh = 0 ∨ cgF wh = 2 := by cases wh <;> simp [cgF]
 have hR0 : Hid (cgR z wh fc k = if fc (cgF wh) && mcB z wh (k : Int) 1 2 then [k + 2] else []) := hide rfl
 have hM0 : Hid (cgM z wh fc k = if fc (cgF wh + 1) && mcB z wh (k : Int) (-1) 3 then [k - 2] else []) := hide rfl
 generalize cgR z wh fc k = Rs at hY hR0 ⊢
 generalize cgM z wh fc k = Ms at hY hM0 ⊢
 obtain ⟨F0, hF0⟩ : ∃ F, fc (cgF wh) = F := ⟨_, rfl⟩
 obtain ⟨F1, hF1⟩ : ∃ F, fc (cgF wh + 1) = F := ⟨_, rfl⟩
 rw [hF0] at hR0
 rw [hF1] at hM0
 refine (callsIn_wide (n := 9)).1 ?_
 refine callsIn_of_wp Tryz.func316 rfl trivial ?_ rfl
 simp only [Tryz.ntmps316, List.size_toArray, List.length_cons, List.length_nil, Nat.reduceAdd, Nat.reduceSub, Array.replicate_succ, Array.replicate_zero, List.push_toArray, List.append_toArray, List.nil_append, List.cons_append]
 refine wpIn_seq (wpIn_seq (wpIn_mono (Q := NorQ (CsQ0 l B1 B2 B3 (Cg z wh fc b k B1 B2 B3 Bp) J Jx Rs (Rs ++ Ms))) ?reg0 ?rest0))
 case reg0 =>
  have hC := hW.gr (Gr.refl _).drew
  have hJ1 := hJ _ _ _ h0 (Fr.of_gr (Gr.refl W).drew)
  have hh : F0 = true → k = 4 ∨ k = 60 := fun e => hh0 (by rw [hF0, e]; rfl)
  clear hW h0 hh0 hM0 hF1
  have hw0 : (0 : Int) ≤ (cgF wh : Int) := by omega
  have hw4 : (cgF wh : Int) < 4 := by omega
  refine region_anys (S := Cg z wh fc b k B1 B2 B3 Bp) (by kernel_rfl) hC (fun hS => ?_)
  generalize W.drew = Wd at hS hJ1 ⊢
  clear hC
  cases F0
  ·refine anys_take (i := 0) (v := .pointer (some ⟨Bp, 0, none⟩)) rfl (by kernel_rfl) (by kernel_rfl) (by kernel_rfl) (fun _ _ _ h => h) (.inl ⟨by rfl, fun w hw => (by have c1 := hw.b1; have c2 := hw.b2; have c3 := hw.b3; have c4 := hw.ps.c (cgF wh) (by omega); rw [hF0] at c4; go_simp)⟩) hS ?_
   simp only [Act.put, C.p1, C.p2, C.p3, C.p4, C.p5, C.p6]
   refine anys_take (i := 1) (v := .int .i64 (cgF wh : Int)) rfl (by kernel_rfl) (by kernel_rfl) (by kernel_rfl) (fun _ _ _ h => h) (.inl ⟨by rfl, fun w hw => (by have c1 := hw.b1; have c2 := hw.b2; have c3 := hw.b3; have c4 := hw.ps.c (cgF wh) (by omega); rw [hF0] at c4; go_simp)⟩) hS ?_
   simp only [Act.put, C.p1, C.p2, C.p3, C.p4, C.p5, C.p6]
   refine anys_take (i := 2) (v := .pointer (some ⟨Bp, 0, none⟩)) rfl (by kernel_rfl) (by kernel_rfl) (by kernel_rfl) (fun _ _ _ h => h) (.inl ⟨by rfl, fun w hw => (by go_simp)⟩) hS ?_
   simp only [Act.put, C.p1, C.p2, C.p3, C.p4, C.p5, C.p6]
   refine anys_take (i := 3) (v := .pointer (some ⟨Bp, 65, none⟩)) rfl (by kernel_rfl) (by kernel_rfl) (by kernel_rfl) (fun _ _ _ h => h) (.inl ⟨by rfl, fun w hw => (by go_simp)⟩) hS ?_
   simp only [Act.put, C.p1, C.p2, C.p3, C.p4, C.p5, C.p6]
   refine anys_take (i := 4) (v := .pointer (some ⟨Bp, 65 + cgF wh, none⟩)) rfl (by kernel_rfl) (by kernel_rfl) (by kernel_rfl) (fun _ _ _ h => h) (.inl ⟨by rfl, fun w hw => (by go_simp)⟩) hS ?_
   simp only [Act.put, C.p1, C.p2, C.p3, C.p4, C.p5, C.p6]
   refine anys_take (i := 5) (v := .bool false) rfl (by kernel_rfl) (by kernel_rfl) (by kernel_rfl) (fun _ _ _ h => h) (.inl ⟨by rfl, fun w hw => (by have c1 := hw.b1; have c2 := hw.b2; have c3 := hw.b3; have c4 := hw.ps.c (cgF wh) (by omega); rw [hF0] at c4; go_simp)⟩) hS ?_
   simp only [Act.put, C.p1, C.p2, C.p3, C.p4, C.p5, C.p6]
   refine anys_take (i := 6) (v := .bool false) rfl (by kernel_rfl) (by kernel_rfl) (by kernel_rfl) (fun _ _ _ h => h) (.inl ⟨by rfl, fun w hw => (by go_simp)⟩) hS ?_
   simp only [Act.put, C.p1, C.p2, C.p3, C.p4, C.p5, C.p6]
   refine anys_take (i := 7) (v := undef) rfl (by kernel_rfl) (by kernel_rfl) (by kernel_rfl) (fun _ _ _ h => h) (.inr ⟨by kernel_rfl, rfl⟩) hS ?_
   simp only [Act.put, C.p1, C.p2, C.p3, C.p4, C.p5, C.p6]
   refine anys_take (i := 8) (v := undef) rfl (by kernel_rfl) (by kernel_rfl) (by kernel_rfl) (fun _ _ _ h => h) (.inr ⟨by kernel_rfl, rfl⟩) hS ?_
   simp only [Act.put, C.p1, C.p2, C.p3, C.p4, C.p5, C.p6]
   refine anys_take (i := 9) (v := undef) rfl (by kernel_rfl) (by kernel_rfl) (by kernel_rfl) (fun _ _ _ h => h) (.inr ⟨by kernel_rfl, rfl⟩) hS ?_
   simp only [Act.put, C.p1, C.p2, C.p3, C.p4, C.p5, C.p6]
   refine anys_take (i := 10) (v := undef) rfl (by kernel_rfl) (by kernel_rfl) (by kernel_rfl) (fun _ _ _ h => h) (.inr ⟨by kernel_rfl, rfl⟩) hS ?_
   simp only [Act.put, C.p1, C.p2, C.p3, C.p4, C.p5, C.p6]
   refine anys_only (i := 11) rfl (by kernel_rfl) (fun K hK => ?_)
   rw [if_neg (by simp [yielded, Region.wanted])]
   refine ⟨fun _ _ => trivial, hK _ _ hS (fun hS => ?_)⟩
   clear hK K
   simp only [Act.put, C.p1, C.p2, C.p3, C.p4, C.p5, C.p6]
   refine anys_take (i := 12) (v := .bool false) rfl (by kernel_rfl) (by kernel_rfl) (by kernel_rfl) (fun _ _ _ h => h) (.inl ⟨by rfl, fun w hw => (by go_simp)⟩) hS ?_
   simp only [Act.put, C.p1, C.p2, C.p3, C.p4, C.p5, C.p6]
   refine anys_take (i := 13) (v := .bool false) rfl (by kernel_rfl) (by kernel_rfl) (by kernel_rfl) (fun _ _ _ h => h) (.inl ⟨by rfl, fun w hw => (by go_simp)⟩) hS ?_
   simp only [Act.put, C.p1, C.p2, C.p3, C.p4, C.p5, C.p6]
   refine anys_take (i := 14) (v := undef) rfl (by kernel_rfl) (by kernel_rfl) (by kernel_rfl) (fun _ _ _ h => h) (.inr ⟨by kernel_rfl, rfl⟩) hS ?_
   simp only [Act.put, C.p1, C.p2, C.p3, C.p4, C.p5, C.p6]
   refine anys_take (i := 15) (v := undef) rfl (by kernel_rfl) (by kernel_rfl) (by kernel_rfl) (fun _ _ _ h => h) (.inr ⟨by kernel_rfl, rfl⟩) hS ?_
   simp only [Act.put, C.p1, C.p2, C.p3, C.p4, C.p5, C.p6]
   refine anys_take (i := 16) (v := undef) rfl (by kernel_rfl) (by kernel_rfl) (by kernel_rfl) (fun _ _ _ h => h) (.inr ⟨by kernel_rfl, rfl⟩) hS ?_
   simp only [Act.put, C.p1, C.p2, C.p3, C.p4, C.p5, C.p6]
   refine anys_only (i := 17) rfl (by kernel_rfl) (fun K hK => ?_)
   rw [if_neg (by simp [yielded, Region.wanted])]
   refine ⟨fun _ _ => trivial, hK _ _ hS (fun hS => ?_)⟩
   clear hK K
   simp only [Act.put, C.p1, C.p2, C.p3, C.p4, C.p5, C.p6]
   refine anys_take (i := 18) (v := undef) rfl (by kernel_rfl) (by kernel_rfl) (by kernel_rfl) (fun _ _ _ h => h) (.inr ⟨by kernel_rfl, rfl⟩) hS ?_
   simp only [Act.put, C.p1, C.p2, C.p3, C.p4, C.p5, C.p6]
   refine anys_take (i := 19) (v := .bool false) rfl (by kernel_rfl) (by kernel_rfl) (by kernel_rfl) (fun _ _ _ h => h) (.inl ⟨by rfl, fun w hw => (by go_simp)⟩) hS ?_
   simp only [Act.put, C.p1, C.p2, C.p3, C.p4, C.p5, C.p6]
   refine anys_done (by kernel_rfl) ?_ _
   exact ⟨false, cs0_mk, .inl ⟨rfl, hS, by rw [unhide hR0]; simpa using hJ1⟩⟩
  ·have hk2 : k = 4 ∨ k = 60 := hh rfl
   have hmc := hide (fun W (hC : Cg z wh fc b k B1 B2 B3 Bp W) => mayCastle_any hC.ps hC.st (k : Int) 1 2 (.inl rfl) (by omega) (by omega) (by omega) (by omega) (by omega))
   have e3 : (k : Int) + (((2 : Nat) : Int) + 1) * 1 = (k : Int) + 3 := by omega
   have w3 : IntKind.i64.wrap ((k : Int) + 3) = (k : Int) + 3 := by rw [IntKind.wrap_i64]; omega
   obtain ⟨t, ht⟩ : ∃ t, Hid (t = k + 2) := ⟨_, hide rfl⟩
   have w2 : IntKind.i64.wrap ((k : Int) + 2) = (t : Int) := by rw [IntKind.wrap_i64]; have := unhide ht; omega
   rw [e3] at hmc
   clear e3 hk2
   obtain ⟨v, hv⟩ : ∃ v, mcB z wh (k : Int) 1 2 = v := ⟨_, rfl⟩
   rw [hv] at hmc hR0
   cases v
   ·refine anys_take (i := 0) (v := .pointer (some ⟨Bp, 0, none⟩)) rfl (by kernel_rfl) (by kernel_rfl) (by kernel_rfl) (fun _ _ _ h => h) (.inl ⟨by rfl, fun w hw => (by have c1 := hw.b1; have c2 := hw.b2; have c3 := hw.b3; have c4 := hw.ps.c (cgF wh) (by omega); rw [hF0] at c4; go_simp)⟩) hS ?_
    simp only [Act.put, C.p1, C.p2, C.p3, C.p4, C.p5, C.p6]
    refine anys_take (i := 1) (v := .int .i64 (cgF wh : Int)) rfl (by kernel_rfl) (by kernel_rfl) (by kernel_rfl) (fun _ _ _ h => h) (.inl ⟨by rfl, fun w hw => (by have c1 := hw.b1; have c2 := hw.b2; have c3 := hw.b3; have c4 := hw.ps.c (cgF wh) (by omega); rw [hF0] at c4; go_simp)⟩) hS ?_
    simp only [Act.put, C.p1, C.p2, C.p3, C.p4, C.p5, C.p6]
    refine anys_take (i := 2) (v := .pointer (some ⟨Bp, 0, none⟩)) rfl (by kernel_rfl) (by kernel_rfl) (by kernel_rfl) (fun _ _ _ h => h) (.inl ⟨by rfl, fun w hw => (by go_simp)⟩) hS ?_
    simp only [Act.put, C.p1, C.p2, C.p3, C.p4, C.p5, C.p6]
    refine anys_take (i := 3) (v := .pointer (some ⟨Bp, 65, none⟩)) rfl (by kernel_rfl) (by kernel_rfl) (by kernel_rfl) (fun _ _ _ h => h) (.inl ⟨by rfl, fun w hw => (by go_simp)⟩) hS ?_
    simp only [Act.put, C.p1, C.p2, C.p3, C.p4, C.p5, C.p6]
    refine anys_take (i := 4) (v := .pointer (some ⟨Bp, 65 + cgF wh, none⟩)) rfl (by kernel_rfl) (by kernel_rfl) (by kernel_rfl) (fun _ _ _ h => h) (.inl ⟨by rfl, fun w hw => (by go_simp)⟩) hS ?_
    simp only [Act.put, C.p1, C.p2, C.p3, C.p4, C.p5, C.p6]
    refine anys_take (i := 5) (v := .bool true) rfl (by kernel_rfl) (by kernel_rfl) (by kernel_rfl) (fun _ _ _ h => h) (.inl ⟨by rfl, fun w hw => (by have c1 := hw.b1; have c2 := hw.b2; have c3 := hw.b3; have c4 := hw.ps.c (cgF wh) (by omega); rw [hF0] at c4; go_simp)⟩) hS ?_
    simp only [Act.put, C.p1, C.p2, C.p3, C.p4, C.p5, C.p6]
    refine anys_take (i := 6) (v := .bool true) rfl (by kernel_rfl) (by kernel_rfl) (by kernel_rfl) (fun _ _ _ h => h) (.inl ⟨by rfl, fun w hw => (by go_simp)⟩) hS ?_
    simp only [Act.put, C.p1, C.p2, C.p3, C.p4, C.p5, C.p6]
    refine anys_take (i := 7) (v := .pointer (some ⟨Bp, 0, none⟩)) rfl (by kernel_rfl) (by kernel_rfl) (by kernel_rfl) (fun _ _ _ h => h) (.inl ⟨by rfl, fun w hw => (by have c1 := hw.b1; have c2 := hw.b2; have c3 := hw.b3; have c4 := hw.ps.c (cgF wh) (by omega); rw [hF0] at c4; go_simp)⟩) hS ?_
    simp only [Act.put, C.p1, C.p2, C.p3, C.p4, C.p5, C.p6]
    refine anys_take (i := 8) (v := .int .i64 (k : Int)) rfl (by kernel_rfl) (by kernel_rfl) (by kernel_rfl) (fun _ _ _ h => h) (.inl ⟨by rfl, fun w hw => (by have c1 := hw.b1; have c2 := hw.b2; have c3 := hw.b3; have c4 := hw.ps.c (cgF wh) (by omega); rw [hF0] at c4; go_simp)⟩) hS ?_
    simp only [Act.put, C.p1, C.p2, C.p3, C.p4, C.p5, C.p6]
    refine anys_take (i := 9) (v := .int .i64 (k : Int)) rfl (by kernel_rfl) (by kernel_rfl) (by kernel_rfl) (fun _ _ _ h => h) (.inl ⟨by rfl, fun w hw => (by have c1 := hw.b1; have c2 := hw.b2; have c3 := hw.b3; have c4 := hw.ps.c (cgF wh) (by omega); rw [hF0] at c4; go_simp)⟩) hS ?_
    simp only [Act.put, C.p1, C.p2, C.p3, C.p4, C.p5, C.p6]
    refine anys_take (i := 10) (v := .int .i64 ((k : Int) + 3)) rfl (by kernel_rfl) (by kernel_rfl) (by kernel_rfl) (fun _ _ _ h => h) (.inl ⟨by rfl, fun w hw => (by go_simp)⟩) hS ?_
    simp only [Act.put, C.p1, C.p2, C.p3, C.p4, C.p5, C.p6]
    refine anys_only (i := 11) rfl (by kernel_rfl) (fun K hK => ?_)
    go_simp
    refine ⟨trivial, (callsIn_wide.2 (unhide hmc _ hS)).mono ?_⟩
    rintro e wc ⟨rfl, hgc⟩
    refine hK _ _ (hS.gr hgc) (fun hS => ?_)
    clear hK K
    have hJ2 := hJ _ _ _ hJ1 (Fr.of_gr hgc)
    refine anys_take (i := 12) (v := .bool false) rfl (by kernel_rfl) (by kernel_rfl) (by kernel_rfl) (fun _ _ _ h => h) (.inl ⟨by rfl, fun w hw => (by go_simp)⟩) hS ?_
    simp only [Act.put, C.p1, C.p2, C.p3, C.p4, C.p5, C.p6]
    refine anys_take (i := 13) (v := .bool false) rfl (by kernel_rfl) (by kernel_rfl) (by kernel_rfl) (fun _ _ _ h => h) (.inl ⟨by rfl, fun w hw => (by go_simp)⟩) hS ?_
    simp only [Act.put, C.p1, C.p2, C.p3, C.p4, C.p5, C.p6]
    refine anys_take (i := 14) (v := undef) rfl (by kernel_rfl) (by kernel_rfl) (by kernel_rfl) (fun _ _ _ h => h) (.inr ⟨by kernel_rfl, rfl⟩) hS ?_
    simp only [Act.put, C.p1, C.p2, C.p3, C.p4, C.p5, C.p6]
    refine anys_take (i := 15) (v := undef) rfl (by kernel_rfl) (by kernel_rfl) (by kernel_rfl) (fun _ _ _ h => h) (.inr ⟨by kernel_rfl, rfl⟩) hS ?_
    simp only [Act.put, C.p1, C.p2, C.p3, C.p4, C.p5, C.p6]
    refine anys_take (i := 16) (v := undef) rfl (by kernel_rfl) (by kernel_rfl) (by kernel_rfl) (fun _ _ _ h => h) (.inr ⟨by kernel_rfl, rfl⟩) hS ?_
    simp only [Act.put, C.p1, C.p2, C.p3, C.p4, C.p5, C.p6]
    refine anys_only (i := 17) rfl (by kernel_rfl) (fun K hK => ?_)
    rw [if_neg (by simp [yielded, Region.wanted])]
    refine ⟨fun _ _ => trivial, hK _ _ hS (fun hS => ?_)⟩
    clear hK K
    simp only [Act.put, C.p1, C.p2, C.p3, C.p4, C.p5, C.p6]
    refine anys_take (i := 18) (v := undef) rfl (by kernel_rfl) (by kernel_rfl) (by kernel_rfl) (fun _ _ _ h => h) (.inr ⟨by kernel_rfl, rfl⟩) hS ?_
    simp only [Act.put, C.p1, C.p2, C.p3, C.p4, C.p5, C.p6]
    refine anys_take (i := 19) (v := .bool false) rfl (by kernel_rfl) (by kernel_rfl) (by kernel_rfl) (fun _ _ _ h => h) (.inl ⟨by rfl, fun w hw => (by go_simp)⟩) hS ?_
    simp only [Act.put, C.p1, C.p2, C.p3, C.p4, C.p5, C.p6]
    refine anys_done (by kernel_rfl) ?_ _
    exact ⟨false, cs0_mk, .inl ⟨rfl, hS, by rw [unhide hR0]; simpa using hJ2⟩⟩
   ·have hRv : Rs = [t] := by rw [unhide hR0, unhide ht]; rfl
    have hpr : [] ++ [t] <+: Rs ++ Ms := by rw [hRv]; exact ⟨Ms, rfl⟩
    have hRv' := hide hRv
    have hpr' := hide hpr
    clear hRv hpr
    refine anys_take (i := 0) (v := .pointer (some ⟨Bp, 0, none⟩)) rfl (by kernel_rfl) (by kernel_rfl) (by kernel_rfl) (fun _ _ _ h => h) (.inl ⟨by rfl, fun w hw => (by have c1 := hw.b1; have c2 := hw.b2; have c3 := hw.b3; have c4 := hw.ps.c (cgF wh) (by omega); rw [hF0] at c4; go_simp)⟩) hS ?_
    simp only [Act.put, C.p1, C.p2, C.p3, C.p4, C.p5, C.p6]
    refine anys_take (i := 1) (v := .int .i64 (cgF wh : Int)) rfl (by kernel_rfl) (by kernel_rfl) (by kernel_rfl) (fun _ _ _ h => h) (.inl ⟨by rfl, fun w hw => (by have c1 := hw.b1; have c2 := hw.b2; have c3 := hw.b3; have c4 := hw.ps.c (cgF wh) (by omega); rw [hF0] at c4; go_simp)⟩) hS ?_
    simp only [Act.put, C.p1, C.p2, C.p3, C.p4, C.p5, C.p6]
    refine anys_take (i := 2) (v := .pointer (some ⟨Bp, 0, none⟩)) rfl (by kernel_rfl) (by kernel_rfl) (by kernel_rfl) (fun _ _ _ h => h) (.inl ⟨by rfl, fun w hw => (by go_simp)⟩) hS ?_
    simp only [Act.put, C.p1, C.p2, C.p3, C.p4, C.p5, C.p6]
    refine anys_take (i := 3) (v := .pointer (some ⟨Bp, 65, none⟩)) rfl (by kernel_rfl) (by kernel_rfl) (by kernel_rfl) (fun _ _ _ h => h) (.inl ⟨by rfl, fun w hw => (by go_simp)⟩) hS ?_
    simp only [Act.put, C.p1, C.p2, C.p3, C.p4, C.p5, C.p6]
    refine anys_take (i := 4) (v := .pointer (some ⟨Bp, 65 + cgF wh, none⟩)) rfl (by kernel_rfl) (by kernel_rfl) (by kernel_rfl) (fun _ _ _ h => h) (.inl ⟨by rfl, fun w hw => (by go_simp)⟩) hS ?_
    simp only [Act.put, C.p1, C.p2, C.p3, C.p4, C.p5, C.p6]
    refine anys_take (i := 5) (v := .bool true) rfl (by kernel_rfl) (by kernel_rfl) (by kernel_rfl) (fun _ _ _ h => h) (.inl ⟨by rfl, fun w hw => (by have c1 := hw.b1; have c2 := hw.b2; have c3 := hw.b3; have c4 := hw.ps.c (cgF wh) (by omega); rw [hF0] at c4; go_simp)⟩) hS ?_
    simp only [Act.put, C.p1, C.p2, C.p3, C.p4, C.p5, C.p6]
    refine anys_take (i := 6) (v := .bool true) rfl (by kernel_rfl) (by kernel_rfl) (by kernel_rfl) (fun _ _ _ h => h) (.inl ⟨by rfl, fun w hw => (by go_simp)⟩) hS ?_
    simp only [Act.put, C.p1, C.p2, C.p3, C.p4, C.p5, C.p6]
    refine anys_take (i := 7) (v := .pointer (some ⟨Bp, 0, none⟩)) rfl (by kernel_rfl) (by kernel_rfl) (by kernel_rfl) (fun _ _ _ h => h) (.inl ⟨by rfl, fun w hw => (by have c1 := hw.b1; have c2 := hw.b2; have c3 := hw.b3; have c4 := hw.ps.c (cgF wh) (by omega); rw [hF0] at c4; go_simp)⟩) hS ?_
    simp only [Act.put, C.p1, C.p2, C.p3, C.p4, C.p5, C.p6]
    refine anys_take (i := 8) (v := .int .i64 (k : Int)) rfl (by kernel_rfl) (by kernel_rfl) (by kernel_rfl) (fun _ _ _ h => h) (.inl ⟨by rfl, fun w hw => (by have c1 := hw.b1; have c2 := hw.b2; have c3 := hw.b3; have c4 := hw.ps.c (cgF wh) (by omega); rw [hF0] at c4; go_simp)⟩) hS ?_
    simp only [Act.put, C.p1, C.p2, C.p3, C.p4, C.p5, C.p6]
    refine anys_take (i := 9) (v := .int .i64 (k : Int)) rfl (by kernel_rfl) (by kernel_rfl) (by kernel_rfl) (fun _ _ _ h => h) (.inl ⟨by rfl, fun w hw => (by have c1 := hw.b1; have c2 := hw.b2; have c3 := hw.b3; have c4 := hw.ps.c (cgF wh) (by omega); rw [hF0] at c4; go_simp)⟩) hS ?_
    simp only [Act.put, C.p1, C.p2, C.p3, C.p4, C.p5, C.p6]
    refine anys_take (i := 10) (v := .int .i64 ((k : Int) + 3)) rfl (by kernel_rfl) (by kernel_rfl) (by kernel_rfl) (fun _ _ _ h => h) (.inl ⟨by rfl, fun w hw => (by go_simp)⟩) hS ?_
    simp only [Act.put, C.p1, C.p2, C.p3, C.p4, C.p5, C.p6]
    refine anys_only (i := 11) rfl (by kernel_rfl) (fun K hK => ?_)
    go_simp
    refine ⟨trivial, (callsIn_wide.2 (unhide hmc _ hS)).mono ?_⟩
    rintro e wc ⟨rfl, hgc⟩
    refine hK _ _ (hS.gr hgc) (fun hS => ?_)
    clear hK K
    have hJ2 := hJ _ _ _ hJ1 (Fr.of_gr hgc)
    obtain ⟨fn, tmps, assign, body, hyy, hRr⟩ := yield_any (m' := 8) (hY [] (t) wc (unhide hpr') hJ2)
    have hy' : (Instr.yield l #[.int .i64 ((t : Nat) : Int)]).run Tryz.prog wc = .ok (.round l fn tmps assign body) wc := hyy
    clear hyy
    refine anys_take (i := 12) (v := .bool true) rfl (by kernel_rfl) (by kernel_rfl) (by kernel_rfl) (fun _ _ _ h => h) (.inl ⟨by rfl, fun w hw => (by go_simp)⟩) hS ?_
    simp only [Act.put, C.p1, C.p2, C.p3, C.p4, C.p5, C.p6]
    refine anys_take (i := 13) (v := .bool true) rfl (by kernel_rfl) (by kernel_rfl) (by kernel_rfl) (fun _ _ _ h => h) (.inl ⟨by rfl, fun w hw => (by go_simp)⟩) hS ?_
    simp only [Act.put, C.p1, C.p2, C.p3, C.p4, C.p5, C.p6]
    refine anys_take (i := 14) (v := .func (.yield l) #[] #[]) rfl (by kernel_rfl) (by kernel_rfl) (by kernel_rfl) (fun _ _ _ h => h) (.inl ⟨by rfl, fun w hw => (by go_simp)⟩) hS ?_
    simp only [Act.put, C.p1, C.p2, C.p3, C.p4, C.p5, C.p6]
    refine anys_take (i := 15) (v := .int .i64 (k : Int)) rfl (by kernel_rfl) (by kernel_rfl) (by kernel_rfl) (fun _ _ _ h => h) (.inl ⟨by rfl, fun w hw => (by have c1 := hw.b1; have c2 := hw.b2; have c3 := hw.b3; have c4 := hw.ps.c (cgF wh) (by omega); rw [hF0] at c4; go_simp)⟩) hS ?_
    simp only [Act.put, C.p1, C.p2, C.p3, C.p4, C.p5, C.p6]
    refine anys_take (i := 16) (v := .int .i64 (t : Int)) rfl (by kernel_rfl) (by kernel_rfl) (by kernel_rfl) (fun _ _ _ h => h) (.inl ⟨by rfl, fun w hw => (by go_simp)⟩) hS ?_
    simp only [Act.put, C.p1, C.p2, C.p3, C.p4, C.p5, C.p6]
    refine anys_only (i := 17) rfl (by kernel_rfl) (fun K hK => ?_)
    go_simp
    refine RoundIn.mono (F := Fence.wide) hRr ?_
    intro e w4 h4
    obtain ⟨vb, rfl, f4, hvb⟩ := out_of h4
    refine hK _ _ (hS.fr f4 (fun _ _ h _ => .inl h)) (fun hS => ?_)
    clear hK K
    refine anys_take (i := 18) (v := .bool (!vb)) rfl (by kernel_rfl) (by kernel_rfl) (by kernel_rfl) (fun _ _ _ h => h) (.inl ⟨by rfl, fun w hw => (by go_simp)⟩) hS ?_
    simp only [Act.put, C.p1, C.p2, C.p3, C.p4, C.p5, C.p6]
    refine anys_take (i := 19) (v := .bool (!vb)) rfl (by kernel_rfl) (by kernel_rfl) (by kernel_rfl) (fun _ _ _ h => h) (.inl ⟨by rfl, fun w hw => (by go_simp)⟩) hS ?_
    simp only [Act.put, C.p1, C.p2, C.p3, C.p4, C.p5, C.p6]
    refine anys_done (by kernel_rfl) ?_ _
    cases vb
    ·exact ⟨true, cs0_mk, .inr ⟨rfl, _, unhide hpr', hvb⟩⟩
    ·exact ⟨false, cs0_mk, .inl ⟨rfl, hS, by rw [unhide hRv']; exact hvb⟩⟩
 case rest0 =>
  intro e a w he
  cases e with
  | normal =>
   obtain ⟨r, hfr, hE⟩ := he
   obtain ⟨u4, u5, u6, u7, u8, u9, u10, u11, u12, u13, u14, u15, u16, u17, u18, u19, u20, u21, u22, u23, u25, u26, u27, u28, u29, u30, u31, u32, u33, u34, u35, u36, u37, u38, u39, u40, u41, u42, u43, u44, u45, rfl⟩ := hfr
   rcases hE with ⟨rfl, hC0, hJ0⟩ | ⟨rfl, q, hq1, hq2⟩
   ·clear hW h0 hR0
    gi_wp2
    refine (wpIn_mono (Q := NorQ (CsQ1 l B1 B2 B3 (Cg z wh fc b k B1 B2 B3 Bp) J Jx (Rs ++ Ms) (Rs ++ Ms))) ?reg1 ?rest1)
    case reg1 =>
     have hC := hC0.gr (Gr.refl _).drew
     have hJ1 := hJ _ _ _ hJ0 (Fr.of_gr (Gr.refl w).drew)
     have hh : F1 = true → k = 4 ∨ k = 60 := fun e => hh0 (by rw [hF1, e]; simp)
     clear hC0 hJ0 hh0 hF0
     have hw0 : (0 : Int) ≤ (cgF wh : Int) + 1 := by omega
     have hw4 : (cgF wh : Int) + 1 < 4 := by omega
     have hwr0 : IntKind.i64.wrap ((cgF wh : Int) + 1) = (cgF wh : Int) + 1 := by rw [IntKind.wrap_i64]; omega
     have hcn : ((cgF wh : Int) + 1).toNat = cgF wh + 1 := by omega
     refine region_anys (S := Cg z wh fc b k B1 B2 B3 Bp) (by kernel_rfl) hC (fun hS => ?_)
     generalize w.drew = Wd at hS hJ1 ⊢
     clear hC
     cases F1
     ·refine anys_take (i := 0) (v := .pointer (some ⟨Bp, 0, none⟩)) rfl (by kernel_rfl) (by kernel_rfl) (by kernel_rfl) (fun _ _ _ h => h) (.inl ⟨by rfl, fun w hw => (by have c1 := hw.b1; have c2 := hw.b2; have c3 := hw.b3; have c4 := hw.ps.c (cgF wh + 1) (by omega); rw [hF1] at c4; go_simp)⟩) hS ?_
      simp only [Act.put, C.p1, C.p2, C.p3, C.p4, C.p5, C.p6]
      refine anys_take (i := 1) (v := .int .i64 (cgF wh : Int)) rfl (by kernel_rfl) (by kernel_rfl) (by kernel_rfl) (fun _ _ _ h => h) (.inl ⟨by rfl, fun w hw => (by have c1 := hw.b1; have c2 := hw.b2; have c3 := hw.b3; have c4 := hw.ps.c (cgF wh + 1) (by omega); rw [hF1] at c4; go_simp)⟩) hS ?_
      simp only [Act.put, C.p1, C.p2, C.p3, C.p4, C.p5, C.p6]
      refine anys_take (i := 2) (v := .int .i64 ((cgF wh : Int) + 1)) rfl (by kernel_rfl) (by kernel_rfl) (by kernel_rfl) (fun _ _ _ h => h) (.inl ⟨by rfl, fun w hw => (by go_simp)⟩) hS ?_
      simp only [Act.put, C.p1, C.p2, C.p3, C.p4, C.p5, C.p6]
      refine anys_take (i := 3) (v := .pointer (some ⟨Bp, 0, none⟩)) rfl (by kernel_rfl) (by kernel_rfl) (by kernel_rfl) (fun _ _ _ h => h) (.inl ⟨by rfl, fun w hw => (by go_simp)⟩) hS ?_
      simp only [Act.put, C.p1, C.p2, C.p3, C.p4, C.p5, C.p6]
      refine anys_take (i := 4) (v := .pointer (some ⟨Bp, 65, none⟩)) rfl (by kernel_rfl) (by kernel_rfl) (by kernel_rfl) (fun _ _ _ h => h) (.inl ⟨by rfl, fun w hw => (by go_simp)⟩) hS ?_
      simp only [Act.put, C.p1, C.p2, C.p3, C.p4, C.p5, C.p6]
      refine anys_take (i := 5) (v := .pointer (some ⟨Bp, 65 + (cgF wh + 1), none⟩)) rfl (by kernel_rfl) (by kernel_rfl) (by kernel_rfl) (fun _ _ _ h => h) (.inl ⟨by rfl, fun w hw => (by go_simp)⟩) hS ?_
      simp only [Act.put, C.p1, C.p2, C.p3, C.p4, C.p5, C.p6]
      refine anys_take (i := 6) (v := .bool false) rfl (by kernel_rfl) (by kernel_rfl) (by kernel_rfl) (fun _ _ _ h => h) (.inl ⟨by rfl, fun w hw => (by have c1 := hw.b1; have c2 := hw.b2; have c3 := hw.b3; have c4 := hw.ps.c (cgF wh + 1) (by omega); rw [hF1] at c4; go_simp)⟩) hS ?_
      simp only [Act.put, C.p1, C.p2, C.p3, C.p4, C.p5, C.p6]
      refine anys_take (i := 7) (v := .bool false) rfl (by kernel_rfl) (by kernel_rfl) (by kernel_rfl) (fun _ _ _ h => h) (.inl ⟨by rfl, fun w hw => (by go_simp)⟩) hS ?_
      simp only [Act.put, C.p1, C.p2, C.p3, C.p4, C.p5, C.p6]
      refine anys_take (i := 8) (v := undef) rfl (by kernel_rfl) (by kernel_rfl) (by kernel_rfl) (fun _ _ _ h => h) (.inr ⟨by kernel_rfl, rfl⟩) hS ?_
      simp only [Act.put, C.p1, C.p2, C.p3, C.p4, C.p5, C.p6]
      refine anys_take (i := 9) (v := undef) rfl (by kernel_rfl) (by kernel_rfl) (by kernel_rfl) (fun _ _ _ h => h) (.inr ⟨by kernel_rfl, rfl⟩) hS ?_
      simp only [Act.put, C.p1, C.p2, C.p3, C.p4, C.p5, C.p6]
      refine anys_take (i := 10) (v := undef) rfl (by kernel_rfl) (by kernel_rfl) (by kernel_rfl) (fun _ _ _ h => h) (.inr ⟨by kernel_rfl, rfl⟩) hS ?_
      simp only [Act.put, C.p1, C.p2, C.p3, C.p4, C.p5, C.p6]
      refine anys_take (i := 11) (v := undef) rfl (by kernel_rfl) (by kernel_rfl) (by kernel_rfl) (fun _ _ _ h => h) (.inr ⟨by kernel_rfl, rfl⟩) hS ?_
      simp only [Act.put, C.p1, C.p2, C.p3, C.p4, C.p5, C.p6]
      refine anys_only (i := 12) rfl (by kernel_rfl) (fun K hK => ?_)
      rw [if_neg (by simp [yielded, Region.wanted])]
      refine ⟨fun _ _ => trivial, hK _ _ hS (fun hS => ?_)⟩
      clear hK K
      simp only [Act.put, C.p1, C.p2, C.p3, C.p4, C.p5, C.p6]
      refine anys_take (i := 13) (v := .bool false) rfl (by kernel_rfl) (by kernel_rfl) (by kernel_rfl) (fun _ _ _ h => h) (.inl ⟨by rfl, fun w hw => (by go_simp)⟩) hS ?_
      simp only [Act.put, C.p1, C.p2, C.p3, C.p4, C.p5, C.p6]
      refine anys_take (i := 14) (v := .bool false) rfl (by kernel_rfl) (by kernel_rfl) (by kernel_rfl) (fun _ _ _ h => h) (.inl ⟨by rfl, fun w hw => (by go_simp)⟩) hS ?_
      simp only [Act.put, C.p1, C.p2, C.p3, C.p4, C.p5, C.p6]
      refine anys_take (i := 15) (v := undef) rfl (by kernel_rfl) (by kernel_rfl) (by kernel_rfl) (fun _ _ _ h => h) (.inr ⟨by kernel_rfl, rfl⟩) hS ?_
      simp only [Act.put, C.p1, C.p2, C.p3, C.p4, C.p5, C.p6]
      refine anys_take (i := 16) (v := undef) rfl (by kernel_rfl) (by kernel_rfl) (by kernel_rfl) (fun _ _ _ h => h) (.inr ⟨by kernel_rfl, rfl⟩) hS ?_
      simp only [Act.put, C.p1, C.p2, C.p3, C.p4, C.p5, C.p6]
      refine anys_take (i := 17) (v := undef) rfl (by kernel_rfl) (by kernel_rfl) (by kernel_rfl) (fun _ _ _ h => h) (.inr ⟨by kernel_rfl, rfl⟩) hS ?_
      simp only [Act.put, C.p1, C.p2, C.p3, C.p4, C.p5, C.p6]
      refine anys_only (i := 18) rfl (by kernel_rfl) (fun K hK => ?_)
      rw [if_neg (by simp [yielded, Region.wanted])]
      refine ⟨fun _ _ => trivial, hK _ _ hS (fun hS => ?_)⟩
      clear hK K
      simp only [Act.put, C.p1, C.p2, C.p3, C.p4, C.p5, C.p6]
      refine anys_take (i := 19) (v := undef) rfl (by kernel_rfl) (by kernel_rfl) (by kernel_rfl) (fun _ _ _ h => h) (.inr ⟨by kernel_rfl, rfl⟩) hS ?_
      simp only [Act.put, C.p1, C.p2, C.p3, C.p4, C.p5, C.p6]
      refine anys_take (i := 20) (v := .bool false) rfl (by kernel_rfl) (by kernel_rfl) (by kernel_rfl) (fun _ _ _ h => h) (.inl ⟨by rfl, fun w hw => (by go_simp)⟩) hS ?_
      simp only [Act.put, C.p1, C.p2, C.p3, C.p4, C.p5, C.p6]
      refine anys_done (by kernel_rfl) ?_ _
      exact ⟨false, cs1_mk, .inl ⟨rfl, hS, by rw [unhide hM0]; simpa using hJ1⟩⟩
     ·have hk2 : k = 4 ∨ k = 60 := hh rfl
      have hmc := hide (fun W (hC : Cg z wh fc b k B1 B2 B3 Bp W) => mayCastle_any hC.ps hC.st (k : Int) (-1) 3 (.inr rfl) (by omega) (by omega) (by omega) (by omega) (by omega))
      have e3 : (k : Int) + (((3 : Nat) : Int) + 1) * (-1) = (k : Int) - 4 := by omega
      have w3 : IntKind.i64.wrap ((k : Int) - 4) = (k : Int) - 4 := by rw [IntKind.wrap_i64]; omega
      obtain ⟨t, ht⟩ : ∃ t, Hid (t = k - 2) := ⟨_, hide rfl⟩
      have w2 : IntKind.i64.wrap ((k : Int) - 2) = (t : Int) := by rw [IntKind.wrap_i64]; have := unhide ht; omega
      rw [e3] at hmc
      clear e3 hk2
      obtain ⟨v, hv⟩ : ∃ v, mcB z wh (k : Int) (-1) 3 = v := ⟨_, rfl⟩
      rw [hv] at hmc hM0
      cases v
      ·refine anys_take (i := 0) (v := .pointer (some ⟨Bp, 0, none⟩)) rfl (by kernel_rfl) (by kernel_rfl) (by kernel_rfl) (fun _ _ _ h => h) (.inl ⟨by rfl, fun w hw => (by have c1 := hw.b1; have c2 := hw.b2; have c3 := hw.b3; have c4 := hw.ps.c (cgF wh + 1) (by omega); rw [hF1] at c4; go_simp)⟩) hS ?_
       simp only [Act.put, C.p1, C.p2, C.p3, C.p4, C.p5, C.p6]
       refine anys_take (i := 1) (v := .int .i64 (cgF wh : Int)) rfl (by kernel_rfl) (by kernel_rfl) (by kernel_rfl) (fun _ _ _ h => h) (.inl ⟨by rfl, fun w hw => (by have c1 := hw.b1; have c2 := hw.b2; have c3 := hw.b3; have c4 := hw.ps.c (cgF wh + 1) (by omega); rw [hF1] at c4; go_simp)⟩) hS ?_
       simp only [Act.put, C.p1, C.p2, C.p3, C.p4, C.p5, C.p6]
       refine anys_take (i := 2) (v := .int .i64 ((cgF wh : Int) + 1)) rfl (by kernel_rfl) (by kernel_rfl) (by kernel_rfl) (fun _ _ _ h => h) (.inl ⟨by rfl, fun w hw => (by go_simp)⟩) hS ?_
       simp only [Act.put, C.p1, C.p2, C.p3, C.p4, C.p5, C.p6]
       refine anys_take (i := 3) (v := .pointer (some ⟨Bp, 0, none⟩)) rfl (by kernel_rfl) (by kernel_rfl) (by kernel_rfl) (fun _ _ _ h => h) (.inl ⟨by rfl, fun w hw => (by go_simp)⟩) hS ?_
       simp only [Act.put, C.p1, C.p2, C.p3, C.p4, C.p5, C.p6]
       refine anys_take (i := 4) (v := .pointer (some ⟨Bp, 65, none⟩)) rfl (by kernel_rfl) (by kernel_rfl) (by kernel_rfl) (fun _ _ _ h => h) (.inl ⟨by rfl, fun w hw => (by go_simp)⟩) hS ?_
       simp only [Act.put, C.p1, C.p2, C.p3, C.p4, C.p5, C.p6]
       refine anys_take (i := 5) (v := .pointer (some ⟨Bp, 65 + (cgF wh + 1), none⟩)) rfl (by kernel_rfl) (by kernel_rfl) (by kernel_rfl) (fun _ _ _ h => h) (.inl ⟨by rfl, fun w hw => (by go_simp)⟩) hS ?_
       simp only [Act.put, C.p1, C.p2, C.p3, C.p4, C.p5, C.p6]
       refine anys_take (i := 6) (v := .bool true) rfl (by kernel_rfl) (by kernel_rfl) (by kernel_rfl) (fun _ _ _ h => h) (.inl ⟨by rfl, fun w hw => (by have c1 := hw.b1; have c2 := hw.b2; have c3 := hw.b3; have c4 := hw.ps.c (cgF wh + 1) (by omega); rw [hF1] at c4; go_simp)⟩) hS ?_
       simp only [Act.put, C.p1, C.p2, C.p3, C.p4, C.p5, C.p6]
       refine anys_take (i := 7) (v := .bool true) rfl (by kernel_rfl) (by kernel_rfl) (by kernel_rfl) (fun _ _ _ h => h) (.inl ⟨by rfl, fun w hw => (by go_simp)⟩) hS ?_
       simp only [Act.put, C.p1, C.p2, C.p3, C.p4, C.p5, C.p6]
       refine anys_take (i := 8) (v := .pointer (some ⟨Bp, 0, none⟩)) rfl (by kernel_rfl) (by kernel_rfl) (by kernel_rfl) (fun _ _ _ h => h) (.inl ⟨by rfl, fun w hw => (by have c1 := hw.b1; have c2 := hw.b2; have c3 := hw.b3; have c4 := hw.ps.c (cgF wh + 1) (by omega); rw [hF1] at c4; go_simp)⟩) hS ?_
       simp only [Act.put, C.p1, C.p2, C.p3, C.p4, C.p5, C.p6]
       refine anys_take (i := 9) (v := .int .i64 (k : Int)) rfl (by kernel_rfl) (by kernel_rfl) (by kernel_rfl) (fun _ _ _ h => h) (.inl ⟨by rfl, fun w hw => (by have c1 := hw.b1; have c2 := hw.b2; have c3 := hw.b3; have c4 := hw.ps.c (cgF wh + 1) (by omega); rw [hF1] at c4; go_simp)⟩) hS ?_
       simp only [Act.put, C.p1, C.p2, C.p3, C.p4, C.p5, C.p6]
       refine anys_take (i := 10) (v := .int .i64 (k : Int)) rfl (by kernel_rfl) (by kernel_rfl) (by kernel_rfl) (fun _ _ _ h => h) (.inl ⟨by rfl, fun w hw => (by have c1 := hw.b1; have c2 := hw.b2; have c3 := hw.b3; have c4 := hw.ps.c (cgF wh + 1) (by omega); rw [hF1] at c4; go_simp)⟩) hS ?_
       simp only [Act.put, C.p1, C.p2, C.p3, C.p4, C.p5, C.p6]
       refine anys_take (i := 11) (v := .int .i64 ((k : Int) - 4)) rfl (by kernel_rfl) (by kernel_rfl) (by kernel_rfl) (fun _ _ _ h => h) (.inl ⟨by rfl, fun w hw => (by go_simp)⟩) hS ?_
       simp only [Act.put, C.p1, C.p2, C.p3, C.p4, C.p5, C.p6]
       refine anys_only (i := 12) rfl (by kernel_rfl) (fun K hK => ?_)
       go_simp
       refine ⟨trivial, (callsIn_wide.2 (unhide hmc _ hS)).mono ?_⟩
       rintro e wc ⟨rfl, hgc⟩
       refine hK _ _ (hS.gr hgc) (fun hS => ?_)
       clear hK K
       have hJ2 := hJ _ _ _ hJ1 (Fr.of_gr hgc)
       refine anys_take (i := 13) (v := .bool false) rfl (by kernel_rfl) (by kernel_rfl) (by kernel_rfl) (fun _ _ _ h => h) (.inl ⟨by rfl, fun w hw => (by go_simp)⟩) hS ?_
       simp only [Act.put, C.p1, C.p2, C.p3, C.p4, C.p5, C.p6]
       refine anys_take (i := 14) (v := .bool false) rfl (by kernel_rfl) (by kernel_rfl) (by kernel_rfl) (fun _ _ _ h => h) (.inl ⟨by rfl, fun w hw => (by go_simp)⟩) hS ?_
       simp only [Act.put, C.p1, C.p2, C.p3, C.p4, C.p5, C.p6]
       refine anys_take (i := 15) (v := undef) rfl (by kernel_rfl) (by kernel_rfl) (by kernel_rfl) (fun _ _ _ h => h) (.inr ⟨by kernel_rfl, rfl⟩) hS ?_
       simp only [Act.put, C.p1, C.p2, C.p3, C.p4, C.p5, C.p6]
       refine anys_take (i := 16) (v := undef) rfl (by kernel_rfl) (by kernel_rfl) (by kernel_rfl) (fun _ _ _ h => h) (.inr ⟨by kernel_rfl, rfl⟩) hS ?_
       simp only [Act.put, C.p1, C.p2, C.p3, C.p4, C.p5, C.p6]
       refine anys_take (i := 17) (v := undef) rfl (by kernel_rfl) (by kernel_rfl) (by kernel_rfl) (fun _ _ _ h => h) (.inr ⟨by kernel_rfl, rfl⟩) hS ?_
       simp only [Act.put, C.p1, C.p2, C.p3, C.p4, C.p5, C.p6]
       refine anys_only (i := 18) rfl (by kernel_rfl) (fun K hK => ?_)
       rw [if_neg (by simp [yielded, Region.wanted])]
       refine ⟨fun _ _ => trivial, hK _ _ hS (fun hS => ?_)⟩
       clear hK K
       simp only [Act.put, C.p1, C.p2, C.p3, C.p4, C.p5, C.p6]
       refine anys_take (i := 19) (v := undef) rfl (by kernel_rfl) (by kernel_rfl) (by kernel_rfl) (fun _ _ _ h => h) (.inr ⟨by kernel_rfl, rfl⟩) hS ?_
       simp only [Act.put, C.p1, C.p2, C.p3, C.p4, C.p5, C.p6]
       refine anys_take (i := 20) (v := .bool false) rfl (by kernel_rfl) (by kernel_rfl) (by kernel_rfl) (fun _ _ _ h => h) (.inl ⟨by rfl, fun w hw => (by go_simp)⟩) hS ?_
       simp only [Act.put, C.p1, C.p2, C.p3, C.p4, C.p5, C.p6]
       refine anys_done (by kernel_rfl) ?_ _
       exact ⟨false, cs1_mk, .inl ⟨rfl, hS, by rw [unhide hM0]; simpa using hJ2⟩⟩
      ·have hRv : Ms = [t] := by rw [unhide hM0, unhide ht]; rfl
       have hpr : Rs ++ [t] <+: Rs ++ Ms := by rw [hRv]; exact List.prefix_rfl
       have hRv' := hide hRv
       have hpr' := hide hpr
       clear hRv hpr
       refine anys_take (i := 0) (v := .pointer (some ⟨Bp, 0, none⟩)) rfl (by kernel_rfl) (by kernel_rfl) (by kernel_rfl) (fun _ _ _ h => h) (.inl ⟨by rfl, fun w hw => (by have c1 := hw.b1; have c2 := hw.b2; have c3 := hw.b3; have c4 := hw.ps.c (cgF wh + 1) (by omega); rw [hF1] at c4; go_simp)⟩) hS ?_
       simp only [Act.put, C.p1, C.p2, C.p3, C.p4, C.p5, C.p6]
       refine anys_take (i := 1) (v := .int .i64 (cgF wh : Int)) rfl (by kernel_rfl) (by kernel_rfl) (by kernel_rfl) (fun _ _ _ h => h) (.inl ⟨by rfl, fun w hw => (by have c1 := hw.b1; have c2 := hw.b2; have c3 := hw.b3; have c4 := hw.ps.c (cgF wh + 1) (by omega); rw [hF1] at c4; go_simp)⟩) hS ?_
       simp only [Act.put, C.p1, C.p2, C.p3, C.p4, C.p5, C.p6]
       refine anys_take (i := 2) (v := .int .i64 ((cgF wh : Int) + 1)) rfl (by kernel_rfl) (by kernel_rfl) (by kernel_rfl) (fun _ _ _ h => h) (.inl ⟨by rfl, fun w hw => (by go_simp)⟩) hS ?_
       simp only [Act.put, C.p1, C.p2, C.p3, C.p4, C.p5, C.p6]
       refine anys_take (i := 3) (v := .pointer (some ⟨Bp, 0, none⟩)) rfl (by kernel_rfl) (by kernel_rfl) (by kernel_rfl) (fun _ _ _ h => h) (.inl ⟨by rfl, fun w hw => (by go_simp)⟩) hS ?_
       simp only [Act.put, C.p1, C.p2, C.p3, C.p4, C.p5, C.p6]
       refine anys_take (i := 4) (v := .pointer (some ⟨Bp, 65, none⟩)) rfl (by kernel_rfl) (by kernel_rfl) (by kernel_rfl) (fun _ _ _ h => h) (.inl ⟨by rfl, fun w hw => (by go_simp)⟩) hS ?_
       simp only [Act.put, C.p1, C.p2, C.p3, C.p4, C.p5, C.p6]
       refine anys_take (i := 5) (v := .pointer (some ⟨Bp, 65 + (cgF wh + 1), none⟩)) rfl (by kernel_rfl) (by kernel_rfl) (by kernel_rfl) (fun _ _ _ h => h) (.inl ⟨by rfl, fun w hw => (by go_simp)⟩) hS ?_
       simp only [Act.put, C.p1, C.p2, C.p3, C.p4, C.p5, C.p6]
       refine anys_take (i := 6) (v := .bool true) rfl (by kernel_rfl) (by kernel_rfl) (by kernel_rfl) (fun _ _ _ h => h) (.inl ⟨by rfl, fun w hw => (by have c1 := hw.b1; have c2 := hw.b2; have c3 := hw.b3; have c4 := hw.ps.c (cgF wh + 1) (by omega); rw [hF1] at c4; go_simp)⟩) hS ?_
       simp only [Act.put, C.p1, C.p2, C.p3, C.p4, C.p5, C.p6]
       refine anys_take (i := 7) (v := .bool true) rfl (by kernel_rfl) (by kernel_rfl) (by kernel_rfl) (fun _ _ _ h => h) (.inl ⟨by rfl, fun w hw => (by go_simp)⟩) hS ?_
       simp only [Act.put, C.p1, C.p2, C.p3, C.p4, C.p5, C.p6]
       refine anys_take (i := 8) (v := .pointer (some ⟨Bp, 0, none⟩)) rfl (by kernel_rfl) (by kernel_rfl) (by kernel_rfl) (fun _ _ _ h => h) (.inl ⟨by rfl, fun w hw => (by have c1 := hw.b1; have c2 := hw.b2; have c3 := hw.b3; have c4 := hw.ps.c (cgF wh + 1) (by omega); rw [hF1] at c4; go_simp)⟩) hS ?_
       simp only [Act.put, C.p1, C.p2, C.p3, C.p4, C.p5, C.p6]
       refine anys_take (i := 9) (v := .int .i64 (k : Int)) rfl (by kernel_rfl) (by kernel_rfl) (by kernel_rfl) (fun _ _ _ h => h) (.inl ⟨by rfl, fun w hw => (by have c1 := hw.b1; have c2 := hw.b2; have c3 := hw.b3; have c4 := hw.ps.c (cgF wh + 1) (by omega); rw [hF1] at c4; go_simp)⟩) hS ?_
       simp only [Act.put, C.p1, C.p2, C.p3, C.p4, C.p5, C.p6]
       refine anys_take (i := 10) (v := .int .i64 (k : Int)) rfl (by kernel_rfl) (by kernel_rfl) (by kernel_rfl) (fun _ _ _ h => h) (.inl ⟨by rfl, fun w hw => (by have c1 := hw.b1; have c2 := hw.b2; have c3 := hw.b3; have c4 := hw.ps.c (cgF wh + 1) (by omega); rw [hF1] at c4; go_simp)⟩) hS ?_
       simp only [Act.put, C.p1, C.p2, C.p3, C.p4, C.p5, C.p6]
       refine anys_take (i := 11) (v := .int .i64 ((k : Int) - 4)) rfl (by kernel_rfl) (by kernel_rfl) (by kernel_rfl) (fun _ _ _ h => h) (.inl ⟨by rfl, fun w hw => (by go_simp)⟩) hS ?_
       simp only [Act.put, C.p1, C.p2, C.p3, C.p4, C.p5, C.p6]
       refine anys_only (i := 12) rfl (by kernel_rfl) (fun K hK => ?_)
       go_simp
       refine ⟨trivial, (callsIn_wide.2 (unhide hmc _ hS)).mono ?_⟩
       rintro e wc ⟨rfl, hgc⟩
       refine hK _ _ (hS.gr hgc) (fun hS => ?_)
       clear hK K
       have hJ2 := hJ _ _ _ hJ1 (Fr.of_gr hgc)
       obtain ⟨fn, tmps, assign, body, hyy, hRr⟩ := yield_any (m' := 8) (hY Rs (t) wc (unhide hpr') hJ2)
       have hy' : (Instr.yield l #[.int .i64 ((t : Nat) : Int)]).run Tryz.prog wc = .ok (.round l fn tmps assign body) wc := hyy
       clear hyy
       refine anys_take (i := 13) (v := .bool true) rfl (by kernel_rfl) (by kernel_rfl) (by kernel_rfl) (fun _ _ _ h => h) (.inl ⟨by rfl, fun w hw => (by go_simp)⟩) hS ?_
       simp only [Act.put, C.p1, C.p2, C.p3, C.p4, C.p5, C.p6]
       refine anys_take (i := 14) (v := .bool true) rfl (by kernel_rfl) (by kernel_rfl) (by kernel_rfl) (fun _ _ _ h => h) (.inl ⟨by rfl, fun w hw => (by go_simp)⟩) hS ?_
       simp only [Act.put, C.p1, C.p2, C.p3, C.p4, C.p5, C.p6]
       refine anys_take (i := 15) (v := .func (.yield l) #[] #[]) rfl (by kernel_rfl) (by kernel_rfl) (by kernel_rfl) (fun _ _ _ h => h) (.inl ⟨by rfl, fun w hw => (by go_simp)⟩) hS ?_
       simp only [Act.put, C.p1, C.p2, C.p3, C.p4, C.p5, C.p6]
       refine anys_take (i := 16) (v := .int .i64 (k : Int)) rfl (by kernel_rfl) (by kernel_rfl) (by kernel_rfl) (fun _ _ _ h => h) (.inl ⟨by rfl, fun w hw => (by have c1 := hw.b1; have c2 := hw.b2; have c3 := hw.b3; have c4 := hw.ps.c (cgF wh + 1) (by omega); rw [hF1] at c4; go_simp)⟩) hS ?_
       simp only [Act.put, C.p1, C.p2, C.p3, C.p4, C.p5, C.p6]
       refine anys_take (i := 17) (v := .int .i64 (t : Int)) rfl (by kernel_rfl) (by kernel_rfl) (by kernel_rfl) (fun _ _ _ h => h) (.inl ⟨by rfl, fun w hw => (by go_simp)⟩) hS ?_
       simp only [Act.put, C.p1, C.p2, C.p3, C.p4, C.p5, C.p6]
       refine anys_only (i := 18) rfl (by kernel_rfl) (fun K hK => ?_)
       go_simp
       refine RoundIn.mono (F := Fence.wide) hRr ?_
       intro e w4 h4
       obtain ⟨vb, rfl, f4, hvb⟩ := out_of h4
       refine hK _ _ (hS.fr f4 (fun _ _ h _ => .inl h)) (fun hS => ?_)
       clear hK K
       refine anys_take (i := 19) (v := .bool (!vb)) rfl (by kernel_rfl) (by kernel_rfl) (by kernel_rfl) (fun _ _ _ h => h) (.inl ⟨by rfl, fun w hw => (by go_simp)⟩) hS ?_
       simp only [Act.put, C.p1, C.p2, C.p3, C.p4, C.p5, C.p6]
       refine anys_take (i := 20) (v := .bool (!vb)) rfl (by kernel_rfl) (by kernel_rfl) (by kernel_rfl) (fun _ _ _ h => h) (.inl ⟨by rfl, fun w hw => (by go_simp)⟩) hS ?_
       simp only [Act.put, C.p1, C.p2, C.p3, C.p4, C.p5, C.p6]
       refine anys_done (by kernel_rfl) ?_ _
       cases vb
       ·exact ⟨true, cs1_mk, .inr ⟨rfl, _, unhide hpr', hvb⟩⟩
       ·exact ⟨false, cs1_mk, .inl ⟨rfl, hS, by rw [unhide hRv']; exact hvb⟩⟩
    case rest1 =>
     clear hC0 hJ0
     intro e a w he
     cases e with
     | normal =>
      obtain ⟨r, hfr, hE⟩ := he
      obtain ⟨u4, u5, u6, u7, u8, u9, u10, u11, u12, u13, u14, u15, u16, u17, u18, u19, u20, u21, u22, u23, u24, u25, u26, u27, u28, u29, u30, u31, u32, u33, u34, u35, u36, u37, u38, u39, u40, u41, u42, u43, u44, rfl⟩ := hfr
      rcases hE with ⟨rfl, hC0, hJ0⟩ | ⟨rfl, q, hq1, hq2⟩
      ·gi_wp2
       go_end0
       exact ⟨⟨_, rfl⟩, .inl hJ0⟩
      ·gi_wp2
       exact bodyPost_ret (results_none rfl _ _ _) rfl ⟨⟨_, rfl⟩, .inr ⟨q, hq1, hq2⟩⟩
     | ret => exact he.elim
     | exit id => exact he.elim
     | goto t => exact he.elim
     | panic c => exact he.elim
     | outgrown => exact he.elim
   ·gi_wp2
    exact bodyPost_ret (results_none rfl _ _ _) rfl ⟨⟨_, rfl⟩, .inr ⟨q, hq1, hq2⟩⟩
  | ret => exact he.elim
  | exit id => exact he.elim
  | goto t => exact he.elim
  | panic c => exact he.elim
  | outgrown => exact he.elim
end Go.Proofs.YtnfakamfmkhlbaaGreatDoor.C
