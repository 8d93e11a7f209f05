import Derived.Test.YtnfakamfmkhlbaaGreatDoorFor
import Derived.ChangeKeysEq
namespace Go.Proofs.YtnfakamfmkhlbaaGreatDoor.C
open Go.ChangeShapes Go.WideShapes Go.ChangeAt Go.RowKit
open Go.Proofs.YtnfakamfmkhlbaaGreatDoor.P

theorem plain5 : Tryz.prog.plainKey 5 = true := by kernel_rfl
theorem plain4 : Tryz.prog.plainKey 4 = true := by kernel_rfl
theorem plain3 : Tryz.prog.plainKey 3 = true := by kernel_rfl
theorem eqItems8 (d : Nat) (xs : Array Value) (w : World) : ∀ is : List Nat, (∀ i ∈ is, ∃ n, xs[i]? = some (.int .u8 n)) → (Op.eqItems (d + 1) 5 1 xs xs is).run Tryz.prog w = .ok true w
  | [], _ => by simp [Op.eqItems]
  | i :: is, h => by
      obtain ⟨n, hn⟩ := h i (by simp)
      have ih := eqItems8 d xs w is (fun j hj => h j (by simp [hj]))
      simp only [Op.eqItems, Sem.run_bind, Nat.mul_one]
      rw [run_part_plain w plain5 hn]
      simp only [Result.andThen_ok]
      rw [run_part_plain w plain5 hn]
      simp only [Result.andThen_ok]
      rw [run_equalIn_int w d 5 .u8 .u8 n n Tryz.underlying5]
      simpa using ih
theorem eqItems1 (d : Nat) (xs : Array Value) (w : World) : ∀ is : List Nat, (∀ i ∈ is, ∃ n, xs[i]? = some (.bool n)) → (Op.eqItems (d + 1) 4 1 xs xs is).run Tryz.prog w = .ok true w
  | [], _ => by simp [Op.eqItems]
  | i :: is, h => by
      obtain ⟨n, hn⟩ := h i (by simp)
      have ih := eqItems1 d xs w is (fun j hj => h j (by simp [hj]))
      simp only [Op.eqItems, Sem.run_bind, Nat.mul_one]
      rw [run_part_plain w plain4 hn]
      simp only [Result.andThen_ok]
      rw [run_part_plain w plain4 hn]
      simp only [Result.andThen_ok]
      rw [run_equalIn_bool w d 4 n n Tryz.underlying4]
      simpa using ih
theorem info5 : ∃ i, Tryz.prog.info? 5 = some i := Option.isSome_iff_exists.1 (show (Tryz.prog.info? 5).isSome = true by kernel_rfl)
theorem info4b : ∃ i, Tryz.prog.info? 4 = some i := Option.isSome_iff_exists.1 (show (Tryz.prog.info? 4).isSome = true by kernel_rfl)
theorem cells5 : Tryz.prog.cellsOf 5 = 1 := by kernel_rfl
theorem cells4 : Tryz.prog.cellsOf 4 = 1 := by kernel_rfl
theorem arru64 (d : Nat) (xs : Array Value) (h : ∀ i, i < 64 → ∃ n, xs[i]? = some (.int .u8 n)) (w : World) : (Op.equalIn (d + 2) 22 (.agg xs) (.agg xs)).run Tryz.prog w = .ok true w := by
  obtain ⟨i, hi⟩ := info5
  rw [run_equalIn_array w (d + 1) xs xs Tryz.underlying22 hi, cells5]
  exact eqItems8 d xs w _ (fun i hi => h i (List.mem_range.1 hi))
theorem arrb4 (d : Nat) (xs : Array Value) (h : ∀ i, i < 4 → ∃ n, xs[i]? = some (.bool n)) (w : World) : (Op.equalIn (d + 2) 23 (.agg xs) (.agg xs)).run Tryz.prog w = .ok true w := by
  obtain ⟨i, hi⟩ := info4b
  rw [run_equalIn_array w (d + 1) xs xs Tryz.underlying23 hi, cells4]
  exact eqItems1 d xs w _ (fun i hi => h i (List.mem_range.1 hi))
theorem under25 : Tryz.prog.underlying 25 = some (.struct (Tryz.prog.fieldsOf 25)) := by kernel_rfl
theorem stood25 : Tryz.prog.stoodInHeld 25 = false := by kernel_rfl
theorem fields25 : (Tryz.prog.fieldsOf 25).toList.map (fun f => (f.name != "_", f.type, f.offset)) = [(true, 22, 0), (true, 4, 64), (true, 23, 65), (true, 3, 69), (true, 3, 70), (true, 3, 71)] := by kernel_rfl
theorem eqFields_cons {d : Nat} {xs ys : Array Value} {f : Field} {fs : List Field} {w : World} {a b : Value} (hf : (f.name != "_") = true) (ha : (part f.type xs f.offset).run Tryz.prog w = .ok a w) (hb : (part f.type ys f.offset).run Tryz.prog w = .ok b w) (hr : (Op.equalIn d f.type a b).run Tryz.prog w = .ok true w) :
    (Op.eqFields d xs ys (f :: fs)).run Tryz.prog w = (Op.eqFields d xs ys fs).run Tryz.prog w := by
  simp only [Op.eqFields]
  rw [if_pos (by simpa using hf)]
  simp [Sem.run_bind, ha, hb, hr]
theorem part64 (xs : Array Value) (w : World) : (part 22 xs 0).run Tryz.prog w = .ok (.agg (xs.extract 0 64)) w := by
  simp [part, isAgg, run_underlying Tryz.underlying22, sizeOf, typeInfo]
  kernel_rfl
theorem part4 (xs : Array Value) (w : World) : (part 23 xs 65).run Tryz.prog w = .ok (.agg (xs.extract 65 69)) w := by
  simp [part, isAgg, run_underlying Tryz.underlying23, sizeOf, typeInfo]
  kernel_rfl
/-- a position is equal to itself. -/
theorem pos_same {z : Nat → UInt8} {wh : Bool} {f : Nat → Bool} {b h g : Int} {PA : Array Value} (r : Row z wh f b h g PA) (w : World) : (Op.equalIn 10000 25 (.agg PA) (.agg PA)).run Tryz.prog w = .ok true w := by
  rw [run_equalIn_struct w 9999 25 PA PA under25 stood25]
  have hf := fields25
  generalize (Tryz.prog.fieldsOf 25).toList = fs at hf ⊢
  obtain ⟨f0, gs0, rfl, e0, hf⟩ := List.map_eq_cons_iff.1 hf
  obtain ⟨f1, gs1, rfl, e1, hf⟩ := List.map_eq_cons_iff.1 hf
  obtain ⟨f2, gs2, rfl, e2, hf⟩ := List.map_eq_cons_iff.1 hf
  obtain ⟨f3, gs3, rfl, e3, hf⟩ := List.map_eq_cons_iff.1 hf
  obtain ⟨f4, gs4, rfl, e4, hf⟩ := List.map_eq_cons_iff.1 hf
  obtain ⟨f5, gs5, rfl, e5, hf⟩ := List.map_eq_cons_iff.1 hf
  rw [List.map_eq_nil_iff] at hf
  subst hf
  simp only [Prod.mk.injEq] at e0 e1 e2 e3 e4 e5
  obtain ⟨a0, b0, c0⟩ := e0
  obtain ⟨a1, b1, c1⟩ := e1
  obtain ⟨a2, b2, c2⟩ := e2
  obtain ⟨a3, b3, c3⟩ := e3
  obtain ⟨a4, b4, c4⟩ := e4
  obtain ⟨a5, b5, c5⟩ := e5
  rw [eqFields_cons (a := .agg (PA.extract 0 64)) (b := .agg (PA.extract 0 64)) a0 (by rw [b0, c0]; exact part64 PA w) (by rw [b0, c0]; exact part64 PA w) (by
    rw [b0]
    exact arru64 9997 _ (fun i hi => ⟨_, by rw [Array.getElem?_extract, if_pos (by rw [r.size]; omega), Nat.zero_add]; exact r.sq i hi⟩) w)]
  rw [eqFields_cons (a := .bool wh) (b := .bool wh) a1 (by rw [b1, c1]; exact run_part_plain w plain4 r.wh) (by rw [b1, c1]; exact run_part_plain w plain4 r.wh) (by
    rw [b1, run_equalIn_bool w 9998 4 wh wh Tryz.underlying4]; simp)]
  rw [eqFields_cons (a := .agg (PA.extract 65 69)) (b := .agg (PA.extract 65 69)) a2 (by rw [b2, c2]; exact part4 PA w) (by rw [b2, c2]; exact part4 PA w) (by
    rw [b2]
    exact arrb4 9997 _ (fun i hi => ⟨_, by rw [Array.getElem?_extract, if_pos (by rw [r.size]; omega)]; exact r.c i hi⟩) w)]
  rw [eqFields_cons (a := .int .i64 b) (b := .int .i64 b) a3 (by rw [b3, c3]; exact run_part_plain w plain3 r.b) (by rw [b3, c3]; exact run_part_plain w plain3 r.b) (by
    rw [b3, run_equalIn_int w 9998 3 .i64 .i64 b b Tryz.underlying3]; simp)]
  rw [eqFields_cons (a := .int .i64 h) (b := .int .i64 h) a4 (by rw [b4, c4]; exact run_part_plain w plain3 r.h) (by rw [b4, c4]; exact run_part_plain w plain3 r.h) (by
    rw [b4, run_equalIn_int w 9998 3 .i64 .i64 h h Tryz.underlying3]; simp)]
  rw [eqFields_cons (a := .int .i64 g) (b := .int .i64 g) a5 (by rw [b5, c5]; exact run_part_plain w plain3 r.g) (by rw [b5, c5]; exact run_part_plain w plain3 r.g) (by
    rw [b5, run_equalIn_int w 9998 3 .i64 .i64 g g Tryz.underlying3]; simp)]
  simp [Op.eqFields]

theorem guard25 : Tryz.prog.eqGuardType Tryz.prog.depth 25 = false := by kernel_rfl
theorem wpList_eq_pos {ops : Array Oper} {rest : List Oper} {o : Oper} {a : Act} {w : World} {PA : Array Value} {Q : Exit → Act → World → Prop} (hw : Region.wanted o (yielded ops a.tmps) = true) (x y : Operand) (ho : o.op = .binOp .eql 25 x y 25) (hx : a.eval x = .agg PA) (hy : a.eval y = .agg PA)
    (hs : ∀ w : World, (Op.equalIn 10000 25 (.agg PA) (.agg PA)).run Tryz.prog w = .ok true w) (h : wpList Tryz.prog ops Q rest (a.put o.dst (.bool true)) w) : wpList Tryz.prog ops Q (o :: rest) a w :=
  wpList_step fun K hK => by
    rw [if_pos hw]
    unfold Oper.wp execOp
    simp only [ho, hx, hy, Sem.run_bind, Sem.run_pure, Result.andThen_ok, run_eqGuard_agg _ _ _ _ _ _ _ guard25, run_eql_struct, hs]
    exact hK _ _ h
theorem rowAt_of {b : Nat} {A : Array Value} {t : TypeId} {w : World} (h : w.heap[b]? = some (.cells A t)) : RowAt b A w :=
  ⟨(Array.getElem?_eq_some_iff.1 h).1, fun j v hv => by rw [cell_of_row _ _ _ _ _ _ h, Nat.zero_add, ← Array.getElem?_toList]; exact hv⟩

end Go.Proofs.YtnfakamfmkhlbaaGreatDoor.C
