import Derived.Test.YtnfakamfmkhlbaaGreatDoorZf40
import Derived.Conc.MuLone
namespace Go.Proofs.YtnfakamfmkhlbaaGreatDoor.C
open Go.ChangeShapes Go.WideShapes Go.ChangeAt Go.RowKit Go.Shelf Go.MuLone
open Go.Proofs.YtnfakamfmkhlbaaGreatDoor.P
attribute [local go_sem] qb qd Oper.semAt_some
/-! caches -/
end Go.Proofs.YtnfakamfmkhlbaaGreatDoor.C
namespace Go.Proofs.YtnfakamfmkhlbaaGreatDoor.C
open Go.RowKit
open Go.Proofs.YtnfakamfmkhlbaaGreatDoor.P
/-! both ways of numbering the rights have the same moves -/
theorem sort_fc {s : ByteArray} {p : Pos} (hr : readS s = some p) (hc : posCan p = true) : sortM (waL p 1) = sortM (movS (posZ p) p.white (fcN p.castle) p.behind) := by
  obtain ⟨hC, h0, h1⟩ := qja hr hc
  obtain ⟨t1, t2⟩ := pos_twin hr hc
  have o := Ok.of hr hc
  rw [t1]
  refine zr (fun a c h => List.lt_asymm h) _ _ t2 (twin o.good h0 h1).2 fun x => ?_
  rw [(xn _).mem_iff, (xn _).mem_iff]
  exact mov_fc hC o.good h0 h1 (fun i hi => (fcN_at p.castle hi).symm) x
theorem mem_fc {s : ByteArray} {p : Pos} (hr : readS s = some p) (hc : posCan p = true) {x : Mv} (hx : x ∈ movS (posZ p) p.white (fcN p.castle) p.behind) : x ∈ movS (posZ p) p.white p.castle p.behind := by
  obtain ⟨hC, h0, h1⟩ := qja hr hc
  exact (mov_fc hC (Ok.of hr hc).good h0 h1 (fun i hi => (fcN_at p.castle hi).symm) x).2 hx
/-- what Play wrote is read again, and counted as the position behind the move. -/
theorem aft_read {s : ByteArray} {p : Pos} (hr : readS s = some p) (hc : posCan p = true) {x : Mv} (hx : x ∈ movS (posZ p) p.white (fcN p.castle) p.behind) : (⟨(afW p x).toArray⟩ : ByteArray).size < 4294967281 ∧ ∃ p', readS ⟨(afW p x).toArray⟩ = some p' ∧ posCan p' = true ∧ ∀ d, pathsN d (posZ p') p'.white (fcN p'.castle) p'.behind = behN d (posZ p) p.white (fcN p.castle) p.behind x := by
  have hx0 := mem_fc hr hc hx
  obtain ⟨Q, r, _, hsz, hone⟩ := aft_parse hr hc hx0
  refine ⟨hsz, ?_⟩
  cases hq : readS ⟨(afW p x).toArray⟩ with
  | none =>
    exfalso
    have := hone _ (.inr (.inr ⟨hq, rfl⟩))
    injection this with this
    injection this with this
    have h2 := congrArg (fun a : Array Value => a[1]?) this
    simp at h2
  | some p' =>
    cases hcn : posCan p' with
    | false =>
      exfalso
      have := hone _ (.inr (.inl ⟨p', hq, hcn, rfl⟩))
      injection this with this
      injection this with this
      have h2 := congrArg (fun a : Array Value => a[1]?) this
      simp at h2
    | true =>
      refine ⟨p', rfl, hcn, fun d => ?_⟩
      have := hone _ (.inl ⟨p', hq, hcn, rfl⟩)
      injection this with this
      injection this with this
      have h2 := congrArg (fun a : Array Value => a[0]?) this
      have h3 : posV p' = Q := by simpa using h2
      obtain ⟨f, t, u⟩ := x
      have o := (Ok.of hr hc).next hx
      have r1 := row_fcN (jh hq)
      rw [h3] at r1
      have r2 : Row (plZ (posZ p) p.behind (f, t, u)) (!p.white) (cfA (fcN p.castle) f t 4) (behA (posZ p) f t) (halA (posZ p) f t p.half) (fulA p.white p.full) Q := ⟨r.size, r.sq, r.wh, fun i hi => by
        rw [r.c i hi]
        unfold cfA
        rw [fcN_at p.castle hi], r.b, r.h, r.g⟩
      have o' := Ok.of hq hcn
      obtain ⟨e1, e2, e3, e4⟩ := row_one r1 r2 o'.nz o.nz o'.nf o.nf
      rw [e1, e2, e3, e4]
      rfl
end Go.Proofs.YtnfakamfmkhlbaaGreatDoor.C
namespace Go.Proofs.YtnfakamfmkhlbaaGreatDoor.C
open Go.Proofs.YtnfakamfmkhlbaaGreatDoor.P
/-- the four hundred at first. -/
theorem start_400 : (readS firstB).map (fun p => pathsN 2 (posZ p) p.white (fcN p.castle) p.behind) = some 400 := by decide +kernel
end Go.Proofs.YtnfakamfmkhlbaaGreatDoor.C
namespace Go.Proofs.YtnfakamfmkhlbaaGreatDoor.C
open Go.ChangeShapes Go.WideShapes Go.ChangeAt Go.RowKit Go.Shelf
open Go.Proofs.YtnfakamfmkhlbaaGreatDoor.P
attribute [local go_sem] qb qd Oper.semAt_some
/-! the law of Counted: its calls, each with one answer -/
theorem i64_and4095 (n : Int) : bits .and .i64 n 4095 = n % 4096 := by
  have h63 : (BitVec.ofInt 64 4095).toNat = 2 ^ 12 - 1 := by decide
  have key : (BitVec.ofInt 64 n &&& BitVec.ofInt 64 4095).toNat = (n % ((2 ^ 64 : Nat) : Int)).toNat % 2 ^ 12 := by
    rw [BitVec.toNat_and, BitVec.toNat_ofInt, h63, Nat.and_two_pow_sub_one_eq_mod]
  show IntKind.i64.wrap ((BitVec.ofInt 64 n &&& BitVec.ofInt 64 4095).toNat : Nat) = n % 4096
  rw [key, IntKind.wrap_i64]
  omega
theorem i64_and1 (n : Int) : bits .and .i64 n 1 = n % 2 := by
  have h63 : (BitVec.ofInt 64 1).toNat = 2 ^ 1 - 1 := by decide
  have key : (BitVec.ofInt 64 n &&& BitVec.ofInt 64 1).toNat = (n % ((2 ^ 64 : Nat) : Int)).toNat % 2 ^ 1 := by
    rw [BitVec.toNat_and, BitVec.toNat_ofInt, h63, Nat.and_two_pow_sub_one_eq_mod]
  show IntKind.i64.wrap ((BitVec.ofInt 64 n &&& BitVec.ofInt 64 1).toNat : Nat) = n % 2
  rw [key, IntKind.wrap_i64]
  omega
theorem prf_bad {s : ByteArray} {k D wn : Int} {e : Ending} (hb : BadK s k) (hd : 0 ≤ D ∧ D ≤ 3) (hn : wn = 1 ∨ wn = 2) (h : PrfEnd s D wn e) : e = .returned (.tuple #[.int .u64 0, .int .i64 k]) := by
  rcases h with ⟨k', (a | ⟨p, _, _, a, _⟩ | ⟨p, _, _, _, a, _⟩), rfl⟩ | ⟨p, m, a, b, _⟩
  · rw [err_one (t := ⟨#[]⟩) (.inl hb) (.inl a)]
  · exact (a hd).elim
  · exact (a hn).elim
  · exact (ze hb a b).elim
theorem prf_is {s : ByteArray} {p : Pos} {m : Nat} {wn : Int} {e : Ending} (hr : readS s = some p) (hc : posCan p = true) (hm : m ≤ 3) (hn : wn = 1 ∨ wn = 2) (h : PrfEnd s (m : Int) wn e) : e = .returned (.tuple #[.int .u64 ((pathsN m (posZ p) p.white (fcN p.castle) p.behind : Nat) : Int), .int .i64 0]) := by
  rcases h with ⟨k', (a | ⟨p, _, _, a, _⟩ | ⟨p, _, _, _, a, _⟩), rfl⟩ | ⟨q, m', a, b, e', _, _, rfl⟩
  · exact (ze a hr hc).elim
  · exact (a ⟨by omega, by omega⟩).elim
  · exact (a hn).elim
  · rw [hr] at a
    obtain rfl : m = m' := by omega
    rw [← Option.some.inj a]
theorem prf_ret {s : ByteArray} {D wn : Int} {e : Ending} (h : PrfEnd s D wn e) : ∃ v, e = .returned v := by
  rcases h with ⟨k', _, rfl⟩ | ⟨q, m', _, _, _, _, _, rfl⟩
  · exact ⟨_, rfl⟩
  · exact ⟨_, rfl⟩
theorem div_bad {s : ByteArray} {k D wn : Int} {base : Nat} {e : Ending} {w' : World} (hb : BadK s k) (h : DivEnd s D wn base e w') (hd : 1 ≤ D ∧ D ≤ 3) (hn : wn = 1 ∨ wn = 2) : e = .returned (.tuple #[nilS, .int .i64 k]) := by
  rcases h with ⟨k', a, rfl⟩ | ⟨p, _, _, a, _⟩ | ⟨p, _, _, _, a, _⟩ | ⟨q, v, m, a, b, _⟩
  · rw [err_one (t := ⟨#[]⟩) (.inl hb) (.inl a)]
  · exact (a hd).elim
  · exact (a hn).elim
  · exact (ze hb a b).elim
theorem div_is {s : ByteArray} {p : Pos} {m : Nat} {wn : Int} {base : Nat} {e : Ending} {w' : World} (hr : readS s = some p) (hc : posCan p = true) (hm : m ≤ 2) (hn : wn = 1 ∨ wn = 2) (h : DivEnd s ((m + 1 : Nat) : Int) wn base e w') : ∃ v, e = .returned (.tuple #[v, .int .i64 0]) ∧ Cts base v (divL m (posZ p) p.white (fcN p.castle) p.behind (sortM (movS (posZ p) p.white (fcN p.castle) p.behind))) w' := by
  rcases h with ⟨k', a, rfl⟩ | ⟨p, _, _, a, _⟩ | ⟨p, _, _, _, a, _⟩ | ⟨q, v, m', a, b, e', _, _, rfl, hv⟩
  · exact (ze a hr hc).elim
  · exact (a ⟨by omega, by omega⟩).elim
  · exact (a hn).elim
  · rw [hr] at a
    obtain rfl : m = m' := by omega
    rw [← Option.some.inj a] at hv
    exact ⟨v, rfl, hv⟩
theorem mov_is {s : ByteArray} {p : Pos} {base : Nat} {e : Ending} {w' : World} (hr : readS s = some p) (hc : posCan p = true) (h : MovesEnd s 1 base e w') : ∃ v, e = .returned (.tuple #[v, .int .i64 0]) ∧ Strs base v (txts (sortM (movS (posZ p) p.white (fcN p.castle) p.behind))) w' := by
  rcases h with ⟨a, _⟩ | ⟨q, a, b, _⟩ | ⟨q, _, _, a, _⟩ | ⟨q, v, a, _, _, rfl, hv⟩
  · rw [hr] at a; cases a
  · rw [hr] at a; rw [← Option.some.inj a, hc] at b; cases b
  · exact (a (.inl rfl)).elim
  · rw [hr] at a
    rw [← Option.some.inj a, sort_fc hr hc] at hv
    exact ⟨v, rfl, hv⟩
theorem ply_is {s : ByteArray} {p : Pos} {x : Mv} {e : Ending} (hr : readS s = some p) (hc : posCan p = true) (hx : x ∈ movS (posZ p) p.white (fcN p.castle) p.behind) (h : PlayEnd s (str (txt x)) e) : e = .returned (.tuple #[.string ⟨(afW p x).toArray⟩, .int .i64 0]) := by
  have hx0 := mem_fc hr hc hx
  obtain ⟨f, t, u⟩ := x
  obtain ⟨hf, ht, hu, _⟩ := (Ok.of hr hc).mv hx
  have hm : mvR (str (txt (f, t, u))) = some (f, t, u) := mv_read hf ht hu
  rcases h with ⟨k, _, (a | ⟨_, q, _, _, a⟩ | ⟨_, q, y, a, _, b, c⟩), _⟩ | ⟨q, y, a, _, b, _, rfl⟩
  · exact (ze a hr hc).elim
  · rw [hm] at a; cases a
  · rw [hr] at a
    rw [hm] at b
    rw [← Option.some.inj a, ← Option.some.inj b] at c
    exact (c hx0).elim
  · rw [hr] at a
    rw [hm] at b
    rw [← Option.some.inj a, ← Option.some.inj b]
/-- the lists of Counted lie where no cache does. -/
structure Cl (g : Nat) (p1 p2 : Option Addr) (L : List Ct2) (T : List ByteArray) (W : World) : Prop where
  a : ∀ i (hi : i < L.length), ∃ b, p1 = some ⟨b, 0, none⟩ ∧ b ≠ g ∧ W.cell? ⟨b, i * 2, none⟩ = some (.string L[i].1) ∧ W.cell? ⟨b, i * 2 + 1, none⟩ = some (.int .u64 (L[i].2 : Int))
  b : ∀ i (hi : i < T.length), ∃ b, p2 = some ⟨b, 0, none⟩ ∧ b ≠ g ∧ W.cell? ⟨b, i, none⟩ = some (.string T[i])
theorem Cl.fx {g : Nat} {p1 p2 : Option Addr} {L : List Ct2} {T : List ByteArray} {W W' : World} (h : Cl g p1 p2 L T W) (f : Fx g W W') : Cl g p1 p2 L T W' :=
  ⟨fun i hi => by
    obtain ⟨b, e, hb, x, y⟩ := h.a i hi
    exact ⟨b, e, hb, Fr.cell f x (fun _ _ => hb), Fr.cell f y (fun _ _ => hb)⟩, fun i hi => by
    obtain ⟨b, e, hb, x⟩ := h.b i hi
    exact ⟨b, e, hb, Fr.cell f x (fun _ _ => hb)⟩⟩
theorem own_base {w : World} {base s n : Nat} {e : TypeId} {v : Value} {xs : List Value} (h : w.ownsRow base e s v n xs) : ∀ b, ∀ m c : Nat, v = .slice (some ⟨b, 0, none⟩) m c → base ≤ b := by
  intro b m c hv
  rcases h.2 with ⟨e, _⟩ | ⟨g', cap, cur, e, hb, _⟩
  · rw [hv] at e; cases e
  · rw [hv] at e
    injection e with e _ _
    injection e with e
    injection e with e _ _
    omega
end Go.Proofs.YtnfakamfmkhlbaaGreatDoor.C
