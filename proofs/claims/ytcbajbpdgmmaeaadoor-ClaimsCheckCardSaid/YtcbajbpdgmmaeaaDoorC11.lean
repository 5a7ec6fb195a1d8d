/- Texts merged by program, in build order: PutReg8, PutReg1. -/
import Derived.Test.YtcbajbpdgmmaeaaDoorC07
import Derived.Test.YtcbajbpdgmmaeaaDoorC09
namespace Go.Proofs.YtcbajbpdgmmaeaaDoor
open Go.RowKit
set_option linter.unusedVariables false
set_option linter.unusedSimpArgs false

def acts8 (a : Act) (u38 u39 u40 u41 u42 u43 u44 u45 u46 u47 u48 u49 : Value) : Act := { a with tmps := ((((((((((((a.tmps).setIfInBounds 38 u38).setIfInBounds 39 u39).setIfInBounds 40 u40).setIfInBounds 41 u41).setIfInBounds 42 u42).setIfInBounds 43 u43).setIfInBounds 44 u44).setIfInBounds 45 u45).setIfInBounds 46 u46).setIfInBounds 47 u47).setIfInBounds 48 u48).setIfInBounds 49 u49 }
/-- what holds, whatever has come up: L says what has -/
structure R8 (B p : Nat) (W3 : World) (lv kv : Value) (nl : Nat) (ks : List (List UInt8)) (xs : List Value) (key : List UInt8) (x0 x1 x2 x3 x4 : Value) (L : Nat → Prop) (u38 u39 u40 u41 u42 u43 u44 u45 u46 u47 u48 u49 : Value) (wr : World) : Prop where
  f0 : L 0 → u38 = .pointer (some ⟨p, 4, none⟩)
  f1 : L 1 → u39 = kv
  f2 : L 2 → u40 = .string ⟨key.toArray⟩
  f3 : L 3 → ¬ L 4 → ∃ g, u41 = .slice (some ⟨g, 0, none⟩) 1 1 ∧ wr.heap[g]? = some (.cells #[.string ⟨key.toArray⟩] 9 (0, 0))
  f4 : L 4 → wr.ownsRow B 9 1 u42 (ks.length + 1) (ksCells ks ++ [.string ⟨key.toArray⟩])
  k4 : ¬ L 4 → wr.ownsRow B 9 1 kv ks.length (ksCells ks)
  f5 : L 5 → u43 = .pointer (some ⟨p, 3, none⟩)
  f6 : L 6 → u44 = lv
  f7 : L 7 → u45 = .agg #[x0, x1, x2, x3, x4]
  f8 : L 8 → ¬ L 9 → ∃ g, u46 = .slice (some ⟨g, 0, none⟩) 1 1 ∧ wr.heap[g]? = some (.cells #[x0, x1, x2, x3, x4] 28 (0, 0))
  f9 : L 9 → wr.ownsRow B 28 5 u47 (nl + 1) (xs ++ [x0, x1, x2, x3, x4]) ∧ u47.ownBlock ≠ some p
  k9 : ¬ L 9 → wr.ownsRow B 28 5 lv nl xs
  f10 : L 10 → u48 = .pointer (some ⟨p, 4, none⟩)
  f12 : L 12 → u49 = .pointer (some ⟨p, 3, none⟩)
  var : ∃ lv' kv', wr.heap[p]? = some (.cells #[.int .i64 6, .int .i64 0, .string ⟨#[]⟩, lv', kv'] 28 (0, 0)) ∧ (¬ L 11 → kv' = kv) ∧ (L 11 → kv' = u42) ∧ (¬ L 13 → lv' = lv) ∧ (L 13 → lv' = u47)
  low : Below B W3 wr

theorem R8.s0 {B p : Nat} {W3 : World} {lv kv : Value} {nl : Nat} {ks : List (List UInt8)} {xs : List Value} {key : List UInt8} {x0 x1 x2 x3 x4 : Value} {L L' : Nat → Prop} {u38 u39 u40 u41 u42 u43 u44 u45 u46 u47 u48 u49 : Value} {wr : World} (h : R8 B p W3 lv kv nl ks xs key x0 x1 x2 x3 x4 L u38 u39 u40 u41 u42 u43 u44 u45 u46 u47 u48 u49 wr) (hL : ∀ j, j ≠ 0 → (L' j ↔ L j)) (hi : L' 0) : R8 B p W3 lv kv nl ks xs key x0 x1 x2 x3 x4 L' (.pointer (some ⟨p, 4, none⟩)) u39 u40 u41 u42 u43 u44 u45 u46 u47 u48 u49 wr := by
  refine ⟨?_, ?_, ?_, ?_, ?_, ?_, ?_, ?_, ?_, ?_, ?_, ?_, ?_, ?_, ?_, ?_⟩
  · exact fun _ => rfl
  · exact fun p1 => (h.f1 ((hL 1 (by decide)).1 p1))
  · exact fun p2 => (h.f2 ((hL 2 (by decide)).1 p2))
  · exact fun p3 n4 => (h.f3 ((hL 3 (by decide)).1 p3) (fun x => n4 ((hL 4 (by decide)).2 x)))
  · exact fun p4 => (h.f4 ((hL 4 (by decide)).1 p4))
  · exact fun n4 => (h.k4 (fun x => n4 ((hL 4 (by decide)).2 x)))
  · exact fun p5 => (h.f5 ((hL 5 (by decide)).1 p5))
  · exact fun p6 => (h.f6 ((hL 6 (by decide)).1 p6))
  · exact fun p7 => (h.f7 ((hL 7 (by decide)).1 p7))
  · exact fun p8 n9 => (h.f8 ((hL 8 (by decide)).1 p8) (fun x => n9 ((hL 9 (by decide)).2 x)))
  · exact fun p9 => (h.f9 ((hL 9 (by decide)).1 p9))
  · exact fun n9 => (h.k9 (fun x => n9 ((hL 9 (by decide)).2 x)))
  · exact fun p10 => (h.f10 ((hL 10 (by decide)).1 p10))
  · exact fun p12 => (h.f12 ((hL 12 (by decide)).1 p12))
  · exact (let ⟨lv', kv', hv, e1, e2, e3, e4⟩ := h.var; ⟨lv', kv', hv, fun n => e1 (fun x => n ((hL 11 (by decide)).2 x)), fun n => e2 ((hL 11 (by decide)).1 n), fun n => e3 (fun x => n ((hL 13 (by decide)).2 x)), fun n => e4 ((hL 13 (by decide)).1 n)⟩)
  · exact h.low
theorem R8.s1 {B p : Nat} {W3 : World} {lv kv : Value} {nl : Nat} {ks : List (List UInt8)} {xs : List Value} {key : List UInt8} {x0 x1 x2 x3 x4 : Value} {L L' : Nat → Prop} {u38 u39 u40 u41 u42 u43 u44 u45 u46 u47 u48 u49 : Value} {wr : World} (h : R8 B p W3 lv kv nl ks xs key x0 x1 x2 x3 x4 L u38 u39 u40 u41 u42 u43 u44 u45 u46 u47 u48 u49 wr) (hL : ∀ j, j ≠ 1 → (L' j ↔ L j)) (hi : L' 1) : R8 B p W3 lv kv nl ks xs key x0 x1 x2 x3 x4 L' u38 (kv) u40 u41 u42 u43 u44 u45 u46 u47 u48 u49 wr := by
  refine ⟨?_, ?_, ?_, ?_, ?_, ?_, ?_, ?_, ?_, ?_, ?_, ?_, ?_, ?_, ?_, ?_⟩
  · exact fun p0 => (h.f0 ((hL 0 (by decide)).1 p0))
  · exact fun _ => rfl
  · exact fun p2 => (h.f2 ((hL 2 (by decide)).1 p2))
  · exact fun p3 n4 => (h.f3 ((hL 3 (by decide)).1 p3) (fun x => n4 ((hL 4 (by decide)).2 x)))
  · exact fun p4 => (h.f4 ((hL 4 (by decide)).1 p4))
  · exact fun n4 => (h.k4 (fun x => n4 ((hL 4 (by decide)).2 x)))
  · exact fun p5 => (h.f5 ((hL 5 (by decide)).1 p5))
  · exact fun p6 => (h.f6 ((hL 6 (by decide)).1 p6))
  · exact fun p7 => (h.f7 ((hL 7 (by decide)).1 p7))
  · exact fun p8 n9 => (h.f8 ((hL 8 (by decide)).1 p8) (fun x => n9 ((hL 9 (by decide)).2 x)))
  · exact fun p9 => (h.f9 ((hL 9 (by decide)).1 p9))
  · exact fun n9 => (h.k9 (fun x => n9 ((hL 9 (by decide)).2 x)))
  · exact fun p10 => (h.f10 ((hL 10 (by decide)).1 p10))
  · exact fun p12 => (h.f12 ((hL 12 (by decide)).1 p12))
  · exact (let ⟨lv', kv', hv, e1, e2, e3, e4⟩ := h.var; ⟨lv', kv', hv, fun n => e1 (fun x => n ((hL 11 (by decide)).2 x)), fun n => e2 ((hL 11 (by decide)).1 n), fun n => e3 (fun x => n ((hL 13 (by decide)).2 x)), fun n => e4 ((hL 13 (by decide)).1 n)⟩)
  · exact h.low
theorem R8.s2 {B p : Nat} {W3 : World} {lv kv : Value} {nl : Nat} {ks : List (List UInt8)} {xs : List Value} {key : List UInt8} {x0 x1 x2 x3 x4 : Value} {L L' : Nat → Prop} {u38 u39 u40 u41 u42 u43 u44 u45 u46 u47 u48 u49 : Value} {wr : World} (h : R8 B p W3 lv kv nl ks xs key x0 x1 x2 x3 x4 L u38 u39 u40 u41 u42 u43 u44 u45 u46 u47 u48 u49 wr) (hL : ∀ j, j ≠ 2 → (L' j ↔ L j)) (hi : L' 2) : R8 B p W3 lv kv nl ks xs key x0 x1 x2 x3 x4 L' u38 u39 (.string ⟨key.toArray⟩) u41 u42 u43 u44 u45 u46 u47 u48 u49 wr := by
  refine ⟨?_, ?_, ?_, ?_, ?_, ?_, ?_, ?_, ?_, ?_, ?_, ?_, ?_, ?_, ?_, ?_⟩
  · exact fun p0 => (h.f0 ((hL 0 (by decide)).1 p0))
  · exact fun p1 => (h.f1 ((hL 1 (by decide)).1 p1))
  · exact fun _ => rfl
  · exact fun p3 n4 => (h.f3 ((hL 3 (by decide)).1 p3) (fun x => n4 ((hL 4 (by decide)).2 x)))
  · exact fun p4 => (h.f4 ((hL 4 (by decide)).1 p4))
  · exact fun n4 => (h.k4 (fun x => n4 ((hL 4 (by decide)).2 x)))
  · exact fun p5 => (h.f5 ((hL 5 (by decide)).1 p5))
  · exact fun p6 => (h.f6 ((hL 6 (by decide)).1 p6))
  · exact fun p7 => (h.f7 ((hL 7 (by decide)).1 p7))
  · exact fun p8 n9 => (h.f8 ((hL 8 (by decide)).1 p8) (fun x => n9 ((hL 9 (by decide)).2 x)))
  · exact fun p9 => (h.f9 ((hL 9 (by decide)).1 p9))
  · exact fun n9 => (h.k9 (fun x => n9 ((hL 9 (by decide)).2 x)))
  · exact fun p10 => (h.f10 ((hL 10 (by decide)).1 p10))
  · exact fun p12 => (h.f12 ((hL 12 (by decide)).1 p12))
  · exact (let ⟨lv', kv', hv, e1, e2, e3, e4⟩ := h.var; ⟨lv', kv', hv, fun n => e1 (fun x => n ((hL 11 (by decide)).2 x)), fun n => e2 ((hL 11 (by decide)).1 n), fun n => e3 (fun x => n ((hL 13 (by decide)).2 x)), fun n => e4 ((hL 13 (by decide)).1 n)⟩)
  · exact h.low
theorem R8.s5 {B p : Nat} {W3 : World} {lv kv : Value} {nl : Nat} {ks : List (List UInt8)} {xs : List Value} {key : List UInt8} {x0 x1 x2 x3 x4 : Value} {L L' : Nat → Prop} {u38 u39 u40 u41 u42 u43 u44 u45 u46 u47 u48 u49 : Value} {wr : World} (h : R8 B p W3 lv kv nl ks xs key x0 x1 x2 x3 x4 L u38 u39 u40 u41 u42 u43 u44 u45 u46 u47 u48 u49 wr) (hL : ∀ j, j ≠ 5 → (L' j ↔ L j)) (hi : L' 5) : R8 B p W3 lv kv nl ks xs key x0 x1 x2 x3 x4 L' u38 u39 u40 u41 u42 (.pointer (some ⟨p, 3, none⟩)) u44 u45 u46 u47 u48 u49 wr := by
  refine ⟨?_, ?_, ?_, ?_, ?_, ?_, ?_, ?_, ?_, ?_, ?_, ?_, ?_, ?_, ?_, ?_⟩
  · exact fun p0 => (h.f0 ((hL 0 (by decide)).1 p0))
  · exact fun p1 => (h.f1 ((hL 1 (by decide)).1 p1))
  · exact fun p2 => (h.f2 ((hL 2 (by decide)).1 p2))
  · exact fun p3 n4 => (h.f3 ((hL 3 (by decide)).1 p3) (fun x => n4 ((hL 4 (by decide)).2 x)))
  · exact fun p4 => (h.f4 ((hL 4 (by decide)).1 p4))
  · exact fun n4 => (h.k4 (fun x => n4 ((hL 4 (by decide)).2 x)))
  · exact fun _ => rfl
  · exact fun p6 => (h.f6 ((hL 6 (by decide)).1 p6))
  · exact fun p7 => (h.f7 ((hL 7 (by decide)).1 p7))
  · exact fun p8 n9 => (h.f8 ((hL 8 (by decide)).1 p8) (fun x => n9 ((hL 9 (by decide)).2 x)))
  · exact fun p9 => (h.f9 ((hL 9 (by decide)).1 p9))
  · exact fun n9 => (h.k9 (fun x => n9 ((hL 9 (by decide)).2 x)))
  · exact fun p10 => (h.f10 ((hL 10 (by decide)).1 p10))
  · exact fun p12 => (h.f12 ((hL 12 (by decide)).1 p12))
  · exact (let ⟨lv', kv', hv, e1, e2, e3, e4⟩ := h.var; ⟨lv', kv', hv, fun n => e1 (fun x => n ((hL 11 (by decide)).2 x)), fun n => e2 ((hL 11 (by decide)).1 n), fun n => e3 (fun x => n ((hL 13 (by decide)).2 x)), fun n => e4 ((hL 13 (by decide)).1 n)⟩)
  · exact h.low
theorem R8.s6 {B p : Nat} {W3 : World} {lv kv : Value} {nl : Nat} {ks : List (List UInt8)} {xs : List Value} {key : List UInt8} {x0 x1 x2 x3 x4 : Value} {L L' : Nat → Prop} {u38 u39 u40 u41 u42 u43 u44 u45 u46 u47 u48 u49 : Value} {wr : World} (h : R8 B p W3 lv kv nl ks xs key x0 x1 x2 x3 x4 L u38 u39 u40 u41 u42 u43 u44 u45 u46 u47 u48 u49 wr) (hL : ∀ j, j ≠ 6 → (L' j ↔ L j)) (hi : L' 6) : R8 B p W3 lv kv nl ks xs key x0 x1 x2 x3 x4 L' u38 u39 u40 u41 u42 u43 (lv) u45 u46 u47 u48 u49 wr := by
  refine ⟨?_, ?_, ?_, ?_, ?_, ?_, ?_, ?_, ?_, ?_, ?_, ?_, ?_, ?_, ?_, ?_⟩
  · exact fun p0 => (h.f0 ((hL 0 (by decide)).1 p0))
  · exact fun p1 => (h.f1 ((hL 1 (by decide)).1 p1))
  · exact fun p2 => (h.f2 ((hL 2 (by decide)).1 p2))
  · exact fun p3 n4 => (h.f3 ((hL 3 (by decide)).1 p3) (fun x => n4 ((hL 4 (by decide)).2 x)))
  · exact fun p4 => (h.f4 ((hL 4 (by decide)).1 p4))
  · exact fun n4 => (h.k4 (fun x => n4 ((hL 4 (by decide)).2 x)))
  · exact fun p5 => (h.f5 ((hL 5 (by decide)).1 p5))
  · exact fun _ => rfl
  · exact fun p7 => (h.f7 ((hL 7 (by decide)).1 p7))
  · exact fun p8 n9 => (h.f8 ((hL 8 (by decide)).1 p8) (fun x => n9 ((hL 9 (by decide)).2 x)))
  · exact fun p9 => (h.f9 ((hL 9 (by decide)).1 p9))
  · exact fun n9 => (h.k9 (fun x => n9 ((hL 9 (by decide)).2 x)))
  · exact fun p10 => (h.f10 ((hL 10 (by decide)).1 p10))
  · exact fun p12 => (h.f12 ((hL 12 (by decide)).1 p12))
  · exact (let ⟨lv', kv', hv, e1, e2, e3, e4⟩ := h.var; ⟨lv', kv', hv, fun n => e1 (fun x => n ((hL 11 (by decide)).2 x)), fun n => e2 ((hL 11 (by decide)).1 n), fun n => e3 (fun x => n ((hL 13 (by decide)).2 x)), fun n => e4 ((hL 13 (by decide)).1 n)⟩)
  · exact h.low
theorem R8.s7 {B p : Nat} {W3 : World} {lv kv : Value} {nl : Nat} {ks : List (List UInt8)} {xs : List Value} {key : List UInt8} {x0 x1 x2 x3 x4 : Value} {L L' : Nat → Prop} {u38 u39 u40 u41 u42 u43 u44 u45 u46 u47 u48 u49 : Value} {wr : World} (h : R8 B p W3 lv kv nl ks xs key x0 x1 x2 x3 x4 L u38 u39 u40 u41 u42 u43 u44 u45 u46 u47 u48 u49 wr) (hL : ∀ j, j ≠ 7 → (L' j ↔ L j)) (hi : L' 7) : R8 B p W3 lv kv nl ks xs key x0 x1 x2 x3 x4 L' u38 u39 u40 u41 u42 u43 u44 (.agg #[x0, x1, x2, x3, x4]) u46 u47 u48 u49 wr := by
  refine ⟨?_, ?_, ?_, ?_, ?_, ?_, ?_, ?_, ?_, ?_, ?_, ?_, ?_, ?_, ?_, ?_⟩
  · exact fun p0 => (h.f0 ((hL 0 (by decide)).1 p0))
  · exact fun p1 => (h.f1 ((hL 1 (by decide)).1 p1))
  · exact fun p2 => (h.f2 ((hL 2 (by decide)).1 p2))
  · exact fun p3 n4 => (h.f3 ((hL 3 (by decide)).1 p3) (fun x => n4 ((hL 4 (by decide)).2 x)))
  · exact fun p4 => (h.f4 ((hL 4 (by decide)).1 p4))
  · exact fun n4 => (h.k4 (fun x => n4 ((hL 4 (by decide)).2 x)))
  · exact fun p5 => (h.f5 ((hL 5 (by decide)).1 p5))
  · exact fun p6 => (h.f6 ((hL 6 (by decide)).1 p6))
  · exact fun _ => rfl
  · exact fun p8 n9 => (h.f8 ((hL 8 (by decide)).1 p8) (fun x => n9 ((hL 9 (by decide)).2 x)))
  · exact fun p9 => (h.f9 ((hL 9 (by decide)).1 p9))
  · exact fun n9 => (h.k9 (fun x => n9 ((hL 9 (by decide)).2 x)))
  · exact fun p10 => (h.f10 ((hL 10 (by decide)).1 p10))
  · exact fun p12 => (h.f12 ((hL 12 (by decide)).1 p12))
  · exact (let ⟨lv', kv', hv, e1, e2, e3, e4⟩ := h.var; ⟨lv', kv', hv, fun n => e1 (fun x => n ((hL 11 (by decide)).2 x)), fun n => e2 ((hL 11 (by decide)).1 n), fun n => e3 (fun x => n ((hL 13 (by decide)).2 x)), fun n => e4 ((hL 13 (by decide)).1 n)⟩)
  · exact h.low
theorem R8.s10 {B p : Nat} {W3 : World} {lv kv : Value} {nl : Nat} {ks : List (List UInt8)} {xs : List Value} {key : List UInt8} {x0 x1 x2 x3 x4 : Value} {L L' : Nat → Prop} {u38 u39 u40 u41 u42 u43 u44 u45 u46 u47 u48 u49 : Value} {wr : World} (h : R8 B p W3 lv kv nl ks xs key x0 x1 x2 x3 x4 L u38 u39 u40 u41 u42 u43 u44 u45 u46 u47 u48 u49 wr) (hL : ∀ j, j ≠ 10 → (L' j ↔ L j)) (hi : L' 10) : R8 B p W3 lv kv nl ks xs key x0 x1 x2 x3 x4 L' u38 u39 u40 u41 u42 u43 u44 u45 u46 u47 (.pointer (some ⟨p, 4, none⟩)) u49 wr := by
  refine ⟨?_, ?_, ?_, ?_, ?_, ?_, ?_, ?_, ?_, ?_, ?_, ?_, ?_, ?_, ?_, ?_⟩
  · exact fun p0 => (h.f0 ((hL 0 (by decide)).1 p0))
  · exact fun p1 => (h.f1 ((hL 1 (by decide)).1 p1))
  · exact fun p2 => (h.f2 ((hL 2 (by decide)).1 p2))
  · exact fun p3 n4 => (h.f3 ((hL 3 (by decide)).1 p3) (fun x => n4 ((hL 4 (by decide)).2 x)))
  · exact fun p4 => (h.f4 ((hL 4 (by decide)).1 p4))
  · exact fun n4 => (h.k4 (fun x => n4 ((hL 4 (by decide)).2 x)))
  · exact fun p5 => (h.f5 ((hL 5 (by decide)).1 p5))
  · exact fun p6 => (h.f6 ((hL 6 (by decide)).1 p6))
  · exact fun p7 => (h.f7 ((hL 7 (by decide)).1 p7))
  · exact fun p8 n9 => (h.f8 ((hL 8 (by decide)).1 p8) (fun x => n9 ((hL 9 (by decide)).2 x)))
  · exact fun p9 => (h.f9 ((hL 9 (by decide)).1 p9))
  · exact fun n9 => (h.k9 (fun x => n9 ((hL 9 (by decide)).2 x)))
  · exact fun _ => rfl
  · exact fun p12 => (h.f12 ((hL 12 (by decide)).1 p12))
  · exact (let ⟨lv', kv', hv, e1, e2, e3, e4⟩ := h.var; ⟨lv', kv', hv, fun n => e1 (fun x => n ((hL 11 (by decide)).2 x)), fun n => e2 ((hL 11 (by decide)).1 n), fun n => e3 (fun x => n ((hL 13 (by decide)).2 x)), fun n => e4 ((hL 13 (by decide)).1 n)⟩)
  · exact h.low
theorem R8.s12 {B p : Nat} {W3 : World} {lv kv : Value} {nl : Nat} {ks : List (List UInt8)} {xs : List Value} {key : List UInt8} {x0 x1 x2 x3 x4 : Value} {L L' : Nat → Prop} {u38 u39 u40 u41 u42 u43 u44 u45 u46 u47 u48 u49 : Value} {wr : World} (h : R8 B p W3 lv kv nl ks xs key x0 x1 x2 x3 x4 L u38 u39 u40 u41 u42 u43 u44 u45 u46 u47 u48 u49 wr) (hL : ∀ j, j ≠ 12 → (L' j ↔ L j)) (hi : L' 12) : R8 B p W3 lv kv nl ks xs key x0 x1 x2 x3 x4 L' u38 u39 u40 u41 u42 u43 u44 u45 u46 u47 u48 (.pointer (some ⟨p, 3, none⟩)) wr := by
  refine ⟨?_, ?_, ?_, ?_, ?_, ?_, ?_, ?_, ?_, ?_, ?_, ?_, ?_, ?_, ?_, ?_⟩
  · exact fun p0 => (h.f0 ((hL 0 (by decide)).1 p0))
  · exact fun p1 => (h.f1 ((hL 1 (by decide)).1 p1))
  · exact fun p2 => (h.f2 ((hL 2 (by decide)).1 p2))
  · exact fun p3 n4 => (h.f3 ((hL 3 (by decide)).1 p3) (fun x => n4 ((hL 4 (by decide)).2 x)))
  · exact fun p4 => (h.f4 ((hL 4 (by decide)).1 p4))
  · exact fun n4 => (h.k4 (fun x => n4 ((hL 4 (by decide)).2 x)))
  · exact fun p5 => (h.f5 ((hL 5 (by decide)).1 p5))
  · exact fun p6 => (h.f6 ((hL 6 (by decide)).1 p6))
  · exact fun p7 => (h.f7 ((hL 7 (by decide)).1 p7))
  · exact fun p8 n9 => (h.f8 ((hL 8 (by decide)).1 p8) (fun x => n9 ((hL 9 (by decide)).2 x)))
  · exact fun p9 => (h.f9 ((hL 9 (by decide)).1 p9))
  · exact fun n9 => (h.k9 (fun x => n9 ((hL 9 (by decide)).2 x)))
  · exact fun p10 => (h.f10 ((hL 10 (by decide)).1 p10))
  · exact fun _ => rfl
  · exact (let ⟨lv', kv', hv, e1, e2, e3, e4⟩ := h.var; ⟨lv', kv', hv, fun n => e1 (fun x => n ((hL 11 (by decide)).2 x)), fun n => e2 ((hL 11 (by decide)).1 n), fun n => e3 (fun x => n ((hL 13 (by decide)).2 x)), fun n => e4 ((hL 13 (by decide)).1 n)⟩)
  · exact h.low
theorem R8.s3 {B p : Nat} {W3 : World} {lv kv : Value} {nl : Nat} {ks : List (List UInt8)} {xs : List Value} {key : List UInt8} {x0 x1 x2 x3 x4 : Value} {L L' : Nat → Prop} {u38 u39 u40 u41 u42 u43 u44 u45 u46 u47 u48 u49 : Value} {wr : World} (h : R8 B p W3 lv kv nl ks xs key x0 x1 x2 x3 x4 L u38 u39 u40 u41 u42 u43 u44 u45 u46 u47 u48 u49 wr) (hL : ∀ j, j ≠ 3 → (L' j ↔ L j)) (hi : L' 3) (hB : B ≤ wr.heap.size) : R8 B p W3 lv kv nl ks xs key x0 x1 x2 x3 x4 L' u38 u39 u40 (.slice (some ⟨wr.heap.size, 0, none⟩) 1 1) u42 u43 u44 u45 u46 u47 u48 u49 (wr.alloc (.cells #[.string ⟨key.toArray⟩] 9)) := by
  refine ⟨?_, ?_, ?_, ?_, ?_, ?_, ?_, ?_, ?_, ?_, ?_, ?_, ?_, ?_, ?_, ?_⟩
  · exact fun p0 => (h.f0 ((hL 0 (by decide)).1 p0))
  · exact fun p1 => (h.f1 ((hL 1 (by decide)).1 p1))
  · exact fun p2 => (h.f2 ((hL 2 (by decide)).1 p2))
  · exact fun _ _ => ⟨_, rfl, heap_alloc_last wr _⟩
  · exact fun p4 => World.ownsRow.alloc (h.f4 ((hL 4 (by decide)).1 p4)) _
  · exact fun n4 => World.ownsRow.alloc (h.k4 (fun x => n4 ((hL 4 (by decide)).2 x))) _
  · exact fun p5 => (h.f5 ((hL 5 (by decide)).1 p5))
  · exact fun p6 => (h.f6 ((hL 6 (by decide)).1 p6))
  · exact fun p7 => (h.f7 ((hL 7 (by decide)).1 p7))
  · exact fun p8 n9 => (let ⟨g, e, hg⟩ := (h.f8 ((hL 8 (by decide)).1 p8) (fun x => n9 ((hL 9 (by decide)).2 x))); ⟨g, e, alloc_block hg⟩)
  · exact fun p9 => ⟨World.ownsRow.alloc (h.f9 ((hL 9 (by decide)).1 p9)).1 _, (h.f9 ((hL 9 (by decide)).1 p9)).2⟩
  · exact fun n9 => World.ownsRow.alloc (h.k9 (fun x => n9 ((hL 9 (by decide)).2 x))) _
  · exact fun p10 => (h.f10 ((hL 10 (by decide)).1 p10))
  · exact fun p12 => (h.f12 ((hL 12 (by decide)).1 p12))
  · exact (let ⟨lv', kv', hv, e1, e2, e3, e4⟩ := h.var; ⟨lv', kv', alloc_block hv, fun n => e1 (fun x => n ((hL 11 (by decide)).2 x)), fun n => e2 ((hL 11 (by decide)).1 n), fun n => e3 (fun x => n ((hL 13 (by decide)).2 x)), fun n => e4 ((hL 13 (by decide)).1 n)⟩)
  · exact h.low.alloc hB _
theorem R8.s8 {B p : Nat} {W3 : World} {lv kv : Value} {nl : Nat} {ks : List (List UInt8)} {xs : List Value} {key : List UInt8} {x0 x1 x2 x3 x4 : Value} {L L' : Nat → Prop} {u38 u39 u40 u41 u42 u43 u44 u45 u46 u47 u48 u49 : Value} {wr : World} (h : R8 B p W3 lv kv nl ks xs key x0 x1 x2 x3 x4 L u38 u39 u40 u41 u42 u43 u44 u45 u46 u47 u48 u49 wr) (hL : ∀ j, j ≠ 8 → (L' j ↔ L j)) (hi : L' 8) (hB : B ≤ wr.heap.size) : R8 B p W3 lv kv nl ks xs key x0 x1 x2 x3 x4 L' u38 u39 u40 u41 u42 u43 u44 u45 (.slice (some ⟨wr.heap.size, 0, none⟩) 1 1) u47 u48 u49 (wr.alloc (.cells #[x0, x1, x2, x3, x4] 28)) := by
  refine ⟨?_, ?_, ?_, ?_, ?_, ?_, ?_, ?_, ?_, ?_, ?_, ?_, ?_, ?_, ?_, ?_⟩
  · exact fun p0 => (h.f0 ((hL 0 (by decide)).1 p0))
  · exact fun p1 => (h.f1 ((hL 1 (by decide)).1 p1))
  · exact fun p2 => (h.f2 ((hL 2 (by decide)).1 p2))
  · exact fun p3 n4 => (let ⟨g, e, hg⟩ := (h.f3 ((hL 3 (by decide)).1 p3) (fun x => n4 ((hL 4 (by decide)).2 x))); ⟨g, e, alloc_block hg⟩)
  · exact fun p4 => World.ownsRow.alloc (h.f4 ((hL 4 (by decide)).1 p4)) _
  · exact fun n4 => World.ownsRow.alloc (h.k4 (fun x => n4 ((hL 4 (by decide)).2 x))) _
  · exact fun p5 => (h.f5 ((hL 5 (by decide)).1 p5))
  · exact fun p6 => (h.f6 ((hL 6 (by decide)).1 p6))
  · exact fun p7 => (h.f7 ((hL 7 (by decide)).1 p7))
  · exact fun _ _ => ⟨_, rfl, heap_alloc_last wr _⟩
  · exact fun p9 => ⟨World.ownsRow.alloc (h.f9 ((hL 9 (by decide)).1 p9)).1 _, (h.f9 ((hL 9 (by decide)).1 p9)).2⟩
  · exact fun n9 => World.ownsRow.alloc (h.k9 (fun x => n9 ((hL 9 (by decide)).2 x))) _
  · exact fun p10 => (h.f10 ((hL 10 (by decide)).1 p10))
  · exact fun p12 => (h.f12 ((hL 12 (by decide)).1 p12))
  · exact (let ⟨lv', kv', hv, e1, e2, e3, e4⟩ := h.var; ⟨lv', kv', alloc_block hv, fun n => e1 (fun x => n ((hL 11 (by decide)).2 x)), fun n => e2 ((hL 11 (by decide)).1 n), fun n => e3 (fun x => n ((hL 13 (by decide)).2 x)), fun n => e4 ((hL 13 (by decide)).1 n)⟩)
  · exact h.low.alloc hB _
theorem R8.s4 {B p : Nat} {W3 : World} {lv kv : Value} {nl : Nat} {ks : List (List UInt8)} {xs : List Value} {key : List UInt8} {x0 x1 x2 x3 x4 : Value} {L L' : Nat → Prop} {u38 u39 u40 u41 u42 u43 u44 u45 u46 u47 u48 u49 : Value} {wr : World} {v' : Value} {w1 : World} (h : R8 B p W3 lv kv nl ks xs key x0 x1 x2 x3 x4 L u38 u39 u40 u41 u42 u43 u44 u45 u46 u47 u48 u49 wr) (hL : ∀ j, j ≠ 4 → (L' j ↔ L j)) (hi : L' 4) (h4 : ¬ L 4) (n11 : ¬ L 11) (hB : B ≤ wr.heap.size) (hK : w1.ownsRow B 9 1 v' (ks.length + 1) (ksCells ks ++ [.string ⟨key.toArray⟩])) (gK : wr.grownBy w1 kv.ownBlock) : R8 B p W3 lv kv nl ks xs key x0 x1 x2 x3 x4 L' u38 u39 u40 u41 v' u43 u44 u45 u46 u47 u48 u49 w1 := by
  refine ⟨?_, ?_, ?_, ?_, ?_, ?_, ?_, ?_, ?_, ?_, ?_, ?_, ?_, ?_, ?_, ?_⟩
  · exact fun p0 => (h.f0 ((hL 0 (by decide)).1 p0))
  · exact fun p1 => (h.f1 ((hL 1 (by decide)).1 p1))
  · exact fun p2 => (h.f2 ((hL 2 (by decide)).1 p2))
  · exact fun _ n => absurd hi n
  · exact fun _ => hK
  · exact fun n => absurd hi n
  · exact fun p5 => (h.f5 ((hL 5 (by decide)).1 p5))
  · exact fun p6 => (h.f6 ((hL 6 (by decide)).1 p6))
  · exact fun p7 => (h.f7 ((hL 7 (by decide)).1 p7))
  · exact fun p8 n9 => (let ⟨g, e, hg⟩ := (h.f8 ((hL 8 (by decide)).1 p8) (fun x => n9 ((hL 9 (by decide)).2 x))); ⟨g, e, grown_block gK hg (own_not (h.k4 h4) hg (by decide))⟩)
  · exact fun p9 => ⟨own_other (h.f9 ((hL 9 (by decide)).1 p9)).1 (h.k4 h4) (by decide) gK, (h.f9 ((hL 9 (by decide)).1 p9)).2⟩
  · exact fun n9 => own_other (h.k9 (fun x => n9 ((hL 9 (by decide)).2 x))) (h.k4 h4) (by decide) gK
  · exact fun p10 => (h.f10 ((hL 10 (by decide)).1 p10))
  · exact fun p12 => (h.f12 ((hL 12 (by decide)).1 p12))
  · exact (let ⟨lv', kv', hv, e1, e2, e3, e4⟩ := h.var; ⟨lv', kv', grown_block gK hv (own_not (h.k4 h4) hv (by decide)), fun n => e1 (fun x => n ((hL 11 (by decide)).2 x)), fun n => absurd ((hL 11 (by decide)).1 n) n11, fun n => e3 (fun x => n ((hL 13 (by decide)).2 x)), fun n => e4 ((hL 13 (by decide)).1 n)⟩)
  · exact h.low.grown gK hB (fun k hk => ((h.k4 h4).lt k hk).1)
theorem R8.s9 {B p : Nat} {W3 : World} {lv kv : Value} {nl : Nat} {ks : List (List UInt8)} {xs : List Value} {key : List UInt8} {x0 x1 x2 x3 x4 : Value} {L L' : Nat → Prop} {u38 u39 u40 u41 u42 u43 u44 u45 u46 u47 u48 u49 : Value} {wr : World} {v' : Value} {w1 : World} (h : R8 B p W3 lv kv nl ks xs key x0 x1 x2 x3 x4 L u38 u39 u40 u41 u42 u43 u44 u45 u46 u47 u48 u49 wr) (hL : ∀ j, j ≠ 9 → (L' j ↔ L j)) (hi : L' 9) (h9 : ¬ L 9) (n13 : ¬ L 13) (hB : B ≤ wr.heap.size) (hf : lv.ownBlock ≠ some p) (hL9 : w1.ownsRow B 28 5 v' (nl + 1) (xs ++ [x0, x1, x2, x3, x4])) (gL : wr.grownBy w1 lv.ownBlock) (at9 : v'.ownBlock = lv.ownBlock ∨ v'.ownBlock = some wr.heap.size) : R8 B p W3 lv kv nl ks xs key x0 x1 x2 x3 x4 L' u38 u39 u40 u41 u42 u43 u44 u45 u46 v' u48 u49 w1 := by
  refine ⟨?_, ?_, ?_, ?_, ?_, ?_, ?_, ?_, ?_, ?_, ?_, ?_, ?_, ?_, ?_, ?_⟩
  · exact fun p0 => (h.f0 ((hL 0 (by decide)).1 p0))
  · exact fun p1 => (h.f1 ((hL 1 (by decide)).1 p1))
  · exact fun p2 => (h.f2 ((hL 2 (by decide)).1 p2))
  · exact fun p3 n4 => (let ⟨g, e, hg⟩ := (h.f3 ((hL 3 (by decide)).1 p3) (fun x => n4 ((hL 4 (by decide)).2 x))); ⟨g, e, grown_block gL hg (own_not (h.k9 h9) hg (by decide))⟩)
  · exact fun p4 => own_other (h.f4 ((hL 4 (by decide)).1 p4)) (h.k9 h9) (by decide) gL
  · exact fun n4 => own_other (h.k4 (fun x => n4 ((hL 4 (by decide)).2 x))) (h.k9 h9) (by decide) gL
  · exact fun p5 => (h.f5 ((hL 5 (by decide)).1 p5))
  · exact fun p6 => (h.f6 ((hL 6 (by decide)).1 p6))
  · exact fun p7 => (h.f7 ((hL 7 (by decide)).1 p7))
  · exact fun _ n => absurd hi n
  · exact fun _ => ⟨hL9, far_of2 hL9 at9 hf (by obtain ⟨_, _, hv, _⟩ := h.var; exact (Array.getElem?_eq_some_iff.1 hv).1)⟩
  · exact fun n => absurd hi n
  · exact fun p10 => (h.f10 ((hL 10 (by decide)).1 p10))
  · exact fun p12 => (h.f12 ((hL 12 (by decide)).1 p12))
  · exact (let ⟨lv', kv', hv, e1, e2, e3, e4⟩ := h.var; ⟨lv', kv', grown_block gL hv hf, fun n => e1 (fun x => n ((hL 11 (by decide)).2 x)), fun n => e2 ((hL 11 (by decide)).1 n), fun n => e3 (fun x => n ((hL 13 (by decide)).2 x)), fun n => absurd ((hL 13 (by decide)).1 n) n13⟩)
  · exact h.low.grown gL hB (fun k hk => ((h.k9 h9).lt k hk).1)
theorem R8.s11 {B p : Nat} {W3 : World} {lv kv : Value} {nl : Nat} {ks : List (List UInt8)} {xs : List Value} {key : List UInt8} {x0 x1 x2 x3 x4 : Value} {L L' : Nat → Prop} {u38 u39 u40 u41 u42 u43 u44 u45 u46 u47 u48 u49 : Value} {wr : World} (h : R8 B p W3 lv kv nl ks xs key x0 x1 x2 x3 x4 L u38 u39 u40 u41 u42 u43 u44 u45 u46 u47 u48 u49 wr) (hL : ∀ j, j ≠ 11 → (L' j ↔ L j)) (hi : L' 11) (d4 : L 4) (d9 : L 9) (hp : B ≤ p) : R8 B p W3 lv kv nl ks xs key x0 x1 x2 x3 x4 L' u38 u39 u40 u41 u42 u43 u44 u45 u46 u47 u48 u49 (wr.setCell ⟨p, 4, none⟩ u42) := by
  refine ⟨?_, ?_, ?_, ?_, ?_, ?_, ?_, ?_, ?_, ?_, ?_, ?_, ?_, ?_, ?_, ?_⟩
  · exact fun p0 => (h.f0 ((hL 0 (by decide)).1 p0))
  · exact fun p1 => (h.f1 ((hL 1 (by decide)).1 p1))
  · exact fun p2 => (h.f2 ((hL 2 (by decide)).1 p2))
  · exact fun _ n4 => absurd ((hL 4 (by decide)).2 d4) n4
  · exact fun _ => own_kept (h.f4 d4) fun g hg => set_there _ (fun e => by obtain ⟨_, _, hv, _⟩ := h.var; exact own_not (h.f4 d4) hv (by decide) (by rw [hg, e]))
  · exact fun n4 => absurd ((hL 4 (by decide)).2 d4) n4
  · exact fun p5 => (h.f5 ((hL 5 (by decide)).1 p5))
  · exact fun p6 => (h.f6 ((hL 6 (by decide)).1 p6))
  · exact fun p7 => (h.f7 ((hL 7 (by decide)).1 p7))
  · exact fun _ n9 => absurd ((hL 9 (by decide)).2 d9) n9
  · exact fun _ => ⟨own_kept (h.f9 d9).1 fun g hg => set_there _ (fun e => (h.f9 d9).2 (by rw [hg, e])), (h.f9 d9).2⟩
  · exact fun n9 => absurd ((hL 9 (by decide)).2 d9) n9
  · exact fun p10 => (h.f10 ((hL 10 (by decide)).1 p10))
  · exact fun p12 => (h.f12 ((hL 12 (by decide)).1 p12))
  · (obtain ⟨lv', kv', hv, e1, e2, e3, e4⟩ := h.var; refine ⟨lv', u42, ?_, fun n => absurd hi n, fun _ => rfl, fun n => e3 (fun x => n ((hL 13 (by decide)).2 x)), fun n => e4 ((hL 13 (by decide)).1 n)⟩; (have := set_here (o := 4) hv u42; simpa using this))
  · exact h.low.setCell (p := ⟨p, 4, none⟩) hp _
theorem R8.s13 {B p : Nat} {W3 : World} {lv kv : Value} {nl : Nat} {ks : List (List UInt8)} {xs : List Value} {key : List UInt8} {x0 x1 x2 x3 x4 : Value} {L L' : Nat → Prop} {u38 u39 u40 u41 u42 u43 u44 u45 u46 u47 u48 u49 : Value} {wr : World} (h : R8 B p W3 lv kv nl ks xs key x0 x1 x2 x3 x4 L u38 u39 u40 u41 u42 u43 u44 u45 u46 u47 u48 u49 wr) (hL : ∀ j, j ≠ 13 → (L' j ↔ L j)) (hi : L' 13) (d4 : L 4) (d9 : L 9) (hp : B ≤ p) : R8 B p W3 lv kv nl ks xs key x0 x1 x2 x3 x4 L' u38 u39 u40 u41 u42 u43 u44 u45 u46 u47 u48 u49 (wr.setCell ⟨p, 3, none⟩ u47) := by
  refine ⟨?_, ?_, ?_, ?_, ?_, ?_, ?_, ?_, ?_, ?_, ?_, ?_, ?_, ?_, ?_, ?_⟩
  · exact fun p0 => (h.f0 ((hL 0 (by decide)).1 p0))
  · exact fun p1 => (h.f1 ((hL 1 (by decide)).1 p1))
  · exact fun p2 => (h.f2 ((hL 2 (by decide)).1 p2))
  · exact fun _ n4 => absurd ((hL 4 (by decide)).2 d4) n4
  · exact fun _ => own_kept (h.f4 d4) fun g hg => set_there _ (fun e => by obtain ⟨_, _, hv, _⟩ := h.var; exact own_not (h.f4 d4) hv (by decide) (by rw [hg, e]))
  · exact fun n4 => absurd ((hL 4 (by decide)).2 d4) n4
  · exact fun p5 => (h.f5 ((hL 5 (by decide)).1 p5))
  · exact fun p6 => (h.f6 ((hL 6 (by decide)).1 p6))
  · exact fun p7 => (h.f7 ((hL 7 (by decide)).1 p7))
  · exact fun _ n9 => absurd ((hL 9 (by decide)).2 d9) n9
  · exact fun _ => ⟨own_kept (h.f9 d9).1 fun g hg => set_there _ (fun e => (h.f9 d9).2 (by rw [hg, e])), (h.f9 d9).2⟩
  · exact fun n9 => absurd ((hL 9 (by decide)).2 d9) n9
  · exact fun p10 => (h.f10 ((hL 10 (by decide)).1 p10))
  · exact fun p12 => (h.f12 ((hL 12 (by decide)).1 p12))
  · (obtain ⟨lv', kv', hv, e1, e2, e3, e4⟩ := h.var; refine ⟨u47, kv', ?_, fun n => e1 (fun x => n ((hL 11 (by decide)).2 x)), fun n => e2 ((hL 11 (by decide)).1 n), fun n => absurd hi n, fun _ => rfl⟩; (have := set_here (o := 3) hv u47; simpa using this))
  · exact h.low.setCell (p := ⟨p, 3, none⟩) hp _
/-- a key and an item more, both stored -/
theorem OSt.grown {B p L N : Nat} {w wr wz : World} {lv kv lv' kv' : Value} {l : List V} {ks : List (List UInt8)} {xs : List Value} {c0 c1 c2 c3 c4 : Value} (h : OSt B p L N w wr lv kv l ks xs) (hp : B ≤ p) (t : List UInt8) (x : V)
    (hx : VIs w L N x [c0, c1, c2, c3, c4]) (hv : wz.heap[p]? = some (.cells #[.int .i64 6, .int .i64 0, .string ⟨#[]⟩, lv', kv'] 28 (0, 0)))
    (hK : wz.ownsRow B 9 1 kv' (ks.length + 1) (ksCells ks ++ [.string ⟨t.toArray⟩])) (hL : wz.ownsRow B 28 5 lv' (l.length + 1) (xs ++ [c0, c1, c2, c3, c4])) (hf : lv'.ownBlock ≠ some p) (hb : Below B w wz) :
    OSt B p L N w wz lv' kv' (l ++ [x]) (ks ++ [t]) (xs ++ [c0, c1, c2, c3, c4]) := by
  have hxl := h.rowL.1
  refine ⟨hv, ?_, ?_, hf, fun i hi => ?_, hb⟩
  · rw [List.length_append, List.length_singleton]; exact hL
  · rw [ksCells_snoc, List.length_append, List.length_singleton]; exact hK
  · rcases Nat.lt_or_ge i l.length with hil | hil
    · obtain ⟨d0, d1, d2, d3, d4, e0, e1, e2, e3, e4, hv⟩ := h.elem i hil
      have hgl : (l ++ [x])[i] = l[i] := List.getElem_append_left hil
      rw [hgl]
      refine ⟨d0, d1, d2, d3, d4, ?_, ?_, ?_, ?_, ?_, hv⟩
      · rw [List.getElem?_append_left (by omega)]; exact e0
      · rw [List.getElem?_append_left (by omega)]; exact e1
      · rw [List.getElem?_append_left (by omega)]; exact e2
      · rw [List.getElem?_append_left (by omega)]; exact e3
      · rw [List.getElem?_append_left (by omega)]; exact e4
    · have hie : i = l.length := by simp at hi; omega
      subst hie
      have hgl : (l ++ [x])[l.length] = x := by simp
      rw [hgl]
      exact ⟨c0, c1, c2, c3, c4, app_at hxl _ _ _ _ _ (k := 0) (by decide), app_at hxl _ _ _ _ _ (k := 1) (by decide), app_at hxl _ _ _ _ _ (k := 2) (by decide), app_at hxl _ _ _ _ _ (k := 3) (by decide), app_at hxl _ _ _ _ _ (k := 4) (by decide), hx⟩
end Go.Proofs.YtcbajbpdgmmaeaaDoor
namespace Go.Proofs.YtcbajbpdgmmaeaaDoor
open Go.RowKit
set_option linter.unusedVariables false
set_option linter.unusedSimpArgs false

def acts1 (a : Act) (u7 u9 u10 u11 u12 u13 u14 u15 u16 u17 : Value) : Act := { a with tmps := ((((((((((a.tmps).setIfInBounds 7 u7).setIfInBounds 9 u9).setIfInBounds 10 u10).setIfInBounds 11 u11).setIfInBounds 12 u12).setIfInBounds 13 u13).setIfInBounds 14 u14).setIfInBounds 15 u15).setIfInBounds 16 u16).setIfInBounds 17 u17 }
/-- what holds, whatever has come up: L says what has -/
structure R1 (B R : Nat) (W3 : World) (A A' : Option Addr) (nl c c' : Nat) (ks : List (List UInt8)) (xs : List Value) (L : Nat → Prop) (u7 u9 u10 u11 u12 u13 u14 u15 u16 u17 : Value) (wr : World) : Prop where
  f0 : L 0 → ¬ L 3 → ∃ g, u9 = .slice (some ⟨g, 0, none⟩) 0 0 ∧ wr.ownsRow B 9 1 u9 0 []
  f1 : L 1 → u10 = .pointer (some ⟨R, 4, none⟩)
  f2 : L 2 → u11 = .slice A' ks.length c'
  f3 : L 3 → wr.ownsRow B 9 1 u12 ks.length (ksCells ks)
  f4 : L 4 → ¬ L 7 → ∃ g, u13 = .slice (some ⟨g, 0, none⟩) 0 0 ∧ wr.ownsRow B 28 5 u13 0 []
  f5 : L 5 → u14 = .pointer (some ⟨R, 3, none⟩)
  f6 : L 6 → u15 = .slice A nl c
  f7 : L 7 → wr.ownsRow B 28 5 u16 nl xs
  f8 : L 8 → u17 = .agg #[.int .i64 6, .int .i64 0, .string ⟨#[]⟩, u16, u12]
  f9 : L 9 → ∃ p, u7 = .pointer (some ⟨p, 0, none⟩) ∧ B ≤ p ∧ (∃ cs, wr.heap[p]? = some (.cells cs 28 (0, 0)) ∧ (¬ L 10 → cs = #[.int .i64 0, .int .i64 0, .string ⟨#[]⟩, .slice none 0 0, .slice none 0 0]) ∧ (L 10 → cs = #[.int .i64 6, .int .i64 0, .string ⟨#[]⟩, u16, u12])) ∧ (L 4 → ¬ L 7 → u13.ownBlock ≠ some p) ∧ (L 7 → u16.ownBlock ≠ some p)
  low : Below B W3 wr

theorem R1.s1 {B R : Nat} {W3 : World} {A A' : Option Addr} {nl c c' : Nat} {ks : List (List UInt8)} {xs : List Value} {L L' : Nat → Prop} {u7 u9 u10 u11 u12 u13 u14 u15 u16 u17 : Value} {wr : World} (h : R1 B R W3 A A' nl c c' ks xs L u7 u9 u10 u11 u12 u13 u14 u15 u16 u17 wr) (hL : ∀ j, j ≠ 1 → (L' j ↔ L j)) (hi : L' 1) : R1 B R W3 A A' nl c c' ks xs L' u7 u9 (.pointer (some ⟨R, 4, none⟩)) u11 u12 u13 u14 u15 u16 u17 wr := by
  refine ⟨?_, ?_, ?_, ?_, ?_, ?_, ?_, ?_, ?_, ?_, ?_⟩
  · exact fun p0 n3 => (h.f0 ((hL 0 (by decide)).1 p0) (fun x => n3 ((hL 3 (by decide)).2 x)))
  · exact fun _ => rfl
  · exact fun p2 => (h.f2 ((hL 2 (by decide)).1 p2))
  · exact fun p3 => (h.f3 ((hL 3 (by decide)).1 p3))
  · exact fun p4 n7 => (h.f4 ((hL 4 (by decide)).1 p4) (fun x => n7 ((hL 7 (by decide)).2 x)))
  · exact fun p5 => (h.f5 ((hL 5 (by decide)).1 p5))
  · exact fun p6 => (h.f6 ((hL 6 (by decide)).1 p6))
  · exact fun p7 => (h.f7 ((hL 7 (by decide)).1 p7))
  · exact fun p8 => (h.f8 ((hL 8 (by decide)).1 p8))
  · exact fun n9 => (let ⟨p, e, hp, ⟨cs, hv, z1, z2⟩, q1, q2⟩ := h.f9 ((hL 9 (by decide)).1 n9); ⟨p, e, hp, ⟨cs, hv, fun n => z1 (fun x => n ((hL 10 (by decide)).2 x)), fun n => z2 ((hL 10 (by decide)).1 n)⟩, fun a b => q1 ((hL 4 (by decide)).1 a) (fun x => b ((hL 7 (by decide)).2 x)), fun a => q2 ((hL 7 (by decide)).1 a)⟩)
  · exact h.low
theorem R1.s2 {B R : Nat} {W3 : World} {A A' : Option Addr} {nl c c' : Nat} {ks : List (List UInt8)} {xs : List Value} {L L' : Nat → Prop} {u7 u9 u10 u11 u12 u13 u14 u15 u16 u17 : Value} {wr : World} (h : R1 B R W3 A A' nl c c' ks xs L u7 u9 u10 u11 u12 u13 u14 u15 u16 u17 wr) (hL : ∀ j, j ≠ 2 → (L' j ↔ L j)) (hi : L' 2) : R1 B R W3 A A' nl c c' ks xs L' u7 u9 u10 (.slice A' ks.length c') u12 u13 u14 u15 u16 u17 wr := by
  refine ⟨?_, ?_, ?_, ?_, ?_, ?_, ?_, ?_, ?_, ?_, ?_⟩
  · exact fun p0 n3 => (h.f0 ((hL 0 (by decide)).1 p0) (fun x => n3 ((hL 3 (by decide)).2 x)))
  · exact fun p1 => (h.f1 ((hL 1 (by decide)).1 p1))
  · exact fun _ => rfl
  · exact fun p3 => (h.f3 ((hL 3 (by decide)).1 p3))
  · exact fun p4 n7 => (h.f4 ((hL 4 (by decide)).1 p4) (fun x => n7 ((hL 7 (by decide)).2 x)))
  · exact fun p5 => (h.f5 ((hL 5 (by decide)).1 p5))
  · exact fun p6 => (h.f6 ((hL 6 (by decide)).1 p6))
  · exact fun p7 => (h.f7 ((hL 7 (by decide)).1 p7))
  · exact fun p8 => (h.f8 ((hL 8 (by decide)).1 p8))
  · exact fun n9 => (let ⟨p, e, hp, ⟨cs, hv, z1, z2⟩, q1, q2⟩ := h.f9 ((hL 9 (by decide)).1 n9); ⟨p, e, hp, ⟨cs, hv, fun n => z1 (fun x => n ((hL 10 (by decide)).2 x)), fun n => z2 ((hL 10 (by decide)).1 n)⟩, fun a b => q1 ((hL 4 (by decide)).1 a) (fun x => b ((hL 7 (by decide)).2 x)), fun a => q2 ((hL 7 (by decide)).1 a)⟩)
  · exact h.low
theorem R1.s5 {B R : Nat} {W3 : World} {A A' : Option Addr} {nl c c' : Nat} {ks : List (List UInt8)} {xs : List Value} {L L' : Nat → Prop} {u7 u9 u10 u11 u12 u13 u14 u15 u16 u17 : Value} {wr : World} (h : R1 B R W3 A A' nl c c' ks xs L u7 u9 u10 u11 u12 u13 u14 u15 u16 u17 wr) (hL : ∀ j, j ≠ 5 → (L' j ↔ L j)) (hi : L' 5) : R1 B R W3 A A' nl c c' ks xs L' u7 u9 u10 u11 u12 u13 (.pointer (some ⟨R, 3, none⟩)) u15 u16 u17 wr := by
  refine ⟨?_, ?_, ?_, ?_, ?_, ?_, ?_, ?_, ?_, ?_, ?_⟩
  · exact fun p0 n3 => (h.f0 ((hL 0 (by decide)).1 p0) (fun x => n3 ((hL 3 (by decide)).2 x)))
  · exact fun p1 => (h.f1 ((hL 1 (by decide)).1 p1))
  · exact fun p2 => (h.f2 ((hL 2 (by decide)).1 p2))
  · exact fun p3 => (h.f3 ((hL 3 (by decide)).1 p3))
  · exact fun p4 n7 => (h.f4 ((hL 4 (by decide)).1 p4) (fun x => n7 ((hL 7 (by decide)).2 x)))
  · exact fun _ => rfl
  · exact fun p6 => (h.f6 ((hL 6 (by decide)).1 p6))
  · exact fun p7 => (h.f7 ((hL 7 (by decide)).1 p7))
  · exact fun p8 => (h.f8 ((hL 8 (by decide)).1 p8))
  · exact fun n9 => (let ⟨p, e, hp, ⟨cs, hv, z1, z2⟩, q1, q2⟩ := h.f9 ((hL 9 (by decide)).1 n9); ⟨p, e, hp, ⟨cs, hv, fun n => z1 (fun x => n ((hL 10 (by decide)).2 x)), fun n => z2 ((hL 10 (by decide)).1 n)⟩, fun a b => q1 ((hL 4 (by decide)).1 a) (fun x => b ((hL 7 (by decide)).2 x)), fun a => q2 ((hL 7 (by decide)).1 a)⟩)
  · exact h.low
theorem R1.s6 {B R : Nat} {W3 : World} {A A' : Option Addr} {nl c c' : Nat} {ks : List (List UInt8)} {xs : List Value} {L L' : Nat → Prop} {u7 u9 u10 u11 u12 u13 u14 u15 u16 u17 : Value} {wr : World} (h : R1 B R W3 A A' nl c c' ks xs L u7 u9 u10 u11 u12 u13 u14 u15 u16 u17 wr) (hL : ∀ j, j ≠ 6 → (L' j ↔ L j)) (hi : L' 6) : R1 B R W3 A A' nl c c' ks xs L' u7 u9 u10 u11 u12 u13 u14 (.slice A nl c) u16 u17 wr := by
  refine ⟨?_, ?_, ?_, ?_, ?_, ?_, ?_, ?_, ?_, ?_, ?_⟩
  · exact fun p0 n3 => (h.f0 ((hL 0 (by decide)).1 p0) (fun x => n3 ((hL 3 (by decide)).2 x)))
  · exact fun p1 => (h.f1 ((hL 1 (by decide)).1 p1))
  · exact fun p2 => (h.f2 ((hL 2 (by decide)).1 p2))
  · exact fun p3 => (h.f3 ((hL 3 (by decide)).1 p3))
  · exact fun p4 n7 => (h.f4 ((hL 4 (by decide)).1 p4) (fun x => n7 ((hL 7 (by decide)).2 x)))
  · exact fun p5 => (h.f5 ((hL 5 (by decide)).1 p5))
  · exact fun _ => rfl
  · exact fun p7 => (h.f7 ((hL 7 (by decide)).1 p7))
  · exact fun p8 => (h.f8 ((hL 8 (by decide)).1 p8))
  · exact fun n9 => (let ⟨p, e, hp, ⟨cs, hv, z1, z2⟩, q1, q2⟩ := h.f9 ((hL 9 (by decide)).1 n9); ⟨p, e, hp, ⟨cs, hv, fun n => z1 (fun x => n ((hL 10 (by decide)).2 x)), fun n => z2 ((hL 10 (by decide)).1 n)⟩, fun a b => q1 ((hL 4 (by decide)).1 a) (fun x => b ((hL 7 (by decide)).2 x)), fun a => q2 ((hL 7 (by decide)).1 a)⟩)
  · exact h.low
theorem R1.s8 {B R : Nat} {W3 : World} {A A' : Option Addr} {nl c c' : Nat} {ks : List (List UInt8)} {xs : List Value} {L L' : Nat → Prop} {u7 u9 u10 u11 u12 u13 u14 u15 u16 u17 : Value} {wr : World} (h : R1 B R W3 A A' nl c c' ks xs L u7 u9 u10 u11 u12 u13 u14 u15 u16 u17 wr) (hL : ∀ j, j ≠ 8 → (L' j ↔ L j)) (hi : L' 8) : R1 B R W3 A A' nl c c' ks xs L' u7 u9 u10 u11 u12 u13 u14 u15 u16 (.agg #[.int .i64 6, .int .i64 0, .string ⟨#[]⟩, u16, u12]) wr := by
  refine ⟨?_, ?_, ?_, ?_, ?_, ?_, ?_, ?_, ?_, ?_, ?_⟩
  · exact fun p0 n3 => (h.f0 ((hL 0 (by decide)).1 p0) (fun x => n3 ((hL 3 (by decide)).2 x)))
  · exact fun p1 => (h.f1 ((hL 1 (by decide)).1 p1))
  · exact fun p2 => (h.f2 ((hL 2 (by decide)).1 p2))
  · exact fun p3 => (h.f3 ((hL 3 (by decide)).1 p3))
  · exact fun p4 n7 => (h.f4 ((hL 4 (by decide)).1 p4) (fun x => n7 ((hL 7 (by decide)).2 x)))
  · exact fun p5 => (h.f5 ((hL 5 (by decide)).1 p5))
  · exact fun p6 => (h.f6 ((hL 6 (by decide)).1 p6))
  · exact fun p7 => (h.f7 ((hL 7 (by decide)).1 p7))
  · exact fun _ => rfl
  · exact fun n9 => (let ⟨p, e, hp, ⟨cs, hv, z1, z2⟩, q1, q2⟩ := h.f9 ((hL 9 (by decide)).1 n9); ⟨p, e, hp, ⟨cs, hv, fun n => z1 (fun x => n ((hL 10 (by decide)).2 x)), fun n => z2 ((hL 10 (by decide)).1 n)⟩, fun a b => q1 ((hL 4 (by decide)).1 a) (fun x => b ((hL 7 (by decide)).2 x)), fun a => q2 ((hL 7 (by decide)).1 a)⟩)
  · exact h.low
theorem R1.s0 {B R : Nat} {W3 : World} {A A' : Option Addr} {nl c c' : Nat} {ks : List (List UInt8)} {xs : List Value} {L L' : Nat → Prop} {u7 u9 u10 u11 u12 u13 u14 u15 u16 u17 : Value} {wr : World} (h : R1 B R W3 A A' nl c c' ks xs L u7 u9 u10 u11 u12 u13 u14 u15 u16 u17 wr) (hL : ∀ j, j ≠ 0 → (L' j ↔ L j)) (hi : L' 0) (hB : B ≤ wr.heap.size) : R1 B R W3 A A' nl c c' ks xs L' u7 (.slice (some ⟨wr.heap.size, 0, none⟩) 0 0) u10 u11 u12 u13 u14 u15 u16 u17 (wr.alloc (.cells #[] 9)) := by
  refine ⟨?_, ?_, ?_, ?_, ?_, ?_, ?_, ?_, ?_, ?_, ?_⟩
  · exact fun _ _ => ⟨_, rfl, own_fresh wr B _ _ hB⟩
  · exact fun p1 => (h.f1 ((hL 1 (by decide)).1 p1))
  · exact fun p2 => (h.f2 ((hL 2 (by decide)).1 p2))
  · exact fun p3 => World.ownsRow.alloc (h.f3 ((hL 3 (by decide)).1 p3)) _
  · exact fun p4 n7 => (let ⟨g, e, hg⟩ := (h.f4 ((hL 4 (by decide)).1 p4) (fun x => n7 ((hL 7 (by decide)).2 x))); ⟨g, e, World.ownsRow.alloc hg _⟩)
  · exact fun p5 => (h.f5 ((hL 5 (by decide)).1 p5))
  · exact fun p6 => (h.f6 ((hL 6 (by decide)).1 p6))
  · exact fun p7 => World.ownsRow.alloc (h.f7 ((hL 7 (by decide)).1 p7)) _
  · exact fun p8 => (h.f8 ((hL 8 (by decide)).1 p8))
  · exact fun n9 => (let ⟨p, e, hp, ⟨cs, hv, z1, z2⟩, q1, q2⟩ := h.f9 ((hL 9 (by decide)).1 n9); ⟨p, e, hp, ⟨cs, alloc_block hv, fun n => z1 (fun x => n ((hL 10 (by decide)).2 x)), fun n => z2 ((hL 10 (by decide)).1 n)⟩, fun a b => q1 ((hL 4 (by decide)).1 a) (fun x => b ((hL 7 (by decide)).2 x)), fun a => q2 ((hL 7 (by decide)).1 a)⟩)
  · exact h.low.alloc hB _
theorem R1.s4 {B R : Nat} {W3 : World} {A A' : Option Addr} {nl c c' : Nat} {ks : List (List UInt8)} {xs : List Value} {L L' : Nat → Prop} {u7 u9 u10 u11 u12 u13 u14 u15 u16 u17 : Value} {wr : World} (h : R1 B R W3 A A' nl c c' ks xs L u7 u9 u10 u11 u12 u13 u14 u15 u16 u17 wr) (hL : ∀ j, j ≠ 4 → (L' j ↔ L j)) (hi : L' 4) (hB : B ≤ wr.heap.size) (n7 : ¬ L 7) : R1 B R W3 A A' nl c c' ks xs L' u7 u9 u10 u11 u12 (.slice (some ⟨wr.heap.size, 0, none⟩) 0 0) u14 u15 u16 u17 (wr.alloc (.cells #[] 28)) := by
  refine ⟨?_, ?_, ?_, ?_, ?_, ?_, ?_, ?_, ?_, ?_, ?_⟩
  · exact fun p0 n3 => (let ⟨g, e, hg⟩ := (h.f0 ((hL 0 (by decide)).1 p0) (fun x => n3 ((hL 3 (by decide)).2 x))); ⟨g, e, World.ownsRow.alloc hg _⟩)
  · exact fun p1 => (h.f1 ((hL 1 (by decide)).1 p1))
  · exact fun p2 => (h.f2 ((hL 2 (by decide)).1 p2))
  · exact fun p3 => World.ownsRow.alloc (h.f3 ((hL 3 (by decide)).1 p3)) _
  · exact fun _ _ => ⟨_, rfl, own_fresh wr B _ _ hB⟩
  · exact fun p5 => (h.f5 ((hL 5 (by decide)).1 p5))
  · exact fun p6 => (h.f6 ((hL 6 (by decide)).1 p6))
  · exact fun p7 => World.ownsRow.alloc (h.f7 ((hL 7 (by decide)).1 p7)) _
  · exact fun p8 => (h.f8 ((hL 8 (by decide)).1 p8))
  · exact fun n9 => (let ⟨p, e, hp, ⟨cs, hv, z1, z2⟩, q1, q2⟩ := h.f9 ((hL 9 (by decide)).1 n9); ⟨p, e, hp, ⟨cs, alloc_block hv, fun n => z1 (fun x => n ((hL 10 (by decide)).2 x)), fun n => z2 ((hL 10 (by decide)).1 n)⟩, fun _ _ => (fun (e : some wr.heap.size = some p) => by have h1 := (Array.getElem?_eq_some_iff.1 hv).1; injection e with e; omega), fun a => q2 ((hL 7 (by decide)).1 a)⟩)
  · exact h.low.alloc hB _
theorem R1.s9 {B R : Nat} {W3 : World} {A A' : Option Addr} {nl c c' : Nat} {ks : List (List UInt8)} {xs : List Value} {L L' : Nat → Prop} {u7 u9 u10 u11 u12 u13 u14 u15 u16 u17 : Value} {wr : World} (h : R1 B R W3 A A' nl c c' ks xs L u7 u9 u10 u11 u12 u13 u14 u15 u16 u17 wr) (hL : ∀ j, j ≠ 9 → (L' j ↔ L j)) (hi : L' 9) (hB : B ≤ wr.heap.size) (n10 : ¬ L 10) : R1 B R W3 A A' nl c c' ks xs L' (.pointer (some ⟨wr.heap.size, 0, none⟩)) u9 u10 u11 u12 u13 u14 u15 u16 u17 (wr.alloc (.cells #[.int .i64 0, .int .i64 0, .string ⟨#[]⟩, .slice none 0 0, .slice none 0 0] 28)) := by
  refine ⟨?_, ?_, ?_, ?_, ?_, ?_, ?_, ?_, ?_, ?_, ?_⟩
  · exact fun p0 n3 => (let ⟨g, e, hg⟩ := (h.f0 ((hL 0 (by decide)).1 p0) (fun x => n3 ((hL 3 (by decide)).2 x))); ⟨g, e, World.ownsRow.alloc hg _⟩)
  · exact fun p1 => (h.f1 ((hL 1 (by decide)).1 p1))
  · exact fun p2 => (h.f2 ((hL 2 (by decide)).1 p2))
  · exact fun p3 => World.ownsRow.alloc (h.f3 ((hL 3 (by decide)).1 p3)) _
  · exact fun p4 n7 => (let ⟨g, e, hg⟩ := (h.f4 ((hL 4 (by decide)).1 p4) (fun x => n7 ((hL 7 (by decide)).2 x))); ⟨g, e, World.ownsRow.alloc hg _⟩)
  · exact fun p5 => (h.f5 ((hL 5 (by decide)).1 p5))
  · exact fun p6 => (h.f6 ((hL 6 (by decide)).1 p6))
  · exact fun p7 => World.ownsRow.alloc (h.f7 ((hL 7 (by decide)).1 p7)) _
  · exact fun p8 => (h.f8 ((hL 8 (by decide)).1 p8))
  · exact fun _ => ⟨_, rfl, hB, ⟨_, heap_alloc_last wr _, fun _ => rfl, fun n => absurd ((hL 10 (by decide)).1 n) n10⟩, fun a b e => (by obtain ⟨g, e1, hg⟩ := h.f4 ((hL 4 (by decide)).1 a) (fun x => b ((hL 7 (by decide)).2 x)); have := (hg.lt _ e).2; omega), fun a e => (by have := ((h.f7 ((hL 7 (by decide)).1 a)).lt _ e).2; omega)⟩
  · exact h.low.alloc hB _
theorem R1.s3 {B R : Nat} {W3 : World} {A A' : Option Addr} {nl c c' : Nat} {ks : List (List UInt8)} {xs : List Value} {L L' : Nat → Prop} {u7 u9 u10 u11 u12 u13 u14 u15 u16 u17 : Value} {wr : World} {v' : Value} {w1 : World} (h : R1 B R W3 A A' nl c c' ks xs L u7 u9 u10 u11 u12 u13 u14 u15 u16 u17 wr) (hL : ∀ j, j ≠ 3 → (L' j ↔ L j)) (hi : L' 3) (h0 : wr.ownsRow B 9 1 u9 0 []) (hB : B ≤ wr.heap.size) (hK : w1.ownsRow B 9 1 v' ks.length (ksCells ks)) (gK : wr.grownBy w1 u9.ownBlock) (n8 : ¬ L 8) (n10 : ¬ L 10) : R1 B R W3 A A' nl c c' ks xs L' u7 u9 u10 u11 v' u13 u14 u15 u16 u17 w1 := by
  refine ⟨?_, ?_, ?_, ?_, ?_, ?_, ?_, ?_, ?_, ?_, ?_⟩
  · exact fun _ n => absurd hi n
  · exact fun p1 => (h.f1 ((hL 1 (by decide)).1 p1))
  · exact fun p2 => (h.f2 ((hL 2 (by decide)).1 p2))
  · exact fun _ => hK
  · exact fun p4 n7 => (let ⟨g, e, hg⟩ := (h.f4 ((hL 4 (by decide)).1 p4) (fun x => n7 ((hL 7 (by decide)).2 x))); ⟨g, e, own_other hg h0 (by decide) gK⟩)
  · exact fun p5 => (h.f5 ((hL 5 (by decide)).1 p5))
  · exact fun p6 => (h.f6 ((hL 6 (by decide)).1 p6))
  · exact fun p7 => own_other (h.f7 ((hL 7 (by decide)).1 p7)) h0 (by decide) gK
  · exact fun p8 => absurd ((hL 8 (by decide)).1 p8) n8
  · exact fun n9 => (let ⟨p, e, hp, ⟨cs, hv, z1, z2⟩, q1, q2⟩ := h.f9 ((hL 9 (by decide)).1 n9); ⟨p, e, hp, ⟨cs, grown_block gK hv (own_not h0 hv (by decide)), fun n => z1 (fun x => n ((hL 10 (by decide)).2 x)), fun n => absurd ((hL 10 (by decide)).1 n) n10⟩, fun a b => q1 ((hL 4 (by decide)).1 a) (fun x => b ((hL 7 (by decide)).2 x)), fun a => q2 ((hL 7 (by decide)).1 a)⟩)
  · exact h.low.grown gK hB (fun k hk => (h0.lt k hk).1)
theorem R1.s7 {B R : Nat} {W3 : World} {A A' : Option Addr} {nl c c' : Nat} {ks : List (List UInt8)} {xs : List Value} {L L' : Nat → Prop} {u7 u9 u10 u11 u12 u13 u14 u15 u16 u17 : Value} {wr : World} {v' : Value} {w1 : World} (h : R1 B R W3 A A' nl c c' ks xs L u7 u9 u10 u11 u12 u13 u14 u15 u16 u17 wr) (hL : ∀ j, j ≠ 7 → (L' j ↔ L j)) (hi : L' 7) (h4 : wr.ownsRow B 28 5 u13 0 []) (d4 : L 4) (n7 : ¬ L 7) (hB : B ≤ wr.heap.size) (hL7 : w1.ownsRow B 28 5 v' nl xs) (gL : wr.grownBy w1 u13.ownBlock) (at7 : v'.ownBlock = u13.ownBlock ∨ v'.ownBlock = some wr.heap.size) (n8 : ¬ L 8) (n10 : ¬ L 10) : R1 B R W3 A A' nl c c' ks xs L' u7 u9 u10 u11 u12 u13 u14 u15 v' u17 w1 := by
  refine ⟨?_, ?_, ?_, ?_, ?_, ?_, ?_, ?_, ?_, ?_, ?_⟩
  · exact fun p0 n3 => (let ⟨g, e, hg⟩ := (h.f0 ((hL 0 (by decide)).1 p0) (fun x => n3 ((hL 3 (by decide)).2 x))); ⟨g, e, own_other hg h4 (by decide) gL⟩)
  · exact fun p1 => (h.f1 ((hL 1 (by decide)).1 p1))
  · exact fun p2 => (h.f2 ((hL 2 (by decide)).1 p2))
  · exact fun p3 => own_other (h.f3 ((hL 3 (by decide)).1 p3)) h4 (by decide) gL
  · exact fun _ n => absurd hi n
  · exact fun p5 => (h.f5 ((hL 5 (by decide)).1 p5))
  · exact fun p6 => (h.f6 ((hL 6 (by decide)).1 p6))
  · exact fun _ => hL7
  · exact fun p8 => absurd ((hL 8 (by decide)).1 p8) n8
  · exact fun n9 => (let ⟨p, e, hp, ⟨cs, hv, z1, z2⟩, q1, q2⟩ := h.f9 ((hL 9 (by decide)).1 n9); ⟨p, e, hp, ⟨cs, grown_block gL hv (q1 d4 n7), fun n => z1 (fun x => n ((hL 10 (by decide)).2 x)), fun n => absurd ((hL 10 (by decide)).1 n) n10⟩, fun a b => absurd hi b, fun _ => far_of2 hL7 at7 (q1 d4 n7) (Array.getElem?_eq_some_iff.1 hv).1⟩)
  · exact h.low.grown gL hB (fun k hk => (h4.lt k hk).1)
theorem R1.s10 {B R : Nat} {W3 : World} {A A' : Option Addr} {nl c c' : Nat} {ks : List (List UInt8)} {xs : List Value} {L L' : Nat → Prop} {u7 u9 u10 u11 u12 u13 u14 u15 u16 u17 : Value} {wr : World} {p : Nat} (h : R1 B R W3 A A' nl c c' ks xs L u7 u9 u10 u11 u12 u13 u14 u15 u16 u17 wr) (hL : ∀ j, j ≠ 10 → (L' j ↔ L j)) (hi : L' 10) (d3 : L 3) (d7 : L 7) (d9 : L 9) (n10 : ¬ L 10) (e7 : u7 = .pointer (some ⟨p, 0, none⟩)) : R1 B R W3 A A' nl c c' ks xs L' u7 u9 u10 u11 u12 u13 u14 u15 u16 u17 (set5 wr p 0 (.int .i64 6) (.int .i64 0) (.string ⟨#[]⟩) u16 u12) := by
  refine ⟨?_, ?_, ?_, ?_, ?_, ?_, ?_, ?_, ?_, ?_, ?_⟩
  · exact fun _ n => absurd ((hL 3 (by decide)).2 d3) n
  · exact fun p1 => (h.f1 ((hL 1 (by decide)).1 p1))
  · exact fun p2 => (h.f2 ((hL 2 (by decide)).1 p2))
  · exact fun _ => (by obtain ⟨p', e, hp, ⟨cs, hv, z1, z2⟩, q1, q2⟩ := h.f9 d9; rw [e7] at e; injection e with e; injection e with e; injection e with e; subst e; exact own_kept (h.f3 d3) fun g hg => set5_there (fun e => own_not (h.f3 d3) hv (by decide) (by rw [hg, e])))
  · exact fun _ n => absurd ((hL 7 (by decide)).2 d7) n
  · exact fun p5 => (h.f5 ((hL 5 (by decide)).1 p5))
  · exact fun p6 => (h.f6 ((hL 6 (by decide)).1 p6))
  · exact fun _ => (by obtain ⟨p', e, hp, ⟨cs, hv, z1, z2⟩, q1, q2⟩ := h.f9 d9; rw [e7] at e; injection e with e; injection e with e; injection e with e; subst e; exact own_kept (h.f7 d7) fun g hg => set5_there (fun e => q2 d7 (by rw [hg, e])))
  · exact fun p8 => (h.f8 ((hL 8 (by decide)).1 p8))
  · exact fun _ => (by obtain ⟨p', e, hp, ⟨cs, hv, z1, z2⟩, q1, q2⟩ := h.f9 d9; rw [e7] at e; injection e with e; injection e with e; injection e with e; subst e; refine ⟨_, e7, hp, ⟨_, (by rw [z1 n10] at hv; have := set5_here (o := 0) (c0 := .int .i64 6) (c1 := .int .i64 0) (c2 := .string ⟨#[]⟩) (c3 := u16) (c4 := u12) hv; simpa using this), fun n => absurd hi n, fun _ => rfl⟩, fun a b => absurd ((hL 7 (by decide)).2 d7) b, fun _ => q2 d7⟩)
  · (obtain ⟨p', e, hp, ⟨cs, hv, z1, z2⟩, q1, q2⟩ := h.f9 d9; rw [e7] at e; injection e with e; injection e with e; injection e with e; subst e; exact h.low.trans (set5_below hp))
end Go.Proofs.YtcbajbpdgmmaeaaDoor
