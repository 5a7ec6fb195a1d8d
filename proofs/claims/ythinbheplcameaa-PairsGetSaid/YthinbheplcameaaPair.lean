/- pairs.pair: a part's key and value. -/
import Derived.Test.YthinbheplcameaaSplit
import Derived.Test.YthinbheplcameaaUnquote
import Derived.Lib.Builder
import Derived.Test.YthinbheplcameaaWords
namespace Go.Proofs.Ythinbheplcameaa
open Go.RowKit

theorem belowDrewN {B : Nat} {a w : World} (h : Below B a w) (n : Nat) : Below B a (w.drewN n) := ⟨h.os, h.tape, h.output, h.size, h.block⟩

theorem pair_block {w w3 : World} {u v : Value} {n : Nat} {t : TypeId} (h : Below ((w.alloc (.cells #[u, v] t)).drewN n).heap.size ((w.alloc (.cells #[u, v] t)).drewN n) w3) :
    Below w.heap.size w w3 ∧ w3.cell? ⟨w.heap.size, 0, none⟩ = some u ∧ w3.cell? ⟨w.heap.size, 1, none⟩ = some v ∧ w3.frozen? ⟨w.heap.size, 0, none⟩ = false ∧ w3.frozen? ⟨w.heap.size, 1, none⟩ = false := by
  have hk : w3.heap[w.heap.size]? = some (.cells #[u, v] t (0, 0)) := (h.block w.heap.size (by simp)).trans (heap_alloc_new w _)
  refine ⟨(belowDrewN ((Below.refl _ _).alloc (Nat.le_refl _) _) n).trans (h.mono (by simp)), ?_, ?_, ?_, ?_⟩
  · rw [Lib.cell_of_heap hk]; rfl
  · rw [Lib.cell_of_heap hk]; rfl
  · rw [Lib.frozen_of_heap hk]
  · rw [Lib.frozen_of_heap hk]

set_option maxRecDepth 100000 in
theorem pair_yes (s : ByteArray) (a b : List UInt8) (ha : unq (s.data.toList.take (atL 61 s.data.toList)) = some a) (hb : unq (s.data.toList.drop (atL 61 s.data.toList + 1)) = some b) (hs : s.size ≤ 1048576) (w : World) :
    Calls Try.prog 42 #[.string s] w fun e w' => e = .returned (.tuple #[.agg #[.string ⟨a.toArray⟩, .string ⟨b.toArray⟩], .int .i64 0]) ∧ Below w.heap.size w w' := by
  have h1 := atL_take 61 s.data.toList
  have h2 := atL_drop 61 s.data.toList
  have hsz : s.data.toList.length = s.size := rfl
  rw [hsz] at h1 h2
  have u1 := unquote_yes (str (s.data.toList.take (atL 61 s.data.toList))) a ha (by rw [str_size]; omega)
  have u2 := unquote_yes (str (s.data.toList.drop (atL 61 s.data.toList + 1))) b hb (by rw [str_size]; omega)
  have hc := cut1_any s 61 (by unfold maxLen; omega)
  unfold cutSays at hc
  generalize s.data.toList.take (atL 61 s.data.toList) = x at *
  generalize s.data.toList.drop (atL 61 s.data.toList + 1) = y at *
  generalize decide (atL 61 s.data.toList < s.data.toList.length) = z at *
  clear ha hb hsz h1 h2
  go_enter Try.func42, Try.ntmps42
  go_wp2_with fail
  refine (hc _).mono ?_
  rintro e w1 ⟨rfl, n, rfl⟩
  clear hc
  go_wp2_with fail
  refine (u1 _).mono ?_
  clear u1
  rintro e w2 ⟨rfl, hb2⟩
  go_wp2_with fail
  refine (u2 _).mono ?_
  clear u2
  rintro e w3 ⟨rfl, hb3⟩
  obtain ⟨hb, hc0, hc1, hf0, hf1⟩ := pair_block (hb2.chain hb3)
  go_wp2_with fail
  refine bodyPost_ret (v := .tuple #[.agg #[.string ⟨a.toArray⟩, .string ⟨b.toArray⟩], .int .i64 0]) (by simp [results, Try.results42, go_sem, hc0, hc1]) rfl ⟨rfl, ?_⟩
  exact (hb.setCell (p := ⟨w.heap.size, 0, none⟩) (Nat.le_refl _) _).setCell (p := ⟨w.heap.size, 1, none⟩) (Nat.le_refl _) _
set_option maxRecDepth 100000 in
theorem pair_key (s : ByteArray) (ha : unq (s.data.toList.take (atL 61 s.data.toList)) = none) (hs : s.size ≤ 1048576) (w : World) :
    Calls Try.prog 42 #[.string s] w fun e w' => e = .returned (.tuple #[.agg #[.string ⟨#[]⟩, .string ⟨#[]⟩], .int .i64 2]) ∧ Below w.heap.size w w' := by
  have h1 := atL_take 61 s.data.toList
  have hsz : s.data.toList.length = s.size := rfl
  rw [hsz] at h1
  have u1 := unquote_no (str (s.data.toList.take (atL 61 s.data.toList))) ha (by rw [str_size]; omega)
  have hc := cut1_any s 61 (by unfold maxLen; omega)
  unfold cutSays at hc
  generalize s.data.toList.take (atL 61 s.data.toList) = x at *
  generalize s.data.toList.drop (atL 61 s.data.toList + 1) = y at *
  generalize decide (atL 61 s.data.toList < s.data.toList.length) = z at *
  clear ha hsz h1
  go_enter Try.func42, Try.ntmps42
  go_wp2_with fail
  refine (hc _).mono ?_
  rintro e w1 ⟨rfl, n, rfl⟩
  clear hc
  go_wp2_with fail
  refine (u1 _).mono ?_
  clear u1
  rintro e w2 ⟨rfl, hb2⟩
  obtain ⟨hb, hc0, hc1, hf0, hf1⟩ := pair_block hb2
  go_wp2_with fail
  refine bodyPost_ret (v := .tuple #[.agg #[.string ⟨#[]⟩, .string ⟨#[]⟩], .int .i64 2]) (by simp [results, Try.results42, go_sem, hc0, hc1]) rfl ⟨rfl, ?_⟩
  exact (hb.setCell (p := ⟨w.heap.size, 0, none⟩) (Nat.le_refl _) _).setCell (p := ⟨w.heap.size, 1, none⟩) (Nat.le_refl _) _
set_option maxRecDepth 100000 in
theorem pair_val (s : ByteArray) (a : List UInt8) (ha : unq (s.data.toList.take (atL 61 s.data.toList)) = some a) (hb : unq (s.data.toList.drop (atL 61 s.data.toList + 1)) = none) (hs : s.size ≤ 1048576) (w : World) :
    Calls Try.prog 42 #[.string s] w fun e w' => e = .returned (.tuple #[.agg #[.string ⟨#[]⟩, .string ⟨#[]⟩], .int .i64 2]) ∧ Below w.heap.size w w' := by
  have h1 := atL_take 61 s.data.toList
  have h2 := atL_drop 61 s.data.toList
  have hsz : s.data.toList.length = s.size := rfl
  rw [hsz] at h1 h2
  have u1 := unquote_yes (str (s.data.toList.take (atL 61 s.data.toList))) a ha (by rw [str_size]; omega)
  have u2 := unquote_no (str (s.data.toList.drop (atL 61 s.data.toList + 1))) hb (by rw [str_size]; omega)
  have hc := cut1_any s 61 (by unfold maxLen; omega)
  unfold cutSays at hc
  generalize s.data.toList.take (atL 61 s.data.toList) = x at *
  generalize s.data.toList.drop (atL 61 s.data.toList + 1) = y at *
  generalize decide (atL 61 s.data.toList < s.data.toList.length) = z at *
  clear ha hb hsz h1 h2
  go_enter Try.func42, Try.ntmps42
  go_wp2_with fail
  refine (hc _).mono ?_
  rintro e w1 ⟨rfl, n, rfl⟩
  clear hc
  go_wp2_with fail
  refine (u1 _).mono ?_
  clear u1
  rintro e w2 ⟨rfl, hb2⟩
  go_wp2_with fail
  refine (u2 _).mono ?_
  clear u2
  rintro e w3 ⟨rfl, hb3⟩
  obtain ⟨hb, hc0, hc1, hf0, hf1⟩ := pair_block (hb2.chain hb3)
  go_wp2_with fail
  refine bodyPost_ret (v := .tuple #[.agg #[.string ⟨#[]⟩, .string ⟨#[]⟩], .int .i64 2]) (by simp [results, Try.results42, go_sem, hc0, hc1]) rfl ⟨rfl, ?_⟩
  exact (hb.setCell (p := ⟨w.heap.size, 0, none⟩) (Nat.le_refl _) _).setCell (p := ⟨w.heap.size, 1, none⟩) (Nat.le_refl _) _
/-- what pair answers -/
def PairSays (l : List UInt8) (e : Ending) : Prop :=
  (∃ x, pairL l = some x ∧ e = .returned (.tuple #[.agg #[.string ⟨x.1.toArray⟩, .string ⟨x.2.toArray⟩], .int .i64 0])) ∨ (pairL l = none ∧ e = .returned (.tuple #[.agg #[.string ⟨#[]⟩, .string ⟨#[]⟩], .int .i64 2]))
theorem pair_good (s : ByteArray) (x : List UInt8 × List UInt8) (h : pairL s.data.toList = some x) (hs : s.size ≤ 1048576) (w : World) :
    Calls Try.prog 42 #[.string s] w fun e w' => e = .returned (.tuple #[.agg #[.string ⟨x.1.toArray⟩, .string ⟨x.2.toArray⟩], .int .i64 0]) ∧ Below w.heap.size w w' := by
  unfold pairL at h
  split at h
  · rename_i a b ha hb
    simp at h; subst h
    exact pair_yes s a b ha hb hs w
  · cases h
theorem pair_bad (s : ByteArray) (h : pairL s.data.toList = none) (hs : s.size ≤ 1048576) (w : World) :
    Calls Try.prog 42 #[.string s] w fun e w' => e = .returned (.tuple #[.agg #[.string ⟨#[]⟩, .string ⟨#[]⟩], .int .i64 2]) ∧ Below w.heap.size w w' := by
  cases ha : unq (s.data.toList.take (atL 61 s.data.toList)) with
  | none => exact pair_key s ha hs w
  | some a =>
    cases hb : unq (s.data.toList.drop (atL 61 s.data.toList + 1)) with
    | none => exact pair_val s a ha hb hs w
    | some b => rw [pairL_some ha hb] at h; cases h
end Go.Proofs.Ythinbheplcameaa
