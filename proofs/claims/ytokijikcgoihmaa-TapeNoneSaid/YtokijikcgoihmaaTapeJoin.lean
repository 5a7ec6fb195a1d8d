/- Bytes that a call joins in new memory with no more room (append, and a cut of the room). -/
import Derived.Test.YtokijikcgoihmaaRdAt
import Derived.Room.Entries
import Derived.Lib.AppendZeros
namespace Go.Proofs.Ytokijikcgoihmaa
open Go.RowKit
set_option linter.unusedVariables false
set_option linter.unusedSimpArgs false

theorem append_nothing (w : World) (ty : TypeId) (A : Option Addr) (n m : Nat) (h : n ≤ m) (x : Value) (hx : ∃ B c, x = .slice B 0 c) :
    (Builtin.append_ #[28, 28] ty #[.slice A n m, x]).run Try.prog w = .ok (.slice A n m) w := by
  obtain ⟨i0, hi, hz0, hz1, hz2⟩ := info_parts Try.infoByte
  obtain ⟨B, c, rfl⟩ := hx
  have ht : Try.prog.underlying 28 = _ := Try.underlying28
  have hl : ∀ b : Addr, (loadCells b 0).run Try.prog w = .ok #[] w := fun b => run_loadCells_list w b [] (fun j v h => by simp at h)
  cases A <;> cases B <;> simp [Builtin.append_, run_underlying ht, sizeOf, typeInfo, hi, Builtin.lenOf, Builtin.firstCells, h, storeCells, hl]
/-- append(a, b...) where a has no more room: a new block, or nothing is done -/
theorem append_full (w : World) (ty : TypeId) (A : Option Addr) (n : Nat) (la : List UInt8) (hn : la.length = n) (h : RdAt w (.slice A n n) la) (B : Option Addr) (m c : Nat) (lb : List UInt8) (hm : lb.length = m) (hb : RdW w (.slice B m c) lb)
    (hmax : n + m ≤ 1000000000) :
    ∃ A' d w', (Builtin.append_ #[28, 28] ty #[.slice A n n, .slice B m c]).run Try.prog w = .ok (.slice A' (n + m) d) w' ∧ n + m ≤ d ∧ RdAt w' (.slice A' (n + m) (n + m)) (la ++ lb) ∧ Below w.heap.size w w' ∧
      (A' = A ∧ m = 0 ∨ ∀ g, (Value.slice A' (n + m) (n + m)).ownBlock = some g → w.heap.size ≤ g) := by
  obtain ⟨i0, hi, hz0, hz1, hz2⟩ := info_parts Try.infoByte
  by_cases hm0 : m = 0
  · subst hm0
    obtain rfl : lb = [] := List.length_eq_zero_iff.1 hm
    refine ⟨A, n, w, ?_, Nat.le_refl _, ?_, Below.refl _ _, .inl ⟨rfl, rfl⟩⟩
    · exact append_nothing w ty A n n (Nat.le_refl _) _ ⟨B, c, rfl⟩
    · simpa using h
  · obtain ⟨B', c', e, h1, h2, h3⟩ := hb
    rw [hm] at e h1 h3
    cases e
    have h3' : ∃ ad, B = some ad ∧ ∀ j u, (cells lb)[j]? = some u → w.cell? (ad.add j) = some u := by
      rcases h3 with h3 | ⟨g, o, rfl, -, h3⟩
      · omega
      · exact ⟨_, rfl, h3⟩
    obtain ⟨ad, rfl, hnews⟩ := h3'
    have hll : (cells lb).length = m * i0.size := by rw [hz1, Nat.mul_one, ← hm]; simp [cells]
    have hla : (cells la).length = n * i0.size := by rw [hz1, Nat.mul_one, ← hn]; simp [cells]
    have hns := Go.Room.nextslicecap_le' (need := n + m) (old := n) (by omega)
    -- what lies in a new block
    have key : ∀ (olds : List Value) (cap : Nat), olds = cells la → n + m ≤ cap → RdAt (w.drew.alloc (.cells (olds.toArray ++ (cells lb).toArray ++ Builtin.zeroCells (Value.int .u8 0).cells (cap - (n + m))) 5)) (.slice (some ⟨w.heap.size, 0, none⟩) (n + m) (n + m)) (la ++ lb) := by
      intro olds cap ho hc
      refine ⟨_, n + m, by rw [List.length_append, hn, hm], by rw [List.length_append, hn, hm]; exact Nat.le_refl _, by omega, .inr ⟨w.heap.size, 0, rfl, by simp, fun j u hu => ?_⟩⟩
      have hlast := heap_alloc_last w.drew (.cells (olds.toArray ++ (cells lb).toArray ++ Builtin.zeroCells (Value.int .u8 0).cells (cap - (n + m))) 5)
      rw [Addr.add_lit, Nat.zero_add]
      show (match (w.drew.alloc _).heap[w.drew.heap.size]? with | some (.cells cs _ _) => cs[j]? | _ => none) = _
      rw [hlast]
      subst ho
      have hj : j < (cells (la ++ lb)).length := (List.getElem?_eq_some_iff.1 hu).1
      show ((cells la).toArray ++ (cells lb).toArray ++ _)[j]? = _
      rw [Array.getElem?_append_left (by rw [cells_app] at hj; simpa using hj), ← hu, cells_app]
      simp
    have hbel : ∀ o : Obj, Below w.heap.size w (w.drew.alloc o) := fun o => (Below.refl _ _).drew.alloc (Nat.le_refl _) o
    cases A with
    | none =>
      obtain ⟨A', c', e, g1, g2, g3⟩ := h
      have hA' : (none : Option Addr) = A' ∧ n = la.length ∧ n = c' := by injection e with e1 e2 e3; exact ⟨e1, e2, e3⟩
      have hn0 : n = 0 := by
        rcases g3 with ⟨_, g4, _⟩ | ⟨g, o, g4, _⟩
        · omega
        · rw [← hA'.1] at g4; cases g4
      subst hn0
      clear g1 g2 g3 e hA'
      have hm1 : 0 < m := Nat.pos_of_ne_zero hm0
      have hm2 : (m : Int) ≤ 9223372036854775807 := by omega
      have hm3 : m ≤ 281474976710656 := by omega
      obtain rfl : la = [] := List.length_eq_zero_iff.1 hn
      have hr := run_append_nil (P := Try.prog) (w := w) 28 ty 5 i0 _ Try.underlying28 hi hz0 ad m c (cells lb) hll hnews hm1 hm2 (by rw [hz2, Nat.mul_one]; exact hm3)
      have hge := grownCap_ge w m 0 5
      refine ⟨_, _, _, by simpa using hr, by simpa using hge, ?_, hbel _, .inr fun g hg => ?_⟩
      · have := key [] (grownCap w m 0 5) rfl (by simpa using hge)
        simpa using this
      · injection hg with hg; exact Nat.le_of_eq hg
    | some a =>
      have holds : ∀ j u, (cells la)[j]? = some u → w.cell? (a.add j) = some u := by
        obtain ⟨A', c', e, g1, g2, g3⟩ := h
        have hA' : some a = A' := by injection e
        rcases g3 with ⟨g4, _⟩ | ⟨g, o, g4, _, g5⟩
        · rw [← hA'] at g4; cases g4
        · rw [← hA'] at g4; injection g4 with g4; rw [g4]; exact g5
      have hr := run_append_grow (P := Try.prog) (w := w) 28 ty 5 i0 _ Try.underlying28 hi hz0 a n n (cells la) hla holds ad m c (cells lb) hll hnews (by omega) (by omega) (by rw [hz2]; omega)
      have hge := grownCap_ge w (n + m) n 5
      exact ⟨_, _, _, hr, hge, key (cells la) _ rfl hge, hbel _, .inr fun g hg => by injection hg with hg; exact Nat.le_of_eq hg⟩
set_option maxRecDepth 100000 in
theorem joined_any (A : Option Addr) (n : Nat) (la : List UInt8) (hn : la.length = n) (B : Option Addr) (m c : Nat) (lb : List UInt8) (hm : lb.length = m) (hmax : n + m ≤ 1000000000) (w : World) (h : RdAt w (.slice A n n) la) (hb : RdW w (.slice B m c) lb) :
    Calls Try.prog 23 #[.slice A n n, .slice B m c] w fun e w' => (∃ A', e = .returned (.slice A' (n + m) (n + m)) ∧ RdAt w' (.slice A' (n + m) (n + m)) (la ++ lb) ∧ (A' = A ∧ m = 0 ∨ ∀ g, (Value.slice A' (n + m) (n + m)).ownBlock = some g → w.heap.size ≤ g)) ∧ Below w.heap.size w w' := by
  have happ := fun ty => append_full w ty A n la hn h B m c lb hm hb hmax
  have HH := Lib.hid happ
  clear happ h hb
  go_enter Try.func23, Try.ntmps23
  obtain ⟨A', d, w', hr, hd, hrd, hbl, hfr⟩ := HH.out 28
  have hd' : ((n + m : Nat) : Int) ≤ d := by omega
  have h0 : (0 : Int) ≤ ((n + m : Nat) : Int) := Int.natCast_nonneg _
  obtain ⟨k, hk⟩ : ∃ k, n + m = k := ⟨_, rfl⟩
  rw [hk] at hr hrd hfr hd' h0 ⊢
  have HR := Lib.hid hrd; have HF := Lib.hid hfr; have HB := Lib.hid hbl; have HA := Lib.hid hr
  clear hrd hfr hbl hr hd hk HH
  go_wp2_with (at_builtin; refine Lib.wpList_append_run _ rfl _ _ _ _ rfl _ _ rfl rfl _ _ HA.out ?_)
  go_ret
  refine ⟨⟨A', ?_, HR.out, HF.out⟩, HB.out⟩
  simp [sliced]
end Go.Proofs.Ytokijikcgoihmaa
