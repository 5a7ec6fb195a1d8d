/- Layer 13, the landed code: ReadFamily. Written by wip/gen/greadf13.py. -/
import Derived.Test.YtefnkkjmcfpiaaaDoorRowReads
import Derived.Lib.AppendZeros
namespace Go.Proofs.YtefnkkjmcfpiaaaDoor
open Go.RowKit
set_option linter.unusedVariables false
set_option linter.unusedSimpArgs false

theorem append_nothingC (w : World) (ty : TypeId) (A : Option Addr) (n m : Nat) (h : n ≤ m) (B : Option Addr) (c : Nat) :
    (Builtin.append_ #[22, 22] ty #[.slice A n m, .slice B 0 c]).run Tryd.prog w = .ok (.slice A n m) w := by
  obtain ⟨i0, hi, hz0, hz1, hz2⟩ := info_parts Tryd.infoStrK
  have ht : Tryd.prog.underlying 22 = _ := Tryd.underlying22
  have hl : ∀ b : Addr, (loadCells b 0).run Tryd.prog w = .ok #[] w := fun b => run_loadCells_list w b [] (fun j v h => by simp at h)
  cases A <;> cases B <;> simp [Builtin.append_, run_underlying ht, sizeOf, typeInfo, hi, Builtin.lenOf, Builtin.firstCells, h, storeCells, hl]
/-- what ReadFamily's fill leaves -/
def FillFam (w : World) (L : List UInt8) (e : Ending) (w' : World) : Prop :=
  (∃ (t0 t1 t2 t3 t4 t5 t6 t7 t8 t9 t10 : List UInt8) (T0 T1 T2 T3 T4 T5 T6 T7 T8 T9 T10 : ByteArray) (rest : List (List UInt8)) (PA : Option Addr) (c : Nat), (T0 = ⟨t0.toArray⟩ ∧ T1 = ⟨t1.toArray⟩ ∧ T2 = ⟨t2.toArray⟩ ∧ T3 = ⟨t3.toArray⟩ ∧ T4 = ⟨t4.toArray⟩ ∧ T5 = ⟨t5.toArray⟩ ∧ T6 = ⟨t6.toArray⟩ ∧ T7 = ⟨t7.toArray⟩ ∧ T8 = ⟨t8.toArray⟩ ∧ T9 = ⟨t9.toArray⟩ ∧ T10 = ⟨t10.toArray⟩) ∧ L = textsL ([t0, t1, t2, t3, t4, t5, t6, t7, t8, t9, t10] ++ rest) ∧ e = .returned (.tuple #[.slice PA rest.length c, .bool true]) ∧ RdT w' (.slice PA rest.length c) rest ∧ Mem13 w w' 47 #[.string ⟨#[]⟩, .string ⟨#[]⟩, .string ⟨#[]⟩, .string ⟨#[]⟩, .string ⟨#[]⟩, .string ⟨#[]⟩, .string ⟨#[]⟩, .string ⟨#[]⟩, .string ⟨#[]⟩, .string ⟨#[]⟩, .slice none 0 0, .bool false] #[.string T0, .string T1, .string T2, .string T3, .string T4, .string T5, .string T6, .string T7, .string T8, .string T9, .slice none 0 0, .bool false] [(w.heap.size + 1 + 1, T10)]) ∨
  ((∀ l, L = textsL l → l.length < 11) ∧ e = .returned (.tuple #[.slice none 0 0, .bool false]) ∧ Mem13 w w' 47 #[.string ⟨#[]⟩, .string ⟨#[]⟩, .string ⟨#[]⟩, .string ⟨#[]⟩, .string ⟨#[]⟩, .string ⟨#[]⟩, .string ⟨#[]⟩, .string ⟨#[]⟩, .string ⟨#[]⟩, .string ⟨#[]⟩, .slice none 0 0, .bool false] #[.string ⟨#[]⟩, .string ⟨#[]⟩, .string ⟨#[]⟩, .string ⟨#[]⟩, .string ⟨#[]⟩, .string ⟨#[]⟩, .string ⟨#[]⟩, .string ⟨#[]⟩, .string ⟨#[]⟩, .string ⟨#[]⟩, .slice none 0 0, .bool false] [])
set_option maxRecDepth 100000 in
set_option maxHeartbeats 4000000 in
theorem fillFam_any (s : ByteArray) (hs : s.size ≤ 1000000) (w : World) (hk : KitIn w.heap.size w) :
    Calls Tryd.prog 34 #[.string s, .slice (some ⟨w.heap.size + 1 + 1 + 1, 0, none⟩) 11 11] ((((w.alloc (.cells #[.string ⟨#[]⟩, .string ⟨#[]⟩, .string ⟨#[]⟩, .string ⟨#[]⟩, .string ⟨#[]⟩, .string ⟨#[]⟩, .string ⟨#[]⟩, .string ⟨#[]⟩, .string ⟨#[]⟩, .string ⟨#[]⟩, .slice none 0 0, .bool false] 47)).alloc (.cells #[.string ⟨#[]⟩, .string ⟨#[]⟩, .string ⟨#[]⟩, .string ⟨#[]⟩, .string ⟨#[]⟩, .string ⟨#[]⟩, .string ⟨#[]⟩, .string ⟨#[]⟩, .string ⟨#[]⟩, .string ⟨#[]⟩, .slice none 0 0, .bool false] 47)).alloc (.cells #[.string ⟨#[]⟩] 9)).alloc (.cells #[.pointer (some ⟨w.heap.size + 1, 0, none⟩), .pointer (some ⟨w.heap.size + 1, 1, none⟩), .pointer (some ⟨w.heap.size + 1, 2, none⟩), .pointer (some ⟨w.heap.size + 1, 3, none⟩), .pointer (some ⟨w.heap.size + 1, 4, none⟩), .pointer (some ⟨w.heap.size + 1, 5, none⟩), .pointer (some ⟨w.heap.size + 1, 6, none⟩), .pointer (some ⟨w.heap.size + 1, 7, none⟩), .pointer (some ⟨w.heap.size + 1, 8, none⟩), .pointer (some ⟨w.heap.size + 1, 9, none⟩), .pointer (some ⟨w.heap.size + 1 + 1, 0, none⟩)] 68)) fun e w' => FillFam w s.data.toList e w' := by
  have hb5 : Below w.heap.size w ((((w.alloc (.cells #[.string ⟨#[]⟩, .string ⟨#[]⟩, .string ⟨#[]⟩, .string ⟨#[]⟩, .string ⟨#[]⟩, .string ⟨#[]⟩, .string ⟨#[]⟩, .string ⟨#[]⟩, .string ⟨#[]⟩, .string ⟨#[]⟩, .slice none 0 0, .bool false] 47)).alloc (.cells #[.string ⟨#[]⟩, .string ⟨#[]⟩, .string ⟨#[]⟩, .string ⟨#[]⟩, .string ⟨#[]⟩, .string ⟨#[]⟩, .string ⟨#[]⟩, .string ⟨#[]⟩, .string ⟨#[]⟩, .string ⟨#[]⟩, .slice none 0 0, .bool false] 47)).alloc (.cells #[.string ⟨#[]⟩] 9)).alloc (.cells #[.pointer (some ⟨w.heap.size + 1, 0, none⟩), .pointer (some ⟨w.heap.size + 1, 1, none⟩), .pointer (some ⟨w.heap.size + 1, 2, none⟩), .pointer (some ⟨w.heap.size + 1, 3, none⟩), .pointer (some ⟨w.heap.size + 1, 4, none⟩), .pointer (some ⟨w.heap.size + 1, 5, none⟩), .pointer (some ⟨w.heap.size + 1, 6, none⟩), .pointer (some ⟨w.heap.size + 1, 7, none⟩), .pointer (some ⟨w.heap.size + 1, 8, none⟩), .pointer (some ⟨w.heap.size + 1, 9, none⟩), .pointer (some ⟨w.heap.size + 1 + 1, 0, none⟩)] 68)) := ((((Below.refl _ _).chain ((Below.refl _ _).alloc (Nat.le_refl _) _)).chain ((Below.refl _ _).alloc (Nat.le_refl _) _)).chain ((Below.refl _ _).alloc (Nat.le_refl _) _)).chain ((Below.refl _ _).alloc (Nat.le_refl _) _)
  have k0 : ((((w.alloc (.cells #[.string ⟨#[]⟩, .string ⟨#[]⟩, .string ⟨#[]⟩, .string ⟨#[]⟩, .string ⟨#[]⟩, .string ⟨#[]⟩, .string ⟨#[]⟩, .string ⟨#[]⟩, .string ⟨#[]⟩, .string ⟨#[]⟩, .slice none 0 0, .bool false] 47)).alloc (.cells #[.string ⟨#[]⟩, .string ⟨#[]⟩, .string ⟨#[]⟩, .string ⟨#[]⟩, .string ⟨#[]⟩, .string ⟨#[]⟩, .string ⟨#[]⟩, .string ⟨#[]⟩, .string ⟨#[]⟩, .string ⟨#[]⟩, .slice none 0 0, .bool false] 47)).alloc (.cells #[.string ⟨#[]⟩] 9)).alloc (.cells #[.pointer (some ⟨w.heap.size + 1, 0, none⟩), .pointer (some ⟨w.heap.size + 1, 1, none⟩), .pointer (some ⟨w.heap.size + 1, 2, none⟩), .pointer (some ⟨w.heap.size + 1, 3, none⟩), .pointer (some ⟨w.heap.size + 1, 4, none⟩), .pointer (some ⟨w.heap.size + 1, 5, none⟩), .pointer (some ⟨w.heap.size + 1, 6, none⟩), .pointer (some ⟨w.heap.size + 1, 7, none⟩), .pointer (some ⟨w.heap.size + 1, 8, none⟩), .pointer (some ⟨w.heap.size + 1, 9, none⟩), .pointer (some ⟨w.heap.size + 1 + 1, 0, none⟩)] 68)).heap[w.heap.size]? = some (.cells #[.string ⟨#[]⟩, .string ⟨#[]⟩, .string ⟨#[]⟩, .string ⟨#[]⟩, .string ⟨#[]⟩, .string ⟨#[]⟩, .string ⟨#[]⟩, .string ⟨#[]⟩, .string ⟨#[]⟩, .string ⟨#[]⟩, .slice none 0 0, .bool false] 47) := alloc_block (alloc_block (alloc_block (heap_alloc_last w _)))
  have k1 : ((((w.alloc (.cells #[.string ⟨#[]⟩, .string ⟨#[]⟩, .string ⟨#[]⟩, .string ⟨#[]⟩, .string ⟨#[]⟩, .string ⟨#[]⟩, .string ⟨#[]⟩, .string ⟨#[]⟩, .string ⟨#[]⟩, .string ⟨#[]⟩, .slice none 0 0, .bool false] 47)).alloc (.cells #[.string ⟨#[]⟩, .string ⟨#[]⟩, .string ⟨#[]⟩, .string ⟨#[]⟩, .string ⟨#[]⟩, .string ⟨#[]⟩, .string ⟨#[]⟩, .string ⟨#[]⟩, .string ⟨#[]⟩, .string ⟨#[]⟩, .slice none 0 0, .bool false] 47)).alloc (.cells #[.string ⟨#[]⟩] 9)).alloc (.cells #[.pointer (some ⟨w.heap.size + 1, 0, none⟩), .pointer (some ⟨w.heap.size + 1, 1, none⟩), .pointer (some ⟨w.heap.size + 1, 2, none⟩), .pointer (some ⟨w.heap.size + 1, 3, none⟩), .pointer (some ⟨w.heap.size + 1, 4, none⟩), .pointer (some ⟨w.heap.size + 1, 5, none⟩), .pointer (some ⟨w.heap.size + 1, 6, none⟩), .pointer (some ⟨w.heap.size + 1, 7, none⟩), .pointer (some ⟨w.heap.size + 1, 8, none⟩), .pointer (some ⟨w.heap.size + 1, 9, none⟩), .pointer (some ⟨w.heap.size + 1 + 1, 0, none⟩)] 68)).heap[w.heap.size + 1]? = some (.cells #[.string ⟨#[]⟩, .string ⟨#[]⟩, .string ⟨#[]⟩, .string ⟨#[]⟩, .string ⟨#[]⟩, .string ⟨#[]⟩, .string ⟨#[]⟩, .string ⟨#[]⟩, .string ⟨#[]⟩, .string ⟨#[]⟩, .slice none 0 0, .bool false] 47) := alloc_block (alloc_block (fresh_at _ (by simp)))
  have ka : ((((w.alloc (.cells #[.string ⟨#[]⟩, .string ⟨#[]⟩, .string ⟨#[]⟩, .string ⟨#[]⟩, .string ⟨#[]⟩, .string ⟨#[]⟩, .string ⟨#[]⟩, .string ⟨#[]⟩, .string ⟨#[]⟩, .string ⟨#[]⟩, .slice none 0 0, .bool false] 47)).alloc (.cells #[.string ⟨#[]⟩, .string ⟨#[]⟩, .string ⟨#[]⟩, .string ⟨#[]⟩, .string ⟨#[]⟩, .string ⟨#[]⟩, .string ⟨#[]⟩, .string ⟨#[]⟩, .string ⟨#[]⟩, .string ⟨#[]⟩, .slice none 0 0, .bool false] 47)).alloc (.cells #[.string ⟨#[]⟩] 9)).alloc (.cells #[.pointer (some ⟨w.heap.size + 1, 0, none⟩), .pointer (some ⟨w.heap.size + 1, 1, none⟩), .pointer (some ⟨w.heap.size + 1, 2, none⟩), .pointer (some ⟨w.heap.size + 1, 3, none⟩), .pointer (some ⟨w.heap.size + 1, 4, none⟩), .pointer (some ⟨w.heap.size + 1, 5, none⟩), .pointer (some ⟨w.heap.size + 1, 6, none⟩), .pointer (some ⟨w.heap.size + 1, 7, none⟩), .pointer (some ⟨w.heap.size + 1, 8, none⟩), .pointer (some ⟨w.heap.size + 1, 9, none⟩), .pointer (some ⟨w.heap.size + 1 + 1, 0, none⟩)] 68)).heap[w.heap.size + 1 + 1]? = some (.cells #[.string ⟨#[]⟩] 9) := alloc_block (fresh_at _ (by simp))
  have kR : ((((w.alloc (.cells #[.string ⟨#[]⟩, .string ⟨#[]⟩, .string ⟨#[]⟩, .string ⟨#[]⟩, .string ⟨#[]⟩, .string ⟨#[]⟩, .string ⟨#[]⟩, .string ⟨#[]⟩, .string ⟨#[]⟩, .string ⟨#[]⟩, .slice none 0 0, .bool false] 47)).alloc (.cells #[.string ⟨#[]⟩, .string ⟨#[]⟩, .string ⟨#[]⟩, .string ⟨#[]⟩, .string ⟨#[]⟩, .string ⟨#[]⟩, .string ⟨#[]⟩, .string ⟨#[]⟩, .string ⟨#[]⟩, .string ⟨#[]⟩, .slice none 0 0, .bool false] 47)).alloc (.cells #[.string ⟨#[]⟩] 9)).alloc (.cells #[.pointer (some ⟨w.heap.size + 1, 0, none⟩), .pointer (some ⟨w.heap.size + 1, 1, none⟩), .pointer (some ⟨w.heap.size + 1, 2, none⟩), .pointer (some ⟨w.heap.size + 1, 3, none⟩), .pointer (some ⟨w.heap.size + 1, 4, none⟩), .pointer (some ⟨w.heap.size + 1, 5, none⟩), .pointer (some ⟨w.heap.size + 1, 6, none⟩), .pointer (some ⟨w.heap.size + 1, 7, none⟩), .pointer (some ⟨w.heap.size + 1, 8, none⟩), .pointer (some ⟨w.heap.size + 1, 9, none⟩), .pointer (some ⟨w.heap.size + 1 + 1, 0, none⟩)] 68)).heap[w.heap.size + 1 + 1 + 1]? = some (.cells (([(w.heap.size + 1, 0), (w.heap.size + 1, 1), (w.heap.size + 1, 2), (w.heap.size + 1, 3), (w.heap.size + 1, 4), (w.heap.size + 1, 5), (w.heap.size + 1, 6), (w.heap.size + 1, 7), (w.heap.size + 1, 8), (w.heap.size + 1, 9), (w.heap.size + 1 + 1, 0)] : List (Nat × Nat)).map ptr).toArray 68) := fresh_at _ (by simp)
  obtain ⟨W5, hW5⟩ : ∃ W, ((((w.alloc (.cells #[.string ⟨#[]⟩, .string ⟨#[]⟩, .string ⟨#[]⟩, .string ⟨#[]⟩, .string ⟨#[]⟩, .string ⟨#[]⟩, .string ⟨#[]⟩, .string ⟨#[]⟩, .string ⟨#[]⟩, .string ⟨#[]⟩, .slice none 0 0, .bool false] 47)).alloc (.cells #[.string ⟨#[]⟩, .string ⟨#[]⟩, .string ⟨#[]⟩, .string ⟨#[]⟩, .string ⟨#[]⟩, .string ⟨#[]⟩, .string ⟨#[]⟩, .string ⟨#[]⟩, .string ⟨#[]⟩, .string ⟨#[]⟩, .slice none 0 0, .bool false] 47)).alloc (.cells #[.string ⟨#[]⟩] 9)).alloc (.cells #[.pointer (some ⟨w.heap.size + 1, 0, none⟩), .pointer (some ⟨w.heap.size + 1, 1, none⟩), .pointer (some ⟨w.heap.size + 1, 2, none⟩), .pointer (some ⟨w.heap.size + 1, 3, none⟩), .pointer (some ⟨w.heap.size + 1, 4, none⟩), .pointer (some ⟨w.heap.size + 1, 5, none⟩), .pointer (some ⟨w.heap.size + 1, 6, none⟩), .pointer (some ⟨w.heap.size + 1, 7, none⟩), .pointer (some ⟨w.heap.size + 1, 8, none⟩), .pointer (some ⟨w.heap.size + 1, 9, none⟩), .pointer (some ⟨w.heap.size + 1 + 1, 0, none⟩)] 68)) = W := ⟨_, rfl⟩
  rw [hW5] at hb5 k0 k1 ka kR ⊢
  have hf := fill13_any s hs (w.heap.size + 1 + 1 + 1) 11 [(w.heap.size + 1, 0), (w.heap.size + 1, 1), (w.heap.size + 1, 2), (w.heap.size + 1, 3), (w.heap.size + 1, 4), (w.heap.size + 1, 5), (w.heap.size + 1, 6), (w.heap.size + 1, 7), (w.heap.size + 1, 8), (w.heap.size + 1, 9), (w.heap.size + 1 + 1, 0)] rfl (by decide) (by decide) W5 (hk.later hb5) kR (fun p hp => by
    simp only [List.mem_cons, List.not_mem_nil, or_false] at hp
    rcases hp with rfl | rfl | rfl | rfl | rfl | rfl | rfl | rfl | rfl | rfl | rfl
    · exact ⟨by simp, _, _, k1, by simp⟩
    · exact ⟨by simp, _, _, k1, by simp⟩
    · exact ⟨by simp, _, _, k1, by simp⟩
    · exact ⟨by simp, _, _, k1, by simp⟩
    · exact ⟨by simp, _, _, k1, by simp⟩
    · exact ⟨by simp, _, _, k1, by simp⟩
    · exact ⟨by simp, _, _, k1, by simp⟩
    · exact ⟨by simp, _, _, k1, by simp⟩
    · exact ⟨by simp, _, _, k1, by simp⟩
    · exact ⟨by simp, _, _, k1, by simp⟩
    · exact ⟨by simp, _, _, ka, by simp⟩)
  refine hf.mono ?_
  rintro e w' (⟨l, w1, PA, c, hl, hlen, hb1, rfl, rfl, hrd⟩ | ⟨hno, hb1, rfl⟩)
  · have hlen : 11 ≤ l.length := hlen
    rcases l with _ | ⟨t0, l⟩; · simp at hlen
    rcases l with _ | ⟨t1, l⟩; · simp at hlen
    rcases l with _ | ⟨t2, l⟩; · simp at hlen
    rcases l with _ | ⟨t3, l⟩; · simp at hlen
    rcases l with _ | ⟨t4, l⟩; · simp at hlen
    rcases l with _ | ⟨t5, l⟩; · simp at hlen
    rcases l with _ | ⟨t6, l⟩; · simp at hlen
    rcases l with _ | ⟨t7, l⟩; · simp at hlen
    rcases l with _ | ⟨t8, l⟩; · simp at hlen
    rcases l with _ | ⟨t9, l⟩; · simp at hlen
    rcases l with _ | ⟨t10, l⟩; · simp at hlen
    have hz : ([(w.heap.size + 1, 0), (w.heap.size + 1, 1), (w.heap.size + 1, 2), (w.heap.size + 1, 3), (w.heap.size + 1, 4), (w.heap.size + 1, 5), (w.heap.size + 1, 6), (w.heap.size + 1, 7), (w.heap.size + 1, 8), (w.heap.size + 1, 9), (w.heap.size + 1 + 1, 0)] : List (Nat × Nat)).zip ((t0 :: t1 :: t2 :: t3 :: t4 :: t5 :: t6 :: t7 :: t8 :: t9 :: t10 :: l).map tv) = [((w.heap.size + 1, 0), tv t0), ((w.heap.size + 1, 1), tv t1), ((w.heap.size + 1, 2), tv t2), ((w.heap.size + 1, 3), tv t3), ((w.heap.size + 1, 4), tv t4), ((w.heap.size + 1, 5), tv t5), ((w.heap.size + 1, 6), tv t6), ((w.heap.size + 1, 7), tv t7), ((w.heap.size + 1, 8), tv t8), ((w.heap.size + 1, 9), tv t9), ((w.heap.size + 1 + 1, 0), tv t10)] := rfl
    have e1 : (t0 :: t1 :: t2 :: t3 :: t4 :: t5 :: t6 :: t7 :: t8 :: t9 :: t10 :: l).length - ([(w.heap.size + 1, 0), (w.heap.size + 1, 1), (w.heap.size + 1, 2), (w.heap.size + 1, 3), (w.heap.size + 1, 4), (w.heap.size + 1, 5), (w.heap.size + 1, 6), (w.heap.size + 1, 7), (w.heap.size + 1, 8), (w.heap.size + 1, 9), (w.heap.size + 1 + 1, 0)] : List (Nat × Nat)).length = l.length := by simp
    rw [e1] at hrd
    refine .inl ⟨t0, t1, t2, t3, t4, t5, t6, t7, t8, t9, t10, ⟨t0.toArray⟩, ⟨t1.toArray⟩, ⟨t2.toArray⟩, ⟨t3.toArray⟩, ⟨t4.toArray⟩, ⟨t5.toArray⟩, ⟨t6.toArray⟩, ⟨t7.toArray⟩, ⟨t8.toArray⟩, ⟨t9.toArray⟩, ⟨t10.toArray⟩, l, PA, c, ⟨rfl, rfl, rfl, rfl, rfl, rfl, rfl, rfl, rfl, rfl, rfl⟩, hl, by rw [e1], hrd, ?_⟩
    rw [hz]
    have hb := hb5.chain hb1
    refine ⟨puts_below _ _ hb (fun z hz => ?_), ?_, ?_, fun p hp => ?_, fun p hp => ?_⟩
    · simp only [List.mem_cons, List.not_mem_nil, or_false] at hz
      rcases hz with rfl | rfl | rfl | rfl | rfl | rfl | rfl | rfl | rfl | rfl | rfl <;> simp <;> omega
    · rw [puts_far _ _ (fun z hz => by
        simp only [List.mem_cons, List.not_mem_nil, or_false] at hz
        rcases hz with rfl | rfl | rfl | rfl | rfl | rfl | rfl | rfl | rfl | rfl | rfl <;> simp <;> omega)]
      exact blk_below k0 hb1
    · have h := puts_at [((w.heap.size + 1, 0), tv t0), ((w.heap.size + 1, 1), tv t1), ((w.heap.size + 1, 2), tv t2), ((w.heap.size + 1, 3), tv t3), ((w.heap.size + 1, 4), tv t4), ((w.heap.size + 1, 5), tv t5), ((w.heap.size + 1, 6), tv t6), ((w.heap.size + 1, 7), tv t7), ((w.heap.size + 1, 8), tv t8), ((w.heap.size + 1, 9), tv t9), ((w.heap.size + 1 + 1, 0), tv t10)] w1 _ (blk_below k1 hb1)
      rw [h]
      simp [putsB, tv]
    · simp only [List.mem_cons, List.not_mem_nil, or_false] at hp
      rcases hp with rfl
      have h := puts_at [((w.heap.size + 1, 0), tv t0), ((w.heap.size + 1, 1), tv t1), ((w.heap.size + 1, 2), tv t2), ((w.heap.size + 1, 3), tv t3), ((w.heap.size + 1, 4), tv t4), ((w.heap.size + 1, 5), tv t5), ((w.heap.size + 1, 6), tv t6), ((w.heap.size + 1, 7), tv t7), ((w.heap.size + 1, 8), tv t8), ((w.heap.size + 1, 9), tv t9), ((w.heap.size + 1 + 1, 0), tv t10)] w1 _ (blk_below ka hb1)
      rw [h]
      simp [putsB, tv]
    · simp only [List.mem_cons, List.not_mem_nil, or_false] at hp
      rcases hp with rfl <;> simp
  · exact .inr ⟨hno, rfl, hb5.chain hb1, blk_below k0 hb1, blk_below k1 hb1, fun p hp => (by cases hp), fun p hp => (by cases hp)⟩
theorem Tryd.sizeFam : (Tryd.prog.info? 47).map (·.size) = some 12 := by kernel_rfl
theorem loadFam {W : World} {b : Nat} {c0 c1 c2 c3 c4 c5 c6 c7 c8 c9 c10 c11 : Value} {t : TypeId} {fr : Nat × Nat} (h : W.heap[b]? = some (.cells #[c0, c1, c2, c3, c4, c5, c6, c7, c8, c9, c10, c11] t fr)) : (loadVar 47 ⟨b, 0, none⟩).run Tryd.prog W = .ok (.agg #[c0, c1, c2, c3, c4, c5, c6, c7, c8, c9, c10, c11]) W :=
  run_loadVar_mid W b 0 47 [c0, c1, c2, c3, c4, c5, c6, c7, c8, c9, c10, c11] _ (fun j v hv => by
    rw [Nat.zero_add, cell_here h]
    simpa using hv) Tryd.underlying47 rfl Tryd.sizeFam
/-- what ReadFamily answers -/
def ReadFam (w : World) (L : List UInt8) (e : Ending) : Prop := (∃ (x : Fam) (ov : Value), L = textsL x.texts ∧ e = .returned (.tuple #[x.val ov, .int .i64 0]) ∧ RdT w ov x.fOld) ∨ ((∀ x : Fam, L ≠ textsL x.texts) ∧ ∃ (x : Fam) (A : Option Addr) (c : Nat), e = .returned (.tuple #[x.val (.slice A x.fOld.length c), .int .i64 2]))
theorem ReadFam.no {w : World} {L : List UInt8} (h : ∀ x : Fam, L ≠ textsL x.texts) : ReadFam w L (.returned (.tuple #[.agg #[.string ⟨#[]⟩, .string ⟨#[]⟩, .string ⟨#[]⟩, .string ⟨#[]⟩, .string ⟨#[]⟩, .string ⟨#[]⟩, .string ⟨#[]⟩, .string ⟨#[]⟩, .string ⟨#[]⟩, .string ⟨#[]⟩, .slice none 0 0, .bool false], .int .i64 2])) := .inr ⟨h, ⟨[], [], [], [], [], [], [], [], [], [], [], false⟩, none, 0, rfl⟩
theorem Fam.told {t0 t1 t2 t3 t4 t5 t6 t7 t8 t9 t10 : List UInt8} {rest : List (List UInt8)} {y : Fam} (h : textsL ([t0, t1, t2, t3, t4, t5, t6, t7, t8, t9, t10] ++ rest) = textsL y.texts) : t10 = if y.fRevoked = true then [49] else [48] := by
  have h := textsL_inj h
  simp only [Fam.texts, List.cons_append, List.nil_append, List.cons.injEq] at h
  obtain ⟨h0, h1, h2, h3, h4, h5, h6, h7, h8, h9, h10, hr⟩ := h
  exact h10
theorem set12_far {w : World} {b g : Nat} {c0 c1 c2 c3 c4 c5 c6 c7 c8 c9 c10 c11 : Value} (h : g ≠ b) : (set12 w b c0 c1 c2 c3 c4 c5 c6 c7 c8 c9 c10 c11).heap[g]? = w.heap[g]? := by
  unfold set12
  simp only [set_there _ h]
set_option maxRecDepth 100000 in
set_option maxHeartbeats 8000000 in
theorem cReadFamily13_any (s : ByteArray) (hs : s.size ≤ 1000000) (w : World) (hk : KitIn w.heap.size w) :
    Calls Tryd.prog 24 #[.string s] w fun e w' => ReadFam w' s.data.toList e ∧ Below w.heap.size w w' := by
  obtain ⟨i0, hi, hz0, hz1, hz2⟩ := info_parts Tryd.infoStrK
  have hf := fillFam_any s hs w hk
  have hss : s.data.toList.length ≤ 1000000 := hs
  obtain ⟨L, hL⟩ : ∃ L, s.data.toList = L := ⟨_, rfl⟩
  rw [hL] at hf hss ⊢
  have HF := Lib.hid hf; have HSS := Lib.hid hss
  clear hf hk hss hL hs
  go_enter Tryd.func24, Tryd.ntmps24
  go_wp2_with fail
  refine HF.out.mono ?_
  rintro e W hF
  rcases hF with ⟨t0, t1, t2, t3, t4, t5, t6, t7, t8, t9, t10, T0, T1, T2, T3, T4, T5, T6, T7, T8, T9, T10, rest, PA, c, hT, hl, rfl, hrd, hM⟩ | ⟨hno, rfl, hM⟩
  case inr =>
    have HN := Lib.hid (fun W => ReadFam.no (w := W) (L := L) fun y hy => by have := hno _ hy; have h2 : y.texts.length = 11 + y.fOld.length := (by unfold Fam.texts; rw [List.length_append]; rfl); omega)
    clear hno
    obtain ⟨⟨d0, d1, d2, d3, d4, d5, d6, d7, d8, d9, d10, d11⟩, g0, g1, g2, g3, g4, g5, g6, g7, g8, g9, g10, g11⟩ := cells12_of hM.res
    have M9 := Lib.hid hM
    clear hM
    dsimp only
    go_wp2
    refine bodyPost_ret (results_cell_one (p := 2) (u := 3) rfl _ _ ⟨w.heap.size, 0, none⟩ _ rfl (loadFam (set12_here M9.out.res))) rfl ⟨HN.out _, set12_below M9.out.low (Nat.le_refl _) _ _ _ _ _ _ _ _ _ _ _ _⟩
  obtain ⟨hT0, hT1, hT2, hT3, hT4, hT5, hT6, hT7, hT8, hT9, hT10⟩ := hT
  have hrl : rest.length ≤ 1000000 := by
    have h1 := textsL_len ([t0, t1, t2, t3, t4, t5, t6, t7, t8, t9, t10] ++ rest)
    have h2 := HSS.out
    rw [hl] at h2
    rw [List.length_append] at h1
    omega
  have HLL := Lib.hid hl
  obtain ⟨n, hn⟩ : ∃ n, rest.length = n := ⟨_, rfl⟩
  rw [hn] at hrd hrl ⊢
  have HT0 := Lib.hid hT0
  have HT1 := Lib.hid hT1
  have HT2 := Lib.hid hT2
  have HT3 := Lib.hid hT3
  have HT4 := Lib.hid hT4
  have HT5 := Lib.hid hT5
  have HT6 := Lib.hid hT6
  have HT7 := Lib.hid hT7
  have HT8 := Lib.hid hT8
  have HT9 := Lib.hid hT9
  have HT10 := Lib.hid hT10
  have hm1 : (T10.toList == [49]) = decide (t10 = [49]) := by
    rw [hT10, ByteArray.toList_eq]
    show (t10 == [49]) = _
    by_cases h : t10 = [49] <;> simp [h]
  have hm0 : (T10.toList == [48]) = decide (t10 = [48]) := by
    rw [hT10, ByteArray.toList_eq]
    show (t10 == [48]) = _
    by_cases h : t10 = [48] <;> simp [h]
  have HM1 := Lib.hid hm1; have HM0 := Lib.hid hm0; have HN := Lib.hid hn; have HRD := Lib.hid hrd
  clear hl hm1 hm0 hn hrd hT0 hT1 hT2 hT3 hT4 hT5 hT6 hT7 hT8 hT9 hT10
  have cS : W.cell? ⟨w.heap.size + 1 + 1, 0, none⟩ = some (.string T10) := cell_here (hM.strs (w.heap.size + 1 + 1, T10) (by simp))
  obtain ⟨RV, hRV⟩ : ∃ b, decide (t10 = [49]) = b := ⟨_, rfl⟩
  obtain ⟨RZ, hRZ⟩ : ∃ b, decide (t10 = [48]) = b := ⟨_, rfl⟩
  by_cases hgood : RV = true ∨ RZ = true
  case neg =>
    have hv : RV = false := by cases RV <;> simp at hgood ⊢
    have hz : RZ = false := by cases RZ <;> simp at hgood ⊢
    have e1 : (T10.toList == [49]) = false := by rw [HM1.out, hRV, hv]
    have e0 : (T10.toList == [48]) = false := by rw [HM0.out, hRZ, hz]
    have f1 : (!T10.toList == [49]) = true := by rw [e1]; rfl
    have f0 : (!T10.toList == [48]) = true := by rw [e0]; rfl
    have HN := Lib.hid (fun W => ReadFam.no (w := W) (L := L) fun y hy => by
      have h1 := Fam.told (HLL.out.symm.trans hy)
      by_cases hb : y.fRevoked = true
      · rw [if_pos hb] at h1
        rw [h1, decide_eq_true rfl] at hRV
        rw [hv] at hRV
        cases hRV
      · rw [if_neg hb] at h1
        rw [h1, decide_eq_true rfl] at hRZ
        rw [hz] at hRZ
        cases hRZ)
    clear hgood hv hz hRV hRZ
    obtain ⟨⟨d0, d1, d2, d3, d4, d5, d6, d7, d8, d9, d10, d11⟩, g0, g1, g2, g3, g4, g5, g6, g7, g8, g9, g10, g11⟩ := cells12_of hM.res
    have M9 := Lib.hid hM
    clear hM
    dsimp only
    go_wp2
    refine bodyPost_ret (results_cell_one (p := 2) (u := 3) rfl _ _ ⟨w.heap.size, 0, none⟩ _ rfl (loadFam (set12_here M9.out.res))) rfl ⟨HN.out _, set12_below M9.out.low (Nat.le_refl _) _ _ _ _ _ _ _ _ _ _ _ _⟩
  have hmk : t10 = if RV = true then [49] else [48] := by
    cases RV with
    | true => exact of_decide_eq_true hRV
    | false =>
      rcases hgood with h | h
      · cases h
      · rw [h] at hRZ; exact of_decide_eq_true hRZ
  have e1 : (T10.toList == [49]) = RV := by rw [HM1.out, hRV]
  have e0 : RV = false → (T10.toList == [48]) = true := fun h => by
    rw [h] at hmk
    rw [HM0.out]; exact decide_eq_true hmk
  have hfin : ∀ (W : World) (ov : Value), RdT W ov rest → ReadFam W L (.returned (.tuple #[.agg #[.string T0, .string T1, .string T2, .string T3, .string T4, .string T5, .string T6, .string T7, .string T8, .string T9, ov, .bool RV], .int .i64 0])) := fun W ov h => .inl ⟨⟨t0, t1, t2, t3, t4, t5, t6, t7, t8, t9, rest, RV⟩, ov, by
    rw [HLL.out, hmk]
    rfl, by
    rw [HT0.out, HT1.out, HT2.out, HT3.out, HT4.out, HT5.out, HT6.out, HT7.out, HT8.out, HT9.out]
    rfl, h⟩
  have HFIN := Lib.hid hfin; have E0 := Lib.hid e0; have E1 := Lib.hid e1
  clear hfin hmk hgood hRV hRZ e0 e1
  have hdone : ∀ (W : World) (A8 : Option Addr) (c8 : Nat), Mem13 w W 47 #[.string ⟨#[]⟩, .string ⟨#[]⟩, .string ⟨#[]⟩, .string ⟨#[]⟩, .string ⟨#[]⟩, .string ⟨#[]⟩, .string ⟨#[]⟩, .string ⟨#[]⟩, .string ⟨#[]⟩, .string ⟨#[]⟩, .slice none 0 0, .bool false] #[.string T0, .string T1, .string T2, .string T3, .string T4, .string T5, .string T6, .string T7, .string T8, .string T9, .slice A8 n c8, .bool RV] [(w.heap.size + 1 + 1, T10)] → TRow W (w.heap.size + 1 + 1) (.slice A8 n c8) rest → ReadFam (set12 W w.heap.size (.string T0) (.string T1) (.string T2) (.string T3) (.string T4) (.string T5) (.string T6) (.string T7) (.string T8) (.string T9) (.slice A8 n c8) (.bool RV)) L (.returned (.tuple #[.agg #[.string T0, .string T1, .string T2, .string T3, .string T4, .string T5, .string T6, .string T7, .string T8, .string T9, .slice A8 n c8, .bool RV], .int .i64 0])) := fun W A8 c8 hM hT => by
    refine HFIN.out _ _ ?_
    have h : TRow (set12 W w.heap.size (.string T0) (.string T1) (.string T2) (.string T3) (.string T4) (.string T5) (.string T6) (.string T7) (.string T8) (.string T9) (.slice A8 n c8) (.bool RV)) (w.heap.size + 1 + 1) (.slice A8 n c8) rest := own_kept hT fun g hg => set12_far (by have := (World.ownsRow.lt hT g hg).1; omega)
    exact h.rd
  have HD := Lib.hid hdone
  clear hdone
  have y10 : W.cell? ⟨w.heap.size + 1, 10, none⟩ = some (.slice none 0 0) := cell_here hM.var
  have u10 : W.frozen? ⟨w.heap.size + 1, 10, none⟩ = false := frozen_here hM.var 10
  by_cases hn0 : n = 0
  · have hr0 : rest = [] := List.length_eq_zero_iff.1 (HN.out.trans hn0)
    have hT2 : TRow W (w.heap.size + 1 + 1) (.slice none n 0) rest := by rw [hr0, hn0]; exact World.ownsRow_nil _ _ _ _
    have hM2 := hM
    have HM2 := Lib.hid hM2; have HT2 := Lib.hid hT2
    have hap : ∀ ty, (Builtin.append_ #[22, 22] ty #[.slice none 0 0, .slice PA n c]).run Tryd.prog W = .ok (.slice none n 0) W := fun ty => by rw [hn0]; exact append_nothingC W ty none 0 0 (Nat.le_refl _) PA c
    have HAP := Lib.hid hap
    clear hM hM2 hT2 hap hr0 hn0
    dsimp only
    cases RV with
    | true =>
      have e1 := E1.out
      go_upto_region 7 with (at_builtin; refine Lib.wpList_append_run _ rfl _ _ _ _ rfl _ _ rfl rfl _ _ (HAP.out 22) ?_)
      have hM2 := HM2.out; have hT2 := HT2.out
      clear cS
      have hM3 : Mem13 w (W.setCell ⟨w.heap.size + 1, 10, none⟩ (.slice none n 0)) 47 #[.string ⟨#[]⟩, .string ⟨#[]⟩, .string ⟨#[]⟩, .string ⟨#[]⟩, .string ⟨#[]⟩, .string ⟨#[]⟩, .string ⟨#[]⟩, .string ⟨#[]⟩, .string ⟨#[]⟩, .string ⟨#[]⟩, .slice none 0 0, .bool false] #[.string T0, .string T1, .string T2, .string T3, .string T4, .string T5, .string T6, .string T7, .string T8, .string T9, .slice none n 0, .bool false] [(w.heap.size + 1 + 1, T10)] := by
        have h := hM2.set 10 (.slice none n 0)
        simpa using h
      have hT3 : TRow (W.setCell ⟨w.heap.size + 1, 10, none⟩ (.slice none n 0)) (w.heap.size + 1 + 1) (.slice none n 0) rest := own_kept hT2 fun g hg => set_there _ (by have := (World.ownsRow.lt hT2 g hg).1; omega)
      obtain ⟨W3, hW3⟩ : ∃ V, W.setCell ⟨w.heap.size + 1, 10, none⟩ (.slice none n 0) = V := ⟨_, rfl⟩
      rw [hW3] at hM3 hT3
      have cS : W3.cell? ⟨w.heap.size + 1 + 1, 0, none⟩ = some (.string T10) := cell_here (hM3.strs (w.heap.size + 1 + 1, T10) (by simp))
      have y11 : W3.cell? ⟨w.heap.size + 1, 11, none⟩ = some (.bool false) := cell_here hM3.var
      have u11 : W3.frozen? ⟨w.heap.size + 1, 11, none⟩ = false := frozen_here hM3.var 11
      have hM4 : Mem13 w (W3.setCell ⟨w.heap.size + 1, 11, none⟩ (.bool true)) 47 #[.string ⟨#[]⟩, .string ⟨#[]⟩, .string ⟨#[]⟩, .string ⟨#[]⟩, .string ⟨#[]⟩, .string ⟨#[]⟩, .string ⟨#[]⟩, .string ⟨#[]⟩, .string ⟨#[]⟩, .string ⟨#[]⟩, .slice none 0 0, .bool false] #[.string T0, .string T1, .string T2, .string T3, .string T4, .string T5, .string T6, .string T7, .string T8, .string T9, .slice none n 0, .bool true] [(w.heap.size + 1 + 1, T10)] := by
        have h := hM3.set 11 (.bool true)
        simpa using h
      have hT4 : TRow (W3.setCell ⟨w.heap.size + 1, 11, none⟩ (.bool true)) (w.heap.size + 1 + 1) (.slice none n 0) rest := own_kept hT3 fun g hg => set_there _ (by have := (World.ownsRow.lt hT3 g hg).1; omega)
      have HM4 := Lib.hid hM4; have HT4 := Lib.hid hT4; have HW3 := Lib.hid hW3
      clear hM2 hT2 hM3 hT3 hM4 hT4 hW3
      rw [HW3.out]
      go_upto_region 8 with fail
      clear cS y11 u11 e1
      obtain ⟨W4, hW4⟩ : ∃ W, W3.setCell ⟨w.heap.size + 1, 11, none⟩ (.bool true) = W := ⟨_, rfl⟩
      have hM := HM4.out
      have hT := HT4.out
      rw [hW4] at hM hT ⊢
      have hend := HD.out W4 none 0 hM hT
      have HE := Lib.hid hend
      obtain ⟨⟨d0, d1, d2, d3, d4, d5, d6, d7, d8, d9, d10, d11⟩, g0, g1, g2, g3, g4, g5, g6, g7, g8, g9, g10, g11⟩ := cells12_of hM.res
      obtain ⟨⟨y0, y1, y2, y3, y4, y5, y6, y7, y8, y9, y10, y11⟩, -⟩ := cells12_of hM.var
      have M9 := Lib.hid hM
      clear hM hT hend hW4 HM4 HT4 HW3
      go_wp2
      refine bodyPost_ret (results_cell_one (p := 2) (u := 3) rfl _ _ ⟨w.heap.size, 0, none⟩ _ rfl (loadFam (set12_here M9.out.res))) rfl ⟨HE.out, set12_below M9.out.low (Nat.le_refl _) _ _ _ _ _ _ _ _ _ _ _ _⟩
    | false =>
      have e1 := E1.out; have e0 := E0.out rfl
      go_upto_region 7 with (at_builtin; refine Lib.wpList_append_run _ rfl _ _ _ _ rfl _ _ rfl rfl _ _ (HAP.out 22) ?_)
      have hM2 := HM2.out; have hT2 := HT2.out
      clear cS e0
      have hM3 : Mem13 w (W.setCell ⟨w.heap.size + 1, 10, none⟩ (.slice none n 0)) 47 #[.string ⟨#[]⟩, .string ⟨#[]⟩, .string ⟨#[]⟩, .string ⟨#[]⟩, .string ⟨#[]⟩, .string ⟨#[]⟩, .string ⟨#[]⟩, .string ⟨#[]⟩, .string ⟨#[]⟩, .string ⟨#[]⟩, .slice none 0 0, .bool false] #[.string T0, .string T1, .string T2, .string T3, .string T4, .string T5, .string T6, .string T7, .string T8, .string T9, .slice none n 0, .bool false] [(w.heap.size + 1 + 1, T10)] := by
        have h := hM2.set 10 (.slice none n 0)
        simpa using h
      have hT3 : TRow (W.setCell ⟨w.heap.size + 1, 10, none⟩ (.slice none n 0)) (w.heap.size + 1 + 1) (.slice none n 0) rest := own_kept hT2 fun g hg => set_there _ (by have := (World.ownsRow.lt hT2 g hg).1; omega)
      obtain ⟨W3, hW3⟩ : ∃ V, W.setCell ⟨w.heap.size + 1, 10, none⟩ (.slice none n 0) = V := ⟨_, rfl⟩
      rw [hW3] at hM3 hT3
      have cS : W3.cell? ⟨w.heap.size + 1 + 1, 0, none⟩ = some (.string T10) := cell_here (hM3.strs (w.heap.size + 1 + 1, T10) (by simp))
      have y11 : W3.cell? ⟨w.heap.size + 1, 11, none⟩ = some (.bool false) := cell_here hM3.var
      have u11 : W3.frozen? ⟨w.heap.size + 1, 11, none⟩ = false := frozen_here hM3.var 11
      have hM4 : Mem13 w (W3.setCell ⟨w.heap.size + 1, 11, none⟩ (.bool false)) 47 #[.string ⟨#[]⟩, .string ⟨#[]⟩, .string ⟨#[]⟩, .string ⟨#[]⟩, .string ⟨#[]⟩, .string ⟨#[]⟩, .string ⟨#[]⟩, .string ⟨#[]⟩, .string ⟨#[]⟩, .string ⟨#[]⟩, .slice none 0 0, .bool false] #[.string T0, .string T1, .string T2, .string T3, .string T4, .string T5, .string T6, .string T7, .string T8, .string T9, .slice none n 0, .bool false] [(w.heap.size + 1 + 1, T10)] := by
        have h := hM3.set 11 (.bool false)
        simpa using h
      have hT4 : TRow (W3.setCell ⟨w.heap.size + 1, 11, none⟩ (.bool false)) (w.heap.size + 1 + 1) (.slice none n 0) rest := own_kept hT3 fun g hg => set_there _ (by have := (World.ownsRow.lt hT3 g hg).1; omega)
      have HM4 := Lib.hid hM4; have HT4 := Lib.hid hT4; have HW3 := Lib.hid hW3
      clear hM2 hT2 hM3 hT3 hM4 hT4 hW3
      rw [HW3.out]
      go_upto_region 8 with fail
      clear cS y11 u11 e1
      obtain ⟨W4, hW4⟩ : ∃ W, W3.setCell ⟨w.heap.size + 1, 11, none⟩ (.bool false) = W := ⟨_, rfl⟩
      have hM := HM4.out
      have hT := HT4.out
      rw [hW4] at hM hT ⊢
      have hend := HD.out W4 none 0 hM hT
      have HE := Lib.hid hend
      obtain ⟨⟨d0, d1, d2, d3, d4, d5, d6, d7, d8, d9, d10, d11⟩, g0, g1, g2, g3, g4, g5, g6, g7, g8, g9, g10, g11⟩ := cells12_of hM.res
      obtain ⟨⟨y0, y1, y2, y3, y4, y5, y6, y7, y8, y9, y10, y11⟩, -⟩ := cells12_of hM.var
      have M9 := Lib.hid hM
      clear hM hT hend hW4 HM4 HT4 HW3
      go_wp2
      refine bodyPost_ret (results_cell_one (p := 2) (u := 3) rfl _ _ ⟨w.heap.size, 0, none⟩ _ rfl (loadFam (set12_here M9.out.res))) rfl ⟨HE.out, set12_below M9.out.low (Nat.le_refl _) _ _ _ _ _ _ _ _ _ _ _ _⟩
  · have hnw : ∃ ad, PA = some ad ∧ ∀ j u, (tcells rest)[j]? = some u → W.cell? (ad.add j) = some u := by
      obtain ⟨A1, c1, ea, hc1, ha1⟩ := HRD.out
      cases ea
      have hn := HN.out
      obtain ⟨g, o, hA, hg, _⟩ := ha1 0 _ (List.getElem?_eq_getElem (by omega))
      refine ⟨⟨g, o, none⟩, hA, fun j u hu => ?_⟩
      unfold tcells at hu
      rw [List.getElem?_map] at hu
      obtain ⟨y, hy, rfl⟩ := Option.map_eq_some_iff.1 hu
      obtain ⟨g', o', hA', _, hu'⟩ := ha1 j y hy
      rw [hA] at hA'
      injection hA' with hA'
      injection hA' with e3 e4
      rw [Addr.add_lit, e3, e4]; exact hu'
    have hll : (tcells rest).length = n * 1 := by unfold tcells; rw [List.length_map, HN.out, Nat.mul_one]
    have hone : ∀ u ∈ tcells rest, u.oneCell' = true := fun u hu => by
      obtain ⟨y, _, rfl⟩ := List.mem_map.1 hu; rfl
    have hBW : w.heap.size + 1 + 1 ≤ W.heap.size := by have := (Array.getElem?_eq_some_iff.1 (hM.strs (w.heap.size + 1 + 1, T10) (by simp))).1; exact Nat.le_of_lt this
    have HM2 := Lib.hid hM; have HNW := Lib.hid hnw; have HLN := Lib.hid hll; have HONE := Lib.hid hone
    clear hM hnw hll hone hn0
    dsimp only
    cases RV with
    | true =>
      have e1 := E1.out
      go_wp2_with (at_builtin; refine wpList_append_opt rfl _ _ 22 rfl (w.heap.size + 1 + 1) 9 i0 _ 1 16 Tryd.underlying22 hi hz0 hz1 hz2 rfl (by decide) _ _ _ rfl (World.ownsRow_nil _ _ _ _) PA n c (tcells rest) rfl HLN.out (.inr HNW.out) HONE.out (by unfold maxLen; omega) (by omega) hBW ?_)
      intro v8 w8 own8 g8 _
      have hb8 : Below W.heap.size W w8 := (Below.refl _ _).grown g8 (Nat.le_refl _) (fun j hj => by cases hj)
      have hT2 : TRow w8 (w.heap.size + 1 + 1) v8 rest := TRow.cut own8 (by first | (rw [HN.out]; done) | (rw [HN.out]; simp)) (by first | rfl | simp)
      have hM2 := HM2.out.later hb8
      obtain ⟨A8, c8, rfl⟩ := own_formR hT2
      rw [HN.out] at hT2 ⊢
      have y10 : w8.cell? ⟨w.heap.size + 1, 10, none⟩ = some (.slice none 0 0) := cell_here hM2.var
      have u10 : w8.frozen? ⟨w.heap.size + 1, 10, none⟩ = false := frozen_here hM2.var 10
      clear e1 cS own8 g8 hb8
      have hM3 : Mem13 w (w8.setCell ⟨w.heap.size + 1, 10, none⟩ (.slice A8 n c8)) 47 #[.string ⟨#[]⟩, .string ⟨#[]⟩, .string ⟨#[]⟩, .string ⟨#[]⟩, .string ⟨#[]⟩, .string ⟨#[]⟩, .string ⟨#[]⟩, .string ⟨#[]⟩, .string ⟨#[]⟩, .string ⟨#[]⟩, .slice none 0 0, .bool false] #[.string T0, .string T1, .string T2, .string T3, .string T4, .string T5, .string T6, .string T7, .string T8, .string T9, .slice A8 n c8, .bool false] [(w.heap.size + 1 + 1, T10)] := by
        have h := hM2.set 10 (.slice A8 n c8)
        simpa using h
      have hT3 : TRow (w8.setCell ⟨w.heap.size + 1, 10, none⟩ (.slice A8 n c8)) (w.heap.size + 1 + 1) (.slice A8 n c8) rest := own_kept hT2 fun g hg => set_there _ (by have := (World.ownsRow.lt hT2 g hg).1; omega)
      obtain ⟨W3, hW3⟩ : ∃ V, w8.setCell ⟨w.heap.size + 1, 10, none⟩ (.slice A8 n c8) = V := ⟨_, rfl⟩
      rw [hW3] at hM3 hT3
      have cS : W3.cell? ⟨w.heap.size + 1 + 1, 0, none⟩ = some (.string T10) := cell_here (hM3.strs (w.heap.size + 1 + 1, T10) (by simp))
      have y11 : W3.cell? ⟨w.heap.size + 1, 11, none⟩ = some (.bool false) := cell_here hM3.var
      have u11 : W3.frozen? ⟨w.heap.size + 1, 11, none⟩ = false := frozen_here hM3.var 11
      have hM4 : Mem13 w (W3.setCell ⟨w.heap.size + 1, 11, none⟩ (.bool true)) 47 #[.string ⟨#[]⟩, .string ⟨#[]⟩, .string ⟨#[]⟩, .string ⟨#[]⟩, .string ⟨#[]⟩, .string ⟨#[]⟩, .string ⟨#[]⟩, .string ⟨#[]⟩, .string ⟨#[]⟩, .string ⟨#[]⟩, .slice none 0 0, .bool false] #[.string T0, .string T1, .string T2, .string T3, .string T4, .string T5, .string T6, .string T7, .string T8, .string T9, .slice A8 n c8, .bool true] [(w.heap.size + 1 + 1, T10)] := by
        have h := hM3.set 11 (.bool true)
        simpa using h
      have hT4 : TRow (W3.setCell ⟨w.heap.size + 1, 11, none⟩ (.bool true)) (w.heap.size + 1 + 1) (.slice A8 n c8) rest := own_kept hT3 fun g hg => set_there _ (by have := (World.ownsRow.lt hT3 g hg).1; omega)
      have HM4 := Lib.hid hM4; have HT4 := Lib.hid hT4; have HW3 := Lib.hid hW3
      have e1 := E1.out
      clear hM2 hT2 hM3 hT3 hM4 hT4 hW3
      go_upto_region 7 with fail
      rw [HW3.out]
      go_upto_region 8 with fail
      clear cS y11 u11 e1
      obtain ⟨W4, hW4⟩ : ∃ W, W3.setCell ⟨w.heap.size + 1, 11, none⟩ (.bool true) = W := ⟨_, rfl⟩
      have hM := HM4.out
      have hT := HT4.out
      rw [hW4] at hM hT ⊢
      have hend := HD.out W4 A8 c8 hM hT
      have HE := Lib.hid hend
      obtain ⟨⟨d0, d1, d2, d3, d4, d5, d6, d7, d8, d9, d10, d11⟩, g0, g1, g2, g3, g4, g5, g6, g7, g8, g9, g10, g11⟩ := cells12_of hM.res
      obtain ⟨⟨y0, y1, y2, y3, y4, y5, y6, y7, y8, y9, y10, y11⟩, -⟩ := cells12_of hM.var
      have M9 := Lib.hid hM
      clear hM hT hend hW4 HM4 HT4 HW3
      go_wp2
      refine bodyPost_ret (results_cell_one (p := 2) (u := 3) rfl _ _ ⟨w.heap.size, 0, none⟩ _ rfl (loadFam (set12_here M9.out.res))) rfl ⟨HE.out, set12_below M9.out.low (Nat.le_refl _) _ _ _ _ _ _ _ _ _ _ _ _⟩
    | false =>
      have e1 := E1.out; have e0 := E0.out rfl
      go_wp2_with (at_builtin; refine wpList_append_opt rfl _ _ 22 rfl (w.heap.size + 1 + 1) 9 i0 _ 1 16 Tryd.underlying22 hi hz0 hz1 hz2 rfl (by decide) _ _ _ rfl (World.ownsRow_nil _ _ _ _) PA n c (tcells rest) rfl HLN.out (.inr HNW.out) HONE.out (by unfold maxLen; omega) (by omega) hBW ?_)
      intro v8 w8 own8 g8 _
      have hb8 : Below W.heap.size W w8 := (Below.refl _ _).grown g8 (Nat.le_refl _) (fun j hj => by cases hj)
      have hT2 : TRow w8 (w.heap.size + 1 + 1) v8 rest := TRow.cut own8 (by first | (rw [HN.out]; done) | (rw [HN.out]; simp)) (by first | rfl | simp)
      have hM2 := HM2.out.later hb8
      obtain ⟨A8, c8, rfl⟩ := own_formR hT2
      rw [HN.out] at hT2 ⊢
      have y10 : w8.cell? ⟨w.heap.size + 1, 10, none⟩ = some (.slice none 0 0) := cell_here hM2.var
      have u10 : w8.frozen? ⟨w.heap.size + 1, 10, none⟩ = false := frozen_here hM2.var 10
      clear e1 cS own8 g8 hb8 e0
      have hM3 : Mem13 w (w8.setCell ⟨w.heap.size + 1, 10, none⟩ (.slice A8 n c8)) 47 #[.string ⟨#[]⟩, .string ⟨#[]⟩, .string ⟨#[]⟩, .string ⟨#[]⟩, .string ⟨#[]⟩, .string ⟨#[]⟩, .string ⟨#[]⟩, .string ⟨#[]⟩, .string ⟨#[]⟩, .string ⟨#[]⟩, .slice none 0 0, .bool false] #[.string T0, .string T1, .string T2, .string T3, .string T4, .string T5, .string T6, .string T7, .string T8, .string T9, .slice A8 n c8, .bool false] [(w.heap.size + 1 + 1, T10)] := by
        have h := hM2.set 10 (.slice A8 n c8)
        simpa using h
      have hT3 : TRow (w8.setCell ⟨w.heap.size + 1, 10, none⟩ (.slice A8 n c8)) (w.heap.size + 1 + 1) (.slice A8 n c8) rest := own_kept hT2 fun g hg => set_there _ (by have := (World.ownsRow.lt hT2 g hg).1; omega)
      obtain ⟨W3, hW3⟩ : ∃ V, w8.setCell ⟨w.heap.size + 1, 10, none⟩ (.slice A8 n c8) = V := ⟨_, rfl⟩
      rw [hW3] at hM3 hT3
      have cS : W3.cell? ⟨w.heap.size + 1 + 1, 0, none⟩ = some (.string T10) := cell_here (hM3.strs (w.heap.size + 1 + 1, T10) (by simp))
      have y11 : W3.cell? ⟨w.heap.size + 1, 11, none⟩ = some (.bool false) := cell_here hM3.var
      have u11 : W3.frozen? ⟨w.heap.size + 1, 11, none⟩ = false := frozen_here hM3.var 11
      have hM4 : Mem13 w (W3.setCell ⟨w.heap.size + 1, 11, none⟩ (.bool false)) 47 #[.string ⟨#[]⟩, .string ⟨#[]⟩, .string ⟨#[]⟩, .string ⟨#[]⟩, .string ⟨#[]⟩, .string ⟨#[]⟩, .string ⟨#[]⟩, .string ⟨#[]⟩, .string ⟨#[]⟩, .string ⟨#[]⟩, .slice none 0 0, .bool false] #[.string T0, .string T1, .string T2, .string T3, .string T4, .string T5, .string T6, .string T7, .string T8, .string T9, .slice A8 n c8, .bool false] [(w.heap.size + 1 + 1, T10)] := by
        have h := hM3.set 11 (.bool false)
        simpa using h
      have hT4 : TRow (W3.setCell ⟨w.heap.size + 1, 11, none⟩ (.bool false)) (w.heap.size + 1 + 1) (.slice A8 n c8) rest := own_kept hT3 fun g hg => set_there _ (by have := (World.ownsRow.lt hT3 g hg).1; omega)
      have HM4 := Lib.hid hM4; have HT4 := Lib.hid hT4; have HW3 := Lib.hid hW3
      have e1 := E1.out
      clear hM2 hT2 hM3 hT3 hM4 hT4 hW3
      go_upto_region 7 with fail
      rw [HW3.out]
      go_upto_region 8 with fail
      clear cS y11 u11 e1
      obtain ⟨W4, hW4⟩ : ∃ W, W3.setCell ⟨w.heap.size + 1, 11, none⟩ (.bool false) = W := ⟨_, rfl⟩
      have hM := HM4.out
      have hT := HT4.out
      rw [hW4] at hM hT ⊢
      have hend := HD.out W4 A8 c8 hM hT
      have HE := Lib.hid hend
      obtain ⟨⟨d0, d1, d2, d3, d4, d5, d6, d7, d8, d9, d10, d11⟩, g0, g1, g2, g3, g4, g5, g6, g7, g8, g9, g10, g11⟩ := cells12_of hM.res
      obtain ⟨⟨y0, y1, y2, y3, y4, y5, y6, y7, y8, y9, y10, y11⟩, -⟩ := cells12_of hM.var
      have M9 := Lib.hid hM
      clear hM hT hend hW4 HM4 HT4 HW3
      go_wp2
      refine bodyPost_ret (results_cell_one (p := 2) (u := 3) rfl _ _ ⟨w.heap.size, 0, none⟩ _ rfl (loadFam (set12_here M9.out.res))) rfl ⟨HE.out, set12_below M9.out.low (Nat.le_refl _) _ _ _ _ _ _ _ _ _ _ _ _⟩
end Go.Proofs.YtefnkkjmcfpiaaaDoor
