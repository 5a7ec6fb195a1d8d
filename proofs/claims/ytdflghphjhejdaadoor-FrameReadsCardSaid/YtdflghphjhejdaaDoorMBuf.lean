/- A row of bytes that the call has made by append or by a conversion from a text (which bears a mark behind its end). -/
import Derived.Test.YtdflghphjhejdaaDoorBase
import Derived.Room.Entries
import Derived.ArgAppend
import Derived.Deep.WholeRow
namespace Go.Proofs.YtdflghphjhejdaaDoor
open Go.RowKit

/-- the slice v holds these bytes, at the head of a row of its own from block B on; its room can be written -/
structure MBuf (w : World) (B : Nat) (v : Value) (l : List UInt8) (g cap : Nat) : Prop where
  val : v = .slice (some ⟨g, 0, none⟩) l.length cap
  base : B ≤ g
  lt : g < w.heap.size
  le : l.length ≤ cap
  max : cap ≤ maxLen
  cell : ∀ j (hj : j < l.length), w.cell? ⟨g, j, none⟩ = some (.int .u8 (l[j].toNat : Int))
  room : ∀ j, l.length ≤ j → j < cap → (w.cell? ⟨g, j, none⟩).isSome = true ∧ w.frozen? ⟨g, j, none⟩ = false
theorem MBuf.keep {w w' : World} {B : Nat} {v : Value} {l : List UInt8} {g cap : Nat} (h : MBuf w B v l g cap) (hb : w'.heap[g]? = w.heap[g]?) (hs : w.heap.size ≤ w'.heap.size) : MBuf w' B v l g cap :=
  ⟨h.val, h.base, Nat.lt_of_lt_of_le h.lt hs, h.le, h.max, fun j hj => (World.cell?_of_block (a := ⟨g, j, none⟩) hb).trans (h.cell j hj),
    fun j h1 h2 => ⟨by rw [World.cell?_of_block (a := ⟨g, j, none⟩) hb]; exact (h.room j h1 h2).1, by rw [World.frozen?_of_block (a := ⟨g, j, none⟩) hb]; exact (h.room j h1 h2).2⟩⟩
theorem MBuf.below {w w' : World} {B : Nat} {v : Value} {l : List UInt8} {g cap : Nat} (h : MBuf w B v l g cap) (hb : Below w.heap.size w w') : MBuf w' B v l g cap := h.keep (hb.block g h.lt) hb.size
theorem MBuf.drew {w : World} {B : Nat} {v : Value} {l : List UInt8} {g cap : Nat} (h : MBuf w B v l g cap) : MBuf w.drew B v l g cap := h.keep rfl (Nat.le_refl _)
theorem MBuf.alloc {w : World} {B : Nat} {v : Value} {l : List UInt8} {g cap : Nat} (h : MBuf w B v l g cap) (o : Obj) : MBuf (w.alloc o) B v l g cap := h.below ((Below.refl _ _).alloc (Nat.le_refl _) o)

theorem bytesRow_size (s : ByteArray) (cap : Nat) (h : s.size ≤ cap) : (bytesRow s cap).size = cap := by
  have : s.data.size = s.size := rfl
  simp [bytesRow]; omega
theorem bytesRow_at (s : ByteArray) (cap j : Nat) (hj : j < cap) : ∃ c : UInt8, (bytesRow s cap)[j]? = some (.int .u8 (c.toNat : Int)) ∧ (∀ h' : j < s.data.toList.length, c = s.data.toList[j]) := by
  have hsz : s.data.size = s.size := rfl
  by_cases hjs : j < s.data.size
  · refine ⟨s.data[j], ?_, fun h' => by simp⟩
    unfold bytesRow
    rw [Array.getElem?_append_left (by simpa using hjs)]
    simp only [Array.getElem?_map, Array.getElem?_eq_getElem hjs, Option.map_some]
  · refine ⟨0, ?_, fun h' => absurd (by simpa using h') hjs⟩
    unfold bytesRow
    rw [Array.getElem?_append_right (by simpa using hjs), Array.getElem?_replicate, if_pos]
    · rfl
    · rw [Array.size_map]; omega
/-- []byte(s) -/
theorem conv_mbuf (X : World) (B : Nat) (hB : B ≤ X.heap.size) (s : ByteArray) (hs : s.size ≤ maxLen) : ∃ W v g cap, (convert 9 23 (.string s)).run Tryd.prog X = .ok v W ∧
    MBuf W B v s.data.toList g cap ∧ Below X.heap.size X W ∧ X.heap.size ≤ g := by
  have hr := run_bytes_of_string (P := Tryd.prog) X 9 23 5 s Tryd.underlying9 Tryd.underlying23 Tryd.underlying5
  have hge := grownCap_ge X s.size 0 5
  have hle := grownCap_le_maxLen X s.size 0 5 hs
  generalize grownCap X s.size 0 5 = cap at *
  have hbs := bytesRow_size s cap hge
  have hlast := heap_alloc_last X.drew (.cells (bytesRow s cap) 5 ((bytesRow s cap).size, (bytesRow s cap).size + 1))
  have hcell : ∀ j, (X.drew.alloc (.cells (bytesRow s cap) 5 ((bytesRow s cap).size, (bytesRow s cap).size + 1))).cell? ⟨X.heap.size, j, none⟩ = (bytesRow s cap)[j]? := fun j => by
    show (match (X.drew.alloc _).heap[X.drew.heap.size]? with | some (.cells cs _ _) => cs[j]? | _ => none) = _
    rw [hlast]
  have hb : Below X.heap.size X (X.drew.alloc (.cells (bytesRow s cap) 5 ((bytesRow s cap).size, (bytesRow s cap).size + 1))) := (Below.refl _ _).drew.alloc (Nat.le_refl _) _
  refine ⟨_, _, X.heap.size, cap, hr, ⟨rfl, hB, by simp, hge, hle, fun j hj => ?_, fun j h1 h2 => ?_⟩, hb, Nat.le_refl _⟩
  · obtain ⟨c, hc, he⟩ := bytesRow_at s cap j (Nat.lt_of_lt_of_le hj hge)
    rw [hcell, hc, he hj]
  · obtain ⟨c, hc, _⟩ := bytesRow_at s cap j h2
    refine ⟨by rw [hcell, hc]; rfl, ?_⟩
    show (match (X.drew.alloc _).heap[X.drew.heap.size]? with | some (.cells _ _ (lo, hi)) => decide (lo ≤ j) && decide (j < hi) | _ => false) = false
    rw [hlast]
    show (decide ((bytesRow s cap).size ≤ j) && decide (j < (bytesRow s cap).size + 1)) = false
    rw [hbs]
    simp; omega
/-- one byte more -/
theorem mbuf_append {w : World} {B : Nat} {v : Value} {l : List UInt8} {g cap : Nat} (h : MBuf w B v l g cap) (hBw : B ≤ w.heap.size) (hlen : l.length + 1 ≤ 140737488355328) (ty : TypeId) (ad : Addr) (c : Nat) (x : UInt8) (hx : w.cell? (ad.add 0) = some (.int .u8 (x.toNat : Int))) :
    ∃ v' w' g' cap', (Builtin.append_ #[23, 23] ty #[v, .slice (some ad) 1 c]).run Tryd.prog w = .ok v' w' ∧ MBuf w' B v' (l ++ [x]) g' cap' ∧ w.grownBy w' (some g) := by
  obtain ⟨i0, hi, hz0, hz1, hz2⟩ := info_parts Tryd.infoByte
  have hnews : ∀ j u, [Value.int .u8 (x.toNat : Int)][j]? = some u → w.cell? (ad.add j) = some u := fun j u hj => by
    cases j with
    | zero => simp at hj; rw [hx, hj]
    | succ j => simp at hj
  obtain ⟨rfl, hb, hlt, hle, hmax, hcell, hroom⟩ := h
  by_cases hr : l.length + 1 ≤ cap
  · have hrun := run_append_room_cells (P := Tryd.prog) (w := w) 23 ty 5 i0 Tryd.underlying23 hi g 0 l.length cap ad 1 c [.int .u8 (x.toNat : Int)] (by rw [hz1]; rfl) hnews (one_cell _) hr
      (fun j hj => by
        have : j = 0 := by simpa using hj
        subst this
        rw [hz1, show 0 + l.length * 1 + 0 = l.length by omega]
        exact (hroom l.length (Nat.le_refl _) (by omega)).1)
      (fun j hj => by
        have : j = 0 := by simpa using hj
        subst this
        rw [hz1, show 0 + l.length * 1 + 0 = l.length by omega]
        exact (hroom l.length (Nat.le_refl _) (by omega)).2)
    rw [hz1, show 0 + l.length * 1 = l.length by omega] at hrun
    have hw : w.setCells g l.length [.int .u8 (x.toNat : Int)] = w.setCell ⟨g, l.length, none⟩ (.int .u8 (x.toNat : Int)) := rfl
    rw [hw] at hrun
    have hsz : (w.setCell ⟨g, l.length, none⟩ (.int .u8 (x.toNat : Int))).heap.size = w.heap.size := by simp [World.setCell]
    obtain ⟨u, hu⟩ := Option.isSome_iff_exists.1 (hroom l.length (Nat.le_refl _) (by omega)).1
    refine ⟨_, _, g, cap, hrun, ⟨by simp, hb, by rw [hsz]; exact hlt, by simpa using hr, hmax, fun j hj => ?_, fun j h1 h2 => ?_⟩, ⟨rfl, rfl, rfl, Nat.le_of_eq hsz.symm, fun k hk hne => ?_⟩⟩
    · by_cases hjl : j < l.length
      · rw [World.cell?_setCell_other _ _ _ _ (fun e => by injection e; omega), hcell j hjl]
        simp [List.getElem_append_left hjl]
      · have hje : j = l.length := by simp at hj; omega
        subst hje
        rw [World.cell?_setCell_same _ _ _ hu]
        simp
    · have hj1 : l.length + 1 ≤ j := by simpa using h1
      rw [World.cell?_setCell_other _ _ _ _ (fun e => by injection e; omega), World.frozen?_setCell]
      exact hroom j (by omega) h2
    · exact Below.heap_setCell w _ _ k (fun e => hne (by rw [e]))
  · have hce : cap = l.length := by omega
    subst hce
    have holds : ∀ j u, (cells l)[j]? = some u → w.cell? ((⟨g, 0, none⟩ : Addr).add j) = some u := fun j u hj => by
      have hjl : j < l.length := by
        have := (List.getElem?_eq_some_iff.1 hj).1
        simpa [cells] using this
      have e : (⟨g, 0, none⟩ : Addr).add j = ⟨g, j, none⟩ := by unfold Addr.add; split <;> simp_all
      rw [e, hcell j hjl]
      unfold cells at hj
      rw [List.getElem?_map, List.getElem?_eq_getElem hjl] at hj
      exact hj
    have hns := Go.Room.nextslicecap_le' (need := l.length + 1) (old := l.length) (Nat.lt_succ_self _)
    have hrun := run_append_grow (P := Tryd.prog) (w := w) 23 ty 5 i0 _ Tryd.underlying23 hi hz0 ⟨g, 0, none⟩ l.length l.length (cells l) (by rw [hz1]; simp [cells]) holds ad 1 c [.int .u8 (x.toNat : Int)] (by rw [hz1]; rfl) hnews (Nat.lt_succ_self _) (by omega) (by rw [hz2]; omega)
    have hge := grownCap_ge w (l.length + 1) l.length 5
    have hgm := grownCap_le_maxLen w (l.length + 1) l.length 5 (by unfold maxLen; omega)
    generalize grownCap w (l.length + 1) l.length 5 = cap' at *
    have hrow : (cells l).toArray ++ #[Value.int .u8 (x.toNat : Int)] = (cells (l ++ [x])).toArray := by
      apply Array.ext'; simp [cells]
    have hrow2 : [Value.int .u8 (x.toNat : Int)].toArray = #[Value.int .u8 (x.toNat : Int)] := rfl
    rw [hrow2, hrow] at hrun
    generalize hC : (cells (l ++ [x])).toArray ++ Builtin.zeroCells (Value.int .u8 0).cells (cap' - (l.length + 1)) = C at hrun
    have hCs : C.size = cap' := by
      rw [← hC]; simp [cells, size_zeroCells, Value.cells]; omega
    have hCa : ∀ j (hj : j < (l ++ [x]).length), C[j]? = some (.int .u8 ((l ++ [x])[j].toNat : Int)) := fun j hj => by
      rw [← hC, Array.getElem?_append_left (by simpa [cells] using hj)]
      unfold cells
      rw [List.getElem?_toArray, List.getElem?_map, List.getElem?_eq_getElem hj]; rfl
    have hlast := heap_alloc_last w.drew (.cells C 5)
    have hcl : ∀ j, (w.drew.alloc (.cells C 5)).cell? ⟨w.heap.size, j, none⟩ = C[j]? := fun j => by
      show (match (w.drew.alloc _).heap[w.drew.heap.size]? with | some (.cells cs _ _) => cs[j]? | _ => none) = _
      rw [hlast]
    refine ⟨_, _, w.heap.size, cap', hrun, ⟨by simp, hBw, by simp, by simpa using hge, hgm, fun j hj => by rw [hcl, hCa j hj], fun j h1 h2 => ⟨?_, ?_⟩⟩, ?_⟩
    · rw [hcl, Array.getElem?_eq_getElem (by rw [hCs]; exact h2)]; rfl
    · show (match (w.drew.alloc _).heap[w.drew.heap.size]? with | some (.cells _ _ (lo, hi)) => decide (lo ≤ j) && decide (j < hi) | _ => false) = false
      rw [hlast]
      simp
    · have hb' : Below w.heap.size w (w.drew.alloc (.cells C 5)) := (Below.refl _ _).drew.alloc (Nat.le_refl _) _
      exact ⟨hb'.os, hb'.tape, hb'.output, hb'.size, fun k hk _ => hb'.block k hk⟩
theorem wpList_append_mbuf (w : World) {ops : Array Oper} {rest : List Oper} {o : Oper} {a : Act} {Q : Exit → Act → World → Prop} (hgd : o.guard = none) (s x : Operand)
    (ho : o.op = .call { callee := .builtin .append, args := #[s, x], argTypes := #[23, 23] })
    {B : Nat} {v : Value} {l : List UInt8} {g cap : Nat} (hs : a.eval s = v) (h : MBuf w B v l g cap) (hBw : B ≤ w.heap.size) (hlen : l.length + 1 ≤ 140737488355328)
    (ad : Addr) (c : Nat) (b : UInt8) (hx : a.eval x = .slice (some ad) 1 c) (hb : w.cell? (ad.add 0) = some (.int .u8 (b.toNat : Int)))
    (hn : ∀ v' w' g' cap', MBuf w' B v' (l ++ [b]) g' cap' → w.grownBy w' (some g) → wpList Tryd.prog ops Q rest (a.put o.dst v') w') : wpList Tryd.prog ops Q (o :: rest) a w :=
  wpList_plain hgd fun _ hK => by
    obtain ⟨v', w', g', cap', hrun, h2, h3⟩ := mbuf_append h hBw hlen o.type ad c b hb
    unfold Oper.wp execOp
    simp only [ho, resolve, invoke, builtin, Sem.run_bind, Sem.run_pure, Result.andThen_ok, List.map_toArray, List.map_cons, List.map_nil, hs, hx, hrun]
    exact hK _ _ (hn v' w' g' cap' h2 h3)
end Go.Proofs.YtdflghphjhejdaaDoor
