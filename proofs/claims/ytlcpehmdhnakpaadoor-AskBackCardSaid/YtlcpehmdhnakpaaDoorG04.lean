/- Texts merged by program, in build order: MBuf, Code, SumBase, QTail, Sum4, SumEight, Sum8, HashTurn, HashSpread, HashStir, HashPrinted, HashEnding. -/
import Derived.Test.YtlcpehmdhnakpaaDoorG01
import Derived.Room.Entries
import Derived.ArgAppend
import Derived.Deep.WholeRow
import Derived.Test.YtlcpehmdhnakpaaDoorG03
import Derived.BigRegion
import Derived.Deep.Cut
import Derived.StillTail
import Derived.BigQuiet
import Derived.Deep.DrawnRows
import Derived.Lib.BufferWrite
set_option linter.unusedVariables false
set_option linter.unusedSimpArgs false
namespace Go.Proofs.YtlcpehmdhnakpaaDoor
open Go.RowKit

/-- the slice v holds these bytes, at the head of a row of its own from block B on; its room can be written -/
structure MBuf (w : World) (B : Nat) (v : Value) (l : List UInt8) (g cap : Nat) : Prop where
  val : v = .slice (some ⟨g, 0, none⟩) l.length cap
  base : B ≤ g
  lt : g < w.heap.size
  le : l.length ≤ cap
  max : cap ≤ maxLen
  cell : ∀ j (hj : j < l.length), w.cell? ⟨g, j, none⟩ = some (.int .u8 (l[j].toNat : Int))
  room : ∀ j, l.length ≤ j → j < cap → (w.cell? ⟨g, j, none⟩).isSome = true ∧ w.frozen? ⟨g, j, none⟩ = false
theorem MBuf.keep {w w' : World} {B : Nat} {v : Value} {l : List UInt8} {g cap : Nat} (h : MBuf w B v l g cap) (hb : w'.heap[g]? = w.heap[g]?) (hs : w.heap.size ≤ w'.heap.size) : MBuf w' B v l g cap :=
  ⟨h.val, h.base, Nat.lt_of_lt_of_le h.lt hs, h.le, h.max, fun j hj => (World.cell?_of_block (a := ⟨g, j, none⟩) hb).trans (h.cell j hj),
    fun j h1 h2 => ⟨by rw [World.cell?_of_block (a := ⟨g, j, none⟩) hb]; exact (h.room j h1 h2).1, by rw [World.frozen?_of_block (a := ⟨g, j, none⟩) hb]; exact (h.room j h1 h2).2⟩⟩
theorem MBuf.below {w w' : World} {B : Nat} {v : Value} {l : List UInt8} {g cap : Nat} (h : MBuf w B v l g cap) (hb : Below w.heap.size w w') : MBuf w' B v l g cap := h.keep (hb.block g h.lt) hb.size
theorem MBuf.drew {w : World} {B : Nat} {v : Value} {l : List UInt8} {g cap : Nat} (h : MBuf w B v l g cap) : MBuf w.drew B v l g cap := h.keep rfl (Nat.le_refl _)
theorem MBuf.alloc {w : World} {B : Nat} {v : Value} {l : List UInt8} {g cap : Nat} (h : MBuf w B v l g cap) (o : Obj) : MBuf (w.alloc o) B v l g cap := h.below ((Below.refl _ _).alloc (Nat.le_refl _) o)

theorem bytesRow_size (s : ByteArray) (cap : Nat) (h : s.size ≤ cap) : (bytesRow s cap).size = cap := by
  have : s.data.size = s.size := rfl
  simp [bytesRow]; omega
theorem bytesRow_at (s : ByteArray) (cap j : Nat) (hj : j < cap) : ∃ c : UInt8, (bytesRow s cap)[j]? = some (.int .u8 (c.toNat : Int)) ∧ (∀ h' : j < s.data.toList.length, c = s.data.toList[j]) := by
  have hsz : s.data.size = s.size := rfl
  by_cases hjs : j < s.data.size
  · refine ⟨s.data[j], ?_, fun h' => by simp⟩
    unfold bytesRow
    rw [Array.getElem?_append_left (by simpa using hjs)]
    simp only [Array.getElem?_map, Array.getElem?_eq_getElem hjs, Option.map_some]
  · refine ⟨0, ?_, fun h' => absurd (by simpa using h') hjs⟩
    unfold bytesRow
    rw [Array.getElem?_append_right (by simpa using hjs), Array.getElem?_replicate, if_pos]
    · rfl
    · rw [Array.size_map]; omega
/-- []byte(s) -/
theorem conv_mbuf (X : World) (B : Nat) (hB : B ≤ X.heap.size) (s : ByteArray) (hs : s.size ≤ maxLen) : ∃ W v g cap, (convert 9 62 (.string s)).run Tryd.prog X = .ok v W ∧
    MBuf W B v s.data.toList g cap ∧ Below X.heap.size X W ∧ X.heap.size ≤ g := by
  have hr := run_bytes_of_string (P := Tryd.prog) X 9 62 5 s Tryd.underlying9 Tryd.underlying62 Tryd.underlying5
  have hge := grownCap_ge X s.size 0 5
  have hle := grownCap_le_maxLen X s.size 0 5 hs
  generalize grownCap X s.size 0 5 = cap at *
  have hbs := bytesRow_size s cap hge
  have hlast := heap_alloc_last X.drew (.cells (bytesRow s cap) 5 ((bytesRow s cap).size, (bytesRow s cap).size + 1))
  have hcell : ∀ j, (X.drew.alloc (.cells (bytesRow s cap) 5 ((bytesRow s cap).size, (bytesRow s cap).size + 1))).cell? ⟨X.heap.size, j, none⟩ = (bytesRow s cap)[j]? := fun j => by
    show (match (X.drew.alloc _).heap[X.drew.heap.size]? with | some (.cells cs _ _) => cs[j]? | _ => none) = _
    rw [hlast]
  have hb : Below X.heap.size X (X.drew.alloc (.cells (bytesRow s cap) 5 ((bytesRow s cap).size, (bytesRow s cap).size + 1))) := (Below.refl _ _).drew.alloc (Nat.le_refl _) _
  refine ⟨_, _, X.heap.size, cap, hr, ⟨rfl, hB, by simp, hge, hle, fun j hj => ?_, fun j h1 h2 => ?_⟩, hb, Nat.le_refl _⟩
  · obtain ⟨c, hc, he⟩ := bytesRow_at s cap j (Nat.lt_of_lt_of_le hj hge)
    rw [hcell, hc, he hj]
  · obtain ⟨c, hc, _⟩ := bytesRow_at s cap j h2
    refine ⟨by rw [hcell, hc]; rfl, ?_⟩
    show (match (X.drew.alloc _).heap[X.drew.heap.size]? with | some (.cells _ _ (lo, hi)) => decide (lo ≤ j) && decide (j < hi) | _ => false) = false
    rw [hlast]
    show (decide ((bytesRow s cap).size ≤ j) && decide (j < (bytesRow s cap).size + 1)) = false
    rw [hbs]
    simp; omega
/-- one byte more -/
theorem mbuf_append {w : World} {B : Nat} {v : Value} {l : List UInt8} {g cap : Nat} (h : MBuf w B v l g cap) (hBw : B ≤ w.heap.size) (hlen : l.length + 1 ≤ 140737488355328) (ty : TypeId) (ad : Addr) (c : Nat) (x : UInt8) (hx : w.cell? (ad.add 0) = some (.int .u8 (x.toNat : Int))) :
    ∃ v' w' g' cap', (Builtin.append_ #[62, 62] ty #[v, .slice (some ad) 1 c]).run Tryd.prog w = .ok v' w' ∧ MBuf w' B v' (l ++ [x]) g' cap' ∧ w.grownBy w' (some g) := by
  obtain ⟨i0, hi, hz0, hz1, hz2⟩ := info_parts Tryd.infoByte
  have hnews : ∀ j u, [Value.int .u8 (x.toNat : Int)][j]? = some u → w.cell? (ad.add j) = some u := fun j u hj => by
    cases j with
    | zero => simp at hj; rw [hx, hj]
    | succ j => simp at hj
  obtain ⟨rfl, hb, hlt, hle, hmax, hcell, hroom⟩ := h
  by_cases hr : l.length + 1 ≤ cap
  · have hrun := run_append_room_cells (P := Tryd.prog) (w := w) 62 ty 5 i0 Tryd.underlying62 hi g 0 l.length cap ad 1 c [.int .u8 (x.toNat : Int)] (by rw [hz1]; rfl) hnews (one_cell _) hr
      (fun j hj => by
        have : j = 0 := by simpa using hj
        subst this
        rw [hz1, show 0 + l.length * 1 + 0 = l.length by omega]
        exact (hroom l.length (Nat.le_refl _) (by omega)).1)
      (fun j hj => by
        have : j = 0 := by simpa using hj
        subst this
        rw [hz1, show 0 + l.length * 1 + 0 = l.length by omega]
        exact (hroom l.length (Nat.le_refl _) (by omega)).2)
    rw [hz1, show 0 + l.length * 1 = l.length by omega] at hrun
    have hw : w.setCells g l.length [.int .u8 (x.toNat : Int)] = w.setCell ⟨g, l.length, none⟩ (.int .u8 (x.toNat : Int)) := rfl
    rw [hw] at hrun
    have hsz : (w.setCell ⟨g, l.length, none⟩ (.int .u8 (x.toNat : Int))).heap.size = w.heap.size := by simp [World.setCell]
    obtain ⟨u, hu⟩ := Option.isSome_iff_exists.1 (hroom l.length (Nat.le_refl _) (by omega)).1
    refine ⟨_, _, g, cap, hrun, ⟨by simp, hb, by rw [hsz]; exact hlt, by simpa using hr, hmax, fun j hj => ?_, fun j h1 h2 => ?_⟩, ⟨rfl, rfl, rfl, Nat.le_of_eq hsz.symm, fun k hk hne => ?_⟩⟩
    · by_cases hjl : j < l.length
      · rw [World.cell?_setCell_other _ _ _ _ (fun e => by injection e; omega), hcell j hjl]
        simp [List.getElem_append_left hjl]
      · have hje : j = l.length := by simp at hj; omega
        subst hje
        rw [World.cell?_setCell_same _ _ _ hu]
        simp
    · have hj1 : l.length + 1 ≤ j := by simpa using h1
      rw [World.cell?_setCell_other _ _ _ _ (fun e => by injection e; omega), World.frozen?_setCell]
      exact hroom j (by omega) h2
    · exact Below.heap_setCell w _ _ k (fun e => hne (by rw [e]))
  · have hce : cap = l.length := by omega
    subst hce
    have holds : ∀ j u, (cells l)[j]? = some u → w.cell? ((⟨g, 0, none⟩ : Addr).add j) = some u := fun j u hj => by
      have hjl : j < l.length := by
        have := (List.getElem?_eq_some_iff.1 hj).1
        simpa [cells] using this
      have e : (⟨g, 0, none⟩ : Addr).add j = ⟨g, j, none⟩ := by unfold Addr.add; split <;> simp_all
      rw [e, hcell j hjl]
      unfold cells at hj
      rw [List.getElem?_map, List.getElem?_eq_getElem hjl] at hj
      exact hj
    have hns := Go.Room.nextslicecap_le' (need := l.length + 1) (old := l.length) (Nat.lt_succ_self _)
    have hrun := run_append_grow (P := Tryd.prog) (w := w) 62 ty 5 i0 _ Tryd.underlying62 hi hz0 ⟨g, 0, none⟩ l.length l.length (cells l) (by rw [hz1]; simp [cells]) holds ad 1 c [.int .u8 (x.toNat : Int)] (by rw [hz1]; rfl) hnews (Nat.lt_succ_self _) (by omega) (by rw [hz2]; omega)
    have hge := grownCap_ge w (l.length + 1) l.length 5
    have hgm := grownCap_le_maxLen w (l.length + 1) l.length 5 (by unfold maxLen; omega)
    generalize grownCap w (l.length + 1) l.length 5 = cap' at *
    have hrow : (cells l).toArray ++ #[Value.int .u8 (x.toNat : Int)] = (cells (l ++ [x])).toArray := by
      apply Array.ext'; simp [cells]
    have hrow2 : [Value.int .u8 (x.toNat : Int)].toArray = #[Value.int .u8 (x.toNat : Int)] := rfl
    rw [hrow2, hrow] at hrun
    generalize hC : (cells (l ++ [x])).toArray ++ Builtin.zeroCells (Value.int .u8 0).cells (cap' - (l.length + 1)) = C at hrun
    have hCs : C.size = cap' := by
      rw [← hC]; simp [cells, size_zeroCells, Value.cells]; omega
    have hCa : ∀ j (hj : j < (l ++ [x]).length), C[j]? = some (.int .u8 ((l ++ [x])[j].toNat : Int)) := fun j hj => by
      rw [← hC, Array.getElem?_append_left (by simpa [cells] using hj)]
      unfold cells
      rw [List.getElem?_toArray, List.getElem?_map, List.getElem?_eq_getElem hj]; rfl
    have hlast := heap_alloc_last w.drew (.cells C 5)
    have hcl : ∀ j, (w.drew.alloc (.cells C 5)).cell? ⟨w.heap.size, j, none⟩ = C[j]? := fun j => by
      show (match (w.drew.alloc _).heap[w.drew.heap.size]? with | some (.cells cs _ _) => cs[j]? | _ => none) = _
      rw [hlast]
    refine ⟨_, _, w.heap.size, cap', hrun, ⟨by simp, hBw, by simp, by simpa using hge, hgm, fun j hj => by rw [hcl, hCa j hj], fun j h1 h2 => ⟨?_, ?_⟩⟩, ?_⟩
    · rw [hcl, Array.getElem?_eq_getElem (by rw [hCs]; exact h2)]; rfl
    · show (match (w.drew.alloc _).heap[w.drew.heap.size]? with | some (.cells _ _ (lo, hi)) => decide (lo ≤ j) && decide (j < hi) | _ => false) = false
      rw [hlast]
      simp
    · have hb' : Below w.heap.size w (w.drew.alloc (.cells C 5)) := (Below.refl _ _).drew.alloc (Nat.le_refl _) _
      exact ⟨hb'.os, hb'.tape, hb'.output, hb'.size, fun k hk _ => hb'.block k hk⟩
theorem wpList_append_mbuf (w : World) {ops : Array Oper} {rest : List Oper} {o : Oper} {a : Act} {Q : Exit → Act → World → Prop} (hgd : o.guard = none) (s x : Operand)
    (ho : o.op = .call { callee := .builtin .append, args := #[s, x], argTypes := #[62, 62] })
    {B : Nat} {v : Value} {l : List UInt8} {g cap : Nat} (hs : a.eval s = v) (h : MBuf w B v l g cap) (hBw : B ≤ w.heap.size) (hlen : l.length + 1 ≤ 140737488355328)
    (ad : Addr) (c : Nat) (b : UInt8) (hx : a.eval x = .slice (some ad) 1 c) (hb : w.cell? (ad.add 0) = some (.int .u8 (b.toNat : Int)))
    (hn : ∀ v' w' g' cap', MBuf w' B v' (l ++ [b]) g' cap' → w.grownBy w' (some g) → wpList Tryd.prog ops Q rest (a.put o.dst v') w') : wpList Tryd.prog ops Q (o :: rest) a w :=
  wpList_plain hgd fun _ hK => by
    obtain ⟨v', w', g', cap', hrun, h2, h3⟩ := mbuf_append h hBw hlen o.type ad c b hb
    unfold Oper.wp execOp
    simp only [ho, resolve, invoke, builtin, Sem.run_bind, Sem.run_pure, Result.andThen_ok, List.map_toArray, List.map_cons, List.map_nil, hs, hx, hrun]
    exact hK _ _ (hn v' w' g' cap' h2 h3)
end Go.Proofs.YtlcpehmdhnakpaaDoor
namespace Go.Proofs.YtlcpehmdhnakpaaDoor

def regionOf (n : Nat) : Code → Option Code
  | .region i ops d => if i = n then some (.region i ops d) else none
  | .loop c => regionOf n c
  | .seq a b => match regionOf n a with
    | some c => some c
    | none => regionOf n b
  | .block _ c => regionOf n c
  | .scope c => regionOf n c
  | .cond _ a b => match regionOf n a with
    | some c => some c
    | none => regionOf n b
  | _ => none
def firstRegion : Code → Option Nat
  | .region i _ _ => some i
  | .loop c => firstRegion c
  | .seq a b => match firstRegion a with
    | some c => some c
    | none => firstRegion b
  | .block _ c => firstRegion c
  | .scope c => firstRegion c
  | .cond _ a b => match firstRegion a with
    | some c => some c
    | none => firstRegion b
  | _ => none
/-- the loop whose first region has this number -/
def loopOf (n : Nat) : Code → Option Code
  | .loop c => if firstRegion c = some n then some (.loop c) else loopOf n c
  | .seq a b => match loopOf n a with
    | some c => some c
    | none => loopOf n b
  | .block _ c => loopOf n c
  | .scope c => loopOf n c
  | .cond _ a b => match loopOf n a with
    | some c => some c
    | none => loopOf n b
  | _ => none
end Go.Proofs.YtlcpehmdhnakpaaDoor
namespace Go.Proofs.YtlcpehmdhnakpaaDoor
open Go.RowKit

/-- eight words as cells -/
def h0Cells (s : S8) : Array Value := #[.int .u32 (s.a.toNat : Int), .int .u32 (s.b.toNat : Int), .int .u32 (s.c.toNat : Int), .int .u32 (s.d.toNat : Int), .int .u32 (s.e.toNat : Int), .int .u32 (s.f.toNat : Int), .int .u32 (s.g.toNat : Int), .int .u32 (s.h.toNat : Int)]
def vlen : Value → Nat
  | .slice _ n _ => n
  | _ => 0
theorem vlen_mbuf {w : World} {B : Nat} {v : Value} {l : List UInt8} {g cap : Nat} (h : MBuf w B v l g cap) : vlen v = l.length := by rw [h.val]; rfl
theorem grown_below {B : Nat} {X w w' : World} {g : Nat} (h : Below B X w) (hB : B ≤ w.heap.size) (hg : w.grownBy w' (some g)) (hBg : B ≤ g) : Below B X w' := h.grown hg hB (fun j hj => by injection hj with hj; omega)
def kCells : Array Value := (kL.map fun x => Value.int .u32 (x.toNat : Int)).toArray
theorem kCells_at (i : Nat) (h : i < 64) : kCells[i]? = some (.int .u32 ((kAt i).toNat : Int)) := by
  have hl : i < kL.length := h
  unfold kCells kAt
  simp [List.getD, hl]
theorem kCells_size : kCells.size = 64 := by kernel_rfl
theorem kCells_one : kCells.all (·.oneCell') = true := by kernel_rfl
theorem Tryd.zero64 : (Tryd.prog.info? 65).map (fun i => (i.zero, i.size)) = some (some (.agg (Array.replicate 64 (.int .u32 0))), 64) := by kernel_rfl
/-- the schedule's array, so far -/
def wC (b : List UInt8) (p k : Nat) : Array Value := ((schedL b p k).map fun x => Value.int .u32 (x.toNat : Int)).toArray ++ Array.replicate (64 - k) (.int .u32 0)
theorem wC_zero (b : List UInt8) (p : Nat) : wC b p 0 = Array.replicate 64 (.int .u32 0) := by simp [wC, schedL]
theorem wC_size (b : List UInt8) (p k : Nat) (h : k ≤ 64) : (wC b p k).size = 64 := by simp [wC, schedL_len]; omega
theorem wC_at (b : List UInt8) (p k j : Nat) (h : j < k) : (wC b p k)[j]? = some (.int .u32 ((schedW b p j).toNat : Int)) := by
  have hl : j < (schedL b p k).length := by rw [schedL_len]; exact h
  unfold wC
  rw [Array.getElem?_append_left (by simpa using hl), ← schedL_at b p k j h]
  simp [List.getD, hl]
theorem wC_here (b : List UInt8) (p k : Nat) (h : k < 64) : (wC b p k)[k]? = some (.int .u32 0) := by
  unfold wC
  have e : k - ((schedL b p k).map fun x => Value.int .u32 (x.toNat : Int)).toArray.size = 0 := by simp [schedL_len]
  rw [Array.getElem?_append_right (by simp [schedL_len]), e, Array.getElem?_replicate, if_pos (by omega)]
theorem wC_next (b : List UInt8) (p k : Nat) (h : k < 64) : (wC b p k).setIfInBounds k (.int .u32 ((schedW b p k).toNat : Int)) = wC b p (k + 1) := by
  apply Array.ext_getElem?
  intro j
  rw [Array.getElem?_setIfInBounds, wC_size b p k (by omega)]
  by_cases hj : k = j
  · subst hj
    rw [if_pos rfl, if_pos h, wC_at b p (k + 1) k (by omega)]
  · rw [if_neg hj]
    by_cases hjk : j < k
    · rw [wC_at b p k j hjk, wC_at b p (k + 1) j (by omega)]
    · unfold wC
      rw [Array.getElem?_append_right (by simp [schedL_len]; omega), Array.getElem?_append_right (by simp [schedL_len]; omega)]
      simp only [Array.getElem?_replicate, List.size_toArray, List.length_map, schedL_len]
      by_cases h64 : j < 64
      · rw [if_pos (by omega), if_pos (by omega)]
      · rw [if_neg (by omega), if_neg (by omega)]
theorem wC_one (b : List UInt8) (p k : Nat) : ∀ v ∈ (wC b p k).toList, v.oneCell' = true := by
  intro v hv
  simp only [wC, Array.toList_append, List.mem_append, Array.toList_replicate] at hv
  rcases hv with h | h
  · obtain ⟨_, _, rfl⟩ := List.mem_map.1 h; rfl
  · obtain ⟨_, rfl⟩ := List.mem_replicate.1 h; rfl
theorem word_nat (b : List UInt8) (q : Nat) (h : q + 3 < b.length) : ((wordL b q).toNat : Int) = (b[q].toNat : Int) * 16777216 + (b[q + 1].toNat : Int) * 65536 + (b[q + 2].toNat : Int) * 256 + (b[q + 3].toNat : Int) := by
  have g : ∀ j (hj : j < b.length), b.getD j 0 = b[j] := fun j hj => by simp [List.getD, hj]
  unfold wordL
  rw [g q (by omega), g (q + 1) (by omega), g (q + 2) (by omega), g (q + 3) (by omega), UInt32.toNat_ofNat']
  have h0 := b[q].toNat_lt
  have h1 := b[q + 1].toNat_lt
  have h2 := b[q + 2].toNat_lt
  have h3 := b[q + 3].toNat_lt
  omega
theorem len_byte (n c : Nat) : (8 * (n : Int) / 2 ^ (8 * (7 - c)) % 256) = ((UInt8.ofNat (8 * n / 256 ^ (7 - c))).toNat : Int) := by
  have e : (256 : Nat) ^ (7 - c) = 2 ^ (8 * (7 - c)) := by rw [Nat.pow_mul]
  rw [e, UInt8.toNat_ofNat']
  have h : (8 * (n : Int) / 2 ^ (8 * (7 - c))) = ((8 * n / 2 ^ (8 * (7 - c)) : Nat) : Int) := by
    rw [Int.natCast_ediv, Int.natCast_mul, Int.natCast_pow]; rfl
  rw [h]; omega
theorem lenL_next (n c : Nat) (h : c < 8) : (lenL n).take (c + 1) = (lenL n).take c ++ [UInt8.ofNat (8 * n / 256 ^ (7 - c))] := by
  have hl : c < (lenL n).length := h
  rw [List.take_succ_eq_append_getElem hl]
  simp [lenL]
theorem arr_at (w : World) (C : Array Value) (t : TypeId) (k : Nat) (v : Value) (h : C[k]? = some v) : (w.alloc (.cells C t)).cell? ⟨w.heap.size, k, none⟩ = some v := by
  rw [← h]
  show (match (w.alloc _).heap[w.heap.size]? with | some (.cells cs _ _) => cs[k]? | _ => none) = _
  rw [heap_alloc_last]
theorem old_at (w : World) (o : Obj) (g k : Nat) (h : g < w.heap.size) : (w.alloc o).cell? ⟨g, k, none⟩ = w.cell? ⟨g, k, none⟩ := ((Below.refl w.heap.size w).alloc (Nat.le_refl _) o).cell (p := ⟨g, k, none⟩) h
end Go.Proofs.YtlcpehmdhnakpaaDoor
namespace Go.Proofs.YtlcpehmdhnakpaaDoor

theorem still_of_quiet {P : Program} {ops : Array Oper} {w1 : World} {Q : Act → Prop} : ∀ (l : List Oper) (a : Act), wpQuiet P ops (fun w => w = w1) Q l a → wpStill P ops w1 Q l a
  | [], _, h => h
  | o :: rest, a, h => by
    unfold wpStill
    unfold wpQuiet at h
    split at h
    · rename_i hw
      rw [if_pos hw]
      obtain ⟨v, hv, hn⟩ := h
      have h1 := hv w1 rfl
      unfold Oper.quietAt at h1
      unfold Oper.still
      generalize (execOp a.eval o).run P w1 = r at *
      cases r with
      | halt x w' => exact h1.elim
      | ok n w' =>
        cases n <;> simp only [Oper.quietUpon, Oper.stillUpon] at h1 ⊢
        case value u =>
          obtain ⟨e1, e2⟩ := h1
          exact ⟨e1, by rw [e2]; exact still_of_quiet rest _ hn⟩
        case skip =>
          obtain ⟨e1, e2⟩ := h1
          exact ⟨e1, by rw [← e2]; exact still_of_quiet rest _ hn⟩
        case enter f args =>
          obtain ⟨e1, hc⟩ := h1
          exact ⟨e1, v, hc, still_of_quiet rest _ hn⟩
        all_goals exact h1.elim
    · rename_i hw
      rw [if_neg hw]
      exact still_of_quiet rest _ h
theorem wp_region_quiet_tail {P : Program} {id : Nat} {Q : Exit → Act → World → Prop} {a : Act} {w : World} {l : List Oper} (n : Nat) (hm : P.follows .mixedOrders = true) (hB : Region.lexTailB .any l.toArray n = true)
    (h : wpQuiet P l.toArray (fun w' => w' = w.drew) (fun a' => wpList P l.toArray Q (l.drop n) a' w.drew) (l.take n) a) : (Code.region id l.toArray true).wp P Q a w :=
  wp_region_still_tail n hm hB (still_of_quiet _ _ h)
end Go.Proofs.YtlcpehmdhnakpaaDoor
namespace Go.Proofs.YtlcpehmdhnakpaaDoor
open Go.RowKit

theorem sched_int (x16 x15 x7 x2 : UInt32) : ((x16.toNat : Int) + bits .xor .u32 (bits .xor .u32 ((rotr x15 7).toNat : Int) ((rotr x15 18).toNat : Int)) ((x15.toNat : Int) / 8) + (x7.toNat : Int) + bits .xor .u32 (bits .xor .u32 ((rotr x2 17).toNat : Int) ((rotr x2 19).toNat : Int)) ((x2.toNat : Int) / 1024)) % 4294967296 =
    ((addW (addW (addW x16 (lo0 x15)) x7) (lo1 x2)).toNat : Int) := by
  have s3 : (x15.toNat : Int) / 8 = ((natW (x15.toNat / 8)).toNat : Int) := by
    have := x15.toNat_lt
    rw [natW_nat _ (by omega)]; omega
  have s10 : (x2.toNat : Int) / 1024 = ((natW (x2.toNat / 1024)).toNat : Int) := by
    have := x2.toNat_lt
    rw [natW_nat _ (by omega)]; omega
  rw [s3, s10, w_xor, w_xor, w_xor, w_xor, ← w_add, ← w_add, ← w_add]
  show ((x16.toNat : Int) + ((lo0 x15).toNat : Int) + (x7.toNat : Int) + ((lo1 x2).toNat : Int)) % 4294967296 = _
  omega
noncomputable def refLoop (n : Nat) : Code := (Tryd.f15.body.bind (loopOf n)).getD .skip
set_option maxRecDepth 100000 in
set_option maxHeartbeats 2000000 in
theorem refSched_loop {x0 x1 x2 x3 x4 x6 x7 x11 x12 x13 x14 x15 x16 x17 x18 x19 x20 x21 x22 x23 x24 x25 x26 x27 x28 x29 x30 x31 x32 x33 x34 x35 x36 x37 x38 x39 x40 x41 x42 x43 x44 x45 x46 x47 x48 x49 x50 x51 x52 x53 x54 x55 x56 x57 x58 x59 x60 x61 x62 x63 x64 x65 x66 x67 x68 x69 x70 x71 x72 x73 x74 x75 x76 x77 x78 x79 x80 x81 x82 x83 x84 x85 x86 x87 x88 x89 x90 x91 x92 x93 x94 x95 x96 x97 x98 x99 x100 x101 x102 x103 x104 x105 x106 x107 x108 x109 x110 x111 x112 x113 x114 x115 x116 x117 x118 x119 x120 x121 x122 x123 x124 x125 x126 x127 x128 x129 x130 x131 x132 x133 x134 x135 x136 x137 x138 x139 x140 x141 x142 x143 x144 x145 x146 x147 x148 x149 x150 x151 x152 x153 x154 x155 x156 x157 x158 x159 x160 x161 x162 x163 x164 x165 x166 x167 x168 x169 x170 x171 x172 x173 x174 x175 x176 x177 x178 x179 x180 x181 x182 x183 x184 x185 x186 x187 x188 x189 x190 x191 x192 x193 x194 x195 x196 x197 x198 x199 x200 x201 x202 x203 x204 x205 x206 x207 x208 x209 x210 x211 x212 x213 x214 x215 x216 x217 x218 x219 x220 x221 x222 x223 x224 x225 x226 x227 x228 x229 x230 x231 x232 x233 x234 x235 x236 x237 x238 x239 x240 x241 x242 x243 x244 x245 x246 x247 x248 x249 x250 x251 x252 x253 x254 x255 x256 x257 x258 x259 x260 x261 x262 x263 x264 x265 x266 x267 x268 x269 x270 x271 x272 x273 x274 x275 x276 : Value} (M : List UInt8) (p g cap : Nat) (wr : World) (Q : Exit → Act → World → Prop) (hpM : p + 64 ≤ M.length) (hMm : M.length ≤ 1048712)
    (hcl : ∀ j (hj : j < M.length), wr.cell? ⟨g, j, none⟩ = some (.int .u8 (M[j].toNat : Int))) (hgl : g < wr.heap.size)
    (hexit : ∀ (y10 y11 y12 y13 y58 y59 y60 y61 y62 y63 y64 y65 y66 y67 y68 y69 y70 y71 y72 y73 y74 y75 y76 y77 y78 y79 y80 y81 y82 y83 y84 y85 y86 y87 y88 y89 y90 y91 y92 y93 y94 y95 y96 y97 y98 y99 y100 y101 y102 y103 y104 y105 y106 y107 y108 y109 y110 y111 y112 y113 y114 y115 y116 y117 y118 y119 y120 y121 y122 y123 y124 y125 y126 y127 y128 y129 y130 y131 y132 y133 y134 y135 y136 y137 y138 y139 y140 y141 y142 y143 y144 y145 y146 y147 : Value) (q : Nat), Q (.exit 6) ⟨#[x0, x1, x2, x3, x4, .slice (some ⟨g, 0, none⟩) M.length cap, x6, x7, .int .i64 (p : Int), .pointer (some ⟨wr.heap.size, 0, none⟩), y10, y11, y12, y13, x14, x15, x16, x17, x18, x19, x20, x21, x22, x23, x24, x25, x26, x27, x28, x29, x30, x31, x32, x33, x34, x35, x36, x37, x38, x39, x40, x41, x42, x43, x44, x45, x46, x47, x48, x49, x50, x51, x52, x53, x54, x55, x56, x57, y58, y59, y60, y61, y62, y63, y64, y65, y66, y67, y68, y69, y70, y71, y72, y73, y74, y75, y76, y77, y78, y79, y80, y81, y82, y83, y84, y85, y86, y87, y88, y89, y90, y91, y92, y93, y94, y95, y96, y97, y98, y99, y100, y101, y102, y103, y104, y105, y106, y107, y108, y109, y110, y111, y112, y113, y114, y115, y116, y117, y118, y119, y120, y121, y122, y123, y124, y125, y126, y127, y128, y129, y130, y131, y132, y133, y134, y135, y136, y137, y138, y139, y140, y141, y142, y143, y144, y145, y146, y147, x148, x149, x150, x151, x152, x153, x154, x155, x156, x157, x158, x159, x160, x161, x162, x163, x164, x165, x166, x167, x168, x169, x170, x171, x172, x173, x174, x175, x176, x177, x178, x179, x180, x181, x182, x183, x184, x185, x186, x187, x188, x189, x190, x191, x192, x193, x194, x195, x196, x197, x198, x199, x200, x201, x202, x203, x204, x205, x206, x207, x208, x209, x210, x211, x212, x213, x214, x215, x216, x217, x218, x219, x220, x221, x222, x223, x224, x225, x226, x227, x228, x229, x230, x231, x232, x233, x234, x235, x236, x237, x238, x239, x240, x241, x242, x243, x244, x245, x246, x247, x248, x249, x250, x251, x252, x253, x254, x255, x256, x257, x258, x259, x260, x261, x262, x263, x264, x265, x266, x267, x268, x269, x270, x271, x272, x273, x274, x275, x276], []⟩ ((wr.alloc (.cells (wC M p 64) 65)).drewN q)) :
    Code.wp Tryd.prog (refLoop 16) Q ⟨#[x0, x1, x2, x3, x4, .slice (some ⟨g, 0, none⟩) M.length cap, x6, x7, .int .i64 (p : Int), .pointer (some ⟨wr.heap.size, 0, none⟩), .int .i64 0, x11, x12, x13, x14, x15, x16, x17, x18, x19, x20, x21, x22, x23, x24, x25, x26, x27, x28, x29, x30, x31, x32, x33, x34, x35, x36, x37, x38, x39, x40, x41, x42, x43, x44, x45, x46, x47, x48, x49, x50, x51, x52, x53, x54, x55, x56, x57, x58, x59, x60, x61, x62, x63, x64, x65, x66, x67, x68, x69, x70, x71, x72, x73, x74, x75, x76, x77, x78, x79, x80, x81, x82, x83, x84, x85, x86, x87, x88, x89, x90, x91, x92, x93, x94, x95, x96, x97, x98, x99, x100, x101, x102, x103, x104, x105, x106, x107, x108, x109, x110, x111, x112, x113, x114, x115, x116, x117, x118, x119, x120, x121, x122, x123, x124, x125, x126, x127, x128, x129, x130, x131, x132, x133, x134, x135, x136, x137, x138, x139, x140, x141, x142, x143, x144, x145, x146, x147, x148, x149, x150, x151, x152, x153, x154, x155, x156, x157, x158, x159, x160, x161, x162, x163, x164, x165, x166, x167, x168, x169, x170, x171, x172, x173, x174, x175, x176, x177, x178, x179, x180, x181, x182, x183, x184, x185, x186, x187, x188, x189, x190, x191, x192, x193, x194, x195, x196, x197, x198, x199, x200, x201, x202, x203, x204, x205, x206, x207, x208, x209, x210, x211, x212, x213, x214, x215, x216, x217, x218, x219, x220, x221, x222, x223, x224, x225, x226, x227, x228, x229, x230, x231, x232, x233, x234, x235, x236, x237, x238, x239, x240, x241, x242, x243, x244, x245, x246, x247, x248, x249, x250, x251, x252, x253, x254, x255, x256, x257, x258, x259, x260, x261, x262, x263, x264, x265, x266, x267, x268, x269, x270, x271, x272, x273, x274, x275, x276], []⟩ (wr.alloc (.cells (wC M p 0) 65)) := by
  have HE := Lib.hid hexit; clear hexit
  dsimp only []
  conv => arg 2; whnf
  go_loopw [10] (fun i W => ∃ k q : Nat, k ≤ 64 ∧ i = .int .i64 (k : Int) ∧ W = (wr.alloc (.cells (wC M p k) 65)).drewN q) (fun i _ => 64 - (intOf i).toNat)
  case atStart => exact ⟨0, 0, by omega, rfl, rfl⟩
  case round =>
    obtain ⟨k, q, hk, rfl, rfl⟩ := hrel
    by_cases hk64 : k < 64
    · have hd64 : decide ((k : Int) < 64) = true := by simp; omega
      by_cases hk16 : k < 16
      · have hd16 : decide ((k : Int) < 16) = true := by simp; omega
        have hQM : p + 4 * k + 3 < M.length := by omega
        have hwd := word_nat M (p + 4 * k) hQM
        rw [← schedW_first M p k hk16] at hwd
        have hnx := wC_next M p k hk64
        have d0 := (old_at wr (.cells (wC M p k) 65) g _ hgl).trans (hcl (p + 4 * k) (by omega))
        have d1 := (old_at wr (.cells (wC M p k) 65) g _ hgl).trans (hcl (p + 4 * k + 1) (by omega))
        have d2 := (old_at wr (.cells (wC M p k) 65) g _ hgl).trans (hcl (p + 4 * k + 2) (by omega))
        have d3 := (old_at wr (.cells (wC M p k) 65) g _ hgl).trans (hcl (p + 4 * k + 3) (by omega))
        have l0 := M[p + 4 * k].toNat_lt
        have l1 := M[p + 4 * k + 1].toNat_lt
        have l2 := M[p + 4 * k + 2].toNat_lt
        have l3 := M[p + 4 * k + 3].toNat_lt
        generalize M[p + 4 * k].toNat = b0 at *
        generalize M[p + 4 * k + 1].toNat = b1 at *
        generalize M[p + 4 * k + 2].toNat = b2 at *
        generalize M[p + 4 * k + 3].toNat = b3 at *
        generalize (schedW M p k).toNat = sw at *
        have hws := wC_size M p k hk
        generalize wC M p k = C at *
        have HWD := Lib.hid hwd; have HNX := Lib.hid hnx; have HCL := Lib.hid hcl; clear hwd hnx hcl
        go_wp2
        refine wp_region_quiet_tail 31 (by kernel_rfl) (by kernel_rfl) ?_
        simp only [List.take_succ_cons, List.take_zero, List.drop_succ_cons, List.drop_zero]
        repeat (go_big_quiet_step (fail))
        refine wpQuiet_nil ?_
        go_wp2
        go_roundw
        case rel => exact ⟨k + 1, q + 1, by omega, by go_num, by rw [arr_store, ← HWD.out, HNX.out]⟩
        case measure => simp [intOf]; omega
      · have hd16 : decide ((k : Int) < 16) = false := by simp; omega
        have hwd := schedW_next M p k (by omega)
        have hnx := wC_next M p k hk64
        have hal : ∀ x : Nat, x < k → (wr.alloc (.cells (wC M p k) 65)).cell? ⟨wr.heap.size, x, none⟩ = some (.int .u32 ((schedW M p x).toNat : Int)) := fun x hx => arr_at wr _ _ x _ (wC_at M p k x hx)
        have dk := arr_at wr (wC M p k) 65 k _ (wC_here M p k hk64)
        have d15 := hal (k - 15) (by omega)
        have d2 := hal (k - 2) (by omega)
        have d16 := hal (k - 16) (by omega)
        have d7 := hal (k - 7) (by omega)
        obtain ⟨n15, hn15⟩ : ∃ n, k - 15 = n := ⟨_, rfl⟩
        obtain ⟨n2, hn2⟩ : ∃ n, k - 2 = n := ⟨_, rfl⟩
        obtain ⟨n16, hn16⟩ : ∃ n, k - 16 = n := ⟨_, rfl⟩
        obtain ⟨n7, hn7⟩ : ∃ n, k - 7 = n := ⟨_, rfl⟩
        rw [hn15] at d15 hwd
        rw [hn2] at d2 hwd
        rw [hn16] at d16 hwd
        rw [hn7] at d7 hwd
        have w15 : IntKind.i64.wrap ((k : Int) - 15) = (n15 : Int) := by rw [IntKind.wrap_i64]; omega
        have w2 : IntKind.i64.wrap ((k : Int) - 2) = (n2 : Int) := by rw [IntKind.wrap_i64]; omega
        have w16 : IntKind.i64.wrap ((k : Int) - 16) = (n16 : Int) := by rw [IntKind.wrap_i64]; omega
        have w7 : IntKind.i64.wrap ((k : Int) - 7) = (n7 : Int) := by rw [IntKind.wrap_i64]; omega
        have b15 : (n15 : Int) < 64 := by omega
        have b2 : (n2 : Int) < 64 := by omega
        have b16 : (n16 : Int) < 64 := by omega
        have b7 : (n7 : Int) < 64 := by omega
        have bk : (k : Int) < 64 := by omega
        clear hal hcl hn15 hn2 hn16 hn7
        generalize schedW M p n15 = x15 at *
        generalize schedW M p n2 = x2 at *
        generalize schedW M p n16 = x16 at *
        generalize schedW M p n7 = x7 at *
        have hws := wC_size M p k hk
        generalize schedW M p k = xk at *
        generalize wC M p k = C at *
        have hsi := sched_int x16 x15 x7 x2
        rw [← hwd] at hsi
        clear hwd
        have HSI := Lib.hid hsi; have HNX := Lib.hid hnx; clear hsi hnx
        change ((wr.alloc (.cells C 65)).drewN q).cell? _ = _ at d15
        change ((wr.alloc (.cells C 65)).drewN q).cell? _ = _ at d2
        change ((wr.alloc (.cells C 65)).drewN q).cell? _ = _ at d16
        change ((wr.alloc (.cells C 65)).drewN q).cell? _ = _ at d7
        change ((wr.alloc (.cells C 65)).drewN q).cell? _ = _ at dk
        have fk : ((wr.alloc (.cells C 65)).drewN q).frozen? ⟨wr.heap.size, k, none⟩ = false := by simp
        generalize hW : (wr.alloc (.cells C 65)).drewN q = W at *
        have HW := Lib.hid hW; clear hW
        go_wp2
        go_quiet ((go_at_call 28; exact Calls.quiet_of_same (turn_q _ _ (by decide) (by decide) _)))
        go_wp2
        go_quiet ((go_at_call 28; exact quiet_more (turn_q _ _ (by decide) (by decide) _)))
        go_wp2
        generalize hE : bits .xor .u32 (bits .xor .u32 ((rotr x15 7).toNat : Int) ((rotr x15 18).toNat : Int)) ((x15.toNat : Int) / 8) = E1
        generalize hE2 : bits .xor .u32 (bits .xor .u32 ((rotr x2 17).toNat : Int) ((rotr x2 19).toNat : Int)) ((x2.toNat : Int) / 1024) = E2
        have HSI2 := HSI.out
        rw [hE, hE2] at HSI2
        have HS := Lib.hid HSI2
        clear hE hE2 HSI2 HSI
        refine wp_region_quiet_tail 15 (by kernel_rfl) (by kernel_rfl) ?_
        simp only [List.take_succ_cons, List.take_zero, List.drop_succ_cons, List.drop_zero]
        repeat (go_big_quiet_step (fail))
        refine wpQuiet_nil ?_
        go_wp2
        go_roundw
        case rel => exact ⟨k + 1, _, by omega, by go_num, by rw [← HW.out, HS.out]; simp only [World.drewN_drewN]; rw [arr_store, HNX.out]⟩
        case measure => simp [intOf]; omega
    · have hd64 : decide ((k : Int) < 64) = false := by simp; omega
      obtain rfl : k = 64 := by omega
      have HCL := Lib.hid hcl; clear hcl
      go_wp2
      exact HE.out _ _ _ _ _ _ _ _ _ _ _ _ _ _ _ _ _ _ _ _ _ _ _ _ _ _ _ _ _ _ _ _ _ _ _ _ _ _ _ _ _ _ _ _ _ _ _ _ _ _ _ _ _ _ _ _ _ _ _ _ _ _ _ _ _ _ _ _ _ _ _ _ _ _ _ _ _ _ _ _ _ _ _ _ _ _ _ _ _ _ _ _ _ _ _
end Go.Proofs.YtlcpehmdhnakpaaDoor
namespace Go.Proofs.YtlcpehmdhnakpaaDoor
open Go.RowKit

def S8.get (s : S8) : Nat → UInt32
  | 0 => s.a
  | 1 => s.b
  | 2 => s.c
  | 3 => s.d
  | 4 => s.e
  | 5 => s.f
  | 6 => s.g
  | _ => s.h
/-- an array of eight words -/
def eightC (f : Nat → UInt32) : Array Value := #[.int .u32 ((f 0).toNat : Int), .int .u32 ((f 1).toNat : Int), .int .u32 ((f 2).toNat : Int), .int .u32 ((f 3).toNat : Int), .int .u32 ((f 4).toNat : Int), .int .u32 ((f 5).toNat : Int), .int .u32 ((f 6).toNat : Int), .int .u32 ((f 7).toNat : Int)]
theorem eightC_at (f : Nat → UInt32) (i : Nat) (h : i < 8) : (eightC f)[i]? = some (.int .u32 ((f i).toNat : Int)) := by
  match i, h with
  | 0, _ => rfl
  | 1, _ => rfl
  | 2, _ => rfl
  | 3, _ => rfl
  | 4, _ => rfl
  | 5, _ => rfl
  | 6, _ => rfl
  | 7, _ => rfl
theorem eightC_set (f : Nat → UInt32) (i : Nat) (h : i < 8) (x : UInt32) : (eightC f).setIfInBounds i (.int .u32 (x.toNat : Int)) = eightC (fun j => if j = i then x else f j) := by
  match i, h with
  | 0, _ => rfl
  | 1, _ => rfl
  | 2, _ => rfl
  | 3, _ => rfl
  | 4, _ => rfl
  | 5, _ => rfl
  | 6, _ => rfl
  | 7, _ => rfl
theorem eightC_congr {f g : Nat → UInt32} (h : ∀ i, i < 8 → f i = g i) : eightC f = eightC g := by
  unfold eightC
  rw [h 0 (by decide), h 1 (by decide), h 2 (by decide), h 3 (by decide), h 4 (by decide), h 5 (by decide), h 6 (by decide), h 7 (by decide)]
theorem eightC_s (s : S8) : h0Cells s = eightC s.get := rfl
/-- shifted by one, down to j -/
def shiftF (s : S8) (j i : Nat) : UInt32 := if j < i then s.get (i - 1) else s.get i
theorem shiftF_next (s : S8) (j : Nat) (h : 0 < j) (h7 : j ≤ 7) : (eightC (shiftF s j)).setIfInBounds j (.int .u32 ((s.get (j - 1)).toNat : Int)) = eightC (shiftF s (j - 1)) := by
  rw [eightC_set _ _ (by omega)]
  apply eightC_congr
  intro i hi
  unfold shiftF
  by_cases e : i = j
  · subst e; rw [if_pos rfl, if_pos (by omega)]
  · rw [if_neg e]
    by_cases e2 : j < i
    · rw [if_pos e2, if_pos (by omega)]
    · rw [if_neg e2, if_neg (by omega)]
theorem shiftF_start (s : S8) : eightC (shiftF s 7) = h0Cells s := by
  rw [eightC_s]; apply eightC_congr; intro i hi; unfold shiftF; rw [if_neg (by omega)]
/-- added, up to i -/
def sumF (h s : S8) (k i : Nat) : UInt32 := if i < k then addW (h.get i) (s.get i) else h.get i
theorem sumF_next (h s : S8) (k : Nat) (hk : k < 8) : (eightC (sumF h s k)).setIfInBounds k (.int .u32 ((addW (h.get k) (s.get k)).toNat : Int)) = eightC (sumF h s (k + 1)) := by
  rw [eightC_set _ _ hk]
  apply eightC_congr
  intro i hi
  unfold sumF
  by_cases e : i = k
  · subst e; rw [if_pos rfl, if_pos (by omega)]
  · rw [if_neg e]
    by_cases e2 : i < k
    · rw [if_pos e2, if_pos (by omega)]
    · rw [if_neg e2, if_neg (by omega)]
theorem sumF_start (h s : S8) : eightC (sumF h s 0) = h0Cells h := by
  rw [eightC_s]; apply eightC_congr; intro i hi; unfold sumF; rw [if_neg (by omega)]
theorem sumF_end (h s : S8) : eightC (sumF h s 8) = h0Cells (addS h s) := rfl
theorem shiftF_end (s : S8) (x y : UInt32) : ((eightC (shiftF s 0)).setIfInBounds 4 (.int .u32 ((addW s.d x).toNat : Int))).setIfInBounds 0 (.int .u32 ((addW x y).toNat : Int)) = h0Cells ⟨addW x y, s.a, s.b, s.c, addW s.d x, s.e, s.f, s.g⟩ := rfl
theorem cell_of_heap {w : World} {b : Nat} {C : Array Value} {t : TypeId} {fr : Nat × Nat} (h : w.heap[b]? = some (.cells C t fr)) (k : Nat) : w.cell? ⟨b, k, none⟩ = C[k]? := by
  show (match w.heap[b]? with | some (.cells cs _ _) => cs[k]? | _ => none) = _
  rw [h]
theorem heap_set_cell {w : World} {b k : Nat} {C : Array Value} {t : TypeId} (h : w.heap[b]? = some (.cells C t)) (v : Value) : (w.setCell ⟨b, k, none⟩ v).heap[b]? = some (.cells (C.setIfInBounds k v) t) := by
  rw [setCell_eq_setRow w b k C t (0, 0) v h, setRow_heap w b _ _ t _ h]
theorem frozen_of_heap {w : World} {b k : Nat} {C : Array Value} {t : TypeId} (h : w.heap[b]? = some (.cells C t)) : w.frozen? ⟨b, k, none⟩ = false := by
  show (match w.heap[b]? with | some (.cells _ _ (lo, hi)) => decide (lo ≤ k) && decide (k < hi) | _ => false) = false
  rw [h]; simp
end Go.Proofs.YtlcpehmdhnakpaaDoor
namespace Go.Proofs.YtlcpehmdhnakpaaDoor
open Go.RowKit

/-- the bytes of the first words -/
def outN (s : S8) : Nat → List UInt8
  | 0 => []
  | k + 1 => outN s k ++ byte4 (s.get k)
theorem outN_len (s : S8) (k : Nat) : (outN s k).length = 4 * k := by
  induction k with
  | zero => rfl
  | succ k ih => rw [outN, List.length_append, ih]; show 4 * k + 4 = _; omega
theorem outN_all (s : S8) : outN s 8 = outL s := rfl
theorem byte4_cells (x : UInt32) : cells (byte4 x) = [Value.int .u8 (IntKind.u8.wrap ((x.toNat : Int) / 16777216)), .int .u8 (IntKind.u8.wrap ((x.toNat : Int) / 65536)), .int .u8 (IntKind.u8.wrap ((x.toNat : Int) / 256)), .int .u8 (IntKind.u8.wrap (x.toNat : Int))] := by
  have e : ∀ n : Nat, ((UInt8.ofNat n).toNat : Int) = (n : Int) % 256 := fun n => by rw [UInt8.toNat_ofNat']; omega
  have g : ∀ n : Int, IntKind.u8.wrap n = n % 256 := fun n => by rw [IntKind.wrap_u8]
  unfold byte4 cells
  simp only [List.map_cons, List.map_nil, e, g]
  have h1 : ((x.toNat / 16777216 : Nat) : Int) = (x.toNat : Int) / 16777216 := by omega
  have h2 : ((x.toNat / 65536 : Nat) : Int) = (x.toNat : Int) / 65536 := by omega
  have h3 : ((x.toNat / 256 : Nat) : Int) = (x.toNat : Int) / 256 := by omega
  rw [h1, h2, h3]
set_option maxRecDepth 100000 in
set_option maxHeartbeats 2000000 in
theorem refOut_loop {x0 x1 x2 x3 x5 x6 x7 x8 x9 x10 x11 x12 x13 x14 x15 x16 x17 x18 x19 x22 x23 x24 x25 x26 x27 x28 x29 x30 x31 x32 x33 x34 x35 x36 x37 x38 x39 x40 x41 x42 x43 x44 x45 x46 x47 x48 x49 x50 x51 x52 x53 x54 x55 x56 x57 x58 x59 x60 x61 x62 x63 x64 x65 x66 x67 x68 x69 x70 x71 x72 x73 x74 x75 x76 x77 x78 x79 x80 x81 x82 x83 x84 x85 x86 x87 x88 x89 x90 x91 x92 x93 x94 x95 x96 x97 x98 x99 x100 x101 x102 x103 x104 x105 x106 x107 x108 x109 x110 x111 x112 x113 x114 x115 x116 x117 x118 x119 x120 x121 x122 x123 x124 x125 x126 x127 x128 x129 x130 x131 x132 x133 x134 x135 x136 x137 x138 x139 x140 x141 x142 x143 x144 x145 x146 x147 x148 x149 x150 x151 x152 x153 x154 x155 x156 x157 x158 x159 x160 x161 x162 x163 x164 x165 x166 x167 x168 x169 x170 x171 x172 x173 x174 x175 x176 x177 x178 x179 x180 x181 x182 x183 x184 x185 x186 x187 x188 x189 x190 x191 x192 x193 x194 x195 x196 x197 x198 x199 x200 x201 x202 x203 x204 x205 x206 x207 x208 x209 x210 x211 x212 x213 x214 x215 x216 x217 x218 x219 x220 x221 x222 x223 x224 x225 x226 x227 x228 x229 x230 x231 x232 x233 x234 x235 x236 x237 x238 x239 x240 x241 x242 x243 x244 x245 x246 x247 x248 x249 x250 x251 x252 x253 x254 x255 x256 x257 x258 x259 x260 x261 x262 x263 x264 x265 x266 x267 x268 x269 x270 x271 x272 x273 x274 x275 x276 : Value} (X : World) (s : S8) (hb : Nat) (Q : Exit → Act → World → Prop) (hH : X.heap[hb]? = some (.cells (h0Cells s) 66))
    (hexit : ∀ (y21 y249 y250 y251 y252 y253 y254 y255 y256 y257 y258 y259 y260 y261 y262 y263 y264 y265 y266 y267 y268 y269 y270 y271 y272 y273 y274 : Value) (v : Value) W, Buf W X.heap.size v (outL s) → Below X.heap.size X W → Q (.exit 14) ⟨#[x0, x1, x2, x3, .pointer (some ⟨hb, 0, none⟩), x5, x6, x7, x8, x9, x10, x11, x12, x13, x14, x15, x16, x17, x18, x19, v, y21, x22, x23, x24, x25, x26, x27, x28, x29, x30, x31, x32, x33, x34, x35, x36, x37, x38, x39, x40, x41, x42, x43, x44, x45, x46, x47, x48, x49, x50, x51, x52, x53, x54, x55, x56, x57, x58, x59, x60, x61, x62, x63, x64, x65, x66, x67, x68, x69, x70, x71, x72, x73, x74, x75, x76, x77, x78, x79, x80, x81, x82, x83, x84, x85, x86, x87, x88, x89, x90, x91, x92, x93, x94, x95, x96, x97, x98, x99, x100, x101, x102, x103, x104, x105, x106, x107, x108, x109, x110, x111, x112, x113, x114, x115, x116, x117, x118, x119, x120, x121, x122, x123, x124, x125, x126, x127, x128, x129, x130, x131, x132, x133, x134, x135, x136, x137, x138, x139, x140, x141, x142, x143, x144, x145, x146, x147, x148, x149, x150, x151, x152, x153, x154, x155, x156, x157, x158, x159, x160, x161, x162, x163, x164, x165, x166, x167, x168, x169, x170, x171, x172, x173, x174, x175, x176, x177, x178, x179, x180, x181, x182, x183, x184, x185, x186, x187, x188, x189, x190, x191, x192, x193, x194, x195, x196, x197, x198, x199, x200, x201, x202, x203, x204, x205, x206, x207, x208, x209, x210, x211, x212, x213, x214, x215, x216, x217, x218, x219, x220, x221, x222, x223, x224, x225, x226, x227, x228, x229, x230, x231, x232, x233, x234, x235, x236, x237, x238, x239, x240, x241, x242, x243, x244, x245, x246, x247, x248, y249, y250, y251, y252, y253, y254, y255, y256, y257, y258, y259, y260, y261, y262, y263, y264, y265, y266, y267, y268, y269, y270, y271, y272, y273, y274, x275, x276], []⟩ W) :
    Code.wp Tryd.prog (refLoop 42) Q ⟨#[x0, x1, x2, x3, .pointer (some ⟨hb, 0, none⟩), x5, x6, x7, x8, x9, x10, x11, x12, x13, x14, x15, x16, x17, x18, x19, .slice none 0 0, .int .i64 0, x22, x23, x24, x25, x26, x27, x28, x29, x30, x31, x32, x33, x34, x35, x36, x37, x38, x39, x40, x41, x42, x43, x44, x45, x46, x47, x48, x49, x50, x51, x52, x53, x54, x55, x56, x57, x58, x59, x60, x61, x62, x63, x64, x65, x66, x67, x68, x69, x70, x71, x72, x73, x74, x75, x76, x77, x78, x79, x80, x81, x82, x83, x84, x85, x86, x87, x88, x89, x90, x91, x92, x93, x94, x95, x96, x97, x98, x99, x100, x101, x102, x103, x104, x105, x106, x107, x108, x109, x110, x111, x112, x113, x114, x115, x116, x117, x118, x119, x120, x121, x122, x123, x124, x125, x126, x127, x128, x129, x130, x131, x132, x133, x134, x135, x136, x137, x138, x139, x140, x141, x142, x143, x144, x145, x146, x147, x148, x149, x150, x151, x152, x153, x154, x155, x156, x157, x158, x159, x160, x161, x162, x163, x164, x165, x166, x167, x168, x169, x170, x171, x172, x173, x174, x175, x176, x177, x178, x179, x180, x181, x182, x183, x184, x185, x186, x187, x188, x189, x190, x191, x192, x193, x194, x195, x196, x197, x198, x199, x200, x201, x202, x203, x204, x205, x206, x207, x208, x209, x210, x211, x212, x213, x214, x215, x216, x217, x218, x219, x220, x221, x222, x223, x224, x225, x226, x227, x228, x229, x230, x231, x232, x233, x234, x235, x236, x237, x238, x239, x240, x241, x242, x243, x244, x245, x246, x247, x248, x249, x250, x251, x252, x253, x254, x255, x256, x257, x258, x259, x260, x261, x262, x263, x264, x265, x266, x267, x268, x269, x270, x271, x272, x273, x274, x275, x276], []⟩ X := by
  obtain ⟨i0, hi, hz0, hz1, hz2⟩ := info_parts Tryd.infoByte
  have HE := Lib.hid hexit; clear hexit
  have HH := Lib.hid hH
  have hlt : hb < X.heap.size := (Array.getElem?_eq_some_iff.1 hH).1
  clear hH
  dsimp only []
  conv => arg 2; whnf
  go_loopw [20, 21] (fun v i W => ∃ k : Nat, k ≤ 8 ∧ i = .int .i64 (k : Int) ∧ Buf W X.heap.size v (outN s k) ∧ Below X.heap.size X W) (fun _ i _ => 8 - (intOf i).toNat)
  case atStart => exact ⟨0, by omega, rfl, ⟨rfl, Or.inl ⟨rfl, rfl⟩⟩, Below.refl _ _⟩
  case round =>
    obtain ⟨k, hk, rfl, hown, hbl⟩ := hrel
    have hbs := hbl.size
    by_cases hk8 : k < 8
    · have hd : decide ((k : Int) < 8) = true := by simp; omega
      have bk : (k : Int) < 8 := by omega
      have hS := (hbl.block hb hlt).trans HH.out
      have d2 : wr.cell? ⟨hb, k, none⟩ = some (.int .u32 ((s.get k).toNat : Int)) := by rw [cell_of_heap hS, eightC_s, eightC_at _ _ hk8]
      have hl := outN_len s k
      have hc4 := byte4_cells (s.get k)
      have hn : outN s (k + 1) = outN s k ++ byte4 (s.get k) := rfl
      have hx : (s.get k).toNat < 4294967296 := (s.get k).toNat_lt
      have hb4 : (byte4 (s.get k)).length = 4 := rfl
      generalize byte4 (s.get k) = b4 at *
      generalize (s.get k).toNat = x at *
      have HC := Lib.hid hc4; have HN := Lib.hid hn; have HL := Lib.hid hl; have HB4 := Lib.hid hb4; clear hc4 hn hS hl hb4
      go_wp2
      have hltw : hb < wr.drew.heap.size := Nat.lt_of_lt_of_le hlt hbs
      have hne := World.new_ne wr ⟨hb, k, none⟩ d2
      go_region_held3 (fun w' => w'.cell? ⟨hb, k, none⟩ = some (.int .u32 (x : Int))) (first | go_keep | exact (((Below.refl X.heap.size _).grown hg' (by simp; omega) (fun j hj => (hown.lt j hj).1)).cell (p := ⟨hb, k, none⟩) hlt).trans ((old_at wr.drew _ hb k hltw).trans d2))
        ((refine step_append_own rfl (.tmp 253) (.tmp 273) 62 rfl X.heap.size 5 i0 _ 1 1 Tryd.underlying62 hi hz0 hz1 hz2 rfl (by decide) _ _ _ rfl (World.ownsRow.alloc (World.ownsRow.drew hown) _) ⟨_, 0, none⟩ 4 4 [.int .u8 _, .int .u8 _, .int .u8 _, .int .u8 _] rfl rfl (new_cells _ #[_, _, _, _] _) (four_cells _ _ _ _) (by unfold maxLen; have := HL.out; omega) (by have := HL.out; omega) (by simp; omega) ?_; intro v' w1 hown' hg' hn'))
      have hb1 : Below X.heap.size X w1 := (hbl.drew.alloc hbs _).grown hg' (by simp; omega) (fun j hj => (hown.lt j hj).1)
      go_wp2
      go_roundw
      case rel => exact ⟨k + 1, by omega, by go_num, Buf.cut hown' (by rw [HN.out, List.length_append, HB4.out]) (by rw [HN.out, cells_app, HC.out]), hb1⟩
      case measure => simp [intOf]; omega
    · have hd : decide ((k : Int) < 8) = false := by simp; omega
      obtain rfl : k = 8 := by omega
      go_wp2
      exact HE.out _ _ _ _ _ _ _ _ _ _ _ _ _ _ _ _ _ _ _ _ _ _ _ _ _ _ _ _ wr hown hbl
end Go.Proofs.YtlcpehmdhnakpaaDoor
namespace Go.Proofs.YtlcpehmdhnakpaaDoor
open Go.RowKit

end Go.Proofs.YtlcpehmdhnakpaaDoor
namespace Go.Proofs.YtlcpehmdhnakpaaDoor
open Go.RowKit

end Go.Proofs.YtlcpehmdhnakpaaDoor
namespace Go.Proofs.YtlcpehmdhnakpaaDoor
open Go.RowKit

end Go.Proofs.YtlcpehmdhnakpaaDoor
namespace Go.Proofs.YtlcpehmdhnakpaaDoor
open Go.RowKit

end Go.Proofs.YtlcpehmdhnakpaaDoor
namespace Go.Proofs.YtlcpehmdhnakpaaDoor
open Go.RowKit

end Go.Proofs.YtlcpehmdhnakpaaDoor
