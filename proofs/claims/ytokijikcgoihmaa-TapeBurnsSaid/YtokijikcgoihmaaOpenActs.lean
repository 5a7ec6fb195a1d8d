/- An argument that is a slice of acts (layers 10 to 12): two whole numbers and bytes each. -/
import Derived.Test.YtokijikcgoihmaaOpenBytes
namespace Go.Proofs.Ytokijikcgoihmaa
open Go.ChangeShapes Go.WideShapes Go.ChangeAt Go.RowKit
set_option linter.unusedVariables false

theorem spot_none_b {W : World} {a : Addr} {v : Value} (h : W.cell? a = some v) : a = ⟨a.block, a.off, none⟩ ∧ a.block < W.heap.size := by
  obtain ⟨b, o, sp⟩ := a
  unfold World.cell? at h
  split at h
  · rename_i hb
    cases sp with
    | none => exact ⟨rfl, (Array.getElem?_eq_some_iff.1 hb).1⟩
    | some z => simp at h
  · cases h
set_option maxRecDepth 100000 in
/-- a cell that is a slice of bytes, as bytes -/
theorem bytes_of_trod {H : Type} {enc : TypeId × Value → H} {W : World} {fuel : Nat} {cs : List Value} {x : DataW H × List MemPlace}
    (h : DataW.trod enc Try.prog W 0 (fun _ => true) true fuel 28 cs = some x) :
    ∃ (A : Option Addr) (c : Nat) (l : List UInt8), cs = [.slice A l.length c] ∧ RdW W (.slice A l.length c) l := by
  rcases Go.Deep.open_slice1 Try.underlying28 Try.cellsByte h with ⟨rfl, rfl⟩ | ⟨a, len, cap, m, n, V, D, Pl, rfl, _, hl, hm, hmm, rfl, hi⟩
  · exact ⟨none, 0, [], rfl, (RdAt.nil _).weak⟩
  · simp only [if_true] at hmm
    subst hmm
    have hm2 : m ≤ 9223372036854775807 := by unfold maxLen at hm; omega
    by_cases h0 : m = 0
    · subst h0
      obtain rfl : len = 0 := by omega
      exact ⟨some a, 0, [], rfl, some a, 0, rfl, Nat.le_refl _, Nat.zero_le _, .inl ⟨rfl, rfl⟩⟩
    · obtain ⟨he, hg⟩ := spot_none_b (hi 0 (by omega)).1
      have he : a = ⟨a.block, a.off, none⟩ := by
        obtain ⟨b, o, sp⟩ := a
        simp only [Addr.add] at he
        injection he with e1 e2 e3
        simp only at e3 ⊢
        rw [e3]
      have hg : a.block < W.heap.size := by simpa [Addr.add] using hg
      have hall : ∀ i, ∃ x : UInt8, i < m → W.cell? (a.add i) = some (.int .u8 (x.toNat : Int)) := by
        intro i
        by_cases him : i < m
        · obtain ⟨h1, h2⟩ := hi i him
          obtain ⟨n', hn', _, hw⟩ := DataW.trod_int Try.underlying5 h2
          obtain ⟨c, rfl⟩ := byte_ex hw
          rw [List.singleton_inj] at hn'
          exact ⟨c, fun _ => by rw [h1, hn']⟩
        · exact ⟨0, fun h => absurd h him⟩
      obtain ⟨f, hf⟩ := Classical.axiomOfChoice hall
      refine ⟨some a, m, (List.range len).map f, by simp, some a, m, rfl, by simpa using hl, hm2, .inr ⟨a.block, a.off, by rw [← he], hg, fun j u hu => ?_⟩⟩
      have hj : j < len := by
        have := (List.getElem?_eq_some_iff.1 hu).1
        simpa [cells] using this
      rw [← he, hf j (by omega)]
      simp [cells, hj] at hu
      rw [← hu]
/-- an act, as it lies: two whole numbers, the bytes' slice, the bytes -/
structure ActP where
  what : Int
  n : Int
  bv : Value
  l : List UInt8
/-- a slice that reads as these acts -/
def Acts (w : World) (A : Option Addr) (l : List ActP) : Prop :=
  ∀ k a, l[k]? = some a → ∃ g o, A = some ⟨g, o, none⟩ ∧ g < w.heap.size ∧ w.cell? ⟨g, o + k * 3, none⟩ = some (.int .i64 a.what) ∧ w.cell? ⟨g, o + k * 3 + 1, none⟩ = some (.int .i64 a.n) ∧ w.cell? ⟨g, o + k * 3 + 2, none⟩ = some a.bv ∧
    (Lit.int .i64 a.what).wf = true ∧ (Lit.int .i64 a.n).wf = true ∧ RdW w a.bv a.l
theorem Acts.below {w w' : World} {A : Option Addr} {l : List ActP} (h : Acts w A l) (hb : Below w.heap.size w w') : Acts w' A l := fun k a hk => by
  obtain ⟨g, o, rfl, hg, h1, h2, h3, h4, h5, h6⟩ := h k a hk
  have he := hb.block g hg
  exact ⟨g, o, rfl, Nat.lt_of_lt_of_le hg hb.size, (World.cell?_of_block he).trans h1, (World.cell?_of_block he).trans h2, (World.cell?_of_block he).trans h3, h4, h5, h6.below hb⟩
theorem Try.cellsAct : Try.prog.cellsOf 30 = 3 := by kernel_rfl
theorem Try.cellsIntA : Try.prog.cellsOf 3 = 1 := by kernel_rfl
theorem Try.cellsBsA : Try.prog.cellsOf 28 = 1 := by kernel_rfl
theorem Try.bytesAct : Try.prog.bytesOf 30 = 40 := by kernel_rfl
set_option maxRecDepth 100000 in
/-- three cells that read as an act -/
theorem open_act {H : Type} {enc : TypeId × Value → H} {W : World} {n : Nat} {cs : List Value} {x : DataW H × List MemPlace}
    (h : DataW.trod enc Try.prog W 0 (fun _ => true) true n 30 cs = some x) : ∃ a : ActP, cs = [.int .i64 a.what, .int .i64 a.n, a.bv] ∧ (Lit.int .i64 a.what).wf = true ∧ (Lit.int .i64 a.n).wf = true ∧ RdW W a.bv a.l := by
  obtain ⟨xs, m, _, hx, hlen, hxl, hf⟩ := DataW.trod_struct Try.underlying30 h
  rw [Try.cellsAct] at hlen
  match cs, hlen with
  | [c0, c1, c2], _ =>
    have h0 : DataW.trod enc Try.prog W 0 (fun _ => true) true m 3 [c0] = xs[0]? := by
      have := hf 0 { name := "What", type := 3, offset := 0, embedded := false, tag := "", pkgPath := "", byteOffset := 0 } rfl
      rwa [Try.cellsIntA] at this
    have h1 : DataW.trod enc Try.prog W 0 (fun _ => true) true m 3 [c1] = xs[1]? := by
      have := hf 1 { name := "N", type := 3, offset := 1, embedded := false, tag := "", pkgPath := "", byteOffset := 8 } rfl
      rwa [Try.cellsIntA] at this
    have h2 : DataW.trod enc Try.prog W 0 (fun _ => true) true m 28 [c2] = xs[2]? := by
      have := hf 2 { name := "B", type := 28, offset := 2, embedded := false, tag := "", pkgPath := "", byteOffset := 16 } rfl
      rwa [Try.cellsBsA] at this
    match xs, hxl with
    | [y0, y1, y2], _ =>
      simp only [List.getElem?_cons_zero, List.getElem?_cons_succ] at h0 h1 h2
      obtain ⟨a, ha, _, wa⟩ := DataW.trod_int Try.underlying3 h0
      obtain ⟨b, hb, _, wb⟩ := DataW.trod_int Try.underlying3 h1
      obtain ⟨A, c, l, hc, hr⟩ := bytes_of_trod h2
      rw [List.singleton_inj] at ha hb hc
      exact ⟨⟨a, b, .slice A l.length c, l⟩, by rw [ha, hb, hc], wa, wb, hr⟩
set_option maxRecDepth 100000 in
/-- what is read of a slice of acts: the acts -/
theorem open_acts {H : Type} {enc : TypeId × Value → H} {W : World} {base : Nat} {v : Value} {d : DataW H} {ps : List MemPlace} (hval : Value.okWide Try.prog W .any base 22 v)
    (hd : DataW.Trod enc Try.prog W 0 (fun _ => true) true 22 v d ps) (hlt : ∀ x ∈ ps, x.block < W.heap.size) (hwt : ∀ n ∈ d.weights Try.prog 22, n ≤ reachBytes) :
    ∃ (A : Option Addr) (c : Nat) (l : List ActP), v = .slice A l.length c ∧ Acts W A l ∧ l.length ≤ reachBytes := by
  obtain ⟨a0, len, cap, rfl⟩ := okWide_slice Try.underlying22 hval
  obtain ⟨fuel, hf⟩ := hd
  rcases Go.Deep.open_slice Try.underlying22 hf with ⟨hcs, hx⟩ | ⟨a, len', cap', m, n, D, Pl, hcs, _, hl, hm, hmm, hx, hi⟩
  · simp [Value.cells] at hcs
    obtain ⟨rfl, rfl, rfl⟩ := hcs
    exact ⟨none, 0, [], rfl, fun k a hk => by simp at hk, Nat.zero_le _⟩
  · simp [Value.cells] at hcs
    obtain ⟨rfl, rfl, rfl⟩ := hcs
    simp only [if_true] at hmm
    subst hmm
    rw [Try.cellsAct] at hi hx
    have hsp : 0 < m → a = ⟨a.block, a.off, none⟩ ∧ a.block < W.heap.size := by
      intro h0
      obtain ⟨cs', hc, ht'⟩ := hi 0 h0
      obtain ⟨u, rfl, _⟩ := open_act ht'
      obtain ⟨_, _, hat⟩ := World.cells?_some hc
      have a0 := hat 0 (by simp)
      rw [Nat.zero_mul] at a0
      simp only [Addr.add, if_true] at a0
      exact spot_none_b a0
    have hall : ∀ i, ∃ x : ActP, i < m → a = ⟨a.block, a.off, none⟩ ∧ a.block < W.heap.size ∧ W.cell? ⟨a.block, a.off + i * 3, none⟩ = some (.int .i64 x.what) ∧ W.cell? ⟨a.block, a.off + i * 3 + 1, none⟩ = some (.int .i64 x.n) ∧ W.cell? ⟨a.block, a.off + i * 3 + 2, none⟩ = some x.bv ∧ (Lit.int .i64 x.what).wf = true ∧ (Lit.int .i64 x.n).wf = true ∧ RdW W x.bv x.l := by
      intro i
      by_cases him : i < m
      · obtain ⟨cs', hc, ht'⟩ := hi i him
        obtain ⟨u, rfl, w1, w2, w3⟩ := open_act ht'
        obtain ⟨_, _, hat⟩ := World.cells?_some hc
        have a0 := hat 0 (by simp)
        have a1 := hat 1 (by simp)
        have a2 := hat 2 (by simp)
        obtain ⟨e1, e2⟩ := hsp (by omega)
        rw [e1, Addr.add_lit, Addr.add_lit] at a0 a1 a2
        exact ⟨u, fun _ => ⟨e1, e2, by simpa using a0, by simpa using a1, by simpa using a2, w1, w2, w3⟩⟩
      · exact ⟨⟨0, 0, .int .i64 0, []⟩, fun h => absurd h him⟩
    obtain ⟨f, hf⟩ := Classical.axiomOfChoice hall
    simp only [Prod.mk.injEq] at hx
    have hlen : len ≤ reachBytes := by
      have := hwt ((len + (m - len)) * Try.prog.bytesOf 30) (by rw [hx.1]; simp [DataW.weights, Try.underlying22])
      rw [Try.bytesAct] at this
      omega
    refine ⟨some a, m, (List.range len).map f, by simp, fun k x hk => ?_, by simpa using hlen⟩
    obtain ⟨hk1, rfl⟩ := List.getElem?_eq_some_iff.1 hk
    have hk' : k < len := by simpa using hk1
    obtain ⟨h1, h2, h3, h4, h5, h6, h7, h8⟩ := hf k (by omega)
    simp only [List.getElem_map, List.getElem_range]
    exact ⟨a.block, a.off, by rw [← h1], h2, h3, h4, h5, h6, h7, h8⟩
end Go.Proofs.Ytokijikcgoihmaa
