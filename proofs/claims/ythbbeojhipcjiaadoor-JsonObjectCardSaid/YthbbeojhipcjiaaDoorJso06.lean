/- Texts merged by program, in build order: Prs, Get, Seen, OpenPairs, JsonObj, JsonRows, JsonObject. -/
import Derived.Test.YthbbeojhipcjiaaDoorJso05
import Derived.Maps.OwnSet
import Derived.ProofKit
import Derived.ChangeMaps5
import Derived.Deep.Slices
import Derived.SizedLaws
import Derived.Test.YthbbeojhipcjiaaDoorJso02
import Derived.Laws.AppendOwnNone
import Derived.Deep.WholeRow
namespace Go.Proofs.YthbbeojhipcjiaaDoor
open Go.RowKit

theorem Tryd.infoPair : (Tryd.prog.info? 52).map (fun i => (i.zero, i.size, i.bytes)) = some (some (.agg #[.string ⟨#[]⟩, .string ⟨#[]⟩]), 2, 32) := by kernel_rfl
/-- pairs as cells -/
def pcells : PL → List Value
  | [] => []
  | p :: r => .string ⟨p.1.toArray⟩ :: .string ⟨p.2.toArray⟩ :: pcells r
theorem pcells_app (a b : PL) : pcells (a ++ b) = pcells a ++ pcells b := by
  induction a with
  | nil => rfl
  | cons p a ih => simp [pcells, ih]
theorem pcells_snoc (l : PL) (p : List UInt8 × List UInt8) : pcells (l ++ [p]) = pcells l ++ [.string ⟨p.1.toArray⟩, .string ⟨p.2.toArray⟩] := by rw [pcells_app]; rfl
theorem pcells_len (l : PL) : (pcells l).length = l.length * 2 := by
  induction l with
  | nil => rfl
  | cons p l ih => simp [pcells, ih]; omega
theorem pcells_key (l : PL) (k : Nat) (h : k < l.length) : (pcells l)[k * 2]? = some (.string ⟨l[k].1.toArray⟩) := by
  induction l generalizing k with
  | nil => simp at h
  | cons p l ih =>
    cases k with
    | zero => rfl
    | succ k => rw [Nat.succ_mul]; simp only [pcells, List.getElem?_cons_succ, List.getElem_cons_succ]; exact ih k (by simpa using h)
theorem pcells_val (l : PL) (k : Nat) (h : k < l.length) : (pcells l)[k * 2 + 1]? = some (.string ⟨l[k].2.toArray⟩) := by
  induction l generalizing k with
  | nil => simp at h
  | cons p l ih =>
    cases k with
    | zero => rfl
    | succ k => rw [Nat.succ_mul]; simp only [pcells, List.getElem?_cons_succ, List.getElem_cons_succ]; exact ih k (by simpa using h)
theorem pair_cells (a b : ByteArray) : ∀ u ∈ [Value.string a, Value.string b], u.oneCell' = true := by
  intro u hu; simp at hu; rcases hu with rfl | rfl <;> rfl
/-- a row of pairs of the call's own -/
def PRow (w : World) (B : Nat) (v : Value) (l : PL) : Prop := w.ownsRow B 52 2 v l.length (pcells l)
theorem PRow.cut {w : World} {B : Nat} {v : Value} {n : Nat} {l : PL} {xs : List Value} (h : w.ownsRow B 52 2 v n xs) (hn : n = l.length) (hx : xs = pcells l) : PRow w B v l := by subst hn; subst hx; exact h
theorem PRow.below {w w' : World} {B : Nat} {v : Value} {l : PL} (h : PRow w B v l) (hb : Below w.heap.size w w') : PRow w' B v l :=
  World.ownsRow.kept (row := none) h ⟨hb.os, hb.tape, hb.output, hb.size, fun k hk _ => hb.block k hk⟩ (by
    rcases h.2 with ⟨rfl, _⟩ | ⟨g, cap, cur, rfl, _⟩
    · exact .inl rfl
    · exact .inr (by simp [Value.ownBlock]))
theorem prow_form {w : World} {B : Nat} {v : Value} {l : PL} (h : PRow w B v l) : ∃ A c, v = .slice A l.length c := by
  rcases h.2 with ⟨rfl, h0⟩ | ⟨g, cap, cur, rfl, _⟩
  · exact ⟨none, 0, by rw [h0]⟩
  · exact ⟨_, _, rfl⟩
theorem PRow.nil (w : World) (B : Nat) : PRow w B (.slice none 0 0) [] := World.ownsRow_nil _ _ _ _

/-- what Parse answers -/
def parseE (l : List UInt8) : Int := if 4096 < l.length then 3 else match formL l with
  | none => 2
  | some ps => if 64 < ps.length then 3 else 0
def parseP (l : List UInt8) : PL := if 4096 < l.length then [] else match formL l with
  | none => []
  | some ps => if 64 < ps.length then [] else ps
theorem parse_large {l : List UInt8} (h : 4096 < l.length) : parseE l = 3 ∧ parseP l = [] := by simp [parseE, parseP, h]
theorem parse_none {l : List UInt8} (h : l.length ≤ 4096) (hf : formL l = none) : parseE l = 2 ∧ parseP l = [] := by
  unfold parseE parseP; rw [if_neg (by omega), if_neg (by omega), hf]; exact ⟨rfl, rfl⟩
theorem parse_many {l : List UInt8} {ps : PL} (h : l.length ≤ 4096) (hf : formL l = some ps) (hp : 64 < ps.length) : parseE l = 3 ∧ parseP l = [] := by
  unfold parseE parseP; rw [if_neg (by omega), if_neg (by omega), hf]; simp only [if_pos hp, and_self]
theorem parse_some {l : List UInt8} {ps : PL} (h : l.length ≤ 4096) (hf : formL l = some ps) (hp : ps.length ≤ 64) : parseE l = 0 ∧ parseP l = ps := by
  unfold parseE parseP; rw [if_neg (by omega), if_neg (by omega), hf]; simp only [if_neg (show ¬ 64 < ps.length by omega), and_self]
theorem ret_ve {v : Value} {a b : Int} (h : a = b) : Ending.returned (.tuple #[v, .int .i64 a]) = .returned (.tuple #[v, .int .i64 b]) := by rw [h]
end Go.Proofs.YthbbeojhipcjiaaDoor
namespace Go.Proofs.YthbbeojhipcjiaaDoor
open Go.RowKit

/-- a slice's cells read as these pairs, and lie below block B -/
def Prs (w : World) (B : Nat) (A : Option Addr) (l : PL) : Prop :=
  ∀ k (h : k < l.length), ∃ a : Addr, A = some a ∧ a.block < B ∧ w.cell? (a.add (k * 2)) = some (.string ⟨l[k].1.toArray⟩) ∧ w.cell? ⟨(a.add (k * 2)).block, (a.add (k * 2)).off + 1, none⟩ = some (.string ⟨l[k].2.toArray⟩)
theorem add_block (a : Addr) (n : Nat) : (a.add n).block = a.block := by unfold Addr.add; split <;> rfl
theorem add_next (a : Addr) (n : Nat) : (⟨(a.add n).block, (a.add n).off + 1, none⟩ : Addr) = a.add (n + 1) := by
  unfold Addr.add
  by_cases h : n = 0
  · simp [h]
  · simp [h]; omega
theorem Prs.keep {w w' : World} {B : Nat} {A : Option Addr} {l : PL} (h : Prs w B A l) (hk : ∀ p : Addr, p.block < B → w'.cell? p = w.cell? p) : Prs w' B A l := fun k hl => by
  obtain ⟨a, e, hb, h1, h2⟩ := h k hl
  exact ⟨a, e, hb, (hk _ (by rw [add_block]; exact hb)).trans h1, (hk _ (by show (a.add (k * 2)).block < B; rw [add_block]; exact hb)).trans h2⟩
theorem Prs.below {w w' : World} {B : Nat} {A : Option Addr} {l : PL} (h : Prs w B A l) (hb : Below B w w') : Prs w' B A l := h.keep fun _ hp => hb.cell hp
theorem Prs.more {w : World} {B B' : Nat} {A : Option Addr} {l : PL} (h : Prs w B A l) (hB : B ≤ B') : Prs w B' A l := fun k hl => by
  obtain ⟨a, e, hb, h1, h2⟩ := h k hl
  exact ⟨a, e, by omega, h1, h2⟩
theorem Prs.nil (w : World) (B : Nat) (A : Option Addr) : Prs w B A [] := fun _ hl => absurd hl (Nat.not_lt_zero _)
/-- a row of the call's own reads as its pairs -/
theorem PRow.reads {w : World} {B : Nat} {v : Value} {l : PL} (h : PRow w B v l) : ∃ A c, v = .slice A l.length c ∧ Prs w w.heap.size A l := by
  rcases h.2 with ⟨rfl, h0⟩ | ⟨g, cap, cur, rfl, hB, hg, _⟩
  · obtain rfl : l = [] := List.length_eq_zero_iff.1 h0
    exact ⟨none, 0, rfl, Prs.nil _ _ _⟩
  · refine ⟨_, _, rfl, fun k hk => ⟨_, rfl, (Array.getElem?_eq_some_iff.1 hg).1, ?_, ?_⟩⟩
    · exact h.cells (g := g) rfl _ _ (pcells_key l k hk)
    · rw [add_next]
      exact h.cells (g := g) rfl _ _ (pcells_val l k hk)
end Go.Proofs.YthbbeojhipcjiaaDoor
namespace Go.Proofs.YthbbeojhipcjiaaDoor
open Go.RowKit

open Go.Maps
theorem zeroUnit (w : World) : (zeroValue 53).run Tryd.prog w = .ok (.agg #[]) w := by kernel_rfl
theorem run_makeMapHint {P : Program} (t k e : TypeId) (kd : IntKind) (n : Int) (ht : P.underlying t = some (.map k e)) (w : World) :
    (Instr.makeMap t (some (.int kd n))).run P w = .ok (.map (some w.heap.size)) (w.alloc (.map #[] 0)) := by
  simp [Instr.makeMap, run_underlying ht]; rfl
theorem lawStr : Keyed Tryd.prog 9 := string_keyed Tryd.underlying9
/-- the keys of the first k, as a set -/
def seenAt (l : PL) (k : Nat) : DataW Unit := setOf (.agg []) ((l.take k).map fun p => Lit.string p.1)
theorem seen_next (l : PL) (k : Nat) (h : k < l.length) : seenAt l (k + 1) = (seenAt l k).put (.string l[k].1) (.agg []) := by
  unfold seenAt
  rw [List.take_succ_eq_append_getElem h, List.map_append, List.map_singleton, setOf_snoc]
theorem str_sameKey (a b : List UInt8) : (Lit.string a).sameKey (.string b) = decide (a = b) := by
  show (a == b) = _
  rw [Bool.eq_iff_iff]; simp
theorem seen_has (l : PL) (k : Nat) (x : List UInt8) : Maps.has (seenAt l k) (.string x) = (l.take k).any (fun p => decide (p.1 = x)) := by
  unfold seenAt
  rw [has_setOf _ _ _ (fun y hy => by obtain ⟨_, _, rfl⟩ := List.mem_map.1 hy; trivial), List.any_map]
  congr 1; funext p; exact str_sameKey _ _
theorem seen_yes {l : PL} {k : Nat} {x : List UInt8} (h : Maps.has (seenAt l k) (.string x) = true) : ∃ j, ∃ hj : j < l.length, j < k ∧ l[j].1 = x := by
  rw [seen_has, List.any_eq_true] at h
  obtain ⟨p, hp, he⟩ := h
  obtain ⟨j, hj, rfl⟩ := List.getElem_of_mem hp
  rw [List.length_take] at hj
  refine ⟨j, by omega, by omega, ?_⟩
  have : (l.take k)[j] = l[j] := List.getElem_take
  rw [this] at he
  simpa using he
theorem seen_no {l : PL} {k : Nat} {x : List UInt8} (h : Maps.has (seenAt l k) (.string x) = false) : ∀ j (hj : j < l.length), j < k → x ≠ l[j].1 := fun j hj hjk e => by
  rw [seen_has, List.any_eq_false] at h
  have hm : l[j] ∈ l.take k := by
    rw [List.mem_iff_getElem]
    exact ⟨j, by rw [List.length_take]; omega, List.getElem_take⟩
  exact h _ hm (by simp [e])
end Go.Proofs.YthbbeojhipcjiaaDoor
namespace Go.Proofs.YthbbeojhipcjiaaDoor
open Go.ChangeShapes Go.WideShapes Go.ChangeAt Go.RowKit

theorem Tryd.laidOutP : laidOutB Tryd.prog = true := by kernel_rfl
theorem Tryd.cellsPair : Tryd.prog.cellsOf 52 = 2 := by kernel_rfl
theorem Tryd.bytesPair : Tryd.prog.bytesOf 52 = 32 := by kernel_rfl
theorem Tryd.cellsStr : Tryd.prog.cellsOf 9 = 1 := by kernel_rfl

set_option maxRecDepth 100000 in
/-- two cells that read as a pair -/
theorem open_pair {H : Type} {enc : TypeId × Value → H} {W : World} {base : Nat} {sp : Nat → Bool} {held : Bool} {n : Nat} {cs : List Value} {x : DataW H × List MemPlace}
    (h : DataW.trod enc Tryd.prog W base sp held n 52 cs = some x) : ∃ a b : ByteArray, cs = [.string a, .string b] ∧ x.1 = .agg [.lit (.string a.data.toList), .lit (.string b.data.toList)] := by
  obtain ⟨xs, m, _, hx, hlen, hxl, hf⟩ := DataW.trod_struct Tryd.underlying52 h
  rw [Tryd.cellsPair] at hlen
  match cs, hlen with
  | [c0, c1], _ =>
    have h0 : DataW.trod enc Tryd.prog W base sp held m 9 [c0] = xs[0]? := by
      have := hf 0 { name := "Key", type := 9, offset := 0, embedded := false, tag := "", pkgPath := "", byteOffset := 0 } rfl
      rwa [Tryd.cellsStr] at this
    have h1 : DataW.trod enc Tryd.prog W base sp held m 9 [c1] = xs[1]? := by
      have := hf 1 { name := "Value", type := 9, offset := 1, embedded := false, tag := "", pkgPath := "", byteOffset := 16 } rfl
      rwa [Tryd.cellsStr] at this
    match xs, hxl with
    | [y0, y1], _ =>
      simp only [List.getElem?_cons_zero, List.getElem?_cons_succ] at h0 h1
      obtain ⟨a, ha, ya, za⟩ := DataW.trod_string Tryd.underlying9 h0
      obtain ⟨b, hb, yb, zb⟩ := DataW.trod_string Tryd.underlying9 h1
      simp at ha hb
      exact ⟨a, b, by rw [ha, hb], by rw [hx, ya, yb]; rfl⟩

theorem weightsAll_in {H : Type} {P : Program} {e : TypeId} : ∀ {l : List (DataW H)} {d : DataW H}, d ∈ l → ∀ n ∈ d.weights P e, n ∈ DataW.weightsAll P e l
  | d0 :: l, d, hd, n, hn => by
    simp only [DataW.weightsAll, List.mem_append]
    rcases List.mem_cons.1 hd with rfl | h
    · exact Or.inl hn
    · exact Or.inr (weightsAll_in h n hn)

set_option maxRecDepth 100000 in
/-- what is read of a slice of pairs: the pairs; their texts are no longer than a text may be -/
theorem open_pairs {H : Type} {enc : TypeId × Value → H} {W : World} {base : Nat} {v : Value} {d : DataW H} {ps : List MemPlace} (hval : Value.okWide Tryd.prog W .any base 22 v)
    (hd : DataW.Trod enc Tryd.prog W 0 (fun _ => true) true 22 v d ps) (hlt : ∀ x ∈ ps, x.block < W.heap.size) (hwt : ∀ n ∈ d.weights Tryd.prog 22, n ≤ reachBytes) :
    ∃ (A : Option Addr) (c : Nat) (l : PL), v = .slice A l.length c ∧ Prs W W.heap.size A l ∧ l.length ≤ reachBytes ∧ ∀ p ∈ l, p.1.length ≤ reachBytes ∧ p.2.length ≤ reachBytes := by
  obtain ⟨a0, len, cap, rfl⟩ := okWide_slice Tryd.underlying22 hval
  obtain ⟨fuel, hf⟩ := hd
  rcases Go.Deep.open_slice Tryd.underlying22 hf with ⟨hcs, hx⟩ | ⟨a, len', cap', m, n, D, Pl, hcs, _, hl, hm, hmm, hx, hi⟩
  · simp [Value.cells] at hcs
    obtain ⟨rfl, rfl, rfl⟩ := hcs
    exact ⟨none, 0, [], rfl, Prs.nil _ _ _, Nat.zero_le _, by simp⟩
  · simp [Value.cells] at hcs
    obtain ⟨rfl, rfl, rfl⟩ := hcs
    simp only [if_true] at hmm
    subst hmm
    rw [Tryd.cellsPair] at hi hx
    have hall : ∀ i, ∃ x : ByteArray × ByteArray, i < m → W.cell? (a.add (i * 2)) = some (.string x.1) ∧ W.cell? (a.add (i * 2 + 1)) = some (.string x.2) ∧ D i = .agg [.lit (.string x.1.data.toList), .lit (.string x.2.data.toList)] := by
      intro i
      by_cases him : i < m
      · obtain ⟨cs', hc, ht'⟩ := hi i him
        obtain ⟨u, u', rfl, hD⟩ := open_pair ht'
        obtain ⟨_, _, hat⟩ := World.cells?_some hc
        refine ⟨(u, u'), fun _ => ⟨?_, ?_, hD⟩⟩
        · have := hat 0 (by decide); simpa [Addr.add] using this
        · have := hat 1 (by decide); rw [Go.Deep.add_add] at this; simpa using this
      · exact ⟨(⟨#[]⟩, ⟨#[]⟩), fun h => absurd h him⟩
    obtain ⟨f, hf⟩ := Classical.axiomOfChoice hall
    let g : Nat → List UInt8 × List UInt8 := fun i => ((f i).1.data.toList, (f i).2.data.toList)
    simp only [Prod.mk.injEq] at hx
    have hlen : len ≤ reachBytes := by
      have := hwt ((len + (m - len)) * Tryd.prog.bytesOf 52) (by rw [hx.1]; simp [DataW.weights, Tryd.underlying22])
      rw [Tryd.bytesPair] at this
      omega
    refine ⟨some a, m, (List.range len).map g, by simp, fun k hk => ?_, by simpa using hlen, ?_⟩
    · have hk' : k < len := by simpa using hk
      refine ⟨a, rfl, ?_, ?_, ?_⟩
      · have hb : MemPlace.cell a.block a.off ∈ ps := by
          rw [hx.2, List.mem_append]
          exact .inl (MemPlace.mem_row.2 ⟨0, by omega, by simp⟩)
        exact hlt _ hb
      · rw [(hf k (by omega)).1]; simp [g]
      · rw [add_next, (hf k (by omega)).2.1]; simp [g]
    · intro p hp
      obtain ⟨i, hi', rfl⟩ := List.mem_map.1 hp
      have hil : i < len := by simpa using hi'
      have hD := (hf i (by omega)).2.2
      have hin : D i ∈ (List.range len).map D := List.mem_map.2 ⟨i, by simpa using hil, rfl⟩
      have hmem : ∀ n ∈ (D i).weights Tryd.prog 52, n ≤ reachBytes := fun n hn => hwt n (by
        rw [hx.1]
        simp only [DataW.weights, Tryd.underlying22, List.mem_cons, List.mem_append]
        exact .inr (.inl (weightsAll_in hin n hn)))
      rw [hD] at hmem
      refine ⟨hmem _ ?_, hmem _ ?_⟩ <;> simp [DataW.weights, Tryd.underlying52, DataW.weightsEach, g]
end Go.Proofs.YthbbeojhipcjiaaDoor
namespace Go.Proofs.YthbbeojhipcjiaaDoor
open Go.RowKit
open Go.Maps
set_option linter.unusedVariables false
set_option linter.unusedSimpArgs false

/-- the pairs whose key has not stood ahead, behind those that are there -/
def objS : PL → PL → PL
  | acc, [] => acc
  | acc, p :: r => objS (if acc.any (fun q => decide (q.1 = p.1)) then acc else acc ++ [p]) r
def objL (st : PL) : List V := st.map fun p => .mk 4 0 p.2 [] []
def objK (st : PL) : List (List UInt8) := st.map (·.1)
def objV (st : PL) : V := .mk 6 0 [] (objL st) (objK st)
theorem objL_len (st : PL) : (objL st).length = st.length := by simp [objL]
theorem objK_len (st : PL) : (objK st).length = st.length := by simp [objK]
theorem objL_snoc (st : PL) (p : List UInt8 × List UInt8) : objL (st ++ [p]) = objL st ++ [.mk 4 0 p.2 [] []] := by simp [objL]
theorem objK_snoc (st : PL) (p : List UInt8 × List UInt8) : objK (st ++ [p]) = objK st ++ [p.1] := by simp [objK]
theorem objS_hit {st r : PL} {p : List UInt8 × List UInt8} (h : st.any (fun q => decide (q.1 = p.1)) = true) : objS st (p :: r) = objS st r := by
  show objS (if st.any (fun q => decide (q.1 = p.1)) then st else st ++ [p]) r = _
  rw [if_pos h]
theorem objS_new {st r : PL} {p : List UInt8 × List UInt8} (h : st.any (fun q => decide (q.1 = p.1)) = false) : objS st (p :: r) = objS (st ++ [p]) r := by
  show objS (if st.any (fun q => decide (q.1 = p.1)) then st else st ++ [p]) r = _
  rw [if_neg (by rw [h]; decide)]
theorem plain_any {w w' : World} {L N L' N' : Nat} {t : List UInt8} {cs : List Value} (h : VIs w L N (.mk 4 0 t [] []) cs) : VIs w' L' N' (.mk 4 0 t [] []) cs := by
  obtain ⟨hr, A, c, A', c', rfl, _, _⟩ := h.out
  exact VIs.mk hr (.inl rfl) (.inl rfl)
theorem plain_mk (w : World) (L N : Nat) {t : List UInt8} (ht : t.length ≤ 9223372036854775807) : VIs w L N (.mk 4 0 t [] []) [.int .i64 4, .int .i64 0, .string ⟨t.toArray⟩, .slice none 0 0, .slice none 0 0] :=
  VIs.mk (l := []) (ks := []) ⟨by simp, by simp, ht, by simp⟩ (.inl rfl) (.inl rfl)
theorem objL_get {st : PL} {i : Nat} (h : i < (objL st).length) : ∃ t, (objL st)[i] = .mk 4 0 t [] [] := ⟨(st[i]'(by simpa [objL] using h)).2, by simp [objL]⟩
theorem new_cellsS (w : World) (a : Addr) (v : Value) (cs : Array Value) (e : TypeId) : ∀ j u, cs.toList[j]? = some u → ((w.setCell a v).alloc (.cells cs e)).cell? ((⟨w.heap.size, 0, none⟩ : Addr).add j) = some u := by
  intro j u h
  have := new_cells (w.setCell a v) cs e j u h
  rwa [set_size] at this
/-- what holds of the object's memory stays when another block of the call's own is written -/
theorem GSt.other {R M : Nat} {kind : Int} {w wr w1 : World} {lv kv : Value} {st : PL} {xs : List Value} (h : GSt R kind w wr lv kv (objL st) (objK st) xs) (hM : R + 2 ≤ M) (hg : wr.grownBy w1 (some M)) (hL : lv.ownBlock ≠ some M) (hK : kv.ownBlock ≠ some M) :
    GSt R kind w w1 lv kv (objL st) (objK st) xs := by
  obtain ⟨h1, h2, h3, h4, h5, h6, h7⟩ := h
  have hb : ∀ b, b < wr.heap.size → b ≠ M → w1.heap[b]? = wr.heap[b]? := fun b hb hne => hg.block b hb (fun e => hne (by injection e))
  refine ⟨(hb _ (by omega) (by omega)).trans h1, (hb _ (by omega) (by omega)).trans h2, own_kept h3 fun g hgl => hb g (h3.lt g hgl).2 (fun e => hL (by rw [← e]; exact hgl)), own_kept h4 fun g hgk => hb g (h4.lt g hgk).2 (fun e => hK (by rw [← e]; exact hgk)), fun i hi => ?_,
    h6.grown hg (by omega) (fun k hk => by injection hk with hk; omega), Nat.le_trans h7 hg.size⟩
  obtain ⟨c0, c1, c2, c3, c4, L, N, e0, e1, e2, e3, e4, hv, hL', hN, hgg⟩ := h5 i hi
  obtain ⟨t, ht⟩ := objL_get hi
  rw [ht] at hv
  refine ⟨c0, c1, c2, c3, c4, R + 2, R + 2, e0, e1, e2, e3, e4, ?_, Nat.le_refl _, Nat.le_trans h7 hg.size, fun g _ hlt => by omega⟩
  rw [ht]
  exact plain_any hv
open Go.Maps in
theorem map_not {w : World} {B size n b m : Nat} {e k : TypeId} {v : Value} {xs : List Value} {R : Value → Option (DataW Unit × List MemPlace)} {D : DataW Unit} (h : w.ownsRow B e size v n xs) (hm : w.ownsMap Tryd.prog k R b m D) : v.ownBlock ≠ some b := by
  obtain ⟨es, clock, hb, _⟩ := hm
  rcases h.2 with ⟨rfl, _⟩ | ⟨g, cap, cur, rfl, _, hg, _⟩
  · intro e; cases e
  · intro e
    injection e with e
    subst e
    rw [hb] at hg
    injection hg with hg
    cases hg
theorem seen_any (st : PL) (x : List UInt8) : Maps.has (seenAt st st.length) (.string x) = st.any (fun p => decide (p.1 = x)) := by rw [seen_has, List.take_length]
theorem seen_snoc (st : PL) (p : List UInt8 × List UInt8) : seenAt (st ++ [p]) (st.length + 1) = (seenAt st st.length).put (.string p.1) (.agg []) := by
  unfold seenAt
  rw [List.take_length, List.take_of_length_le (by simp), List.map_append, List.map_singleton, setOf_snoc]
end Go.Proofs.YthbbeojhipcjiaaDoor
namespace Go.Proofs.YthbbeojhipcjiaaDoor
open Go.RowKit
set_option linter.unusedVariables false
set_option linter.unusedSimpArgs false

/-- append onto a row of the call's own, of a slice that may be nil, as one step of a region that draws its order; where the new row lies -/
theorem step_append_opt {P : Program} {w : World} {ops : Array Oper} {o : Oper} {a : Act} {K : Act → World → Prop} {Q : Exit → Act → World → Prop} {E : Prop} (hgd : o.guard = none) (s x : Operand) (t : TypeId)
    (ho : o.op = .call { callee := .builtin .append, args := #[s, x], argTypes := #[t, t] })
    (base : Nat) (e : TypeId) (i : TypeInfo) (z : Value) (size bytes : Nat) (ht : P.underlying t = some (.slice e)) (hi : P.info? e = some i) (hz : i.zero = some z)
    (hsize : i.size = size) (hby : i.bytes = bytes) (hzs : z.cells.size = size) (hsz : 0 < size)
    (v : Value) (n : Nat) (xs : List Value) (hs : a.eval s = v) (hown : w.ownsRow base e size v n xs)
    (A : Option Addr) (m c : Nat) (news : List Value) (hx : a.eval x = .slice A m c) (hl : news.length = m * size)
    (hnews : (A = none ∧ m = 0 ∧ c = 0) ∨ ∃ ad, A = some ad ∧ ∀ j u, news[j]? = some u → w.cell? (ad.add j) = some u) (h1 : ∀ u ∈ news, u.oneCell' = true)
    (h63 : n + m ≤ maxLen) (hbytes : (n + m) * bytes ≤ 140737488355328) (hbase : base ≤ w.heap.size)
    (h : ∀ v' w', w'.ownsRow base e size v' (n + m) (xs ++ news) → w.grownBy w' v.ownBlock → (v'.ownBlock = v.ownBlock ∨ v'.ownBlock = some w.heap.size) → K (a.put o.dst v') w') :
    if Region.wanted o (yielded ops a.tmps) = true then Oper.wp P o a w K Q else E := by
  have hw : Region.wanted o (yielded ops a.tmps) = true := by simp [Region.wanted, hgd]
  rw [if_pos hw]
  obtain ⟨v', w', hr, h2, h3, h4⟩ : ∃ v' w', (Builtin.append_ #[t, t] o.type #[v, .slice A m c]).run P w = .ok v' w' ∧ w'.ownsRow base e size v' (n + m) (xs ++ news) ∧ w.grownBy w' v.ownBlock ∧ (v'.ownBlock = v.ownBlock ∨ v'.ownBlock = some w.heap.size) := by
    rcases hnews with ⟨rfl, rfl, rfl⟩ | ⟨ad, rfl, hnews⟩
    · have hn : news = [] := List.eq_nil_of_length_eq_zero (by simpa using hl)
      subst hn
      refine ⟨v, w, run_append_owned_none (P := P) (w := w) base t o.type e i size ht hi v n xs hown, ?_, ⟨rfl, rfl, rfl, Nat.le_refl _, fun _ _ _ => rfl⟩, .inl rfl⟩
      simpa using hown
    · obtain ⟨v', w', hr, h2, h3, _, h5⟩ := run_append_own_at (P := P) w base t o.type e i z size bytes ht hi hz hsize hby hzs hsz v n xs hown ad m c news hl hnews h1 h63 hbytes hbase
      exact ⟨v', w', hr, h2, h3, h5⟩
  unfold Oper.wp execOp
  simp only [ho, resolve, invoke, builtin, Sem.run_bind, Sem.run_pure, Result.andThen_ok, List.map_toArray, List.map_cons, List.map_nil, hs, hx, hr]
  exact h v' w' h2 h3 h4

theorem blk_below {w w' : World} {b : Nat} {o : Obj} (h : w.heap[b]? = some o) (hb : Below w.heap.size w w') : w'.heap[b]? = some o :=
  (hb.block b (Array.getElem?_eq_some_iff.1 h).1).trans h
/-- a block that a row's growth does not touch -/
theorem grown_block {w w' : World} {row : Option Nat} {b : Nat} {o : Obj} (h : w.grownBy w' row) (hb : w.heap[b]? = some o) (hne : row ≠ some b) : w'.heap[b]? = some o :=
  (h.block b (Array.getElem?_eq_some_iff.1 hb).1 (fun e => hne e.symm)).trans hb
theorem alloc_block {w : World} {b : Nat} {o x : Obj} (hb : w.heap[b]? = some o) : (w.alloc x).heap[b]? = some o := (Below.heap_alloc _ _ _ (Array.getElem?_eq_some_iff.1 hb).1).trans hb
theorem own_not {w : World} {B size n b : Nat} {e t : TypeId} {v : Value} {xs : List Value} {C : Array Value} {fr : Nat × Nat} (h : w.ownsRow B e size v n xs) (hb : w.heap[b]? = some (.cells C t fr)) (he : e ≠ t) : v.ownBlock ≠ some b := by
  rcases h.2 with ⟨rfl, _⟩ | ⟨g, cap, cur, rfl, _, hg, _⟩
  · intro e; cases e
  · intro e
    injection e with e
    subst e
    rw [hb] at hg
    injection hg with hg
    injection hg with _ e'
    exact he e'.symm
theorem own_formR {w : World} {B size n : Nat} {e : TypeId} {v : Value} {xs : List Value} (h : w.ownsRow B e size v n xs) : ∃ A c, v = .slice A n c := by
  rcases h.2 with ⟨hv, h0⟩ | ⟨g, cap, cur, hv, _⟩
  · exact ⟨none, 0, by rw [hv, h0]⟩
  · exact ⟨_, _, hv⟩
/-- a row that has just been made, of no elements -/
theorem own_fresh (w : World) (B : Nat) (e : TypeId) (size : Nat) (hB : B ≤ w.heap.size) : (w.alloc (.cells #[] e)).ownsRow B e size (.slice (some ⟨w.heap.size, 0, none⟩) 0 0) 0 [] :=
  ⟨by simp, .inr ⟨w.heap.size, 0, #[], rfl, hB, heap_alloc_last w _, Nat.le_refl _, by unfold maxLen; decide, by simp, by simp⟩⟩
theorem own_freshAt (w : World) (B : Nat) (e : TypeId) (size g : Nat) (hg : g = w.heap.size) (hB : B ≤ w.heap.size) : (w.alloc (.cells #[] e)).ownsRow B e size (.slice (some ⟨g, 0, none⟩) 0 0) 0 [] := by
  subst hg; exact own_fresh w B e size hB
theorem own_grown {w w' : World} {B size n m c g k : Nat} {e : TypeId} {xs : List Value} (h : w.ownsRow B e size (.slice (some ⟨g, 0, none⟩) m c) n xs) (hg : w.grownBy w' (some k)) (hne : k ≠ g) : w'.ownsRow B e size (.slice (some ⟨g, 0, none⟩) m c) n xs :=
  own_kept h fun b hb => by
    obtain rfl : g = b := by injection hb
    exact hg.block g ((h.lt g rfl).2) (fun e => hne (by injection e with e; exact e.symm))
theorem own_other {w w' : World} {B B' s s' n m : Nat} {e e' : TypeId} {kv v : Value} {xs ys : List Value} (hK : w.ownsRow B e s kv n xs) (hL : w.ownsRow B' e' s' v m ys) (he : e ≠ e') (hg : w.grownBy w' v.ownBlock) : w'.ownsRow B e s kv n xs :=
  own_kept hK fun b hb => hg.block b (hK.lt b hb).2 fun h => own_apart hK hL he b hb h.symm
theorem far_of {X w : World} {B s n g p : Nat} {e : TypeId} {lv : Value} {xs : List Value} (hL : w.ownsRow B e s lv n xs) (hat : lv.ownBlock = some g ∨ lv.ownBlock = some X.heap.size) (h1 : g ≠ p) (h2 : p < X.heap.size ∨ w.heap.size ≤ p) : lv.ownBlock ≠ some p := fun e => by
  have h3 := (hL.lt _ e).2
  rcases hat with h | h
  · rw [h] at e; injection e with e; exact h1 e
  · rw [h] at e; injection e with e; omega
theorem intro_fact {p q : Prop} (h : p) (k : p → q) : q := k h
theorem one_at {w : World} {b : Nat} {v : Value} {t : TypeId} {fr : Nat × Nat} (h : w.heap[b]? = some (.cells #[v] t fr)) : ∀ j u, [v][j]? = some u → w.cell? ((⟨b, 0, none⟩ : Addr).add j) = some u := by
  intro j u hu
  rw [Addr.add_lit, Nat.zero_add, cell_here h]
  simpa using hu
theorem five_at {w : World} {b : Nat} {v0 v1 v2 v3 v4 : Value} {t : TypeId} {fr : Nat × Nat} (h : w.heap[b]? = some (.cells #[v0, v1, v2, v3, v4] t fr)) : ∀ j u, [v0, v1, v2, v3, v4][j]? = some u → w.cell? ((⟨b, 0, none⟩ : Addr).add j) = some u := by
  intro j u hu
  rw [Addr.add_lit, Nat.zero_add, cell_here h]
  simpa using hu
theorem far_of2 {X w : World} {B s n p : Nat} {e : TypeId} {lv lv0 : Value} {xs : List Value} (hL : w.ownsRow B e s lv n xs) (hat : lv.ownBlock = lv0.ownBlock ∨ lv.ownBlock = some X.heap.size) (h1 : lv0.ownBlock ≠ some p) (h2 : p < X.heap.size) : lv.ownBlock ≠ some p := fun e => by
  rcases hat with h | h
  · rw [h] at e; exact h1 e
  · rw [h] at e; injection e with e; omega
theorem fresh_at {w : World} {b : Nat} (o : Obj) (h : b = w.heap.size) : (w.alloc o).heap[b]? = some o := by subst h; exact heap_alloc_last w o
theorem drew_block {w : World} {b : Nat} {o : Obj} (h : w.heap[b]? = some o) : w.drew.heap[b]? = some o := h
theorem ks_one (ks : List (List UInt8)) : ∀ u ∈ ksCells ks, u.oneCell' = true := by
  intro u hu; obtain ⟨_, _, rfl⟩ := List.mem_map.1 hu; rfl
theorem five_oneR {w : World} {L N : Nat} {x : V} {cs : List Value} (h : VIs w L N x cs) : ∀ u ∈ cs, u.oneCell' = true := by
  obtain ⟨A, c, A', c', rfl⟩ := h.form
  intro u hu
  simp at hu; rcases hu with rfl | rfl | rfl | rfl | rfl <;> rfl
theorem Tryd.infoValR : (Tryd.prog.info? 28).map (fun i => (i.zero, i.size, i.bytes)) = some (some (.agg #[.int .i64 0, .int .i64 0, .string ⟨#[]⟩, .slice none 0 0, .slice none 0 0]), 5, 80) := by kernel_rfl
theorem Tryd.infoStrR : (Tryd.prog.info? 9).map (fun i => (i.zero, i.size, i.bytes)) = some (some (.string ⟨#[]⟩), 1, 16) := by kernel_rfl
/-- the cells of a row of values, with what each five read as -/
theorem flat_items {w : World} {L N b o : Nat} {l : List V} (h : LIs w L N l b o) : ∃ xs : List Value, xs.length = l.length * 5 ∧ (∀ j u, xs[j]? = some u → b < N ∧ w.cell? ⟨b, o + j, none⟩ = some u) ∧ (∀ u ∈ xs, u.oneCell' = true) ∧
    ∀ i (hi : i < l.length), ∃ c0 c1 c2 c3 c4, xs[i * 5]? = some c0 ∧ xs[i * 5 + 1]? = some c1 ∧ xs[i * 5 + 2]? = some c2 ∧ xs[i * 5 + 3]? = some c3 ∧ xs[i * 5 + 4]? = some c4 ∧ VIs w L N l[i] [c0, c1, c2, c3, c4] := by
  obtain ⟨xs, n1, n2, n3⟩ := h.flat
  refine ⟨xs, n1, fun j u hu => ⟨?_, n2 j u hu⟩, n3, fun i hi => ?_⟩
  · have hj := (List.getElem?_eq_some_iff.1 hu).1
    exact (h.get 0 (by omega)).2.1
  · obtain ⟨_, _, cs, ⟨c0, c1, c2, c3, c4, rfl, m0, m1, m2, m3, m4⟩, hv⟩ := h.get i hi
    have key : ∀ k c, k < 5 → w.cell? ⟨b, o + (i * 5 + k), none⟩ = some c → xs[i * 5 + k]? = some c := fun k c hk hc => by
      have hlt : i * 5 + k < xs.length := by omega
      have := n2 (i * 5 + k) xs[i * 5 + k] (List.getElem?_eq_getElem hlt)
      rw [hc] at this
      rw [List.getElem?_eq_getElem hlt]; exact this.symm
    exact ⟨c0, c1, c2, c3, c4, key 0 c0 (by decide) (by simpa using m0), key 1 c1 (by decide) (by rw [← Nat.add_assoc]; exact m1), key 2 c2 (by decide) (by rw [← Nat.add_assoc]; exact m2), key 3 c3 (by decide) (by rw [← Nat.add_assoc]; exact m3), key 4 c4 (by decide) (by rw [← Nat.add_assoc]; exact m4), hv⟩
/-- an object in a variable at p, its rows of the call's own from B on; what lies in it, lies as it lay in w, in blocks L to N -/
structure OSt (B p L N : Nat) (w wr : World) (lv kv : Value) (l : List V) (ks : List (List UInt8)) (xs : List Value) : Prop where
  var : wr.heap[p]? = some (.cells #[.int .i64 6, .int .i64 0, .string ⟨#[]⟩, lv, kv] 28 (0, 0))
  rowL : wr.ownsRow B 28 5 lv l.length xs
  rowK : wr.ownsRow B 9 1 kv ks.length (ksCells ks)
  far : lv.ownBlock ≠ some p
  elem : ∀ i (h : i < l.length), ∃ c0 c1 c2 c3 c4, xs[i * 5]? = some c0 ∧ xs[i * 5 + 1]? = some c1 ∧ xs[i * 5 + 2]? = some c2 ∧ xs[i * 5 + 3]? = some c3 ∧ xs[i * 5 + 4]? = some c4 ∧ VIs w L N l[i] [c0, c1, c2, c3, c4]
  low : Below B w wr
/-- the object as it is made -/
theorem OSt.start {B p L N : Nat} {w wr : World} {lv kv : Value} {l : List V} {ks : List (List UInt8)} {xs : List Value} (hp : B ≤ p)
    (hv : wr.heap[p]? = some (.cells #[.int .i64 0, .int .i64 0, .string ⟨#[]⟩, .slice none 0 0, .slice none 0 0] 28 (0, 0)))
    (hL : wr.ownsRow B 28 5 lv l.length xs) (hK : wr.ownsRow B 9 1 kv ks.length (ksCells ks)) (hf : lv.ownBlock ≠ some p)
    (he : ∀ i (h : i < l.length), ∃ c0 c1 c2 c3 c4, xs[i * 5]? = some c0 ∧ xs[i * 5 + 1]? = some c1 ∧ xs[i * 5 + 2]? = some c2 ∧ xs[i * 5 + 3]? = some c3 ∧ xs[i * 5 + 4]? = some c4 ∧ VIs w L N l[i] [c0, c1, c2, c3, c4]) (hb : Below B w wr) :
    OSt B p L N w (set5 wr p 0 (.int .i64 6) (.int .i64 0) (.string ⟨#[]⟩) lv kv) lv kv l ks xs := by
  refine ⟨?_, own_kept hL fun g hg => set5_there (fun e => hf (by rw [← e]; exact hg)), own_kept hK fun g hg => set5_there (fun e => own_not hK hv (by decide) (by rw [← e]; exact hg)), hf, he, hb.trans (set5_below hp)⟩
  have := set5_here (o := 0) (c0 := .int .i64 6) (c1 := .int .i64 0) (c2 := .string ⟨#[]⟩) (c3 := lv) (c4 := kv) hv
  simpa using this
/-- a key and an item more: two rows that have grown, then both stored -/
theorem OSt.grow {B p L N : Nat} {w wr wz : World} {lv kv lv' kv' : Value} {l : List V} {ks : List (List UInt8)} {xs : List Value} {c0 c1 c2 c3 c4 : Value} (h : OSt B p L N w wr lv kv l ks xs) (hp : B ≤ p) (t : List UInt8) (x : V)
    (hx : VIs w L N x [c0, c1, c2, c3, c4]) (hv : wz.heap[p]? = some (.cells #[.int .i64 6, .int .i64 0, .string ⟨#[]⟩, lv, kv] 28 (0, 0)))
    (hK : wz.ownsRow B 9 1 kv' (ks.length + 1) (ksCells ks ++ [.string ⟨t.toArray⟩])) (hL : wz.ownsRow B 28 5 lv' (l.length + 1) (xs ++ [c0, c1, c2, c3, c4])) (hf : lv'.ownBlock ≠ some p) (hb : Below B w wz) :
    OSt B p L N w ((wz.setCell ⟨p, 4, none⟩ kv').setCell ⟨p, 3, none⟩ lv') lv' kv' (l ++ [x]) (ks ++ [t]) (xs ++ [c0, c1, c2, c3, c4]) := by
  have hxl := h.rowL.1
  have hne : ∀ b, b ≠ p → ((wz.setCell ⟨p, 4, none⟩ kv').setCell ⟨p, 3, none⟩ lv').heap[b]? = wz.heap[b]? := fun b hb => by rw [set_there _ hb, set_there _ hb]
  refine ⟨?_, ?_, ?_, hf, fun i hi => ?_, ?_⟩
  · have := set_here (o := 3) (set_here (o := 4) hv kv') lv'
    simpa using this
  · rw [List.length_append, List.length_singleton]
    exact own_kept hL fun g hg => hne g (fun e => hf (by rw [← e]; exact hg))
  · rw [ksCells_snoc, List.length_append, List.length_singleton]
    exact own_kept hK fun g hg => hne g (fun e => own_not hK hv (by decide) (by rw [← e]; exact hg))
  · rcases Nat.lt_or_ge i l.length with hil | hil
    · obtain ⟨d0, d1, d2, d3, d4, e0, e1, e2, e3, e4, hv⟩ := h.elem i hil
      have hgl : (l ++ [x])[i] = l[i] := List.getElem_append_left hil
      rw [hgl]
      refine ⟨d0, d1, d2, d3, d4, ?_, ?_, ?_, ?_, ?_, hv⟩
      · rw [List.getElem?_append_left (by omega)]; exact e0
      · rw [List.getElem?_append_left (by omega)]; exact e1
      · rw [List.getElem?_append_left (by omega)]; exact e2
      · rw [List.getElem?_append_left (by omega)]; exact e3
      · rw [List.getElem?_append_left (by omega)]; exact e4
    · have hie : i = l.length := by simp at hi; omega
      subst hie
      have hgl : (l ++ [x])[l.length] = x := by simp
      rw [hgl]
      exact ⟨c0, c1, c2, c3, c4, app_at hxl _ _ _ _ _ (k := 0) (by decide), app_at hxl _ _ _ _ _ (k := 1) (by decide), app_at hxl _ _ _ _ _ (k := 2) (by decide), app_at hxl _ _ _ _ _ (k := 3) (by decide), app_at hxl _ _ _ _ _ (k := 4) (by decide), hx⟩
  · exact (hb.setCell (p := ⟨p, 4, none⟩) hp _).setCell (p := ⟨p, 3, none⟩) hp _
/-- the whole, with another block written -/
theorem OSt.done {B p L N r : Nat} {w wr wf : World} {lv kv : Value} {l : List V} {ks : List (List UInt8)} {xs : List Value} (h : OSt B p L N w wr lv kv l ks xs) (hp : B ≤ p) (hLB : L ≤ B) (hN : N ≤ B) (hr : r < B) (hrN : N ≤ r) (hl : l.length ≤ 9223372036854775807) (hk : ks.length ≤ 9223372036854775807) (hz : ∀ x ∈ ks, x.length ≤ 9223372036854775807)
    (hf : ∀ b, b ≠ r → wf.heap[b]? = wr.heap[b]?) (hs : wf.heap.size = wr.heap.size) : VIs wf L wf.heap.size (.mk 6 0 [] l ks) [.int .i64 6, .int .i64 0, .string ⟨#[]⟩, lv, kv] := by
  obtain ⟨h1, h3, h4, _, h5, h7⟩ := h
  have hcell : ∀ p : Addr, p.block ≠ r → wf.cell? p = wr.cell? p := fun p hp => World.cell?_of_block (w := wr) (hf _ hp)
  have hps := (Array.getElem?_eq_some_iff.1 h1).1
  have hBs : B ≤ wf.heap.size := by rw [hs]; omega
  obtain ⟨A, c, rfl, hA⟩ : ∃ A c, lv = .slice A l.length c ∧ (l = [] ∨ ∃ b o, A = some ⟨b, o, none⟩ ∧ LIs wf L wf.heap.size l b o) := by
    have hc := fun g => World.ownsRow.cells (g := g) h3
    rcases h3.2 with ⟨hv, h0⟩ | ⟨g, cap, cur, hv, hB, hg, _⟩
    · exact ⟨none, 0, by rw [hv, h0], .inl (List.length_eq_zero_iff.1 h0)⟩
    · refine ⟨_, _, hv, .inr ⟨g, 0, rfl, LIs.of (by omega) (by rw [hs]; exact (Array.getElem?_eq_some_iff.1 hg).1) fun i hi => ?_⟩⟩
      obtain ⟨c0, c1, c2, c3, c4, e0, e1, e2, e3, e4, hv'⟩ := h5 i hi
      have hcc : ∀ j u, xs[j]? = some u → wf.cell? ⟨g, 0 + j, none⟩ = some u := fun j u hu => by
        rw [hcell _ (by show g ≠ r; omega)]
        have := hc g (by rw [hv]; rfl) j u hu
        rwa [Addr.add_lit] at this
      refine ⟨[c0, c1, c2, c3, c4], ⟨c0, c1, c2, c3, c4, rfl, hcc _ _ e0, hcc _ _ e1, hcc _ _ e2, hcc _ _ e3, hcc _ _ e4⟩, ?_⟩
      exact ((hv'.below (h7.mono hN)).keep2 fun p hp1 hp2 => hcell p (by omega)).more (Nat.le_refl _) (by omega)
  obtain ⟨A', c', rfl, hA'⟩ : ∃ A c, kv = .slice A ks.length c ∧ (ks = [] ∨ ∃ b o, A = some ⟨b, o, none⟩ ∧ KIs wf L wf.heap.size ks b o) := by
    have hc := fun g => World.ownsRow.cells (g := g) h4
    rcases h4.2 with ⟨hv, h0⟩ | ⟨g, cap, cur, hv, hB, hg, _⟩
    · exact ⟨none, 0, by rw [hv, h0], .inl (List.length_eq_zero_iff.1 h0)⟩
    · refine ⟨_, _, hv, .inr ⟨g, 0, rfl, KIs.of (by omega) (by rw [hs]; exact (Array.getElem?_eq_some_iff.1 hg).1) fun i hi => ?_⟩⟩
      rw [hcell _ (by show g ≠ r; omega)]
      have := hc g (by rw [hv]; rfl) i (.string ⟨ks[i].toArray⟩) (by unfold ksCells; rw [List.getElem?_map, List.getElem?_eq_getElem hi]; rfl)
      rwa [Addr.add_lit] at this
  exact VIs.mk (t := []) ⟨hl, hk, by simp, hz⟩ hA' hA
/-- what the reference's Put does of a key that the object lacks -/
def PutNew : Prop := ∀ (k n : Int) (t : List UInt8) (l : List V) (ks : List (List UInt8)) (key : List UInt8) (x : V) (w : World) (L N L0 N0 : Nat) (A A' : Option Addr) (c c' : Nat) (x0 x1 x2 x3 x4 : Value)
    (hl : l.length ≤ 100000) (hk : ks.length ≤ 100000) (hz : ∀ y ∈ ks, y.length ≤ 9223372036854775807) (hkz : key.length ≤ 9223372036854775807) (hne : key ∉ ks) (hN : N ≤ w.heap.size) (hN0 : N0 ≤ w.heap.size) (hL0 : L0 ≤ w.heap.size)
    (hnil : (A = none ∧ A' = none ∧ l = [] ∧ ks = [] ∧ c = 0 ∧ c' = 0) ∨ ∃ b o b' o', A = some ⟨b, o, none⟩ ∧ A' = some ⟨b', o', none⟩ ∧ LIs w L N l b o ∧ KIs w L N ks b' o')
    (hit : ∀ i (h : i < l.length) cs, VIs w L N l[i] cs → VIs w L0 N0 l[i] cs) (hx : VIs w L0 N0 x [x0, x1, x2, x3, x4]),
    Calls Tryd.prog 23 #[.agg #[.int .i64 k, .int .i64 n, .string ⟨t.toArray⟩, .slice A l.length c, .slice A' ks.length c'], .string ⟨key.toArray⟩, .agg #[x0, x1, x2, x3, x4]] w fun e w' => ∃ B b B' b', e = .returned (.agg #[.int .i64 6, .int .i64 0, .string ⟨#[]⟩, .slice B (l.length + 1) b, .slice B' (ks.length + 1) b']) ∧
      VIs w' L0 w'.heap.size (.mk 6 0 [] (l ++ [x]) (ks ++ [key])) [.int .i64 6, .int .i64 0, .string ⟨#[]⟩, .slice B (l.length + 1) b, .slice B' (ks.length + 1) b'] ∧ Below w.heap.size w w'
end Go.Proofs.YthbbeojhipcjiaaDoor
namespace Go.Proofs.YthbbeojhipcjiaaDoor
open Go.RowKit
open Go.Maps
set_option linter.unusedVariables false
set_option linter.unusedSimpArgs false

set_option maxRecDepth 100000 in
set_option maxHeartbeats 20000000 in
theorem object_any (A : Option Addr) (c : Nat) (l : PL) (hl : l.length ≤ 100000) (hz : ∀ p ∈ l, p.1.length ≤ maxLen ∧ p.2.length ≤ maxLen) (w : World) (hp : Prs w w.heap.size A l) :
    Calls Tryd.prog 9 #[.slice A l.length c] w fun e w' => (∃ B b B' b', e = .returned (.agg #[.int .i64 6, .int .i64 0, .string ⟨#[]⟩, .slice B (objS [] l).length b, .slice B' (objS [] l).length b']) ∧
      VIs w' w.heap.size w'.heap.size (objV (objS [] l)) [.int .i64 6, .int .i64 0, .string ⟨#[]⟩, .slice B (objS [] l).length b, .slice B' (objS [] l).length b']) ∧ Below w.heap.size w w' := by
  obtain ⟨i0, hi, hz0, hz1, hz2⟩ := info_parts Tryd.infoValR
  obtain ⟨j0, hj, hy0, hy1, hy2⟩ := info_parts Tryd.infoStrR
  have hmm := fun n => @run_makeMapHint Tryd.prog 50 9 53 .i64 n Tryd.underlying50
  obtain ⟨R, hR⟩ : ∃ R, w.heap.size = R := ⟨_, rfl⟩
  obtain ⟨W3, hW3⟩ : ∃ W3, W3 = (((w.alloc (.cells #[.int .i64 0, .int .i64 0, .string ⟨#[]⟩, .slice none 0 0, .slice none 0 0] 28)).alloc (.cells #[.int .i64 6, .int .i64 0, .string ⟨#[]⟩, .slice none 0 0, .slice none 0 0] 28)).alloc (.map #[] 0)) := ⟨_, rfl⟩
  have gst : GSt R 6 w W3 (.slice none 0 0) (.slice none 0 0) (objL []) (objK []) [] := by
    refine ⟨?_, ?_, ⟨rfl, .inl ⟨rfl, rfl⟩⟩, ⟨rfl, .inl ⟨rfl, rfl⟩⟩, fun i hi => absurd hi (Nat.not_lt_zero _), ?_, ?_⟩
    · rw [hW3, ← hR]
      exact alloc_block (fresh_at _ (by simp))
    · rw [hW3, ← hR]; exact alloc_block (alloc_block (heap_alloc_last w _))
    · rw [hW3, ← hR]; exact (((Below.refl _ _).alloc (Nat.le_refl _) _).alloc (by simp) _).alloc (by simp; omega) _
    · rw [hW3, ← hR]; simp
  have hom : W3.ownsMap Tryd.prog 9 (unitElem (H := Unit)) (R + 2) 0 (seenAt [] 0) := by
    have := World.ownsMap_made ((w.alloc (.cells #[.int .i64 0, .int .i64 0, .string ⟨#[]⟩, .slice none 0 0, .slice none 0 0] 28)).alloc (.cells #[.int .i64 6, .int .i64 0, .string ⟨#[]⟩, .slice none 0 0, .slice none 0 0] 28)) Tryd.prog 9 (unitElem (H := Unit))
    rw [← hW3] at this
    have this' : W3.ownsMap Tryd.prog 9 (unitElem (H := Unit)) (R + 1 + 1) 0 (.map []) := by simpa [hR] using this
    exact this'
  obtain ⟨n, hn⟩ : ∃ n, l.length = n := ⟨_, rfl⟩
  obtain ⟨RES, hRES⟩ : ∃ RES, objS [] l = RES := ⟨_, rfl⟩
  rw [hn] at hl ⊢
  rw [hRES]
  have HR := Lib.hid hR; have HW3 := Lib.hid hW3; have GST := Lib.hid gst; have HOM := Lib.hid hom; have HN := Lib.hid hn; have HRES := Lib.hid hRES; have HZ := Lib.hid hz; have HP := Lib.hid hp
  clear hR hW3 gst hom hn hRES hz hp
  go_enter Tryd.func9, Tryd.ntmps9
  go_wp2
  rw [← HW3.out, HR.out]
  go_loopw [15] (fun i wr => ∃ (k : Nat) (st : PL) (lv kv : Value) (xs : List Value), k ≤ n ∧ i = .int .i64 k ∧ st.length ≤ k ∧ objS st (l.drop k) = RES ∧ (∀ y ∈ objK st, y.length ≤ 9223372036854775807) ∧ GSt R 6 w wr lv kv (objL st) (objK st) xs ∧ wr.ownsMap Tryd.prog 9 (unitElem (H := Unit)) (R + 2) st.length (seenAt st st.length)) (fun i _ => n - (intOf i).toNat)
  case atStart => exact ⟨0, [], _, _, [], Nat.zero_le _, rfl, Nat.le_refl _, HRES.out, by simp [objK], GST.out, HOM.out⟩
  case round =>
    obtain ⟨k, st, lv, kv, xs, hk, rfl, hsk, hst, hky, gst, hom⟩ := hrel
    obtain ⟨LA, lc, rfl⟩ := own_form gst.rowL
    obtain ⟨KA, kc, rfl⟩ := own_form gst.rowK
    have hbw := gst.low
    have hsz := gst.size
    have nL := map_not gst.rowL hom
    have nK := map_not gst.rowK hom
    have GS := Lib.hid gst; have HOM2 := Lib.hid hom; have HKY := Lib.hid hky; have NL := Lib.hid nL; have NK := Lib.hid nK
    clear gst hky nL nK HOM GST
    have hR := HR.out
    rw [objL_len, objK_len] at *
    by_cases hlt : k < n
    · have hkl : k < l.length := by have := HN.out; omega
      rw [List.drop_eq_getElem_cons hkl] at hst
      obtain ⟨a, rfl, hab, h1, h2⟩ := (HP.out.below (hbw.mono (by omega))) k hkl
      have hzk := HZ.out l[k] (List.getElem_mem hkl)
      generalize hx : l[k] = x at *
      clear hx
      obtain ⟨xa, xb⟩ := x
      dsimp only at h1 h2 hzk
      have hkey : keyOf Tryd.prog 9 (.string ⟨xa.toArray⟩) = some (.string xa) := WideMaps.keyOf_string_mk Tryd.underlying9 hzk.1
      have hha := seen_any st xa
      have hk0 : (0 : Int) ≤ k := by omega
      have hk1 : (k : Int) < n := by omega
      cases hh : st.any (fun p => decide (p.1 = xa)) with
      | true =>
        rw [hh] at hha
        have hst2 : objS st (l.drop (k + 1)) = RES := (objS_hit (p := (xa, xb)) hh).symm.trans hst
        have HST := Lib.hid hst2; clear hst hst2 hh hbw hR
        go_wp2_with (at_lookup; refine wpList_lookup_own_unit _ rfl _ _ 50 rfl 9 53 lawStr Tryd.underlying50 (zeroUnit _) (R + 1 + 1) st.length _ rfl (hom.alloc _) _ _ rfl hkey ?_)
        have g2 := (GS.out.later ((Below.refl _ _).alloc (Nat.le_refl _) (.cells #[.string ⟨xa.toArray⟩, .string ⟨xb.toArray⟩] 52))).later ((Below.refl _ _).alloc (Nat.le_refl _) (.cells #[] 53))
        exact ⟨⟨k + 1, st, _, _, xs, by omega, by go_num, by omega, HST.out, HKY.out, g2, (hom.alloc _).alloc _⟩, by simp [intOf]; omega⟩
      | false =>
        rw [hh] at hha
        have hst2 : objS (st ++ [(xa, xb)]) (l.drop (k + 1)) = RES := (objS_new (p := (xa, xb)) hh).symm.trans hst
        have hml := hom.lt
        have HST := Lib.hid hst2; clear hst hst2 hh hbw hR
        go_wp2_with (first
          | (at_lookup; refine wpList_lookup_own_unit _ rfl _ _ 50 rfl 9 53 lawStr Tryd.underlying50 (zeroUnit _) (R + 1 + 1) st.length _ rfl (hom.alloc _) _ _ rfl hkey ?_)
          | (at_mapUpdate; refine wpList_mapUpdate_own _ rfl _ _ _ 50 rfl 9 53 lawStr Tryd.underlying50 (unitElem (H := Unit)) (R + 1 + 1) st.length _ rfl ((hom.alloc _).alloc _) (by unfold maxLen; omega) _ _ _ rfl rfl hkey _ [] unitElem_mk ?_; intro w1 hown1 hgrow1;
              have g1 := GSt.other ((GS.out.later ((Below.refl _ _).alloc (Nat.le_refl _) _)).later ((Below.refl _ _).alloc (Nat.le_refl _) _)) (Nat.le_refl _) hgrow1 NL.out NK.out;
              obtain ⟨⟨e0, e1, e2, e3, e4⟩, f0, f1, f2, f3, f4⟩ := box_of g1.var;
              have pb1 := grown_block hgrow1 (alloc_block (fresh_at _ rfl)) (fun e => by injection e with e; omega);
              have u0 := cell_here (o := 0) pb1; have hs1 := (Array.getElem?_eq_some_iff.1 pb1).1;
              have G3 := Lib.hid (g1.later ((Below.refl _ _).alloc (Nat.le_refl _) (.cells #[.string ⟨xa.toArray⟩] 9)));
              have PB1 := Lib.hid pb1; have OWN1 := Lib.hid hown1; clear pb1 g1)
          | (at_builtin; (refine wpList_append_own_at _ rfl (.tmp 32) (.tmp 35) 26 rfl (R + 2) 9 j0 _ 1 16 Tryd.underlying26 hj hy0 hy1 hy2 rfl (by decide) _ _ _ rfl G3.out.rowK ⟨_, 0, none⟩ 1 1 [.string ⟨xa.toArray⟩] rfl rfl (new_cells _ #[_] _) (by intro u hu; simp at hu; subst hu; rfl) (by rw [objK_len]; unfold maxLen; omega) (by rw [objK_len]; omega) (by simp; omega) ?_; intro v5 w5 hown hgrow hnil hat; obtain ⟨KA5, kc5, rfl⟩ := own_form hown; obtain ⟨⟨p0, p1, p2, p3, p4⟩, q0, q1, q2, q3, q4⟩ := box_of (G3.out.varK hgrow); have pb5 := grown_block hgrow (alloc_block PB1.out) (own_not G3.out.rowK (alloc_block PB1.out) (by decide)); have u5 := cell_here (o := 1) pb5; have G7 := Lib.hid ((G3.out.key xa hown hgrow hat).later ((Below.refl _ _).alloc (Nat.le_refl _) (.cells #[.int .i64 4, .int .i64 0, .string ⟨xb.toArray⟩, .slice none 0 0, .slice none 0 0] 28))); have HGR := Lib.hid hgrow))
          | (at_builtin; go_loud (refine wpList_append_own_at _ rfl (.tmp 39) (.tmp 43) 25 rfl (R + 2) 28 i0 _ 5 80 Tryd.underlying25 hi hz0 hz1 hz2 rfl (by decide) _ _ _ rfl G7.out.rowL ⟨_, 0, none⟩ 1 1 [.int .i64 4, .int .i64 0, .string ⟨xb.toArray⟩, .slice none 0 0, .slice none 0 0] rfl rfl (new_cellsS _ _ _ #[_, _, _, _, _] _) (by intro u hu; simp at hu; rcases hu with rfl | rfl | rfl | rfl | rfl <;> rfl) (by rw [objL_len]; unfold maxLen; omega) (by rw [objL_len]; omega) (by have := G7.out.size; omega) ?_; intro v8 w8 hown8 hgrow8 hnil8 hat8; obtain ⟨LA8, lc8, rfl⟩ := own_form hown8; obtain ⟨⟨r0, r1, r2, r3, r4⟩, s0, s1, s2, s3, s4⟩ := box_of (G7.out.varL hgrow8))))
        have hz7 := G7.out.size
        have g9 := G7.out.item (.mk 4 0 xb [] []) (L0 := R + 2) (N0 := R + 2) (plain_mk _ _ _ (by have := hzk.2; unfold maxLen at this; exact this)) (Nat.le_refl _) hz7 (fun g _ hlt => by omega) hown8 hgrow8 hat8
        rw [← objL_snoc st (xa, xb), ← objK_snoc st (xa, xb)] at g9
        have o6 : (w5.setCell ⟨R + 1, 4, none⟩ (.slice KA5 ((objK st).length + 1) kc5)).ownsMap Tryd.prog 9 (unitElem (H := Unit)) (R + 1 + 1) (st.length + 1) ((seenAt st st.length).put (.string xa) (.agg [])) :=
          ((OWN1.out.alloc _).kept HGR.out (fun e => map_not G3.out.rowK (OWN1.out.alloc _) e.symm)).setCell (by show R + 1 + 1 ≠ R + 1; omega) _
        have o9 : (w8.setCell ⟨R + 1, 3, none⟩ (.slice LA8 ((objL st).length + 1) lc8)).ownsMap Tryd.prog 9 (unitElem (H := Unit)) (R + 1 + 1) (st.length + 1) ((seenAt st st.length).put (.string xa) (.agg [])) :=
          ((o6.alloc _).kept hgrow8 (fun e => map_not G7.out.rowL (o6.alloc _) e.symm)).setCell (by show R + 1 + 1 ≠ R + 1; omega) _
        rw [← seen_snoc st (xa, xb)] at o9
        refine ⟨⟨k + 1, st ++ [(xa, xb)], _, _, _, by omega, by go_num, by simp; omega, HST.out, ?_, g9, by simpa using o9⟩, by simp [intOf]; omega⟩
        intro y hy
        rw [objK_snoc] at hy
        rcases List.mem_append.1 hy with h | h
        · exact HKY.out y h
        · simp at h; subst h; have := hzk.1; unfold maxLen at this; exact this
    · obtain rfl : k = n := by omega
      have e : RES = st := by
        rw [← hst, List.drop_of_length_le (by have := HN.out; omega)]; rfl
      obtain ⟨⟨e0, e1, e2, e3, e4⟩, f0, f1, f2, f3, f4⟩ := box_of GS.out.var
      obtain ⟨⟨p0, p1, p2, p3, p4⟩, q0, q1, q2, q3, q4⟩ := box_of GS.out.res
      subst e
      clear hst hR hbw hom HOM2
      go_wp2
      obtain ⟨wf, hwf⟩ : ∃ wf, wf = set5 wr R 0 (.int .i64 6) (.int .i64 0) (.string ⟨#[]⟩) (.slice LA RES.length lc) (.slice KA RES.length kc) := ⟨_, rfl⟩
      change bodyPost _ _ _ _ _ (set5 wr R 0 (.int .i64 6) (.int .i64 0) (.string ⟨#[]⟩) (.slice LA RES.length lc) (.slice KA RES.length kc))
      rw [← hwf]
      have hx : wf.heap[R]? = some (.cells #[.int .i64 6, .int .i64 0, .string ⟨#[]⟩, .slice LA RES.length lc, .slice KA RES.length kc] 28 (0, 0)) := by rw [hwf]; exact set5_here GS.out.res
      have hbf : Below R w wf := by rw [hwf]; exact GS.out.low.trans (set5_below (Nat.le_refl _))
      have hvf := GS.out.done (wf := wf) (by rw [objL_len]; omega) (by rw [objK_len]; omega) HKY.out (fun b hb => by rw [hwf]; exact set5_there hb) (by rw [hwf, set5_size])
      obtain ⟨⟨x0, x1, x2, x3, x4⟩, -⟩ := box_of hx
      have HBF := Lib.hid hbf; have HVF := Lib.hid hvf
      clear hbf hvf hwf hx e0 e1 e2 e3 e4 f0 f1 f2 f3 f4 p0 p1 p2 p3 p4 q0 q1 q2 q3 q4
      refine bodyPost_ret (v := .agg #[.int .i64 6, .int .i64 0, .string ⟨#[]⟩, .slice LA RES.length lc, .slice KA RES.length kc]) (by simp [results, Tryd.results9, go_sem, x0, x1, x2, x3, x4]) rfl ?_
      exact ⟨⟨_, _, _, _, rfl, by rw [HR.out]; exact HVF.out⟩, by rw [HR.out]; exact HBF.out⟩
end Go.Proofs.YthbbeojhipcjiaaDoor
