/- Texts merged by program, in build order: OpenChanges, StoreSto, StoreAt, LawStoreT. -/
import Derived.Test.YtklhdffbaglkdaaDoorG19
import Derived.Test.YtklhdffbaglkdaaDoorG09
namespace Go.Proofs.YtklhdffbaglkdaaDoor
open Go.ChangeShapes Go.WideShapes Go.ChangeAt Go.RowKit
set_option linter.unusedVariables false

theorem Tryd.cellsChange : Tryd.prog.cellsOf 61 = 3 := by kernel_rfl
theorem Tryd.cellsStrC : Tryd.prog.cellsOf 9 = 1 := by kernel_rfl
theorem Tryd.cellsBoolC : Tryd.prog.cellsOf 4 = 1 := by kernel_rfl
theorem Tryd.bytesChange : Tryd.prog.bytesOf 61 = 40 := by kernel_rfl
theorem weightsAll_inC {H : Type} {P : Program} {e : TypeId} : ∀ {l : List (DataW H)} {d : DataW H}, d ∈ l → ∀ n ∈ d.weights P e, n ∈ DataW.weightsAll P e l
  | d0 :: l, d, hd, n, hn => by
    simp only [DataW.weightsAll, List.mem_append]
    rcases List.mem_cons.1 hd with rfl | h
    · exact Or.inl hn
    · exact Or.inr (weightsAll_inC h n hn)
set_option maxRecDepth 100000 in
/-- three cells that read as a change -/
theorem open_change {H : Type} {enc : TypeId × Value → H} {W : World} {n : Nat} {cs : List Value} {x : DataW H × List MemPlace}
    (h : DataW.trod enc Tryd.prog W 0 (fun _ => true) true n 61 cs = some x) : ∃ a : Ch, cs = [tv a.key, tv a.value, .bool a.gone] ∧ ∃ y, x.1 = .agg [.lit (.string a.key), .lit (.string a.value), y] := by
  obtain ⟨xs, m, _, hx, hlen, hxl, hf⟩ := DataW.trod_struct Tryd.underlying61 h
  rw [Tryd.cellsChange] at hlen
  match cs, hlen with
  | [c0, c1, c2], _ =>
    have h0 : DataW.trod enc Tryd.prog W 0 (fun _ => true) true m 9 [c0] = xs[0]? := by
      have := hf 0 { name := "Key", type := 9, offset := 0, embedded := false, tag := "", pkgPath := "", byteOffset := 0 } rfl
      rwa [Tryd.cellsStrC] at this
    have h1 : DataW.trod enc Tryd.prog W 0 (fun _ => true) true m 9 [c1] = xs[1]? := by
      have := hf 1 { name := "Value", type := 9, offset := 1, embedded := false, tag := "", pkgPath := "", byteOffset := 16 } rfl
      rwa [Tryd.cellsStrC] at this
    have h2 : DataW.trod enc Tryd.prog W 0 (fun _ => true) true m 4 [c2] = xs[2]? := by
      have := hf 2 { name := "Gone", type := 4, offset := 2, embedded := false, tag := "", pkgPath := "", byteOffset := 32 } rfl
      rwa [Tryd.cellsBoolC] at this
    match xs, hxl with
    | [y0, y1, y2], _ =>
      simp only [List.getElem?_cons_zero, List.getElem?_cons_succ] at h0 h1 h2
      obtain ⟨a, ha, ya, _⟩ := DataW.trod_string Tryd.underlying9 h0
      obtain ⟨b, hb, yb, _⟩ := DataW.trod_string Tryd.underlying9 h1
      obtain ⟨g, hg, yg⟩ := DataW.trod_bool Tryd.underlying4 h2
      rw [List.singleton_inj] at ha hb hg
      refine ⟨⟨a.data.toList, b.data.toList, g⟩, ?_, .lit (.bool g), ?_⟩
      · rw [ha, hb, hg]; simp [tv]
      · rw [hx, ya, yb, yg]; rfl
set_option maxRecDepth 100000 in
/-- what is read of a slice of changes -/
theorem open_changes {H : Type} {enc : TypeId × Value → H} {W : World} {base : Nat} {v : Value} {d : DataW H} {ps : List MemPlace} (hval : Value.okWide Tryd.prog W .any base 35 v)
    (hd : DataW.Trod enc Tryd.prog W 0 (fun _ => true) true 35 v d ps) (hlt : ∀ x ∈ ps, x.block < W.heap.size) (hwt : ∀ n ∈ d.weights Tryd.prog 35, n ≤ reachBytes) :
    ∃ (A : Option Addr) (c : Nat) (l : List Ch), v = .slice A l.length c ∧ RdC W (.slice A l.length c) l ∧ (∀ g, (Value.slice A l.length c).ownBlock = some g → l.length ≠ 0 → g < W.heap.size) ∧ l.length ≤ 200000000000000 ∧ ∀ x ∈ l, x.key.length ≤ 200000000000000 ∧ x.value.length ≤ 200000000000000 := by
  have hreach : reachBytes ≤ 200000000000000 := by decide
  obtain ⟨a0, len, cap, rfl⟩ := okWide_slice Tryd.underlying35 hval
  obtain ⟨fuel, hf⟩ := hd
  rcases Go.Deep.open_slice Tryd.underlying35 hf with ⟨hcs, hx⟩ | ⟨a, len', cap', m, n, D, Pl, hcs, _, hl, hm, hmm, hx, hi⟩
  · simp [Value.cells] at hcs
    obtain ⟨rfl, rfl, rfl⟩ := hcs
    exact ⟨none, 0, [], rfl, ⟨none, 0, rfl, Nat.le_refl _, fun k a hk => by simp at hk⟩, fun g hg => (by cases hg), Nat.zero_le _, fun x hx => by cases hx⟩
  · simp [Value.cells] at hcs
    obtain ⟨rfl, rfl, rfl⟩ := hcs
    simp only [if_true] at hmm
    subst hmm
    rw [Tryd.cellsChange] at hi hx
    have hsp : 0 < m → a = ⟨a.block, a.off, none⟩ ∧ a.block < W.heap.size := by
      intro h0
      obtain ⟨cs', hc, ht'⟩ := hi 0 h0
      obtain ⟨u, rfl, _⟩ := open_change ht'
      obtain ⟨_, _, hat⟩ := World.cells?_some hc
      have a0 := hat 0 (by simp)
      rw [Nat.zero_mul] at a0
      simp only [Addr.add, if_true] at a0
      exact spot_none_b a0
    have hall : ∀ i, ∃ x : Ch, i < m → a = ⟨a.block, a.off, none⟩ ∧ a.block < W.heap.size ∧ W.cell? ⟨a.block, a.off + i * 3, none⟩ = some (tv x.key) ∧ W.cell? ⟨a.block, a.off + i * 3 + 1, none⟩ = some (tv x.value) ∧ W.cell? ⟨a.block, a.off + i * 3 + 2, none⟩ = some (.bool x.gone) ∧ ∃ y, D i = .agg [.lit (.string x.key), .lit (.string x.value), y] := by
      intro i
      by_cases him : i < m
      · obtain ⟨cs', hc, ht'⟩ := hi i him
        obtain ⟨u, rfl, w1⟩ := open_change ht'
        obtain ⟨_, _, hat⟩ := World.cells?_some hc
        have a0 := hat 0 (by simp)
        have a1 := hat 1 (by simp)
        have a2 := hat 2 (by simp)
        obtain ⟨e1, e2⟩ := hsp (by omega)
        rw [e1, Addr.add_lit, Addr.add_lit] at a0 a1 a2
        exact ⟨u, fun _ => ⟨e1, e2, by simpa using a0, by simpa using a1, by simpa using a2, w1⟩⟩
      · exact ⟨⟨[], [], false⟩, fun h => absurd h him⟩
    obtain ⟨f, hf⟩ := Classical.axiomOfChoice hall
    simp only [Prod.mk.injEq] at hx
    have hlen : len ≤ reachBytes := by
      have := hwt ((len + (m - len)) * Tryd.prog.bytesOf 61) (by rw [hx.1]; simp [DataW.weights, Tryd.underlying35])
      rw [Tryd.bytesChange] at this
      omega
    refine ⟨some a, m, (List.range len).map f, by simp, ⟨some a, m, rfl, by simpa using hl, fun k x hk => ?_⟩, fun g hg h0 => ?_, by simp only [List.length_map, List.length_range]; omega, fun x hx' => ?_⟩
    · obtain ⟨hk1, rfl⟩ := List.getElem?_eq_some_iff.1 hk
      have hk' : k < len := by simpa using hk1
      obtain ⟨h1, h2, h3, h4, h5, h6⟩ := hf k (by omega)
      simp only [List.getElem_map, List.getElem_range]
      exact ⟨a.block, a.off, by rw [← h1], h2, h3, h4, h5⟩
    · have hgg : some a.block = some g := hg
      injection hgg with hgg
      have h0' : len ≠ 0 := by simpa using h0
      rw [← hgg]
      exact (hf 0 (by omega)).2.1
    · obtain ⟨i, hi', rfl⟩ := List.mem_map.1 hx'
      have hil : i < len := by simpa using hi'
      obtain ⟨y, hD⟩ := (hf i (by omega)).2.2.2.2.2
      have hin : D i ∈ (List.range len).map D := List.mem_map.2 ⟨i, by simpa using hil, rfl⟩
      have hmem : ∀ n ∈ (D i).weights Tryd.prog 61, n ≤ reachBytes := fun n hn => hwt n (by
        rw [hx.1]
        simp only [DataW.weights, Tryd.underlying35, List.mem_cons, List.mem_append]
        exact .inr (.inl (weightsAll_inC hin n hn)))
      rw [hD] at hmem
      refine ⟨Nat.le_trans (hmem _ ?_) hreach, Nat.le_trans (hmem _ ?_) hreach⟩ <;> simp [DataW.weights, Tryd.underlying61, DataW.weightsEach]
set_option maxRecDepth 100000 in
/-- a text whose size is told -/
theorem open_textz {H : Type} {enc : TypeId × Value → H} {W : World} {base : Nat} {v : Value} {d : DataW H} {ps : List MemPlace} (hval : Value.okWide Tryd.prog W .any base 9 v)
    (hd : DataW.Trod enc Tryd.prog W 0 (fun _ => true) true 9 v d ps) (_ : ∀ x ∈ ps, x.block < W.heap.size) (hwt : ∀ n ∈ d.weights Tryd.prog 9, n ≤ reachBytes) :
    ∃ x : ByteArray, v = .string x ∧ x.size ≤ 1000000000000000 := by
  obtain ⟨x, rfl, rfl, rfl, _⟩ := Go.ChangeMaps.open_string Tryd.underlying9 hval hd
  have h := hwt x.data.toList.length (by simp [DataW.weights])
  have hr : reachBytes ≤ 1000000000000000 := by decide
  exact ⟨x, rfl, by simpa using Nat.le_trans h hr⟩
end Go.Proofs.YtklhdffbaglkdaaDoor
namespace Go.Proofs.YtklhdffbaglkdaaDoor
open Go.RowKit
set_option linter.unusedVariables false

/-- a slice that reads as these rows, in no block of X -/
def Apart (w : World) (v : Value) (rows : RowL) (X : Nat → Prop) : Prop := RdR w v rows ∧ ∀ g, v.ownBlock = some g → rows ≠ [] → ¬ X g
theorem Apart.only {w w' : World} {v : Value} {rows : RowL} {X X' : Nat → Prop} (h : Apart w v rows X) (ho : Only X w w') (hX : ∀ b, X' b → X b ∨ w.heap.size ≤ b) : Apart w' v rows X' := by
  obtain ⟨h1, h2⟩ := h
  rcases rows with _ | ⟨r, rows⟩
  · obtain ⟨A, c, rfl, hc, hz, _⟩ := h1
    exact ⟨⟨A, c, rfl, hc, hz, fun k r hk => by simp only [List.getElem?_nil] at hk; cases hk⟩, fun g _ h => absurd rfl h⟩
  · have h2' : ∀ g, v.ownBlock = some g → ¬ X g := fun g hg => h2 g hg (by intro e; cases e)
    refine ⟨h1.only ho h2', fun g hg _ hx => ?_⟩
    obtain ⟨A, c, rfl, hc, hz, ha⟩ := h1
    obtain ⟨g', o, rfl, hlt, _⟩ := ha 0 r rfl
    have hgg : some g' = some g := hg
    injection hgg with hgg
    subst hgg
    rcases hX g' hx with h | h
    · exact h2' g' rfl h
    · omega
theorem Apart.nil (w : World) (X : Nat → Prop) : Apart w (.slice none 0 0) [] X :=
  ⟨⟨none, 0, rfl, Nat.le_refl _, fun _ => rfl, fun k r hk => by simp only [List.getElem?_nil] at hk; cases hk⟩, fun g _ h => absurd rfl h⟩
theorem QRow.own {w : World} {B : Nat} {e : TypeId} {v : Value} {l : RowL} (h : QRow w B e v l) (g : Nat) (hg : v.ownBlock = some g) : B ≤ g := by
  rcases h.2 with ⟨rfl, h0⟩ | ⟨g', cap, cur, rfl, hB, _⟩
  · cases hg
  · have hgg : some g' = some g := hg
    injection hgg with hgg
    subst hgg; exact hB
/-- the code's store at p over its tape at q: all of it newer than w0; rows that lie apart from both -/
structure Sto (CT : World → (Nat → Prop) → Nat → TP → Prop) (CS : World → (Nat → Prop) → Nat → Nat → RowL → Prop) (w0 w : World) (p q : Nat) (t : TP) (rows : RowL) (vs : List (Value × RowL)) : Prop where
  out : ∃ T S : Nat → Prop, CT w T q t ∧ CS w S p q rows ∧ (∀ b, S b → ¬ T b) ∧ (∀ b, T b ∨ S b → w0.heap.size ≤ b) ∧ ∀ x ∈ vs, Apart w x.1 x.2 (fun b => T b ∨ S b)
  low : Below w0.heap.size w0 w
variable {CT : World → (Nat → Prop) → Nat → TP → Prop} {CS : World → (Nat → Prop) → Nat → Nat → RowL → Prop}
theorem Sto.rows {w0 w : World} {p q : Nat} {t : TP} {rows : RowL} {vs : List (Value × RowL)} (h : Sto CT CS w0 w p q t rows vs) (x : Value × RowL) (hx : x ∈ vs) : RdR w x.1 x.2 := by
  obtain ⟨T, S, _, _, _, _, h6⟩ := h.out
  exact (h6 x hx).1
theorem Sto.later (HT : CodeTape CT) (H : CodeStore CT CS) {w0 w w' : World} {p q : Nat} {t : TP} {rows : RowL} {vs : List (Value × RowL)} (h : Sto CT CS w0 w p q t rows vs) (hb : Below w.heap.size w w') : Sto CT CS w0 w' p q t rows vs := by
  obtain ⟨T, S, h1, h2, h3, h4, h6⟩ := h.out
  exact ⟨⟨T, S, HT.below h1 hb, H.below h2 hb, h3, h4, fun x hx => (h6 x hx).only (.of_below hb) (fun b h => .inl h)⟩, h.low.chain hb⟩
theorem Sto.add {w0 w : World} {p q : Nat} {t : TP} {rows : RowL} {vs : List (Value × RowL)} (h : Sto CT CS w0 w p q t rows vs) : Sto CT CS w0 w p q t rows ((.slice none 0 0, []) :: vs) := by
  obtain ⟨T, S, h1, h2, h3, h4, h6⟩ := h.out
  refine ⟨⟨T, S, h1, h2, h3, h4, fun x hx => ?_⟩, h.low⟩
  rcases List.mem_cons.1 hx with rfl | hx
  · exact Apart.nil _ _
  · exact h6 x hx
theorem Sto.start (HT : CodeTape CT) (H : CodeStore CT CS) {w0 w1 : World} {q : Nat} {T : Nat → Prop} (hct : CT w1 T q TP.new) (hT : ∀ b, T b → w0.heap.size ≤ b) (hb : Below w0.heap.size w0 w1) (hr : RoundsIn w1) :
    Calls Tryd.prog 12 #[.pointer (some ⟨q, 0, none⟩)] w1 fun e w' => ∃ p, e = .returned (.tuple #[.pointer (some ⟨p, 0, none⟩), .int .i64 0]) ∧ Sto CT CS w0 w' p q TP.new [] [] := by
  have hopen := H.open_ w1 T q TP.new hct TP.new_ok (by decide) hr
  rw [open_new] at hopen
  refine hopen.mono ?_
  rintro e w2 ⟨⟨T1, hct2, hT1, h | h⟩, ho2⟩
  case inr => exact absurd rfl h.1
  obtain ⟨-, p, S, rfl, hcs, hS⟩ := h
  refine ⟨p, rfl, ⟨T1, S, hct2, hcs, fun b hb => (hS b hb).2, fun b hx => ?_, fun x hx => by cases hx⟩, hb.trans (ho2.below hb.size hT)⟩
  rcases hx with hx | hx
  · rcases hT1 b hx with h | h
    · exact hT b h
    · exact Nat.le_trans hb.size h
  · exact Nat.le_trans hb.size (hS b hx).1
theorem Sto.do_ (HT : CodeTape CT) (H : CodeStore CT CS) {w0 w : World} {p q : Nat} {t : TP} {rows : RowL} {vs : List (Value × RowL)} (h : Sto CT CS w0 w p q t rows vs) (A : Option Addr) (c : Nat) (l : List Ch) (ht : t.Ok) (hb : t.b.length ≤ 100000) (hrl : rows.length ≤ 50000) (hr : RoundsIn w0) (hc : RdC w0 (.slice A l.length c) l) (hll : l.length ≤ 50000) (h1 : (recL l).length ≤ 1000000) (h2 : (recL (allR (turnL rows l))).length ≤ 1000000)
    (ho : ∀ g, (Value.slice A l.length c).ownBlock = some g → l.length ≠ 0 → g < w0.heap.size) : Calls Tryd.prog 18 #[.pointer (some ⟨p, 0, none⟩), .slice A l.length c] w fun e w' =>
    e = .returned (.int .i64 (doS t rows l).1) ∧ Sto CT CS w0 w' p q (doS t rows l).2.2 (doS t rows l).2.1 vs := by
  obtain ⟨T, S, k1, k2, k3, k4, k6⟩ := h.out
  refine (H.do_ w T S p q t rows A c l k1 k2 k3 ht hb hrl (hr.below h.low) (hc.below h.low) hll h1 h2 (fun g h0 hg => by
    have := ho g hg h0
    exact ⟨fun h => absurd (k4 g (.inl h)) (by omega), fun h => absurd (k4 g (.inr h)) (by omega)⟩)).mono ?_
  rintro e w' ⟨rfl, ⟨T', S', c1, c2, c3, c4⟩, ho⟩
  refine ⟨rfl, ⟨T', S', c1, c2, c3, fun b hx => ?_, fun x hx => (k6 x hx).only ho (fun b hx => ?_)⟩, h.low.trans (ho.below h.low.size (fun b hb => k4 b hb))⟩
  · rcases c4 b hx with h' | h' | h'
    · exact k4 b (.inl h')
    · exact k4 b (.inr h')
    · exact Nat.le_trans h.low.size h'
  · rcases c4 b hx with h' | h' | h'
    · exact .inl (.inl h')
    · exact .inl (.inr h')
    · exact .inr h'
/-- what turns the tape alone -/
theorem Sto.tape (H : CodeStore CT CS) {P : Program} {w0 w : World} {p q : Nat} {t t' : TP} {rows : RowL} {vs : List (Value × RowL)} {f : FuncId} {args : Array Value} {E : Ending} (h : Sto CT CS w0 w p q t rows vs)
    (hc : ∀ T : Nat → Prop, CT w T q t → Calls P f args w fun e w' => e = E ∧ (∃ T' : Nat → Prop, CT w' T' q t' ∧ ∀ b, T' b → T b ∨ w.heap.size ≤ b) ∧ Only T w w') : Calls P f args w fun e w' => e = E ∧ Sto CT CS w0 w' p q t' rows vs := by
  obtain ⟨T, S, k1, k2, k3, k4, k6⟩ := h.out
  refine (hc T k1).mono ?_
  rintro e w' ⟨rfl, ⟨T', c1, c2⟩, ho⟩
  refine ⟨rfl, ⟨T', S, c1, H.only k2 ho k3, fun b hS hT => ?_, fun b hx => ?_, fun x hx => (k6 x hx).only (ho.mono fun i _ h => .inl h) (fun b hx => ?_)⟩, h.low.trans (ho.below h.low.size (fun b hb => k4 b (.inl hb)))⟩
  · rcases c2 b hT with h' | h'
    · exact k3 b hS h'
    · have := H.lt k2 b hS; omega
  · rcases hx with hx | hx
    · rcases c2 b hx with h' | h'
      · exact k4 b (.inl h')
      · exact Nat.le_trans h.low.size h'
    · exact k4 b (.inr hx)
  · rcases hx with hx | hx
    · rcases c2 b hx with h' | h'
      · exact .inl (.inl h')
      · exact .inr h'
    · exact .inl (.inr hx)
theorem Sto.fuse (HT : CodeTape CT) (H : CodeStore CT CS) {w0 w : World} {p q : Nat} {t : TP} {rows : RowL} {vs : List (Value × RowL)} (h : Sto CT CS w0 w p q t rows vs) (n : Int) (hn : (Lit.int .i64 n).wf = true) :
    Calls Tryd.prog 17 #[.pointer (some ⟨q, 0, none⟩), .int .i64 n] w fun e w' => e = .returned (.tuple #[]) ∧ Sto CT CS w0 w' p q (t.setFuse n) rows vs :=
  h.tape H fun T hT => HT.fuse w T q t n hT hn
theorem Sto.crash (HT : CodeTape CT) (H : CodeStore CT CS) {w0 w : World} {p q : Nat} {t : TP} {rows : RowL} {vs : List (Value × RowL)} (h : Sto CT CS w0 w p q t rows vs) (ht : t.Ok) (hb : t.b.length ≤ 100000000) (n : Int) (hn : (Lit.int .i64 n).wf = true) :
    Calls Tryd.prog 15 #[.pointer (some ⟨q, 0, none⟩), .int .i64 n] w fun e w' => e = .returned (.tuple #[]) ∧ Sto CT CS w0 w' p q (t.crash n) rows vs :=
  h.tape H fun T hT => HT.crash w T q t n hT ht hb hn
theorem Sto.reopen (HT : CodeTape CT) (H : CodeStore CT CS) {w0 w : World} {p q : Nat} {t t' : TP} {rows rows' : RowL} {vs : List (Value × RowL)} (h : Sto CT CS w0 w p q t rows vs) (ht : t.Ok) (hb : t.b.length ≤ 100000) (hr : RoundsIn w0) (ho : openS t = (0, rows', t')) :
    Calls Tryd.prog 12 #[.pointer (some ⟨q, 0, none⟩)] w fun e w' => ∃ p', e = .returned (.tuple #[.pointer (some ⟨p', 0, none⟩), .int .i64 0]) ∧ Sto CT CS w0 w' p' q t' rows' vs := by
  obtain ⟨T, S, k1, k2, k3, k4, k6⟩ := h.out
  have hopen := H.open_ w T q t k1 ht hb (hr.below h.low)
  rw [ho] at hopen
  refine hopen.mono ?_
  rintro e w' ⟨⟨T1, c1, c2, h' | h'⟩, ho⟩
  case inr => exact absurd rfl h'.1
  obtain ⟨-, p', S', rfl, c3, c4⟩ := h'
  refine ⟨p', rfl, ⟨T1, S', c1, c3, fun b hb => (c4 b hb).2, fun b hx => ?_, fun x hx => (k6 x hx).only (ho.mono fun i _ h => .inl h) (fun b hx => ?_)⟩, h.low.trans (ho.below h.low.size (fun b hb => k4 b (.inl hb)))⟩
  · rcases hx with hx | hx
    · rcases c2 b hx with h' | h'
      · exact k4 b (.inl h')
      · exact Nat.le_trans h.low.size h'
    · exact Nat.le_trans h.low.size (c4 b hx).1
  · rcases hx with hx | hx
    · rcases c2 b hx with h' | h'
      · exact .inl (.inl h')
      · exact .inr h'
    · exact .inr (c4 b hx).1
theorem Sto.turn (HT : CodeTape CT) (H : CodeStore CT CS) {w0 w : World} {p q : Nat} {t : TP} {rows : RowL} {vs : List (Value × RowL)} (h : Sto CT CS w0 w p q t rows vs) (v : Value) (now : RowL) (hx : (v, now) ∈ vs) (A' : Option Addr) (c' : Nat) (l : List Ch) (hrl : now.length ≤ 100000) (hll : l.length ≤ 100000) (hc : RdC w0 (.slice A' l.length c') l) :
    Calls Tryd.prog 23 #[v, .slice A' l.length c'] w fun e w' => ∃ v', e = .returned v' ∧ Sto CT CS w0 w' p q t rows ((v', turnL now l) :: vs) := by
  have hrv : RdR w v now := h.rows _ hx
  obtain ⟨A, c, rfl⟩ := rdr_form hrv
  refine (refTurn_any A c now A' c' l hrl hll w hrv (hc.below h.low)).mono ?_
  rintro e w' ⟨⟨v, rfl, hq⟩, hb⟩
  have hrd := hq.rd
  have hown := hq.own
  obtain ⟨T0, S0, j1, j2, j3, j4, j6⟩ := h.out
  refine ⟨v, rfl, ⟨T0, S0, HT.below j1 hb, H.below j2 hb, j3, j4, fun x hx => ?_⟩, h.low.chain hb⟩
  rcases List.mem_cons.1 hx with rfl | hx
  · refine ⟨hrd, fun g hg _ hX => ?_⟩
    have := hown g hg
    rcases hX with h | h
    · have := HT.lt j1 g h; omega
    · have := H.lt j2 g h; omega
  · exact (j6 x hx).only (.of_below hb) (fun b h => .inl h)
theorem Sto.same (HT : CodeTape CT) (H : CodeStore CT CS) {w0 w : World} {p q : Nat} {t : TP} {rows : RowL} {vs : List (Value × RowL)} (h : Sto CT CS w0 w p q t rows vs) (v : Value) (now : RowL) (hx : (v, now) ∈ vs) (hl : rows.length ≤ 100000) (hl' : now.length ≤ 100000) (hz : ∀ r ∈ now, r.1.length ≤ 1000000000000) (hr' : Rising now) :
    Calls Tryd.prog 20 #[.pointer (some ⟨p, 0, none⟩), v] w fun e w' => e = .returned (.bool (decide (rows = now))) ∧ Sto CT CS w0 w' p q t rows vs := by
  have hrv : RdR w v now := h.rows _ hx
  obtain ⟨A, c, rfl⟩ := rdr_form hrv
  obtain ⟨T, S, k1, k2, k3, k4, k6⟩ := h.out
  refine (same12_any H S p q rows now A c hl hl' hz hr' w k2 hrv).mono ?_
  rintro e w' ⟨rfl, hb⟩
  exact ⟨rfl, h.later HT H hb⟩
end Go.Proofs.YtklhdffbaglkdaaDoor
namespace Go.Proofs.YtklhdffbaglkdaaDoor

/-- the rows are turned if there is no error, and else as they were -/
theorem do_rows (t : TP) (rows : RowL) (l : List Ch) : (doS t rows l).2.1 = if (doS t rows l).1 = 0 then turnL rows l else rows := by
  obtain ⟨RB, hRB⟩ : ∃ x, recL l = x := ⟨_, rfl⟩
  obtain ⟨R2, hR2⟩ : ∃ x, turnL rows l = x := ⟨_, rfl⟩
  obtain ⟨RW, hRW⟩ : ∃ x, recL (allR R2) = x := ⟨_, rfl⟩
  obtain ⟨FB, hFB⟩ : ∃ x, frameL RB = x := ⟨_, rfl⟩
  obtain ⟨FW, hFW⟩ : ∃ x, frameL RW = x := ⟨_, rfl⟩
  obtain ⟨WR, hWR⟩ : ∃ x, t.write FB = x := ⟨_, rfl⟩
  obtain ⟨SW, hSW⟩ : ∃ x, t.swap FW = x := ⟨_, rfl⟩
  obtain ⟨SY, hSY⟩ : ∃ x, WR.1.sync = x := ⟨_, rfl⟩
  have hnil : l.length = 0 → rows = R2 := fun h => by
    obtain rfl : l = [] := List.length_eq_zero_iff.1 h
    rw [← hR2]; rfl
  have hdo : doS t rows l = if l.length = 0 then (0, rows, t) else if 32768 < RB.length then (3, rows, t) else if 65536 < t.b.length + RB.length + 8 then (if 32768 < RW.length then (7, rows, t) else (SW.2, (if SW.2 = 0 then R2 else rows), SW.1)) else if WR.2 = 0 then (SY.2, (if SY.2 = 0 then R2 else rows), SY.1) else (WR.2, rows, WR.1) := by
    unfold doS
    rw [hRB, hR2, hRW, hFB, hFW, hWR, hSW, hSY]
  rw [hdo, hR2]
  clear hdo
  by_cases h0 : l.length = 0
  · rw [if_pos h0]
    show rows = if (0 : Int) = 0 then R2 else rows
    rw [if_pos rfl]; exact hnil h0
  rw [if_neg h0]
  by_cases h1 : 32768 < RB.length
  · rw [if_pos h1]; rfl
  rw [if_neg h1]
  by_cases h2 : 65536 < t.b.length + RB.length + 8
  · rw [if_pos h2]
    by_cases h3 : 32768 < RW.length
    · rw [if_pos h3]; rfl
    · rw [if_neg h3]
  · rw [if_neg h2]
    by_cases h3 : WR.2 = 0
    · rw [if_pos h3]
    · rw [if_neg h3]
      show rows = if WR.2 = 0 then R2 else rows
      rw [if_neg h3]
/-- changed: the power is there -/
theorem do_up (t : TP) (rows : RowL) (l : List Ch) (hd : t.down = false) (h : (doS t rows l).1 = 0) : (doS t rows l).2.2.down = false := by
  obtain ⟨RB, hRB⟩ : ∃ x, recL l = x := ⟨_, rfl⟩
  obtain ⟨R2, hR2⟩ : ∃ x, turnL rows l = x := ⟨_, rfl⟩
  obtain ⟨RW, hRW⟩ : ∃ x, recL (allR R2) = x := ⟨_, rfl⟩
  obtain ⟨FB, hFB⟩ : ∃ x, frameL RB = x := ⟨_, rfl⟩
  obtain ⟨FW, hFW⟩ : ∃ x, frameL RW = x := ⟨_, rfl⟩
  have hsc := swap_cases t FW
  obtain ⟨WR, hWR⟩ : ∃ x, t.write FB = x := ⟨_, rfl⟩
  obtain ⟨SW, hSW⟩ : ∃ x, t.swap FW = x := ⟨_, rfl⟩
  have hyc := sync_cases WR.1
  obtain ⟨SY, hSY⟩ : ∃ x, WR.1.sync = x := ⟨_, rfl⟩
  rw [hSW] at hsc
  rw [hSY] at hyc
  have hdo : doS t rows l = if l.length = 0 then (0, rows, t) else if 32768 < RB.length then (3, rows, t) else if 65536 < t.b.length + RB.length + 8 then (if 32768 < RW.length then (7, rows, t) else (SW.2, (if SW.2 = 0 then R2 else rows), SW.1)) else if WR.2 = 0 then (SY.2, (if SY.2 = 0 then R2 else rows), SY.1) else (WR.2, rows, WR.1) := by
    unfold doS
    rw [hRB, hR2, hRW, hFB, hFW, hWR, hSW, hSY]
  rw [hdo] at h ⊢
  clear hdo
  by_cases h0 : l.length = 0
  · rw [if_pos h0]; exact hd
  rw [if_neg h0] at h ⊢
  by_cases h1 : 32768 < RB.length
  · rw [if_pos h1]; exact hd
  rw [if_neg h1] at h ⊢
  by_cases h2 : 65536 < t.b.length + RB.length + 8
  · rw [if_pos h2] at h ⊢
    by_cases h3 : 32768 < RW.length
    · rw [if_pos h3]; exact hd
    · rw [if_neg h3] at h ⊢
      have h : SW.2 = 0 := h
      rcases hsc with hs | hs
      · exact hs.2.2.2.2
      · rw [hs.1] at h; exact absurd h (by decide)
  · rw [if_neg h2] at h ⊢
    by_cases h3 : WR.2 = 0
    · rw [if_pos h3] at h ⊢
      have h : SY.2 = 0 := h
      rcases hyc with hs | hs
      · exact hs.2.2.2.2
      · rw [hs.1] at h; exact absurd h (by decide)
    · rw [if_neg h3] at h
      exact absurd h h3
theorem Good.fuse {t : TP} {rows X : RowL} (h : Good t rows X) (n : Int) : Good (t.setFuse n) rows X := ⟨h.out⟩
/-- a new store's first changes leave the power there -/
theorem do_new_down (l : List Ch) : (doS TP.new [] l).2.2.down = false := by
  by_cases h0 : l.length = 0
  · unfold doS
    rw [if_pos h0]; rfl
  by_cases hs : 32768 < (recL l).length
  · unfold doS
    rw [if_neg h0, if_pos hs]; rfl
  · rw [doS_calm (t := TP.new) (by show (-1 : Int) < 0; decide) rfl [] l h0 (by omega) (by show 0 + _ + 8 ≤ 65536; omega)]
    rfl
/-- two calls of changes, the power going in the second, a crash: all of the second or none -/
theorem atomic_pure (first second : List Ch) (n keep : Int) {t1 : TP} {now : RowL} (h1 : (doS TP.new [] first).2.2 = t1) (h2 : (doS TP.new [] first).2.1 = now) {f : Int} {t2 : TP} {r2 : RowL} (h3 : doS (t1.setFuse n) now second = (f, r2, t2)) :
    ∃ Y T2, openS (t2.crash keep) = (0, Y, T2) ∧ (f = 0 → Y = turnL now second) ∧ (f = 8 → Y = turnL now second ∨ Y = now) ∧ (f ≠ 0 → f ≠ 8 → Y = now) := by
  have hdown := do_new_down first
  obtain ⟨X0, hg0, _⟩ := do_good good_new first
  rw [h1] at hdown hg0
  rw [h2] at hg0
  have hg1 := (hg0.calm hdown).fuse n
  obtain ⟨X, hg2, hX⟩ := do_good hg1 second
  have hrows := do_rows (t1.setFuse n) now second
  have hup := do_up (t1.setFuse n) now second hdown
  rw [h3] at hg2 hX hrows hup
  dsimp only at hg2 hX hrows hup
  by_cases hf : f = 0
  · obtain ⟨Y, T2, e, hY, _⟩ := open_good (hg2.calm (hup hf)) keep
    rw [if_pos hf] at hrows
    refine ⟨Y, T2, e, fun _ => ?_, fun h => absurd (hf.symm.trans h) (by decide), fun h => absurd hf h⟩
    rw [← hrows]; exact hY.elim id id
  · rw [if_neg hf] at hrows
    obtain ⟨Y, T2, e, hY, _⟩ := open_good hg2 keep
    refine ⟨Y, T2, e, fun h => absurd h hf, fun _ => ?_, fun _ h8 => ?_⟩
    · rcases hY with h | h
      · right; rw [h, hrows]
      · rcases hX with x | x | x
        · right; rw [h, x]
        · right; rw [h, x, hrows]
        · left; rw [h, x.2]
    · rcases hY with h | h
      · rw [h, hrows]
      · rcases hX with x | x | x
        · rw [h, x]
        · rw [h, x, hrows]
        · exact absurd x.1 h8
end Go.Proofs.YtklhdffbaglkdaaDoor
namespace Go.Proofs.YtklhdffbaglkdaaDoor
open Go.RowKit
set_option linter.unusedVariables false
set_option linter.unusedSimpArgs false

set_option maxRecDepth 100000 in
set_option maxHeartbeats 4000000 in
theorem storeAtomic_at {CT : World → (Nat → Prop) → Nat → TP → Prop} {CS : World → (Nat → Prop) → Nat → Nat → RowL → Prop} (HT : CodeTape CT) (H : CodeStore CT CS) (A : Option Addr) (c : Nat) (first : List Ch) (A' : Option Addr) (c' : Nat) (second : List Ch) (fu keep : Int) {w : World}
    (hc : RdC w (.slice A first.length c) first ∧ (∀ g, (Value.slice A first.length c).ownBlock = some g → first.length ≠ 0 → g < w.heap.size) ∧ first.length ≤ 200000000000000 ∧ ∀ x ∈ first, x.key.length ≤ 200000000000000 ∧ x.value.length ≤ 200000000000000)
    (hc' : RdC w (.slice A' second.length c') second ∧ (∀ g, (Value.slice A' second.length c').ownBlock = some g → second.length ≠ 0 → g < w.heap.size) ∧ second.length ≤ 200000000000000 ∧ ∀ x ∈ second, x.key.length ≤ 200000000000000 ∧ x.value.length ≤ 200000000000000) (hfu : (Lit.int .u16 fu).wf = true) (hkp : (Lit.int .i64 keep).wf = true) (hr : RoundsIn w) :
    Calls Tryd.prog 4 #[.slice A first.length c, .slice A' second.length c', .int .u16 fu, .int .i64 keep] w fun e w' => e = .returned (.bool true) ∧ Below w.heap.size w w' := by
  obtain ⟨hrc, hbl, hll, hz⟩ := hc
  obtain ⟨hrc', hbl', hll', hz'⟩ := hc'
  have hans := fun W (hb : Below w.heap.size w W) => answers12_any HT H W (hr.below hb)
  have hsm := small12_any A c first hll hz w hrc
  have hsm' := fun W (hb : Below w.heap.size w W) => small12_any A' c' second hll' hz' W (hrc'.below hb)
  have HA := Lib.hid hans; have HHT := Lib.hid HT; have HH := Lib.hid H; have HR := Lib.hid hr; have SM := Lib.hid hsm; have SM' := Lib.hid hsm'
  have RC := Lib.hid hrc; have BL := Lib.hid hbl; have RC' := Lib.hid hrc'; have BL' := Lib.hid hbl'; have KP := Lib.hid hkp; have FU := Lib.hid hfu
  clear hans HT H hr hsm hsm' hrc hbl hrc' hbl' hz hz' hll hll' hkp hfu
  go_enter Tryd.func4, Tryd.ntmps4
  go_wp2_with fail
  refine SM.out.mono ?_
  rintro e w0 ⟨rfl, hb0⟩
  have B0 := Lib.hid hb0; clear hb0
  cases hsb : smallB first with
  | false =>
    clear hsb
    dsimp only
    go_wp2_with fail
    refine (HA.out _ B0.out).mono ?_
    rintro e w1 ⟨rfl, hb1⟩
    have B1 := Lib.hid (B0.out.chain hb1); clear hb1
    dsimp only
    go_wp2
    go_ret
    exact ⟨rfl, B1.out⟩
  | true =>
  have SB := Lib.hid hsb; clear hsb
  dsimp only
  go_wp2_with fail
  refine (SM'.out _ B0.out).mono ?_
  rintro e w1 ⟨rfl, hb1⟩
  have B1 := Lib.hid (B0.out.chain hb1); clear hb1
  cases hsb : smallB second with
  | false =>
    clear hsb
    dsimp only
    go_wp2_with fail
    refine (HA.out _ B1.out).mono ?_
    rintro e w2 ⟨rfl, hb2⟩
    have B2 := Lib.hid (B1.out.chain hb2); clear hb2
    dsimp only
    go_wp2
    go_ret
    exact ⟨rfl, B2.out⟩
  | true =>
  obtain ⟨l1, l2, l3⟩ := small_rec SB.out
  obtain ⟨m1, m2, m3⟩ := small_rec hsb
  obtain ⟨f1, now, t1, hd1⟩ : ∃ f1 now t1, doS TP.new [] first = (f1, now, t1) := ⟨_, _, _, rfl⟩
  have hok1 := doS_ok TP.new_ok [] first (by decide)
  have hrow1 := do_rows TP.new [] first
  have hris1 : Rising (doS TP.new [] first).2.1 := doS_rising (show Rising [] from trivial) first
  rw [hd1] at hok1 hrow1 hris1
  dsimp only at hok1 hrow1 hris1
  have hnl : now.length ≤ 100 ∧ sumR now ≤ 40000 := by
    rw [hrow1]
    have h1 := turnL_len first []
    have h2 := sumR_turn first []
    simp only [sumR, List.length_nil] at h1 h2
    split
    · omega
    · exact ⟨Nat.zero_le _, Nat.zero_le _⟩
  obtain ⟨f, r2, t2, hd2⟩ : ∃ f r2 t2, doS (t1.setFuse fu) now second = (f, r2, t2) := ⟨_, _, _, rfl⟩
  have hfu2 : 0 ≤ fu ∧ fu < 65536 := by
    have := FU.out
    simp [Lit.wf, IntKind.min, IntKind.max, IntKind.signed, IntKind.bits] at this
    omega
  have hokf := TP.fuse_ok hok1.1 fu (by omega)
  have hok2 := doS_ok hokf now second hok1.2
  have hrow2 := do_rows (t1.setFuse fu) now second
  rw [hd2] at hok2 hrow2
  dsimp only at hok2 hrow2
  obtain ⟨Y, T2, hop, hy0, hy8, hyn⟩ := atomic_pure first second fu keep (by rw [hd1]) (by rw [hd1]) hd2
  obtain ⟨TN, hTN⟩ : ∃ TN, turnL now second = TN := ⟨_, rfl⟩
  have hris2 := turnL_rising second hris1
  have htn : TN.length ≤ 200 ∧ sumR TN ≤ 80000 := by
    have h1 := turnL_len second now
    have h2 := sumR_turn second now
    rw [hTN] at h1 h2
    omega
  have hcr := TP.crash_ok hok2.1 keep
  have hrec1 : (recL (allR (turnL [] first))).length ≤ 1000000 := by
    have h1 := turnL_len first []
    have h2 := sumR_turn first []
    have h3 := rec_all_le (turnL [] first)
    simp only [sumR, List.length_nil] at h1 h2
    omega
  have hrec2 : (recL (allR TN)).length ≤ 1000000 := by
    have h3 := rec_all_le TN
    omega
  have hzn : ∀ r ∈ now, r.1.length ≤ 1000000000000 := fun r hr => by have := sumR_mem _ r hr; omega
  have hzt : ∀ r ∈ TN, r.1.length ≤ 1000000000000 := fun r hr => by have := sumR_mem _ r hr; omega
  have hwr : IntKind.i64.wrap fu = fu := by rw [IntKind.wrap_i64]; omega
  have hwf : (Lit.int .i64 fu).wf = true := by simp [Lit.wf, IntKind.min, IntKind.max, IntKind.signed, IntKind.bits]; omega
  rw [hTN] at hy0 hy8 hrow2 hris2
  have D1 := Lib.hid hd1; have D2 := Lib.hid hd2; have OK1 := Lib.hid hok1; have ROW1 := Lib.hid hrow1; have RIS1 := Lib.hid hris1; have NL := Lib.hid hnl; have OKF := Lib.hid hokf; have OK2 := Lib.hid hok2; have ROW2 := Lib.hid hrow2; have OP := Lib.hid hop; have Y0 := Lib.hid hy0; have Y8 := Lib.hid hy8; have YN := Lib.hid hyn; have HTN := Lib.hid hTN; have RIS2 := Lib.hid hris2; have TNL := Lib.hid htn; have CR := Lib.hid hcr; have REC1 := Lib.hid hrec1; have REC2 := Lib.hid hrec2; have ZN := Lib.hid hzn; have ZT := Lib.hid hzt; have WF := Lib.hid hwf; have L1 := Lib.hid l1; have L3 := Lib.hid l3; have M1 := Lib.hid m1; have M3 := Lib.hid m3
  clear hd1 hd2 hok1 hrow1 hris1 hnl hokf hok2 hrow2 hop hy0 hy8 hyn hTN hris2 htn hcr hrec1 hrec2 hzn hzt hwf l1 l2 l3 m1 m2 m3 hfu2 hsb
  dsimp only
  go_wp2_with fail
  refine (HHT.out.new _).mono ?_
  rintro e w2 ⟨⟨q, T, rfl, hct, hT⟩, hb2⟩
  have hop := Sto.start HHT.out HH.out hct (fun b hb => Nat.le_trans B1.out.size (hT b hb)) (B1.out.chain hb2) (HR.out.below (B1.out.chain hb2))
  have OPEN := Lib.hid hop
  clear hb2 hct hT hop
  dsimp only
  go_wp2_with fail
  refine OPEN.out.mono ?_
  rintro e w3 ⟨p, rfl, st⟩
  have ST3 := Lib.hid st.add; clear st
  dsimp only
  go_wp2_with fail
  have hdo := Sto.do_ HHT.out HH.out ST3.out A c first TP.new_ok (by decide) (by decide) HR.out RC.out (by have := L1.out; omega) L3.out REC1.out BL.out
  rw [D1.out] at hdo
  have DO := Lib.hid hdo; clear hdo
  refine DO.out.mono ?_
  rintro e w4 ⟨rfl, st⟩
  have ST4 := Lib.hid st; clear st
  dsimp only
  by_cases hf1 : f1 = 0
  case' pos =>
    subst hf1
    go_wp2_with fail
    have htu := Sto.turn HHT.out HH.out ST4.out (.slice none 0 0) [] (by simp) A c first (by decide) (by have := L1.out; omega) RC.out
    have hnow : turnL [] first = now := by
      have := ROW1.out
      simp only [if_true] at this
      exact this.symm
    rw [hnow] at htu
    have TU := Lib.hid htu
    clear htu hnow
    refine TU.out.mono ?_
    rintro e w5 ⟨vn, rfl, st⟩
    have ST5 := Lib.hid st; clear st
    have hin : (vn, now) ∈ ((vn, now) :: [((Value.slice none 0 0), ([] : RowL))]) := by simp
    obtain ⟨vs, hvs⟩ : ∃ vs, ((vn, now) :: [((Value.slice none 0 0), ([] : RowL))]) = vs := ⟨_, rfl⟩
    rw [hvs] at ST5 hin
    have IN := Lib.hid hin
    clear hin hvs
    dsimp only
  case' neg =>
    have hq1 : (f1 == 0) = false := by simpa using hf1
    have hnow : now = [] := by
      have := ROW1.out
      rwa [if_neg hf1] at this
    obtain ⟨vn, hvn⟩ : ∃ vn, Value.slice none 0 0 = vn := ⟨_, rfl⟩
    have hst : Sto CT CS w w4 p q t1 now [(Value.slice none 0 0, ([] : RowL))] := ST4.out
    obtain ⟨w5, hw5⟩ : ∃ w5, w4 = w5 := ⟨_, rfl⟩
    have hin : (Value.slice none 0 0, now) ∈ [(Value.slice none 0 0, ([] : RowL))] := by rw [hnow]; simp
    obtain ⟨vs, hvs⟩ : ∃ vs, [((Value.slice none 0 0), ([] : RowL))] = vs := ⟨_, rfl⟩
    rw [hvs] at hst hin
    subst hw5
    have ST5 := Lib.hid hst; have IN := Lib.hid hin
    clear hnow hvn hst hin hvs hf1
  all_goals
    go_wp2_with fail
    have FUS := Lib.hid (Sto.fuse HHT.out HH.out ST5.out fu WF.out)
    refine FUS.out.mono ?_
    rintro e w6 ⟨rfl, st⟩
    have ST6 := Lib.hid st; clear st FUS
    dsimp only
    go_wp2_with fail
    have hdo := Sto.do_ HHT.out HH.out ST6.out A' c' second OKF.out (by have := OK1.out.2; show t1.b.length ≤ 100000; omega) (by have := NL.out; omega) HR.out RC'.out (by have := M1.out; omega) M3.out (by rw [HTN.out]; exact REC2.out) BL'.out
    rw [D2.out] at hdo
    have DO2 := Lib.hid hdo; clear hdo
    refine DO2.out.mono ?_
    rintro e w7 ⟨rfl, st⟩
    have ST7 := Lib.hid st; clear st DO2
    dsimp only
    by_cases hf0 : f = 0
    · have hr2 : r2 = TN := by
        have := ROW2.out
        rwa [if_pos hf0] at this
      have hY := Y0.out hf0
      subst hf0
      rw [hr2] at ST7
      have HY := Lib.hid hY
      clear hr2 hY
      go_wp2_with fail
      have htu := Sto.turn HHT.out HH.out ST7.out _ now IN.out A' c' second (by have := NL.out; omega) (by have := M1.out; omega) RC'.out
      rw [HTN.out] at htu
      have TU := Lib.hid htu
      clear htu
      refine TU.out.mono ?_
      rintro e w8 ⟨vt, rfl, st⟩
      obtain ⟨vs2, hvs⟩ : ∃ vs2, ((vt, TN) :: vs) = vs2 := ⟨_, rfl⟩
      have hin2 : (vt, TN) ∈ vs2 := by rw [← hvs]; simp
      have hin3 := List.mem_cons_of_mem (vt, TN) IN.out
      rw [hvs] at st hin3
      have ST8 := Lib.hid st; have IN2 := Lib.hid hin2; have IN3 := Lib.hid hin3
      clear st hin2 hin3 hvs TU
      dsimp only
      go_wp2_with fail
      have hsa := Sto.same HHT.out HH.out ST8.out _ TN IN2.out (by have := TNL.out; omega) (by have := TNL.out; omega) ZT.out RIS2.out
      rw [decide_eq_true rfl] at hsa
      have SA := Lib.hid hsa; clear hsa
      refine SA.out.mono ?_
      rintro e w9 ⟨rfl, st⟩
      have ST9 := Lib.hid st; clear st SA
      dsimp only
      go_wp2_with fail
      have CRA := Lib.hid (Sto.crash HHT.out HH.out ST9.out OK2.out.1 (by have := OK2.out.2; omega) keep KP.out)
      refine CRA.out.mono ?_
      rintro e w10 ⟨rfl, st⟩
      have ST10 := Lib.hid st; clear st CRA
      dsimp only
      go_wp2_with fail
      have REO := Lib.hid (Sto.reopen HHT.out HH.out ST10.out CR.out.1 (by have := CR.out.2; have := OK2.out.2; omega) HR.out OP.out)
      refine REO.out.mono ?_
      rintro e w11 ⟨p2, rfl, st⟩
      have ST11 := Lib.hid st; clear st REO
      dsimp only
      go_wp2_with fail
      refine (HA.out _ ST11.out.low).mono ?_
      rintro e w12 ⟨rfl, hb⟩
      have ST12 := Lib.hid (ST11.out.later HHT.out HH.out hb); clear hb
      dsimp only
      go_wp2_with fail
      have hsa := Sto.same HHT.out HH.out ST12.out _ TN IN2.out (by have := TNL.out; rw [HY.out]; omega) (by have := TNL.out; omega) ZT.out RIS2.out
      rw [decide_eq_true HY.out] at hsa
      have SA := Lib.hid hsa; clear hsa
      refine SA.out.mono ?_
      rintro e w13 ⟨rfl, st⟩
      have ST13 := Lib.hid st; clear st SA
      dsimp only
      go_wp2
      go_ret
      exact ⟨rfl, ST13.out.low⟩
    · have hr2 : r2 = now := by
        have := ROW2.out
        rwa [if_neg hf0] at this
      rw [hr2] at ST7
      by_cases hf8 : f = 8
      · have hY := Y8.out hf8
        subst hf8
        have HY := Lib.hid hY
        clear hr2 hY hf0
        go_wp2_with fail
        have htu := Sto.turn HHT.out HH.out ST7.out _ now IN.out A' c' second (by have := NL.out; omega) (by have := M1.out; omega) RC'.out
        rw [HTN.out] at htu
        have TU := Lib.hid htu
        clear htu
        refine TU.out.mono ?_
        rintro e w8 ⟨vt, rfl, st⟩
        obtain ⟨vs2, hvs⟩ : ∃ vs2, ((vt, TN) :: vs) = vs2 := ⟨_, rfl⟩
        have hin2 : (vt, TN) ∈ vs2 := by rw [← hvs]; simp
        have hin3 := List.mem_cons_of_mem (vt, TN) IN.out
        rw [hvs] at st hin3
        have ST8 := Lib.hid st; have IN2 := Lib.hid hin2; have IN3 := Lib.hid hin3
        clear st hin2 hin3 hvs TU
        dsimp only
        go_wp2_with fail
        have hsa := Sto.same HHT.out HH.out ST8.out _ now IN3.out (by have := NL.out; omega) (by have := NL.out; omega) ZN.out RIS1.out
        rw [decide_eq_true rfl] at hsa
        have SA := Lib.hid hsa; clear hsa
        refine SA.out.mono ?_
        rintro e w9 ⟨rfl, st⟩
        have ST9 := Lib.hid st; clear st SA
        dsimp only
        go_wp2_with fail
        have CRA := Lib.hid (Sto.crash HHT.out HH.out ST9.out OK2.out.1 (by have := OK2.out.2; omega) keep KP.out)
        refine CRA.out.mono ?_
        rintro e w10 ⟨rfl, st⟩
        have ST10 := Lib.hid st; clear st CRA
        dsimp only
        go_wp2_with fail
        have REO := Lib.hid (Sto.reopen HHT.out HH.out ST10.out CR.out.1 (by have := CR.out.2; have := OK2.out.2; omega) HR.out OP.out)
        refine REO.out.mono ?_
        rintro e w11 ⟨p2, rfl, st⟩
        have ST11 := Lib.hid st; clear st REO
        dsimp only
        go_wp2_with fail
        refine (HA.out _ ST11.out.low).mono ?_
        rintro e w12 ⟨rfl, hb⟩
        have ST12 := Lib.hid (ST11.out.later HHT.out HH.out hb); clear hb
        dsimp only
        go_wp2_with fail
        have hYl : Y.length ≤ 100000 := by
          have := TNL.out; have := NL.out
          rcases HY.out with h | h <;> rw [h] <;> omega
        have HYL := Lib.hid hYl; clear hYl
        by_cases hyt : Y = TN
        · have HYT := Lib.hid hyt; clear hyt
          have hsa := Sto.same HHT.out HH.out ST12.out _ TN IN2.out HYL.out (by have := TNL.out; omega) ZT.out RIS2.out
          rw [decide_eq_true HYT.out] at hsa
          have SA := Lib.hid hsa; clear hsa
          refine SA.out.mono ?_
          rintro e w13 ⟨rfl, st⟩
          have ST13 := Lib.hid st; clear st SA
          dsimp only
          go_wp2
          go_ret
          exact ⟨rfl, ST13.out.low⟩
        · have hyn := HY.out.resolve_left hyt
          have HYT := Lib.hid hyt; have HYN := Lib.hid hyn; clear hyt hyn
          have hsa := Sto.same HHT.out HH.out ST12.out _ TN IN2.out HYL.out (by have := TNL.out; omega) ZT.out RIS2.out
          rw [decide_eq_false HYT.out] at hsa
          have SA := Lib.hid hsa; clear hsa
          refine SA.out.mono ?_
          rintro e w13 ⟨rfl, st⟩
          have ST13 := Lib.hid st; clear st SA
          dsimp only
          go_wp2_with fail
          have hsa := Sto.same HHT.out HH.out ST13.out _ now IN3.out HYL.out (by have := NL.out; omega) ZN.out RIS1.out
          rw [decide_eq_true HYN.out] at hsa
          have SA := Lib.hid hsa; clear hsa
          refine SA.out.mono ?_
          rintro e w14 ⟨rfl, st⟩
          have ST14 := Lib.hid st; clear st SA
          dsimp only
          go_wp2
          go_ret
          exact ⟨rfl, ST14.out.low⟩
      · have hY := YN.out hf0 hf8
        have hq0 : (f == 0) = false := by simpa using hf0
        have hq8 : (f == 8) = false := by simpa using hf8
        have hqn : (f != 0) = true := bne_iff_ne.2 hf0
        have HY := Lib.hid hY
        clear hr2 hY hf0 hf8
        go_wp2_with fail
        have hsa := Sto.same HHT.out HH.out ST7.out _ now IN.out (by have := NL.out; omega) (by have := NL.out; omega) ZN.out RIS1.out
        rw [decide_eq_true rfl] at hsa
        have SA := Lib.hid hsa; clear hsa
        refine SA.out.mono ?_
        rintro e w8 ⟨rfl, st⟩
        have ST8 := Lib.hid st; clear st SA
        dsimp only
        go_wp2_with fail
        have CRA := Lib.hid (Sto.crash HHT.out HH.out ST8.out OK2.out.1 (by have := OK2.out.2; omega) keep KP.out)
        refine CRA.out.mono ?_
        rintro e w9 ⟨rfl, st⟩
        have ST9 := Lib.hid st; clear st CRA
        dsimp only
        go_wp2_with fail
        have REO := Lib.hid (Sto.reopen HHT.out HH.out ST9.out CR.out.1 (by have := CR.out.2; have := OK2.out.2; omega) HR.out OP.out)
        refine REO.out.mono ?_
        rintro e w10 ⟨p2, rfl, st⟩
        have ST10 := Lib.hid st; clear st REO
        dsimp only
        go_wp2_with fail
        refine (HA.out _ ST10.out.low).mono ?_
        rintro e w11 ⟨rfl, hb⟩
        have ST11 := Lib.hid (ST10.out.later HHT.out HH.out hb); clear hb
        dsimp only
        go_wp2_with fail
        have hsa := Sto.same HHT.out HH.out ST11.out _ now IN.out (by have := NL.out; rw [HY.out]; omega) (by have := NL.out; omega) ZN.out RIS1.out
        rw [decide_eq_true HY.out] at hsa
        have SA := Lib.hid hsa; clear hsa
        refine SA.out.mono ?_
        rintro e w12 ⟨rfl, st⟩
        have ST12 := Lib.hid st; clear st SA
        dsimp only
        go_wp2
        go_ret
        exact ⟨rfl, ST12.out.low⟩
end Go.Proofs.YtklhdffbaglkdaaDoor
