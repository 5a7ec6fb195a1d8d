/- Texts merged by program, in build order: StoreDuo, StorePlay, OpenActs12. -/
import Derived.Test.YtklhdffbaglkdaaDoorG19
import Derived.Test.YtklhdffbaglkdaaDoorG20
namespace Go.Proofs.YtklhdffbaglkdaaDoor
open Go.RowKit
set_option linter.unusedVariables false

theorem RdR.only2 {w w' : World} {v : Value} {rows : RowL} {X : Nat → Prop} (h : RdR w v rows) (ho : Only X w w') (hX : ∀ g, v.ownBlock = some g → rows ≠ [] → ¬ X g) : RdR w' v rows := by
  rcases rows with _ | ⟨r, rows⟩
  · obtain ⟨A, c, rfl, hc, hz, _⟩ := h
    exact ⟨A, c, rfl, hc, hz, fun k r hk => by simp only [List.getElem?_nil] at hk; cases hk⟩
  · exact h.only ho fun g hg => hX g hg (by intro e; cases e)
theorem RdR.ltB {w : World} {v : Value} {rows : RowL} (h : RdR w v rows) (h0 : rows ≠ []) {g : Nat} (hg : v.ownBlock = some g) : g < w.heap.size := by
  rcases rows with _ | ⟨r, rows⟩
  · exact absurd rfl h0
  · obtain ⟨A, c, rfl, hc, hz, ha⟩ := h
    obtain ⟨g', o, rfl, hlt, _⟩ := ha 0 r rfl
    have hgg : some g' = some g := hg
    injection hgg with hgg
    rw [← hgg]; exact hlt
/-- the blocks of a reference's store -/
def RB (p q : Nat) (v rv : Value) (rows : RowL) (b : Nat) : Prop := b = p ∨ b = q ∨ v.ownBlock = some b ∨ (rows ≠ [] ∧ rv.ownBlock = some b)
theorem RStore.ltB {w : World} {p q : Nat} {v rv : Value} {t : TP} {rows : RowL} (h : RStore w p q v rv t rows) {b : Nat} (hb : RB p q v rv rows b) : b < w.heap.size := by
  rcases hb with rfl | rfl | hb | ⟨h0, hb⟩
  · exact h.lt
  · exact h.tape.lt
  · exact h.tape.rd.lt hb
  · exact h.rd.ltB h0 hb
theorem RStore.only {w w' : World} {p q : Nat} {v rv : Value} {t : TP} {rows : RowL} {X : Nat → Prop} (h : RStore w p q v rv t rows) (ho : Only X w w') (hX : ∀ b, RB p q v rv rows b → ¬ X b) : RStore w' p q v rv t rows :=
  ⟨(ho.block p h.lt (hX p (.inl rfl))).trans h.box, h.tape.only ho (hX q (.inr (.inl rfl))) (fun g hg => hX g (.inr (.inr (.inl hg)))), h.rd.only2 ho (fun g hg h0 => hX g (.inr (.inr (.inr ⟨h0, hg⟩)))), h.pq, h.vp, h.rp, h.rq⟩
/-- a tape is told by its box -/
theorem RT.same {w : World} {q : Nat} {v v' : Value} {t t' : TP} (h : RT w q v t) (h' : RT w q v' t') : v = v' := by
  have e := h.box.symm.trans h'.box
  injection e with e
  injection e with e
  injection e with e
  injection e with e
/-- both stores: the code's, whose tape is t and whose rows are rows; the reference's, of u and rows'; the blocks F lie as in wF -/
structure Duo (CT : World → (Nat → Prop) → Nat → TP → Prop) (CS : World → (Nat → Prop) → Nat → Nat → RowL → Prop) (w0 wF : World) (F : Nat → Prop) (w : World) (p q pr qr : Nat) (t : TP) (rows : RowL) (u : TP) (rows' : RowL) : Prop where
  out : ∃ (T S : Nat → Prop) (v rv : Value), CT w T q t ∧ CS w S p q rows ∧ RStore w pr qr v rv u rows' ∧ (∀ b, S b → ¬ T b) ∧ (∀ b, T b ∨ S b → ¬ RB pr qr v rv rows' b) ∧ (∀ b, (T b ∨ S b) ∨ RB pr qr v rv rows' b → w0.heap.size ≤ b) ∧
    (∀ b, F b → ¬ ((T b ∨ S b) ∨ RB pr qr v rv rows' b)) ∧ (∀ b, F b → b < w.heap.size ∧ w.heap[b]? = wF.heap[b]?)
  low : Below w0.heap.size w0 w
variable {CT : World → (Nat → Prop) → Nat → TP → Prop} {CS : World → (Nat → Prop) → Nat → Nat → RowL → Prop}
theorem Duo.at {w0 wF w : World} {F : Nat → Prop} {p q pr qr : Nat} {t u : TP} {rows rows' : RowL} (h : Duo CT CS w0 wF F w p q pr qr t rows u rows') {b : Nat} (hb : F b) : b < w.heap.size ∧ w.heap[b]? = wF.heap[b]? := by
  obtain ⟨_, _, _, _, _, _, _, _, _, _, _, h8⟩ := h.out
  exact h8 b hb
theorem Duo.later (HT : CodeTape CT) (H : CodeStore CT CS) {w0 wF w w' : World} {F : Nat → Prop} {p q pr qr : Nat} {t u : TP} {rows rows' : RowL} (h : Duo CT CS w0 wF F w p q pr qr t rows u rows') (hb : Below w.heap.size w w') : Duo CT CS w0 wF F w' p q pr qr t rows u rows' := by
  obtain ⟨T, S, v, rv, h1, h2, h3, h4, h5, h6, h7, h8⟩ := h.out
  exact ⟨⟨T, S, v, rv, HT.below h1 hb, H.below h2 hb, h3.below hb, h4, h5, h6, h7, fun b hf => ⟨Nat.lt_of_lt_of_le (h8 b hf).1 hb.size, (hb.block b (h8 b hf).1).trans (h8 b hf).2⟩⟩, h.low.chain hb⟩
/-- the blocks F are others: new ones -/
theorem Duo.mark (HT : CodeTape CT) (H : CodeStore CT CS) {w0 wF' w wF : World} {F F' : Nat → Prop} {p q pr qr : Nat} {t u : TP} {rows rows' : RowL} (h : Duo CT CS w0 wF' F' w p q pr qr t rows u rows') (hb : Below w.heap.size w wF) (hF : ∀ b, F b → w.heap.size ≤ b ∧ b < wF.heap.size) : Duo CT CS w0 wF F wF p q pr qr t rows u rows' := by
  obtain ⟨T, S, v, rv, h1, h2, h3, h4, h5, h6, h7, h8⟩ := h.out
  refine ⟨⟨T, S, v, rv, HT.below h1 hb, H.below h2 hb, h3.below hb, h4, h5, h6, fun b hf hx => ?_, fun b hf => ⟨(hF b hf).2, rfl⟩⟩, h.low.chain hb⟩
  have hlt : b < w.heap.size := by
    rcases hx with (hx | hx) | hx
    · exact HT.lt h1 b hx
    · exact H.lt h2 b hx
    · exact h3.ltB hx
  have := (hF b hf).1
  omega
theorem Duo.drop {w0 wF w : World} {F : Nat → Prop} {p q pr qr : Nat} {t u : TP} {rows rows' : RowL} (h : Duo CT CS w0 wF F w p q pr qr t rows u rows') : Duo CT CS w0 w0 (fun _ => False) w p q pr qr t rows u rows' := by
  obtain ⟨T, S, v, rv, h1, h2, h3, h4, h5, h6, h7, h8⟩ := h.out
  exact ⟨⟨T, S, v, rv, h1, h2, h3, h4, h5, h6, fun b hf => hf.elim, fun b hf => hf.elim⟩, h.low⟩
/-- the code's side is turned -/
theorem Duo.one (HT : CodeTape CT) (H : CodeStore CT CS) {w0 wF w w' : World} {F : Nat → Prop} {p p' q pr qr : Nat} {t t' u : TP} {rows rows2 rows' : RowL} {T S T' S' : Nat → Prop} {v rv : Value}
    (h1 : CT w T q t) (h2 : CS w S p q rows) (h3 : RStore w pr qr v rv u rows') (h4 : ∀ b, S b → ¬ T b) (h5 : ∀ b, T b ∨ S b → ¬ RB pr qr v rv rows' b) (h6 : ∀ b, (T b ∨ S b) ∨ RB pr qr v rv rows' b → w0.heap.size ≤ b)
    (h7 : ∀ b, F b → ¬ ((T b ∨ S b) ∨ RB pr qr v rv rows' b)) (h8 : ∀ b, F b → b < w.heap.size ∧ w.heap[b]? = wF.heap[b]?) (hl : Below w0.heap.size w0 w)
    (c1 : CT w' T' q t') (c2 : CS w' S' p' q rows2) (c3 : ∀ b, S' b → ¬ T' b) (c4 : ∀ b, T' b ∨ S' b → T b ∨ S b ∨ w.heap.size ≤ b) (ho : Only (fun b => T b ∨ S b) w w') : Duo CT CS w0 wF F w' p' q pr qr t' rows2 u rows' := by
  have hn : ∀ b, T' b ∨ S' b → (T b ∨ S b) ∨ w.heap.size ≤ b := fun b hb => by
    rcases c4 b hb with h | h | h
    · exact .inl (.inl h)
    · exact .inl (.inr h)
    · exact .inr h
  refine ⟨⟨T', S', v, rv, c1, c2, h3.only ho (fun b hb hx => h5 b hx hb), c3, fun b hb hr => ?_, fun b hb => ?_, fun b hf hx => ?_, fun b hf => ⟨Nat.lt_of_lt_of_le (h8 b hf).1 ho.size, (ho.block b (h8 b hf).1 (fun e => h7 b hf (.inl e))).trans (h8 b hf).2⟩⟩, hl.trans (ho.below hl.size fun b hb => h6 b (.inl hb))⟩
  · rcases hn b hb with h | h
    · exact h5 b h hr
    · have := h3.ltB hr; omega
  · rcases hb with hb | hb
    · rcases hn b hb with h | h
      · exact h6 b (.inl h)
      · exact Nat.le_trans hl.size h
    · exact h6 b (.inr hb)
  · rcases hx with hx | hx
    · rcases hn b hx with h | h
      · exact h7 b hf (.inl h)
      · have := (h8 b hf).1; omega
    · exact h7 b hf (.inr hx)
/-- the reference's side is turned -/
theorem Duo.two (HT : CodeTape CT) (H : CodeStore CT CS) {w0 wF w w' : World} {F : Nat → Prop} {p q pr pr' qr : Nat} {t u u' : TP} {rows rows' rows2 : RowL} {T S : Nat → Prop} {v rv v' rv' : Value}
    (h1 : CT w T q t) (h2 : CS w S p q rows) (h3 : RStore w pr qr v rv u rows') (h4 : ∀ b, S b → ¬ T b) (h5 : ∀ b, T b ∨ S b → ¬ RB pr qr v rv rows' b) (h6 : ∀ b, (T b ∨ S b) ∨ RB pr qr v rv rows' b → w0.heap.size ≤ b)
    (h7 : ∀ b, F b → ¬ ((T b ∨ S b) ∨ RB pr qr v rv rows' b)) (h8 : ∀ b, F b → b < w.heap.size ∧ w.heap[b]? = wF.heap[b]?) (hl : Below w0.heap.size w0 w)
    (c1 : RStore w' pr' qr v' rv' u' rows2) (c2 : ∀ b, RB pr' qr v' rv' rows2 b → RB pr qr v rv rows' b ∨ w.heap.size ≤ b) (ho : Only (fun b => b = pr ∨ b = qr) w w') : Duo CT CS w0 wF F w' p q pr' qr t rows u' rows2 := by
  have hp : ∀ b, (b = pr ∨ b = qr) → RB pr qr v rv rows' b := fun b hb => hb.elim (fun h => .inl h) (fun h => .inr (.inl h))
  refine ⟨⟨T, S, v', rv', HT.keep h1 ho.size (fun b hb => ho.block b (HT.lt h1 b hb) (fun e => h5 b (.inl hb) (hp b e))), H.only h2 ho (fun b hb e => h5 b (.inr hb) (hp b e)), c1, h4, fun b hb hr => ?_, fun b hb => ?_, fun b hf hx => ?_, fun b hf => ⟨Nat.lt_of_lt_of_le (h8 b hf).1 ho.size, (ho.block b (h8 b hf).1 (fun e => h7 b hf (.inr (hp b e)))).trans (h8 b hf).2⟩⟩, hl.trans (ho.below hl.size fun b hb => h6 b (.inr (hp b hb)))⟩
  · rcases c2 b hr with h | h
    · exact h5 b hb h
    · rcases hb with hb | hb
      · have := HT.lt h1 b hb; omega
      · have := H.lt h2 b hb; omega
  · rcases hb with hb | hb
    · exact h6 b (.inl hb)
    · rcases c2 b hb with h | h
      · exact h6 b (.inr h)
      · exact Nat.le_trans hl.size h
  · rcases hx with hx | hx
    · exact h7 b hf (.inl hx)
    · rcases c2 b hx with h | h
      · exact h7 b hf (.inr h)
      · have := (h8 b hf).1; omega
/-- from two stores that have just been opened -/
theorem Duo.of (HT : CodeTape CT) (H : CodeStore CT CS) {w0 w w' : World} {p q pr qr : Nat} {t u : TP} {rows rows' : RowL} {v rv : Value} (h : Sto CT CS w0 w p q t rows []) (h3 : RStore w' pr qr v rv u rows') (hb : Below w.heap.size w w') (hn : ∀ b, RB pr qr v rv rows' b → w.heap.size ≤ b) : Duo CT CS w0 w0 (fun _ => False) w' p q pr qr t rows u rows' := by
  obtain ⟨T, S, k1, k2, k3, k4, k6⟩ := h.out
  refine ⟨⟨T, S, v, rv, HT.below k1 hb, H.below k2 hb, h3, k3, fun b hx hr => ?_, fun b hx => ?_, fun b hf => hf.elim, fun b hf => hf.elim⟩, h.low.chain hb⟩
  · have := hn b hr
    rcases hx with hx | hx
    · have := HT.lt k1 b hx; omega
    · have := H.lt k2 b hx; omega
  · rcases hx with hx | hx
    · exact k4 b hx
    · exact Nat.le_trans h.low.size (hn b hx)
/-! the calls -/
theorem Duo.do1 (HT : CodeTape CT) (H : CodeStore CT CS) {w0 wF w : World} {F : Nat → Prop} {p q pr qr : Nat} {t u : TP} {rows rows' : RowL} (h : Duo CT CS w0 wF F w p q pr qr t rows u rows') (A : Option Addr) (c : Nat) (l : List Ch) (ht : t.Ok) (hb : t.b.length ≤ 100000) (hrl : rows.length ≤ 50000) (hr : RoundsIn w0) (hc : RdC w0 (.slice A l.length c) l) (hll : l.length ≤ 50000) (h1 : (recL l).length ≤ 1000000) (h2 : (recL (allR (turnL rows l))).length ≤ 1000000)
    (ho : ∀ g, (Value.slice A l.length c).ownBlock = some g → l.length ≠ 0 → g < w0.heap.size) : Calls Tryd.prog 18 #[.pointer (some ⟨p, 0, none⟩), .slice A l.length c] w fun e w' =>
    e = .returned (.int .i64 (doS t rows l).1) ∧ Duo CT CS w0 wF F w' p q pr qr (doS t rows l).2.2 (doS t rows l).2.1 u rows' := by
  obtain ⟨T, S, v, rv, k1, k2, k3, k4, k5, k6, k7, k8⟩ := h.out
  refine (H.do_ w T S p q t rows A c l k1 k2 k4 ht hb hrl (hr.below h.low) (hc.below h.low) hll h1 h2 (fun g h0 hg => by
    have := ho g hg h0
    exact ⟨fun h => absurd (k6 g (.inl (.inl h))) (by omega), fun h => absurd (k6 g (.inl (.inr h))) (by omega)⟩)).mono ?_
  rintro e w' ⟨rfl, ⟨T', S', c1, c2, c3, c4⟩, ho⟩
  exact ⟨rfl, Duo.one HT H k1 k2 k3 k4 k5 k6 k7 k8 h.low c1 c2 c3 c4 ho⟩
theorem Duo.do2 (HT : CodeTape CT) (H : CodeStore CT CS) {w0 wF w : World} {F : Nat → Prop} {p q pr qr : Nat} {t u : TP} {rows rows' : RowL} (h : Duo CT CS w0 wF F w p q pr qr t rows u rows') (A : Option Addr) (c : Nat) (l : List Ch) (ht : u.Ok) (hb : u.b.length ≤ 100000) (hrl : rows'.length ≤ 50000) (hc : RdC w0 (.slice A l.length c) l) (hll : l.length ≤ 50000) (h1 : (recL l).length ≤ 1000000) (h2 : (recL (allR (turnL rows' l))).length ≤ 1000000) :
    Calls Tryd.prog 19 #[.pointer (some ⟨pr, 0, none⟩), .slice A l.length c] w fun e w' =>
    e = .returned (.int .i64 (doS u rows' l).1) ∧ Duo CT CS w0 wF F w' p q pr qr t rows (doS u rows' l).2.2 (doS u rows' l).2.1 := by
  obtain ⟨T, S, v, rv, k1, k2, k3, k4, k5, k6, k7, k8⟩ := h.out
  refine (refDo_any pr qr v rv u rows' A c l ht hb hrl hll (by omega) (by omega) w k3 (hc.below h.low)).mono ?_
  rintro e w' ⟨rfl, ⟨v', rv', c1, c2, c3⟩, ho⟩
  refine ⟨rfl, Duo.two HT H k1 k2 k3 k4 k5 k6 k7 k8 h.low c1 (fun b hb => ?_) ho⟩
  rcases hb with hb | hb | hb | ⟨h0, hb⟩
  · exact .inl (.inl hb)
  · exact .inl (.inr (.inl hb))
  · rcases c2 with rfl | c2
    · exact .inl (.inr (.inr (.inl hb)))
    · exact .inr (c2 b hb)
  · rcases c3 with rfl | c3
    · by_cases h00 : rows' = []
      · exfalso
        obtain ⟨A1, c5, e1⟩ := rdr_form k3.rd
        obtain ⟨A2, c6, e2⟩ := rdr_form c1.rd
        rw [e1] at e2
        injection e2 with _ e2 _
        exact h0 (List.length_eq_zero_iff.1 (e2.symm.trans (by rw [h00]; rfl)))
      · exact .inl (.inr (.inr (.inr ⟨h00, hb⟩)))
    · exact .inr (c3 b hb)
theorem Duo.crash1 (HT : CodeTape CT) (H : CodeStore CT CS) {w0 wF w : World} {F : Nat → Prop} {p q pr qr : Nat} {t u : TP} {rows rows' : RowL} (h : Duo CT CS w0 wF F w p q pr qr t rows u rows') (ht : t.Ok) (hb : t.b.length ≤ 100000000) (n : Int) (hn : (Lit.int .i64 n).wf = true) :
    Calls Tryd.prog 15 #[.pointer (some ⟨q, 0, none⟩), .int .i64 n] w fun e w' => e = .returned (.tuple #[]) ∧ Duo CT CS w0 wF F w' p q pr qr (t.crash n) rows u rows' := by
  obtain ⟨T, S, v, rv, k1, k2, k3, k4, k5, k6, k7, k8⟩ := h.out
  refine (HT.crash w T q t n k1 ht hb hn).mono ?_
  rintro e w' ⟨rfl, ⟨T', c1, c2⟩, ho⟩
  refine ⟨rfl, Duo.one HT H k1 k2 k3 k4 k5 k6 k7 k8 h.low c1 (H.only k2 ho k4) (fun b hS hT => ?_) (fun b hb => ?_) (ho.mono fun b _ hb => .inl hb)⟩
  · rcases c2 b hT with h' | h'
    · exact k4 b hS h'
    · have := H.lt k2 b hS; omega
  · rcases hb with hb | hb
    · rcases c2 b hb with h' | h'
      · exact .inl h'
      · exact .inr (.inr h')
    · exact .inr (.inl hb)
theorem Duo.fuse1 (HT : CodeTape CT) (H : CodeStore CT CS) {w0 wF w : World} {F : Nat → Prop} {p q pr qr : Nat} {t u : TP} {rows rows' : RowL} (h : Duo CT CS w0 wF F w p q pr qr t rows u rows') (n : Int) (hn : (Lit.int .i64 n).wf = true) :
    Calls Tryd.prog 17 #[.pointer (some ⟨q, 0, none⟩), .int .i64 n] w fun e w' => e = .returned (.tuple #[]) ∧ Duo CT CS w0 wF F w' p q pr qr (t.setFuse n) rows u rows' := by
  obtain ⟨T, S, v, rv, k1, k2, k3, k4, k5, k6, k7, k8⟩ := h.out
  refine (HT.fuse w T q t n k1 hn).mono ?_
  rintro e w' ⟨rfl, ⟨T', c1, c2⟩, ho⟩
  refine ⟨rfl, Duo.one HT H k1 k2 k3 k4 k5 k6 k7 k8 h.low c1 (H.only k2 ho k4) (fun b hS hT => ?_) (fun b hb => ?_) (ho.mono fun b _ hb => .inl hb)⟩
  · rcases c2 b hT with h' | h'
    · exact k4 b hS h'
    · have := H.lt k2 b hS; omega
  · rcases hb with hb | hb
    · rcases c2 b hb with h' | h'
      · exact .inl h'
      · exact .inr (.inr h')
    · exact .inr (.inl hb)
theorem Duo.crash2 (HT : CodeTape CT) (H : CodeStore CT CS) {w0 wF w : World} {F : Nat → Prop} {p q pr qr : Nat} {t u : TP} {rows rows' : RowL} (h : Duo CT CS w0 wF F w p q pr qr t rows u rows') (hu : u.Ok) (hb : u.b.length ≤ 100000000) (n : Int) (hn : (Lit.int .i64 n).wf = true) :
    Calls Tryd.prog 16 #[.pointer (some ⟨qr, 0, none⟩), .int .i64 n] w fun e w' => e = .returned (.tuple #[]) ∧ Duo CT CS w0 wF F w' p q pr qr t rows (u.crash n) rows' := by
  obtain ⟨T, S, v, rv, k1, k2, k3, k4, k5, k6, k7, k8⟩ := h.out
  refine (refCrash_any qr v u (by omega) hu.sure n hn w k3.tape).mono ?_
  rintro e w' ⟨rfl, ⟨v', c1, c2⟩, ho⟩
  refine ⟨rfl, Duo.two HT H k1 k2 k3 k4 k5 k6 k7 k8 h.low (k3.turn c1 ho (.inr c2)) (fun b hb => ?_) (ho.mono fun b _ hb => .inr hb)⟩
  rcases hb with hb | hb | hb | hb
  · exact .inl (.inl hb)
  · exact .inl (.inr (.inl hb))
  · exact .inr (c2 b hb)
  · exact .inl (.inr (.inr (.inr hb)))
theorem Duo.fuse2 (HT : CodeTape CT) (H : CodeStore CT CS) {w0 wF w : World} {F : Nat → Prop} {p q pr qr : Nat} {t u : TP} {rows rows' : RowL} (h : Duo CT CS w0 wF F w p q pr qr t rows u rows') (n : Int) :
    Duo CT CS w0 wF F (w.setCell ⟨qr, 2, none⟩ (.int .i64 n)) p q pr qr t rows ⟨u.b, u.sure, n, u.down⟩ rows' := by
  obtain ⟨T, S, v, rv, k1, k2, k3, k4, k5, k6, k7, k8⟩ := h.out
  have ho : Only (fun b => b = qr) w (w.setCell ⟨qr, 2, none⟩ (.int .i64 n)) := Only.set (S := fun b => b = qr) (b := qr) (Only.refl _ w) rfl _
  have c1 : RT (w.setCell ⟨qr, 2, none⟩ (.int .i64 n)) qr v ⟨u.b, u.sure, n, u.down⟩ := by
    have hr := k3.tape
    refine ⟨?_, hr.rd.keep (by rw [set_size]; exact Nat.le_refl _) fun g hg => set_there _ (fun e => hr.far (by rw [hg, e])), hr.far⟩
    have := set_here (o := 2) hr.box (.int .i64 n)
    simpa using this
  exact Duo.two HT H k1 k2 k3 k4 k5 k6 k7 k8 h.low (k3.turn c1 ho (.inl rfl)) (fun b hb => .inl hb) (ho.mono fun b _ hb => .inr hb)
theorem Duo.open1 (HT : CodeTape CT) (H : CodeStore CT CS) {w0 wF w : World} {F : Nat → Prop} {p q pr qr : Nat} {t t' u : TP} {rows rows2 rows' : RowL} (h : Duo CT CS w0 wF F w p q pr qr t rows u rows') (ht : t.Ok) (hb : t.b.length ≤ 100000) (hr : RoundsIn w0) (ho : openS t = (0, rows2, t')) :
    Calls Tryd.prog 12 #[.pointer (some ⟨q, 0, none⟩)] w fun e w' => ∃ p', e = .returned (.tuple #[.pointer (some ⟨p', 0, none⟩), .int .i64 0]) ∧ Duo CT CS w0 wF F w' p' q pr qr t' rows2 u rows' := by
  obtain ⟨T, S, v, rv, k1, k2, k3, k4, k5, k6, k7, k8⟩ := h.out
  have hopen := H.open_ w T q t k1 ht hb (hr.below h.low)
  rw [ho] at hopen
  refine hopen.mono ?_
  rintro e w' ⟨⟨T1, c1, c2, h' | h'⟩, ho⟩
  case inr => exact absurd rfl h'.1
  obtain ⟨-, p', S', rfl, c3, c4⟩ := h'
  refine ⟨p', rfl, Duo.one HT H k1 k2 k3 k4 k5 k6 k7 k8 h.low c1 c3 (fun b hb => (c4 b hb).2) (fun b hb => ?_) (ho.mono fun b _ hb => .inl hb)⟩
  rcases hb with hb | hb
  · rcases c2 b hb with h' | h'
    · exact .inl h'
    · exact .inr (.inr h')
  · exact .inr (.inr (c4 b hb).1)
theorem Duo.open2 (HT : CodeTape CT) (H : CodeStore CT CS) {w0 wF w : World} {F : Nat → Prop} {p q pr qr : Nat} {t u u' : TP} {rows rows2 rows' : RowL} (h : Duo CT CS w0 wF F w p q pr qr t rows u rows') (ht : u.Ok) (hb : u.b.length ≤ 100000) (ho : openS u = (0, rows2, u')) :
    Calls Tryd.prog 13 #[.pointer (some ⟨qr, 0, none⟩)] w fun e w' => ∃ p', e = .returned (.tuple #[.pointer (some ⟨p', 0, none⟩), .int .i64 0]) ∧ Duo CT CS w0 wF F w' p q p' qr t rows u' rows2 := by
  obtain ⟨T, S, v, rv, k1, k2, k3, k4, k5, k6, k7, k8⟩ := h.out
  have hopen := refOpen_any qr v u ht hb w k3.tape
  unfold Opened at hopen
  rw [ho] at hopen
  refine hopen.mono ?_
  rintro e w' ⟨h' | h', ⟨v2, c1, c2⟩, ho⟩
  case inr => exact absurd rfl h'.1
  obtain ⟨-, p', v', rv', rfl, c3, c4, c5⟩ := h'
  obtain rfl := c1.same c4.tape
  refine ⟨p', rfl, Duo.two HT H k1 k2 k3 k4 k5 k6 k7 k8 h.low c4 (fun b hb => ?_) (ho.mono fun b _ hb => .inr hb)⟩
  rcases hb with hb | hb | hb | hb
  · exact .inr (by omega)
  · exact .inl (.inr (.inl hb))
  · rcases c2 with rfl | c2
    · exact .inl (.inr (.inr (.inl hb)))
    · exact .inr (c2 b hb)
  · exact .inr (c5 b hb.2)
theorem Duo.cells {w0 wF w : World} {F : Nat → Prop} {p q pr qr : Nat} {t u : TP} {rows rows' : RowL} (h : Duo CT CS w0 wF F w p q pr qr t rows u rows') : ∃ A c A' c', ∀ W, Below w.heap.size w W → (W.cell? ⟨pr, 1, none⟩ = some (.slice A' rows'.length c') ∧ W.cell? ⟨qr, 0, none⟩ = some (.slice A u.b.length c) ∧ W.cell? ⟨qr, 1, none⟩ = some (.int .i64 u.sure) ∧ W.cell? ⟨qr, 2, none⟩ = some (.int .i64 u.fuse) ∧ W.frozen? ⟨qr, 2, none⟩ = false) ∧
    RdR W (.slice A' rows'.length c') rows' ∧ RdAt W (.slice A u.b.length c) u.b := by
  obtain ⟨T, S, v, rv, k1, k2, k3, k4, k5, k6, k7, k8⟩ := h.out
  obtain ⟨A', c', rfl⟩ := rdr_form k3.rd
  obtain ⟨A, c, rfl, _⟩ := id k3.tape.rd
  refine ⟨A, c, A', c', fun W hW => ?_⟩
  have k := k3.below hW
  obtain ⟨b1, b2, b3⟩ := k.cells
  have hb := k.tape.box
  exact ⟨⟨b2, cell_here hb, cell_here hb, cell_here hb, frozen_here hb _⟩, k.rd, k.tape.rd⟩
theorem Duo.bytes (HT : CodeTape CT) {w0 wF w : World} {F : Nat → Prop} {p q pr qr : Nat} {t u : TP} {rows rows' : RowL} (h : Duo CT CS w0 wF F w p q pr qr t rows u rows') (hb : t.b.length ≤ 100000000) :
    Calls Tryd.prog 21 #[.pointer (some ⟨q, 0, none⟩)] w fun e w' => (∃ A c, e = .returned (.slice A t.b.length c) ∧ RdAt w' (.slice A t.b.length c) t.b) ∧ Below w.heap.size w w' := by
  obtain ⟨T, S, v, rv, k1, k2, k3, k4, k5, k6, k7, k8⟩ := h.out
  exact (HT.bytes w T q t k1 hb).mono fun e w' ⟨⟨A, c, he, hr, _⟩, hb⟩ => ⟨⟨A, c, he, hr⟩, hb⟩
theorem Duo.sure (HT : CodeTape CT) {w0 wF w : World} {F : Nat → Prop} {p q pr qr : Nat} {t u : TP} {rows rows' : RowL} (h : Duo CT CS w0 wF F w p q pr qr t rows u rows') :
    Calls Tryd.prog 22 #[.pointer (some ⟨q, 0, none⟩)] w fun e w' => e = .returned (.int .i64 t.sure) ∧ Below w.heap.size w w' := by
  obtain ⟨T, S, v, rv, k1, k2, k3, k4, k5, k6, k7, k8⟩ := h.out
  exact HT.sure w T q t k1
theorem Duo.same (H : CodeStore CT CS) {w0 wF w : World} {F : Nat → Prop} {p q pr qr : Nat} {t u : TP} {rows rows' : RowL} (h : Duo CT CS w0 wF F w p q pr qr t rows u rows') (A : Option Addr) (c : Nat) (hv : RdR w (.slice A rows'.length c) rows') (hl : rows.length ≤ 100000) (hl' : rows'.length ≤ 100000) (hz : ∀ r ∈ rows', r.1.length ≤ 1000000000000) (hr' : Rising rows') :
    Calls Tryd.prog 20 #[.pointer (some ⟨p, 0, none⟩), .slice A rows'.length c] w fun e w' => e = .returned (.bool (decide (rows = rows'))) ∧ Below w.heap.size w w' := by
  obtain ⟨T, S, v, rv, k1, k2, k3, k4, k5, k6, k7, k8⟩ := h.out
  exact same12_any H S p q rows rows' A c hl hl' hz hr' w k2 hv
/-- the code's store has just been opened, over a new tape; the reference's tape is new -/
structure Pre (CT : World → (Nat → Prop) → Nat → TP → Prop) (CS : World → (Nat → Prop) → Nat → Nat → RowL → Prop) (w0 w : World) (p q qr : Nat) : Prop where
  out : ∃ T S : Nat → Prop, CT w T q TP.new ∧ CS w S p q [] ∧ RT w qr (.slice none 0 0) TP.new ∧ (∀ b, S b → ¬ T b) ∧ (∀ b, T b ∨ S b → w0.heap.size ≤ b) ∧ w0.heap.size ≤ qr ∧ ¬ (T qr ∨ S qr)
  low : Below w0.heap.size w0 w
theorem Pre.start (HT : CodeTape CT) (H : CodeStore CT CS) {w0 w1 w2 : World} {q qr : Nat} {T : Nat → Prop} (hct : CT w1 T q TP.new) (hT : ∀ b, T b → w0.heap.size ≤ b) (hb1 : Below w0.heap.size w0 w1) (hb2 : Below w1.heap.size w1 w2) (hq : w1.heap.size ≤ qr) (hrt : RT w2 qr (.slice none 0 0) TP.new) (hr : RoundsIn w0) :
    Calls Tryd.prog 12 #[.pointer (some ⟨q, 0, none⟩)] w2 fun e w' => ∃ p, e = .returned (.tuple #[.pointer (some ⟨p, 0, none⟩), .int .i64 0]) ∧ Pre CT CS w0 w' p q qr := by
  have hl2 := hb1.chain hb2
  have hopen := H.open_ w2 T q TP.new (HT.below hct hb2) TP.new_ok (by decide) (hr.below hl2)
  rw [open_new] at hopen
  refine hopen.mono ?_
  rintro e w' ⟨⟨T1, c1, c2, h' | h'⟩, ho⟩
  case inr => exact absurd rfl h'.1
  obtain ⟨-, p', S', rfl, c3, c4⟩ := h'
  have hTq : ¬ T qr := fun h => by have := HT.lt hct qr h; omega
  have hq2 := hrt.lt
  refine ⟨p', rfl, ⟨T1, S', c1, c3, hrt.only ho hTq (fun g hg => by cases hg), fun b hb => (c4 b hb).2, fun b hx => ?_, Nat.le_trans hb1.size hq, fun hx => ?_⟩, hl2.trans (ho.below hl2.size hT)⟩
  · rcases hx with hx | hx
    · rcases c2 b hx with h' | h'
      · exact hT b h'
      · exact Nat.le_trans hl2.size h'
    · exact Nat.le_trans hl2.size (c4 b hx).1
  · rcases hx with hx | hx
    · rcases c2 qr hx with h' | h'
      · exact hTq h'
      · omega
    · have := (c4 qr hx).1; omega
theorem Pre.open (HT : CodeTape CT) (H : CodeStore CT CS) {w0 w : World} {p q qr : Nat} (h : Pre CT CS w0 w p q qr) :
    Calls Tryd.prog 13 #[.pointer (some ⟨qr, 0, none⟩)] w fun e w' => ∃ pr, e = .returned (.tuple #[.pointer (some ⟨pr, 0, none⟩), .int .i64 0]) ∧ Duo CT CS w0 w0 (fun _ => False) w' p q pr qr TP.new [] TP.new [] := by
  obtain ⟨T, S, k1, k2, k3, k4, k5, k6, k7⟩ := h.out
  have hopen := refOpen_any qr _ TP.new TP.new_ok (by decide) w k3
  unfold Opened at hopen
  rw [open_new] at hopen
  refine hopen.mono ?_
  rintro e w' ⟨h' | h', ⟨v2, c1, c2⟩, ho⟩
  case inr => exact absurd rfl h'.1
  obtain ⟨-, pr, v', rv', rfl, c3, c4, c5⟩ := h'
  obtain rfl := c1.same c4.tape
  have hn : ∀ b, RB pr qr v2 rv' [] b → b = qr ∨ w.heap.size ≤ b := fun b hb => by
    rcases hb with hb | hb | hb | hb
    · exact .inr (by omega)
    · exact .inl hb
    · rcases c2 with rfl | c2
      · cases hb
      · exact .inr (c2 b hb)
    · exact .inr (c5 b hb.2)
  have hlt : ∀ b, T b ∨ S b → b < w.heap.size := fun b hb => hb.elim (HT.lt k1 b) (H.lt k2 b)
  refine ⟨pr, rfl, ⟨T, S, v2, rv', HT.keep k1 ho.size (fun b hb => ho.block b (HT.lt k1 b hb) (fun e => k7 (e ▸ .inl hb))), H.only k2 ho (fun b hb e => k7 (e ▸ .inr hb)), c4, k4, fun b hb hr => ?_, fun b hb => ?_, fun b hf => hf.elim, fun b hf => hf.elim⟩, h.low.trans (ho.below h.low.size fun b hb => by rw [hb]; exact k6)⟩
  · rcases hn b hr with rfl | h'
    · exact k7 hb
    · have := hlt b hb; omega
  · rcases hb with hb | hb
    · exact k5 b hb
    · rcases hn b hb with rfl | h'
      · exact k6
      · exact Nat.le_trans h.low.size h'
end Go.Proofs.YtklhdffbaglkdaaDoor
namespace Go.Proofs.YtklhdffbaglkdaaDoor
set_option linter.unusedVariables false

def wR (rows : RowL) : Nat := 12 * rows.length + sumR rows
theorem wR_turn1 (rows : RowL) (x : Ch) : wR (turn1 rows x) ≤ wR rows + (12 + x.key.length + x.val.length) := by
  have h1 := sumR_ins x.key x.value x.gone rows
  have h2 := insL_len x.key x.value x.gone rows
  unfold wR turn1
  cases hg : x.gone with
  | true =>
    rw [insL_placed]
    have h3 := sumR_filter (fun r : List UInt8 × List UInt8 => decide (r.1 ≠ x.key)) rows
    have h4 := List.length_filter_le (fun r : List UInt8 × List UInt8 => decide (r.1 ≠ x.key)) rows
    omega
  | false =>
    have hv : x.val = x.value := by unfold Ch.val; rw [hg]; rfl
    rw [hg] at h1 h2
    rw [hv]
    omega
theorem wR_turn : ∀ (l : List Ch) (rows : RowL), wR (turnL rows l) ≤ wR rows + (recAll l).length
  | [], rows => Nat.le_add_right _ _
  | x :: l, rows => by
    rw [turnL_cons, recAll_cons, List.length_append, recOne_len]
    have h1 := wR_turn l (turn1 rows x)
    have h2 := wR_turn1 rows x
    omega
theorem changes_in {b : List UInt8} {l : List Ch} (h : changesL b = some l) : (recAll l).length ≤ b.length := by
  unfold changesL at h
  split at h
  · split at h
    · cases h
    · split at h
      · rename_i he
        injection h with h
        subst h
        rw [← he, recL_len]
        omega
      · cases h
  · cases h
theorem wR_fold : ∀ (r : List (List UInt8)) (rows x : RowL), foldR rows r = some x → wR x ≤ wR rows + r.flatten.length
  | [], rows, x, h => by
    have h : some rows = some x := h
    injection h with h
    rw [h]; exact Nat.le_add_right _ _
  | b :: r, rows, x, h => by
    rw [foldR_cons] at h
    cases hb : changesL b with
    | none => rw [hb] at h; cases h
    | some l =>
      rw [hb] at h
      have h1 := wR_fold r _ x h
      have h2 := wR_turn l rows
      have h3 := changes_in hb
      rw [List.flatten_cons, List.length_append]
      omega
theorem frames_flat : ∀ (r : List (List UInt8)), r.flatten.length ≤ (framesL r).length
  | [] => Nat.zero_le _
  | b :: r => by
    have h := frames_flat r
    have e : framesL (b :: r) = frameL b ++ framesL r := rfl
    rw [e, List.flatten_cons, List.length_append, List.length_append, frameL_len]
    omega
/-- the rows of a store are no more than its tape has bytes for -/
theorem good_w {t : TP} {rows X : RowL} (h : Good t rows X) : wR rows ≤ t.b.length := by
  obtain ⟨recs, r, m, h1, h2, h3, h4, h5, h6, h7⟩ := h.out
  have a := wR_fold recs [] rows h4
  have b := frames_flat recs
  have c : wR [] = 0 := rfl
  rw [h1, List.length_append]
  omega
theorem rec_w (rows : RowL) : (recL (allR rows)).length ≤ 4 + wR rows := by
  have := rec_all_le rows
  unfold wR
  omega
/-- what changes of an act come to, on a tape of at most 65536 bytes -/
theorem play_bounds {t : TP} {rows X : RowL} (h : Good t rows X) (hl : t.b.length ≤ 65536) {l : List Ch} (hs : smallB l = true) :
    rows.length ≤ 5462 ∧ l.length ≤ 100 ∧ (recL l).length ≤ 1000000 ∧ (recL (allR (turnL rows l))).length ≤ 1000000 ∧ (turnL rows l).length ≤ 5562 ∧ (∀ r ∈ rows, r.1.length ≤ 65536) ∧ Rising rows := by
  obtain ⟨s1, s2, s3⟩ := small_rec hs
  have h1 := good_w h
  have h2 := wR_turn l rows
  have h3 := rec_w (turnL rows l)
  have h4 : (recAll l).length ≤ 12 * l.length + sumC l := recAll_size l
  have h5 := turnL_len l rows
  have h6 : 12 * rows.length + sumR rows ≤ t.b.length := h1
  refine ⟨by omega, by omega, s3, by omega, by omega, fun r hr => ?_, h.rising⟩
  have := sumR_mem rows r hr
  omega
end Go.Proofs.YtklhdffbaglkdaaDoor
namespace Go.Proofs.YtklhdffbaglkdaaDoor
open Go.ChangeShapes Go.WideShapes Go.ChangeAt Go.RowKit
set_option linter.unusedVariables false

/-- what is known of a slice of changes that lies in memory -/
def Chs (W : World) (v : Value) (l : List Ch) : Prop :=
  ∃ A c, v = .slice A l.length c ∧ RdC W v l ∧ (∀ g, v.ownBlock = some g → l.length ≠ 0 → g < W.heap.size) ∧ l.length ≤ 200000000000000 ∧ ∀ x ∈ l, x.key.length ≤ 200000000000000 ∧ x.value.length ≤ 200000000000000
theorem Chs.below {W W' : World} {v : Value} {l : List Ch} (h : Chs W v l) (hb : Below W.heap.size W W') : Chs W' v l := by
  obtain ⟨A, c, rfl, h1, h2, h3, h4⟩ := h
  exact ⟨A, c, rfl, h1.below hb, fun g hg h0 => Nat.lt_of_lt_of_le (h2 g hg h0) hb.size, h3, h4⟩
/-- an act, as it lies -/
structure Act12 where
  bv : Value
  l : List Ch
  crash : Bool
  fuse : Int
  n : Int
/-- a slice that reads as these acts -/
def Acts12 (w : World) (A : Option Addr) (l : List Act12) : Prop :=
  ∀ k a, l[k]? = some a → ∃ g o, A = some ⟨g, o, none⟩ ∧ g < w.heap.size ∧ w.cell? ⟨g, o + k * 4, none⟩ = some a.bv ∧ w.cell? ⟨g, o + k * 4 + 1, none⟩ = some (.bool a.crash) ∧ w.cell? ⟨g, o + k * 4 + 2, none⟩ = some (.int .i64 a.fuse) ∧ w.cell? ⟨g, o + k * 4 + 3, none⟩ = some (.int .i64 a.n) ∧
    (Lit.int .i64 a.fuse).wf = true ∧ (Lit.int .i64 a.n).wf = true ∧ Chs w a.bv a.l
theorem Acts12.below {w w' : World} {A : Option Addr} {l : List Act12} (h : Acts12 w A l) (hb : Below w.heap.size w w') : Acts12 w' A l := fun k a hk => by
  obtain ⟨g, o, rfl, hg, h1, h2, h3, h4, h5, h6, h7⟩ := h k a hk
  have he := hb.block g hg
  exact ⟨g, o, rfl, Nat.lt_of_lt_of_le hg hb.size, (World.cell?_of_block he).trans h1, (World.cell?_of_block he).trans h2, (World.cell?_of_block he).trans h3, (World.cell?_of_block he).trans h4, h5, h6, h7.below hb⟩
theorem Tryd.cellsAct12 : Tryd.prog.cellsOf 37 = 4 := by kernel_rfl
theorem Tryd.cellsInt12 : Tryd.prog.cellsOf 3 = 1 := by kernel_rfl
theorem Tryd.cellsChs12 : Tryd.prog.cellsOf 35 = 1 := by kernel_rfl
theorem Tryd.bytesAct12 : Tryd.prog.bytesOf 37 = 48 := by kernel_rfl
set_option maxRecDepth 100000 in
/-- a cell that is a slice of changes, as changes -/
theorem chs_of_trod {H : Type} {enc : TypeId × Value → H} {W : World} {fuel : Nat} {cs : List Value} {x : DataW H × List MemPlace}
    (h : DataW.trod enc Tryd.prog W 0 (fun _ => true) true fuel 35 cs = some x) (hwt : ∀ n ∈ x.1.weights Tryd.prog 35, n ≤ reachBytes) :
    ∃ (v : Value) (l : List Ch), cs = [v] ∧ Chs W v l := by
  have hreach : reachBytes ≤ 200000000000000 := by decide
  rcases Go.Deep.open_slice Tryd.underlying35 h with ⟨rfl, rfl⟩ | ⟨a, len, cap, m, n, D, Pl, rfl, _, hl, hm, hmm, rfl, hi⟩
  · exact ⟨_, [], rfl, none, 0, rfl, ⟨none, 0, rfl, Nat.le_refl _, fun k a hk => by simp at hk⟩, fun g hg => (by cases hg), Nat.zero_le _, fun x hx => by cases hx⟩
  · simp only [if_true] at hmm
    subst hmm
    rw [Tryd.cellsChange] at hi hwt
    have hsp : 0 < m → a = ⟨a.block, a.off, none⟩ ∧ a.block < W.heap.size := by
      intro h0
      obtain ⟨cs', hc, ht'⟩ := hi 0 h0
      obtain ⟨u, rfl, _⟩ := open_change ht'
      obtain ⟨_, _, hat⟩ := World.cells?_some hc
      have a0 := hat 0 (by simp)
      rw [Nat.zero_mul] at a0
      simp only [Addr.add, if_true] at a0
      exact spot_none_b a0
    have hall : ∀ i, ∃ x : Ch, i < m → a = ⟨a.block, a.off, none⟩ ∧ a.block < W.heap.size ∧ W.cell? ⟨a.block, a.off + i * 3, none⟩ = some (tv x.key) ∧ W.cell? ⟨a.block, a.off + i * 3 + 1, none⟩ = some (tv x.value) ∧ W.cell? ⟨a.block, a.off + i * 3 + 2, none⟩ = some (.bool x.gone) ∧ ∃ y, D i = .agg [.lit (.string x.key), .lit (.string x.value), y] := by
      intro i
      by_cases him : i < m
      · obtain ⟨cs', hc, ht'⟩ := hi i him
        obtain ⟨u, rfl, w1⟩ := open_change ht'
        obtain ⟨_, _, hat⟩ := World.cells?_some hc
        have a0 := hat 0 (by simp)
        have a1 := hat 1 (by simp)
        have a2 := hat 2 (by simp)
        obtain ⟨e1, e2⟩ := hsp (by omega)
        rw [e1, Addr.add_lit, Addr.add_lit] at a0 a1 a2
        exact ⟨u, fun _ => ⟨e1, e2, by simpa using a0, by simpa using a1, by simpa using a2, w1⟩⟩
      · exact ⟨⟨[], [], false⟩, fun h => absurd h him⟩
    obtain ⟨f, hf⟩ := Classical.axiomOfChoice hall
    have hlen : len ≤ reachBytes := by
      have := hwt ((len + (m - len)) * Tryd.prog.bytesOf 61) (by simp [DataW.weights, Tryd.underlying35])
      rw [Tryd.bytesChange] at this
      omega
    refine ⟨_, (List.range len).map f, rfl, some a, m, by simp, ⟨some a, m, by simp, by simpa using hl, fun k x hk => ?_⟩, fun g hg h0 => ?_, by simp only [List.length_map, List.length_range]; omega, fun x hx' => ?_⟩
    · obtain ⟨hk1, rfl⟩ := List.getElem?_eq_some_iff.1 hk
      have hk' : k < len := by simpa using hk1
      obtain ⟨h1, h2, h3, h4, h5, h6⟩ := hf k (by omega)
      simp only [List.getElem_map, List.getElem_range]
      exact ⟨a.block, a.off, by rw [← h1], h2, h3, h4, h5⟩
    · have hgg : some a.block = some g := hg
      injection hgg with hgg
      have h0' : len ≠ 0 := by simpa using h0
      rw [← hgg]
      exact (hf 0 (by omega)).2.1
    · obtain ⟨i, hi', rfl⟩ := List.mem_map.1 hx'
      have hil : i < len := by simpa using hi'
      obtain ⟨y, hD⟩ := (hf i (by omega)).2.2.2.2.2
      have hin : D i ∈ (List.range len).map D := List.mem_map.2 ⟨i, by simpa using hil, rfl⟩
      have hmem : ∀ n ∈ (D i).weights Tryd.prog 61, n ≤ reachBytes := fun n hn => hwt n (by
        simp only [DataW.weights, Tryd.underlying35, List.mem_cons, List.mem_append]
        exact .inr (.inl (weightsAll_inC hin n hn)))
      rw [hD] at hmem
      refine ⟨Nat.le_trans (hmem _ ?_) hreach, Nat.le_trans (hmem _ ?_) hreach⟩ <;> simp [DataW.weights, Tryd.underlying61, DataW.weightsEach]
set_option maxRecDepth 100000 in
/-- four cells that read as an act -/
theorem open_act12 {H : Type} {enc : TypeId × Value → H} {W : World} {n : Nat} {cs : List Value} {x : DataW H × List MemPlace}
    (h : DataW.trod enc Tryd.prog W 0 (fun _ => true) true n 37 cs = some x) (hwt : ∀ n ∈ x.1.weights Tryd.prog 37, n ≤ reachBytes) : ∃ a : Act12, cs = [a.bv, .bool a.crash, .int .i64 a.fuse, .int .i64 a.n] ∧ (Lit.int .i64 a.fuse).wf = true ∧ (Lit.int .i64 a.n).wf = true ∧ Chs W a.bv a.l := by
  obtain ⟨xs, m, _, hx, hlen, hxl, hf⟩ := DataW.trod_struct Tryd.underlying37 h
  rw [Tryd.cellsAct12] at hlen
  match cs, hlen with
  | [c0, c1, c2, c3], _ =>
    have h0 : DataW.trod enc Tryd.prog W 0 (fun _ => true) true m 35 [c0] = xs[0]? := by
      have := hf 0 { name := "Changes", type := 35, offset := 0, embedded := false, tag := "", pkgPath := "", byteOffset := 0 } rfl
      rwa [Tryd.cellsChs12] at this
    have h1 : DataW.trod enc Tryd.prog W 0 (fun _ => true) true m 4 [c1] = xs[1]? := by
      have := hf 1 { name := "Crash", type := 4, offset := 1, embedded := false, tag := "", pkgPath := "", byteOffset := 24 } rfl
      rwa [Tryd.cellsBoolC] at this
    have h2 : DataW.trod enc Tryd.prog W 0 (fun _ => true) true m 3 [c2] = xs[2]? := by
      have := hf 2 { name := "Fuse", type := 3, offset := 2, embedded := false, tag := "", pkgPath := "", byteOffset := 32 } rfl
      rwa [Tryd.cellsInt12] at this
    have h3 : DataW.trod enc Tryd.prog W 0 (fun _ => true) true m 3 [c3] = xs[3]? := by
      have := hf 3 { name := "N", type := 3, offset := 3, embedded := false, tag := "", pkgPath := "", byteOffset := 40 } rfl
      rwa [Tryd.cellsInt12] at this
    match xs, hxl with
    | [y0, y1, y2, y3], _ =>
      simp only [List.getElem?_cons_zero, List.getElem?_cons_succ] at h0 h1 h2 h3
      obtain ⟨g, hg, _⟩ := DataW.trod_bool Tryd.underlying4 h1
      obtain ⟨a, ha, _, wa⟩ := DataW.trod_int Tryd.underlying3 h2
      obtain ⟨b, hb, _, wb⟩ := DataW.trod_int Tryd.underlying3 h3
      have hw0 : ∀ n ∈ y0.1.weights Tryd.prog 35, n ≤ reachBytes := fun n hn => hwt n (by
        rw [hx]
        simp [DataW.weights, Tryd.underlying37, DataW.weightsEach, hn])
      obtain ⟨v, l, hc, hr⟩ := chs_of_trod h0 hw0
      rw [List.singleton_inj] at ha hb hg hc
      exact ⟨⟨v, l, g, a, b⟩, by rw [ha, hb, hg, hc], wa, wb, hr⟩
set_option maxRecDepth 100000 in
/-- what is read of a slice of acts: the acts -/
theorem open_acts12 {H : Type} {enc : TypeId × Value → H} {W : World} {base : Nat} {v : Value} {d : DataW H} {ps : List MemPlace} (hval : Value.okWide Tryd.prog W .any base 22 v)
    (hd : DataW.Trod enc Tryd.prog W 0 (fun _ => true) true 22 v d ps) (hlt : ∀ x ∈ ps, x.block < W.heap.size) (hwt : ∀ n ∈ d.weights Tryd.prog 22, n ≤ reachBytes) :
    ∃ (A : Option Addr) (c : Nat) (l : List Act12), v = .slice A l.length c ∧ Acts12 W A l ∧ l.length ≤ reachBytes := by
  obtain ⟨a0, len, cap, rfl⟩ := okWide_slice Tryd.underlying22 hval
  obtain ⟨fuel, hf⟩ := hd
  rcases Go.Deep.open_slice Tryd.underlying22 hf with ⟨hcs, hx⟩ | ⟨a, len', cap', m, n, D, Pl, hcs, _, hl, hm, hmm, hx, hi⟩
  · simp [Value.cells] at hcs
    obtain ⟨rfl, rfl, rfl⟩ := hcs
    exact ⟨none, 0, [], rfl, fun k a hk => by simp at hk, Nat.zero_le _⟩
  · simp [Value.cells] at hcs
    obtain ⟨rfl, rfl, rfl⟩ := hcs
    simp only [if_true] at hmm
    subst hmm
    rw [Tryd.cellsAct12] at hi hx
    simp only [Prod.mk.injEq] at hx
    have hlen : len ≤ reachBytes := by
      have := hwt ((len + (m - len)) * Tryd.prog.bytesOf 37) (by rw [hx.1]; simp [DataW.weights, Tryd.underlying22])
      rw [Tryd.bytesAct12] at this
      omega
    have hwd : ∀ i, i < len → ∀ n ∈ (D i).weights Tryd.prog 37, n ≤ reachBytes := fun i hil n hn => by
      have hin : D i ∈ (List.range len).map D := List.mem_map.2 ⟨i, by simpa using hil, rfl⟩
      exact hwt n (by
        rw [hx.1]
        simp only [DataW.weights, Tryd.underlying22, List.mem_cons, List.mem_append]
        exact .inr (.inl (weightsAll_inC hin n hn)))
    have hsp : 0 < len → a = ⟨a.block, a.off, none⟩ ∧ a.block < W.heap.size := by
      intro h0
      obtain ⟨cs', hc, ht'⟩ := hi 0 (by omega)
      obtain ⟨u, rfl, _⟩ := open_act12 ht' (hwd 0 h0)
      obtain ⟨_, _, hat⟩ := World.cells?_some hc
      have a0 := hat 0 (by simp)
      rw [Nat.zero_mul] at a0
      simp only [Addr.add, if_true] at a0
      exact spot_none_b a0
    have hall : ∀ i, ∃ x : Act12, i < len → a = ⟨a.block, a.off, none⟩ ∧ a.block < W.heap.size ∧ W.cell? ⟨a.block, a.off + i * 4, none⟩ = some x.bv ∧ W.cell? ⟨a.block, a.off + i * 4 + 1, none⟩ = some (.bool x.crash) ∧ W.cell? ⟨a.block, a.off + i * 4 + 2, none⟩ = some (.int .i64 x.fuse) ∧ W.cell? ⟨a.block, a.off + i * 4 + 3, none⟩ = some (.int .i64 x.n) ∧ (Lit.int .i64 x.fuse).wf = true ∧ (Lit.int .i64 x.n).wf = true ∧ Chs W x.bv x.l := by
      intro i
      by_cases him : i < len
      · obtain ⟨cs', hc, ht'⟩ := hi i (by omega)
        obtain ⟨u, rfl, w1, w2, w3⟩ := open_act12 ht' (hwd i him)
        obtain ⟨_, _, hat⟩ := World.cells?_some hc
        have a0 := hat 0 (by simp)
        have a1 := hat 1 (by simp)
        have a2 := hat 2 (by simp)
        have a3 := hat 3 (by simp)
        obtain ⟨e1, e2⟩ := hsp (by omega)
        rw [e1, Addr.add_lit, Addr.add_lit] at a0 a1 a2 a3
        exact ⟨u, fun _ => ⟨e1, e2, by simpa using a0, by simpa using a1, by simpa using a2, by simpa using a3, w1, w2, w3⟩⟩
      · exact ⟨⟨.int .i64 0, [], false, 0, 0⟩, fun h => absurd h him⟩
    obtain ⟨f, hf⟩ := Classical.axiomOfChoice hall
    refine ⟨some a, m, (List.range len).map f, by simp, fun k x hk => ?_, by simpa using hlen⟩
    obtain ⟨hk1, rfl⟩ := List.getElem?_eq_some_iff.1 hk
    have hk' : k < len := by simpa using hk1
    obtain ⟨h1, h2, h3, h4, h5, h6, h7, h8, h9⟩ := hf k (by omega)
    simp only [List.getElem_map, List.getElem_range]
    exact ⟨a.block, a.off, by rw [← h1], h2, h3, h4, h5, h6, h7, h8, h9⟩
end Go.Proofs.YtklhdffbaglkdaaDoor
