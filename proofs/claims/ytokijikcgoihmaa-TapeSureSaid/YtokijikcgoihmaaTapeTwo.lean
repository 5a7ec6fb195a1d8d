/- Two tapes side by side. -/
import Derived.Test.YtokijikcgoihmaaTapeLaw
namespace Go.Proofs.Ytokijikcgoihmaa
open Go.RowKit
set_option linter.unusedVariables false
set_option linter.unusedSimpArgs false

/-- what stays where its blocks stay -/
structure Kept (CT : World → (Nat → Prop) → Nat → TP → Prop) : Prop where
  keep : ∀ {w w' : World} {S : Nat → Prop} {p : Nat} {t : TP}, CT w S p t → w.heap.size ≤ w'.heap.size → (∀ b, S b → w'.heap[b]? = w.heap[b]?) → CT w' S p t
  lt : ∀ {w : World} {S : Nat → Prop} {p : Nat} {t : TP}, CT w S p t → ∀ b, S b → b < w.heap.size
/-- two tapes, apart from each other and from all that lay there -/
def Two (CT CT' : World → (Nat → Prop) → Nat → TP → Prop) (w0 w : World) (p q : Nat) (t u : TP) : Prop :=
  ∃ S X : Nat → Prop, CT w S p t ∧ CT' w X q u ∧ (∀ b, S b → ¬ X b) ∧ (∀ b, S b → w0.heap.size ≤ b) ∧ (∀ b, X b → w0.heap.size ≤ b) ∧ Below w0.heap.size w0 w
theorem Two.low {CT CT' : World → (Nat → Prop) → Nat → TP → Prop} {w0 w : World} {p q : Nat} {t u : TP} (h : Two CT CT' w0 w p q t u) : Below w0.heap.size w0 w := by obtain ⟨_, _, _, _, _, _, _, h⟩ := h; exact h
theorem Two.later {CT CT' : World → (Nat → Prop) → Nat → TP → Prop} (K : Kept CT) (K' : Kept CT') {w0 w w' : World} {p q : Nat} {t u : TP} (h : Two CT CT' w0 w p q t u) (hb : Below w.heap.size w w') : Two CT CT' w0 w' p q t u := by
  obtain ⟨S, X, h1, h2, h3, h4, h5, h6⟩ := h
  exact ⟨S, X, K.keep h1 hb.size fun b hs => hb.block b (K.lt h1 b hs), K'.keep h2 hb.size fun b hs => hb.block b (K'.lt h2 b hs), h3, h4, h5, h6.trans (hb.mono h6.size)⟩
/-- blocks that are neither tape's were written -/
theorem Two.other {CT CT' : World → (Nat → Prop) → Nat → TP → Prop} (K : Kept CT) (K' : Kept CT') {w0 w w' : World} {p q : Nat} {t u : TP} {S X Y : Nat → Prop} (h1 : CT w S p t) (h2 : CT' w X q u) (h3 : ∀ b, S b → ¬ X b) (h4 : ∀ b, S b → w0.heap.size ≤ b) (h5 : ∀ b, X b → w0.heap.size ≤ b) (h6 : Below w0.heap.size w0 w)
    (ho : Only Y w w') (hy : ∀ b, Y b → w0.heap.size ≤ b ∧ ¬ S b ∧ ¬ X b) : CT w' S p t ∧ CT' w' X q u ∧ Below w0.heap.size w0 w' :=
  ⟨K.keep h1 ho.size fun b hs => ho.block b (K.lt h1 b hs) (fun e => (hy b e).2.1 hs), K'.keep h2 ho.size fun b hs => ho.block b (K'.lt h2 b hs) (fun e => (hy b e).2.2 hs), h6.trans (ho.below h6.size fun b hb => (hy b hb).1)⟩
theorem Two.fst {P : Program} {CT CT' : World → (Nat → Prop) → Nat → TP → Prop} (K : Kept CT) (K' : Kept CT') {w0 w : World} {p q : Nat} {t t' u : TP} {f : FuncId} {args : Array Value} {E : Ending} (h : Two CT CT' w0 w p q t u)
    (op : ∀ S, CT w S p t → (∀ b, S b → w0.heap.size ≤ b) → Calls P f args w fun e w' => e = E ∧ (∃ S' : Nat → Prop, CT w' S' p t' ∧ ∀ b, S' b → S b ∨ w.heap.size ≤ b) ∧ Only S w w') :
    Calls P f args w fun e w' => e = E ∧ Two CT CT' w0 w' p q t' u := by
  obtain ⟨S, X, h1, h2, h3, h4, h5, h6⟩ := h
  refine (op S h1 h4).mono fun e w' ⟨he, ⟨S', c, hs⟩, ho⟩ => ⟨he, S', X, c, K'.keep h2 ho.size fun b hb => ho.block b (K'.lt h2 b hb) (fun e => h3 b e hb), fun b hb hx => ?_, fun b hb => ?_, h5, h6.trans (ho.below h6.size h4)⟩
  · rcases hs b hb with h | h
    · exact h3 b h hx
    · have := K'.lt h2 b hx; omega
  · rcases hs b hb with h | h
    · exact h4 b h
    · exact Nat.le_trans h6.size h
theorem Two.symm {CT CT' : World → (Nat → Prop) → Nat → TP → Prop} {w0 w : World} {p q : Nat} {t u : TP} (h : Two CT CT' w0 w p q t u) : Two CT' CT w0 w q p u t := by
  obtain ⟨S, X, h1, h2, h3, h4, h5, h6⟩ := h
  exact ⟨X, S, h2, h1, fun b hx hs => h3 b hs hx, h5, h4, h6⟩
theorem Two.snd {P : Program} {CT CT' : World → (Nat → Prop) → Nat → TP → Prop} (K : Kept CT) (K' : Kept CT') {w0 w : World} {p q : Nat} {t u u' : TP} {f : FuncId} {args : Array Value} {E : Ending} (h : Two CT CT' w0 w p q t u)
    (op : ∀ S, CT' w S q u → (∀ b, S b → w0.heap.size ≤ b) → Calls P f args w fun e w' => e = E ∧ (∃ S' : Nat → Prop, CT' w' S' q u' ∧ ∀ b, S' b → S b ∨ w.heap.size ≤ b) ∧ Only S w w') :
    Calls P f args w fun e w' => e = E ∧ Two CT CT' w0 w' p q t u' :=
  (h.symm.fst K' K op).mono fun e w' ⟨he, h'⟩ => ⟨he, h'.symm⟩
/-- two that have been made one behind the other -/
theorem Two.start {CT CT' : World → (Nat → Prop) → Nat → TP → Prop} (K : Kept CT) {w0 w1 w2 : World} {p q : Nat} {t u : TP} {S X : Nat → Prop} (h1 : CT w1 S p t) (hs : ∀ b, S b → w0.heap.size ≤ b) (hb1 : Below w0.heap.size w0 w1) (h2 : CT' w2 X q u) (hx : ∀ b, X b → w1.heap.size ≤ b) (hb2 : Below w1.heap.size w1 w2) : Two CT CT' w0 w2 p q t u :=
  ⟨S, X, K.keep h1 hb2.size fun b hb => hb2.block b (K.lt h1 b hb), h2, fun b hb hx' => by have := K.lt h1 b hb; have := hx b hx'; omega, hs, fun b hb => Nat.le_trans hb1.size (hx b hb), hb1.chain hb2⟩
theorem CodeTape.kept {CT : World → (Nat → Prop) → Nat → TP → Prop} (H : CodeTape CT) : Kept CT := ⟨H.keep, H.lt⟩
end Go.Proofs.Ytokijikcgoihmaa
