/- Texts merged by program, in build order: TapeLaw, TapeTwo, TapeTri, StoreLaw, StoreCode. -/
import Derived.Test.YtklhdffbaglkdaaDoorG02
import Derived.Test.YtklhdffbaglkdaaDoorG13
import Derived.Deep.RegionWith
import Derived.Deep.Cut
import Derived.Lib.SlBytesConst
import Derived.Test.YtklhdffbaglkdaaDoorG15
import Derived.Test.YtklhdffbaglkdaaDoorG14
import Derived.Test.YtklhdffbaglkdaaDoorG16
import Derived.Test.YtklhdffbaglkdaaDoorG06
namespace Go.Proofs.YtklhdffbaglkdaaDoor
open Go.RowKit
set_option linter.unusedVariables false
set_option linter.unusedSimpArgs false

/-- what the code's tape does: CT w S p t: the tape at p lies in the blocks S, and is t -/
structure CodeTape (CT : World → (Nat → Prop) → Nat → TP → Prop) : Prop where
  keep : ∀ {w w' : World} {S : Nat → Prop} {p : Nat} {t : TP}, CT w S p t → w.heap.size ≤ w'.heap.size → (∀ b, S b → w'.heap[b]? = w.heap[b]?) → CT w' S p t
  lt : ∀ {w : World} {S : Nat → Prop} {p : Nat} {t : TP}, CT w S p t → ∀ b, S b → b < w.heap.size
  new : ∀ w, Calls Tryd.prog 10 #[] w fun e w' => (∃ p S, e = .returned (.pointer (some ⟨p, 0, none⟩)) ∧ CT w' S p TP.new ∧ ∀ b, S b → w.heap.size ≤ b) ∧ Below w.heap.size w w'
  write : ∀ (w : World) (S : Nat → Prop) (p : Nat) (t : TP) (bv : Value) (l : List UInt8), CT w S p t → t.Ok → t.b.length ≤ 100000000 → RdAt w bv l → l.length ≤ 100000 → (∀ g, bv.ownBlock = some g → ¬ S g) → Calls Tryd.prog 61 #[.pointer (some ⟨p, 0, none⟩), bv] w fun e w' =>
    e = .returned (.int .i64 (t.write l).2) ∧ (∃ S' : Nat → Prop, CT w' S' p (t.write l).1 ∧ ∀ b, S' b → S b ∨ w.heap.size ≤ b) ∧ Only S w w'
  sync : ∀ (w : World) (S : Nat → Prop) (p : Nat) (t : TP), CT w S p t → t.Ok → t.b.length ≤ 100000000 → Calls Tryd.prog 62 #[.pointer (some ⟨p, 0, none⟩)] w fun e w' =>
    e = .returned (.int .i64 t.sync.2) ∧ (∃ S' : Nat → Prop, CT w' S' p t.sync.1 ∧ ∀ b, S' b → S b ∨ w.heap.size ≤ b) ∧ Only S w w'
  swap : ∀ (w : World) (S : Nat → Prop) (p : Nat) (t : TP) (bv : Value) (l : List UInt8), CT w S p t → t.Ok → t.b.length ≤ 100000000 → RdAt w bv l → l.length ≤ 100000 → (∀ g, bv.ownBlock = some g → ¬ S g) → Calls Tryd.prog 24 #[.pointer (some ⟨p, 0, none⟩), bv] w fun e w' =>
    e = .returned (.int .i64 (t.swap l).2) ∧ (∃ S' : Nat → Prop, CT w' S' p (t.swap l).1 ∧ ∀ b, S' b → S b ∨ w.heap.size ≤ b) ∧ Only S w w'
  fuse : ∀ (w : World) (S : Nat → Prop) (p : Nat) (t : TP) (n : Int), CT w S p t → (Lit.int .i64 n).wf = true → Calls Tryd.prog 17 #[.pointer (some ⟨p, 0, none⟩), .int .i64 n] w fun e w' =>
    e = .returned (.tuple #[]) ∧ (∃ S' : Nat → Prop, CT w' S' p (t.setFuse n) ∧ ∀ b, S' b → S b ∨ w.heap.size ≤ b) ∧ Only S w w'
  crash : ∀ (w : World) (S : Nat → Prop) (p : Nat) (t : TP) (n : Int), CT w S p t → t.Ok → t.b.length ≤ 100000000 → (Lit.int .i64 n).wf = true → Calls Tryd.prog 15 #[.pointer (some ⟨p, 0, none⟩), .int .i64 n] w fun e w' =>
    e = .returned (.tuple #[]) ∧ (∃ S' : Nat → Prop, CT w' S' p (t.crash n) ∧ ∀ b, S' b → S b ∨ w.heap.size ≤ b) ∧ Only S w w'
  bytes : ∀ (w : World) (S : Nat → Prop) (p : Nat) (t : TP), CT w S p t → t.b.length ≤ 100000000 → Calls Tryd.prog 21 #[.pointer (some ⟨p, 0, none⟩)] w fun e w' =>
    (∃ A c, e = .returned (.slice A t.b.length c) ∧ RdAt w' (.slice A t.b.length c) t.b ∧ ∀ g, (Value.slice A t.b.length c).ownBlock = some g → w.heap.size ≤ g) ∧ Below w.heap.size w w'
  sure : ∀ (w : World) (S : Nat → Prop) (p : Nat) (t : TP), CT w S p t → Calls Tryd.prog 22 #[.pointer (some ⟨p, 0, none⟩)] w fun e w' => e = .returned (.int .i64 t.sure) ∧ Below w.heap.size w w'
  nwrite : ∀ (w : World) (bv : Value) (l : List UInt8), RdAt w bv l → Calls Tryd.prog 61 #[.pointer none, bv] w fun e w' => e = .returned (.int .i64 1) ∧ Below w.heap.size w w'
  nsync : ∀ (w : World), Calls Tryd.prog 62 #[.pointer none] w fun e w' => e = .returned (.int .i64 1) ∧ Below w.heap.size w w'
  nswap : ∀ (w : World) (bv : Value) (l : List UInt8), RdAt w bv l → Calls Tryd.prog 24 #[.pointer none, bv] w fun e w' => e = .returned (.int .i64 1) ∧ Below w.heap.size w w'
  nfuse : ∀ (w : World) (n : Int), Calls Tryd.prog 17 #[.pointer none, .int .i64 n] w fun e w' => e = .returned (.tuple #[]) ∧ Below w.heap.size w w'
  ncrash : ∀ (w : World) (n : Int), Calls Tryd.prog 15 #[.pointer none, .int .i64 n] w fun e w' => e = .returned (.tuple #[]) ∧ Below w.heap.size w w'
  nbytes : ∀ (w : World), Calls Tryd.prog 21 #[.pointer none] w fun e w' => (∃ A c, e = .returned (.slice A 0 c)) ∧ Below w.heap.size w w'
  nsure : ∀ (w : World), Calls Tryd.prog 22 #[.pointer none] w fun e w' => e = .returned (.int .i64 0) ∧ Below w.heap.size w w'
theorem CodeTape.below {CT : World → (Nat → Prop) → Nat → TP → Prop} (H : CodeTape CT) {w w' : World} {S : Nat → Prop} {p : Nat} {t : TP} (h : CT w S p t) (hb : Below w.heap.size w w') : CT w' S p t :=
  H.keep h hb.size fun b hb' => hb.block b (H.lt h b hb')
theorem CodeTape.only {CT : World → (Nat → Prop) → Nat → TP → Prop} (H : CodeTape CT) {w w' : World} {S X : Nat → Prop} {p : Nat} {t : TP} (h : CT w S p t) (ho : Only X w w') (hd : ∀ b, S b → ¬ X b) : CT w' S p t :=
  H.keep h ho.size fun b hb' => ho.block b (H.lt h b hb') (hd b hb')
end Go.Proofs.YtklhdffbaglkdaaDoor
namespace Go.Proofs.YtklhdffbaglkdaaDoor
open Go.RowKit
set_option linter.unusedVariables false
set_option linter.unusedSimpArgs false

/-- what stays where its blocks stay -/
structure Kept (CT : World → (Nat → Prop) → Nat → TP → Prop) : Prop where
  keep : ∀ {w w' : World} {S : Nat → Prop} {p : Nat} {t : TP}, CT w S p t → w.heap.size ≤ w'.heap.size → (∀ b, S b → w'.heap[b]? = w.heap[b]?) → CT w' S p t
  lt : ∀ {w : World} {S : Nat → Prop} {p : Nat} {t : TP}, CT w S p t → ∀ b, S b → b < w.heap.size
/-- two tapes, apart from each other and from all that lay there -/
def Two (CT CT' : World → (Nat → Prop) → Nat → TP → Prop) (w0 w : World) (p q : Nat) (t u : TP) : Prop :=
  ∃ S X : Nat → Prop, CT w S p t ∧ CT' w X q u ∧ (∀ b, S b → ¬ X b) ∧ (∀ b, S b → w0.heap.size ≤ b) ∧ (∀ b, X b → w0.heap.size ≤ b) ∧ Below w0.heap.size w0 w
theorem Two.low {CT CT' : World → (Nat → Prop) → Nat → TP → Prop} {w0 w : World} {p q : Nat} {t u : TP} (h : Two CT CT' w0 w p q t u) : Below w0.heap.size w0 w := by obtain ⟨_, _, _, _, _, _, _, h⟩ := h; exact h
theorem Two.later {CT CT' : World → (Nat → Prop) → Nat → TP → Prop} (K : Kept CT) (K' : Kept CT') {w0 w w' : World} {p q : Nat} {t u : TP} (h : Two CT CT' w0 w p q t u) (hb : Below w.heap.size w w') : Two CT CT' w0 w' p q t u := by
  obtain ⟨S, X, h1, h2, h3, h4, h5, h6⟩ := h
  exact ⟨S, X, K.keep h1 hb.size fun b hs => hb.block b (K.lt h1 b hs), K'.keep h2 hb.size fun b hs => hb.block b (K'.lt h2 b hs), h3, h4, h5, h6.trans (hb.mono h6.size)⟩
/-- blocks that are neither tape's were written -/
theorem Two.other {CT CT' : World → (Nat → Prop) → Nat → TP → Prop} (K : Kept CT) (K' : Kept CT') {w0 w w' : World} {p q : Nat} {t u : TP} {S X Y : Nat → Prop} (h1 : CT w S p t) (h2 : CT' w X q u) (h3 : ∀ b, S b → ¬ X b) (h4 : ∀ b, S b → w0.heap.size ≤ b) (h5 : ∀ b, X b → w0.heap.size ≤ b) (h6 : Below w0.heap.size w0 w)
    (ho : Only Y w w') (hy : ∀ b, Y b → w0.heap.size ≤ b ∧ ¬ S b ∧ ¬ X b) : CT w' S p t ∧ CT' w' X q u ∧ Below w0.heap.size w0 w' :=
  ⟨K.keep h1 ho.size fun b hs => ho.block b (K.lt h1 b hs) (fun e => (hy b e).2.1 hs), K'.keep h2 ho.size fun b hs => ho.block b (K'.lt h2 b hs) (fun e => (hy b e).2.2 hs), h6.trans (ho.below h6.size fun b hb => (hy b hb).1)⟩
theorem Two.fst {P : Program} {CT CT' : World → (Nat → Prop) → Nat → TP → Prop} (K : Kept CT) (K' : Kept CT') {w0 w : World} {p q : Nat} {t t' u : TP} {f : FuncId} {args : Array Value} {E : Ending} (h : Two CT CT' w0 w p q t u)
    (op : ∀ S, CT w S p t → (∀ b, S b → w0.heap.size ≤ b) → Calls P f args w fun e w' => e = E ∧ (∃ S' : Nat → Prop, CT w' S' p t' ∧ ∀ b, S' b → S b ∨ w.heap.size ≤ b) ∧ Only S w w') :
    Calls P f args w fun e w' => e = E ∧ Two CT CT' w0 w' p q t' u := by
  obtain ⟨S, X, h1, h2, h3, h4, h5, h6⟩ := h
  refine (op S h1 h4).mono fun e w' ⟨he, ⟨S', c, hs⟩, ho⟩ => ⟨he, S', X, c, K'.keep h2 ho.size fun b hb => ho.block b (K'.lt h2 b hb) (fun e => h3 b e hb), fun b hb hx => ?_, fun b hb => ?_, h5, h6.trans (ho.below h6.size h4)⟩
  · rcases hs b hb with h | h
    · exact h3 b h hx
    · have := K'.lt h2 b hx; omega
  · rcases hs b hb with h | h
    · exact h4 b h
    · exact Nat.le_trans h6.size h
theorem Two.symm {CT CT' : World → (Nat → Prop) → Nat → TP → Prop} {w0 w : World} {p q : Nat} {t u : TP} (h : Two CT CT' w0 w p q t u) : Two CT' CT w0 w q p u t := by
  obtain ⟨S, X, h1, h2, h3, h4, h5, h6⟩ := h
  exact ⟨X, S, h2, h1, fun b hx hs => h3 b hs hx, h5, h4, h6⟩
theorem Two.snd {P : Program} {CT CT' : World → (Nat → Prop) → Nat → TP → Prop} (K : Kept CT) (K' : Kept CT') {w0 w : World} {p q : Nat} {t u u' : TP} {f : FuncId} {args : Array Value} {E : Ending} (h : Two CT CT' w0 w p q t u)
    (op : ∀ S, CT' w S q u → (∀ b, S b → w0.heap.size ≤ b) → Calls P f args w fun e w' => e = E ∧ (∃ S' : Nat → Prop, CT' w' S' q u' ∧ ∀ b, S' b → S b ∨ w.heap.size ≤ b) ∧ Only S w w') :
    Calls P f args w fun e w' => e = E ∧ Two CT CT' w0 w' p q t u' :=
  (h.symm.fst K' K op).mono fun e w' ⟨he, h'⟩ => ⟨he, h'.symm⟩
/-- two that have been made one behind the other -/
theorem Two.start {CT CT' : World → (Nat → Prop) → Nat → TP → Prop} (K : Kept CT) {w0 w1 w2 : World} {p q : Nat} {t u : TP} {S X : Nat → Prop} (h1 : CT w1 S p t) (hs : ∀ b, S b → w0.heap.size ≤ b) (hb1 : Below w0.heap.size w0 w1) (h2 : CT' w2 X q u) (hx : ∀ b, X b → w1.heap.size ≤ b) (hb2 : Below w1.heap.size w1 w2) : Two CT CT' w0 w2 p q t u :=
  ⟨S, X, K.keep h1 hb2.size fun b hb => hb2.block b (K.lt h1 b hb), h2, fun b hb hx' => by have := K.lt h1 b hb; have := hx b hx'; omega, hs, fun b hb => Nat.le_trans hb1.size (hx b hb), hb1.chain hb2⟩
theorem CodeTape.kept {CT : World → (Nat → Prop) → Nat → TP → Prop} (H : CodeTape CT) : Kept CT := ⟨H.keep, H.lt⟩
end Go.Proofs.YtklhdffbaglkdaaDoor
namespace Go.Proofs.YtklhdffbaglkdaaDoor
open Go.RowKit
set_option linter.unusedVariables false
set_option linter.unusedSimpArgs false

/-- two tapes; the blocks F lie as in wF, and are neither's -/
def Tri (CT CT' : World → (Nat → Prop) → Nat → TP → Prop) (w0 wF : World) (F : Nat → Prop) (w : World) (p q : Nat) (t u : TP) : Prop :=
  ∃ S X : Nat → Prop, CT w S p t ∧ CT' w X q u ∧ (∀ b, S b → ¬ X b) ∧ (∀ b, S b → w0.heap.size ≤ b) ∧ (∀ b, X b → w0.heap.size ≤ b) ∧ Below w0.heap.size w0 w ∧ (∀ b, F b → ¬ S b) ∧ (∀ b, F b → ¬ X b) ∧ (∀ b, F b → b < w.heap.size ∧ w.heap[b]? = wF.heap[b]?)
theorem Tri.mk {CT CT' : World → (Nat → Prop) → Nat → TP → Prop} (K : Kept CT) (K' : Kept CT') {w0 w wF : World} {F : Nat → Prop} {p q : Nat} {t u : TP} (h : Two CT CT' w0 w p q t u) (hb : Below w.heap.size w wF) (hF : ∀ b, F b → w.heap.size ≤ b ∧ b < wF.heap.size) : Tri CT CT' w0 wF F wF p q t u := by
  obtain ⟨S, X, h1, h2, h3, h4, h5, h6⟩ := h
  exact ⟨S, X, K.keep h1 hb.size fun b hs => hb.block b (K.lt h1 b hs), K'.keep h2 hb.size fun b hs => hb.block b (K'.lt h2 b hs), h3, h4, h5, h6.trans (hb.mono h6.size),
    fun b hf hs => by have := K.lt h1 b hs; have := (hF b hf).1; omega, fun b hf hs => by have := K'.lt h2 b hs; have := (hF b hf).1; omega, fun b hf => ⟨(hF b hf).2, rfl⟩⟩
theorem Tri.two {CT CT' : World → (Nat → Prop) → Nat → TP → Prop} {w0 wF w : World} {F : Nat → Prop} {p q : Nat} {t u : TP} (h : Tri CT CT' w0 wF F w p q t u) : Two CT CT' w0 w p q t u := by
  obtain ⟨S, X, h1, h2, h3, h4, h5, h6, _⟩ := h
  exact ⟨S, X, h1, h2, h3, h4, h5, h6⟩
theorem Tri.low {CT CT' : World → (Nat → Prop) → Nat → TP → Prop} {w0 wF w : World} {F : Nat → Prop} {p q : Nat} {t u : TP} (h : Tri CT CT' w0 wF F w p q t u) : Below w0.heap.size w0 w := h.two.low
theorem Tri.at {CT CT' : World → (Nat → Prop) → Nat → TP → Prop} {w0 wF w : World} {F : Nat → Prop} {p q : Nat} {t u : TP} (h : Tri CT CT' w0 wF F w p q t u) {b : Nat} (hb : F b) : b < w.heap.size ∧ w.heap[b]? = wF.heap[b]? := by
  obtain ⟨S, X, h1, h2, h3, h4, h5, h6, h7, h8, h9⟩ := h
  exact h9 b hb
theorem Tri.symm {CT CT' : World → (Nat → Prop) → Nat → TP → Prop} {w0 wF w : World} {F : Nat → Prop} {p q : Nat} {t u : TP} (h : Tri CT CT' w0 wF F w p q t u) : Tri CT' CT w0 wF F w q p u t := by
  obtain ⟨S, X, h1, h2, h3, h4, h5, h6, h7, h8, h9⟩ := h
  exact ⟨X, S, h2, h1, fun b hx hs => h3 b hs hx, h5, h4, h6, h8, h7, h9⟩
/-- what is done to the first one -/
theorem Tri.step {CT CT' : World → (Nat → Prop) → Nat → TP → Prop} (K : Kept CT) (K' : Kept CT') {w0 wF w w' : World} {F : Nat → Prop} {p q : Nat} {t t' u : TP} {S X : Nat → Prop} (h1 : CT w S p t) (h2 : CT' w X q u) (h3 : ∀ b, S b → ¬ X b) (h4 : ∀ b, S b → w0.heap.size ≤ b) (h5 : ∀ b, X b → w0.heap.size ≤ b) (h6 : Below w0.heap.size w0 w)
    (h7 : ∀ b, F b → ¬ S b) (h8 : ∀ b, F b → ¬ X b) (h9 : ∀ b, F b → b < w.heap.size ∧ w.heap[b]? = wF.heap[b]?) (hc : ∃ S' : Nat → Prop, CT w' S' p t' ∧ ∀ b, S' b → S b ∨ w.heap.size ≤ b) (ho : Only S w w') : Tri CT CT' w0 wF F w' p q t' u := by
  obtain ⟨S', c, hs⟩ := hc
  refine ⟨S', X, c, K'.keep h2 ho.size fun b hb => ho.block b (K'.lt h2 b hb) (fun e => h3 b e hb), fun b hb hx => ?_, fun b hb => ?_, h5, h6.trans (ho.below h6.size h4), fun b hf hb => ?_, h8, fun b hf => ⟨Nat.lt_of_lt_of_le (h9 b hf).1 ho.size, (ho.block b (h9 b hf).1 (h7 b hf)).trans (h9 b hf).2⟩⟩
  · rcases hs b hb with h | h
    · exact h3 b h hx
    · have := K'.lt h2 b hx; omega
  · rcases hs b hb with h | h
    · exact h4 b h
    · exact Nat.le_trans h6.size h
  · rcases hs b hb with h | h
    · exact h7 b hf h
    · have := (h9 b hf).1; omega
theorem Tri.fst {P : Program} {CT CT' : World → (Nat → Prop) → Nat → TP → Prop} (K : Kept CT) (K' : Kept CT') {w0 wF w : World} {F : Nat → Prop} {p q : Nat} {t t' u : TP} {f : FuncId} {args : Array Value} {E : Ending} (h : Tri CT CT' w0 wF F w p q t u)
    (op : ∀ S, CT w S p t → (∀ b, S b → w0.heap.size ≤ b) → (∀ b, F b → ¬ S b) → Calls P f args w fun e w' => e = E ∧ (∃ S' : Nat → Prop, CT w' S' p t' ∧ ∀ b, S' b → S b ∨ w.heap.size ≤ b) ∧ Only S w w') :
    Calls P f args w fun e w' => e = E ∧ Tri CT CT' w0 wF F w' p q t' u := by
  obtain ⟨S, X, h1, h2, h3, h4, h5, h6, h7, h8, h9⟩ := h
  exact (op S h1 h4 h7).mono fun e w' ⟨he, hc, ho⟩ => ⟨he, Tri.step K K' h1 h2 h3 h4 h5 h6 h7 h8 h9 hc ho⟩
theorem Tri.snd {P : Program} {CT CT' : World → (Nat → Prop) → Nat → TP → Prop} (K : Kept CT) (K' : Kept CT') {w0 wF w : World} {F : Nat → Prop} {p q : Nat} {t u u' : TP} {f : FuncId} {args : Array Value} {E : Ending} (h : Tri CT CT' w0 wF F w p q t u)
    (op : ∀ X, CT' w X q u → (∀ b, X b → w0.heap.size ≤ b) → (∀ b, F b → ¬ X b) → Calls P f args w fun e w' => e = E ∧ (∃ X' : Nat → Prop, CT' w' X' q u' ∧ ∀ b, X' b → X b ∨ w.heap.size ≤ b) ∧ Only X w w') :
    Calls P f args w fun e w' => e = E ∧ Tri CT CT' w0 wF F w' p q t u' :=
  (h.symm.fst K' K op).mono fun e w' ⟨he, h'⟩ => ⟨he, h'.symm⟩
/-- a store into the second one -/
theorem Tri.put {CT CT' : World → (Nat → Prop) → Nat → TP → Prop} (K : Kept CT) (K' : Kept CT') {w0 wF w w' : World} {F : Nat → Prop} {p q : Nat} {t u u' : TP} (h : Tri CT CT' w0 wF F w p q t u)
    (op : ∀ X, CT' w X q u → (∃ X' : Nat → Prop, CT' w' X' q u' ∧ ∀ b, X' b → X b ∨ w.heap.size ≤ b) ∧ Only X w w') : Tri CT CT' w0 wF F w' p q t u' := by
  obtain ⟨S, X, h1, h2, h3, h4, h5, h6, h7, h8, h9⟩ := h.symm
  obtain ⟨hc, ho⟩ := op S h1
  exact (Tri.step K' K h1 h2 h3 h4 h5 h6 h7 h8 h9 hc ho).symm
/-- blocks of F are written -/
theorem Tri.mark {CT CT' : World → (Nat → Prop) → Nat → TP → Prop} (K : Kept CT) (K' : Kept CT') {w0 wF w w' : World} {F : Nat → Prop} {p q : Nat} {t u : TP} (h : Tri CT CT' w0 wF F w p q t u) (hF : ∀ b, F b → w0.heap.size ≤ b) (ho : Only F w w') : Tri CT CT' w0 w' F w' p q t u := by
  obtain ⟨S, X, h1, h2, h3, h4, h5, h6, h7, h8, h9⟩ := h
  exact ⟨S, X, K.keep h1 ho.size fun b hs => ho.block b (K.lt h1 b hs) (fun e => h7 b e hs), K'.keep h2 ho.size fun b hs => ho.block b (K'.lt h2 b hs) (fun e => h8 b e hs), h3, h4, h5, h6.trans (ho.below h6.size hF), h7, h8, fun b hf => ⟨Nat.lt_of_lt_of_le (h9 b hf).1 ho.size, rfl⟩⟩
theorem Tri.later {CT CT' : World → (Nat → Prop) → Nat → TP → Prop} (K : Kept CT) (K' : Kept CT') {w0 wF w w' : World} {F : Nat → Prop} {p q : Nat} {t u : TP} (h : Tri CT CT' w0 wF F w p q t u) (hb : Below w.heap.size w w') : Tri CT CT' w0 wF F w' p q t u := by
  obtain ⟨S, X, h1, h2, h3, h4, h5, h6, h7, h8, h9⟩ := h
  exact ⟨S, X, K.keep h1 hb.size fun b hs => hb.block b (K.lt h1 b hs), K'.keep h2 hb.size fun b hs => hb.block b (K'.lt h2 b hs), h3, h4, h5, h6.trans (hb.mono h6.size), h7, h8, fun b hf => ⟨Nat.lt_of_lt_of_le (h9 b hf).1 hb.size, (hb.block b (h9 b hf).1).trans (h9 b hf).2⟩⟩

/-- the reference's tape by the blocks that it lies in -/
def RCT (w : World) (S : Nat → Prop) (q : Nat) (t : TP) : Prop := ∃ v, RT w q v t ∧ ∀ b, S b ↔ (b = q ∨ v.ownBlock = some b)
theorem RCT.kept : Kept RCT where
  keep := fun {w w' S p t} ⟨v, h, hs⟩ hw hb => ⟨v, h.keep hw (hb _ ((hs _).2 (.inl rfl))) fun g hg => hb g ((hs _).2 (.inr hg)), hs⟩
  lt := fun {w S p t} ⟨v, h, hs⟩ b hb => by
    rcases (hs b).1 hb with rfl | h2
    · exact h.lt
    · exact h.rd.lt h2
theorem RCT.of {w w' : World} {S : Nat → Prop} {q : Nat} {t' : TP} {v v' : Value} (hs : ∀ b, S b ↔ (b = q ∨ v.ownBlock = some b)) (h : RT w' q v' t') (hv : v' = v ∨ ∀ g, v'.ownBlock = some g → w.heap.size ≤ g) : ∃ S' : Nat → Prop, RCT w' S' q t' ∧ ∀ b, S' b → S b ∨ w.heap.size ≤ b := by
  refine ⟨fun b => b = q ∨ v'.ownBlock = some b, ⟨v', h, fun b => Iff.rfl⟩, fun b hb => ?_⟩
  rcases hb with hb | hb
  · exact .inl ((hs b).2 (.inl hb))
  · rcases hv with rfl | hv
    · exact .inl ((hs b).2 (.inr hb))
    · exact .inr (hv b hb)
theorem refWrite_c (w : World) (X : Nat → Prop) (q : Nat) (u : TP) (bv : Value) (l : List UInt8) (hc : RCT w X q u) (hu : u.Ok) (hl : u.b.length ≤ 100000000) (hb : RdW w bv l) (hll : l.length ≤ 100000) :
    Calls Tryd.prog 42 #[.pointer (some ⟨q, 0, none⟩), bv] w fun e w' => e = .returned (.int .i64 (u.write l).2) ∧ (∃ X' : Nat → Prop, RCT w' X' q (u.write l).1 ∧ ∀ b, X' b → X b ∨ w.heap.size ≤ b) ∧ Only X w w' := by
  obtain ⟨v, h, hs⟩ := hc
  exact (refWrite_any q v u bv l (by omega) (by omega) w h hu.fuse hb).mono fun e w' ⟨he, ⟨v', h', hv⟩, ho⟩ => ⟨he, RCT.of hs h' (.inr hv), ho.mono fun b _ hb => (hs b).2 (.inl hb)⟩
theorem refSync_c (w : World) (X : Nat → Prop) (q : Nat) (u : TP) (hc : RCT w X q u) (hu : u.Ok) (hl : u.b.length ≤ 100000000) :
    Calls Tryd.prog 43 #[.pointer (some ⟨q, 0, none⟩)] w fun e w' => e = .returned (.int .i64 u.sync.2) ∧ (∃ X' : Nat → Prop, RCT w' X' q u.sync.1 ∧ ∀ b, X' b → X b ∨ w.heap.size ≤ b) ∧ Only X w w' := by
  obtain ⟨v, h, hs⟩ := hc
  exact (refSync_any q v u (by omega) w h hu.fuse).mono fun e w' ⟨he, h', ho⟩ => ⟨he, RCT.of hs h' (.inl rfl), ho.mono fun b _ hb => (hs b).2 (.inl hb)⟩
theorem refSwap_c (w : World) (X : Nat → Prop) (q : Nat) (u : TP) (bv : Value) (l : List UInt8) (hc : RCT w X q u) (hu : u.Ok) (hb : RdW w bv l) (hll : l.length ≤ 100000) (hfar : ∀ g, rdBlock bv = some g → ¬ X g) :
    Calls Tryd.prog 25 #[.pointer (some ⟨q, 0, none⟩), bv] w fun e w' => e = .returned (.int .i64 (u.swap l).2) ∧ (∃ X' : Nat → Prop, RCT w' X' q (u.swap l).1 ∧ ∀ b, X' b → X b ∨ w.heap.size ≤ b) ∧ Only X w w' := by
  obtain ⟨v, h, hs⟩ := hc
  exact (refSwap_any q v u bv l (by omega) w h hu.fuse hb (fun e => hfar q e ((hs q).2 (.inl rfl)))).mono fun e w' ⟨he, ⟨v', h', hv⟩, ho⟩ => ⟨he, RCT.of hs h' (hv.imp (fun h => h.1) id), ho.mono fun b _ hb => (hs b).2 (.inl hb)⟩
theorem refCrash_c (w : World) (X : Nat → Prop) (q : Nat) (u : TP) (n : Int) (hc : RCT w X q u) (hu : u.Ok) (hl : u.b.length ≤ 100000000) (hn : (Lit.int .i64 n).wf = true) :
    Calls Tryd.prog 16 #[.pointer (some ⟨q, 0, none⟩), .int .i64 n] w fun e w' => e = .returned (.tuple #[]) ∧ (∃ X' : Nat → Prop, RCT w' X' q (u.crash n) ∧ ∀ b, X' b → X b ∨ w.heap.size ≤ b) ∧ Only X w w' := by
  obtain ⟨v, h, hs⟩ := hc
  exact (refCrash_any q v u (by omega) hu.sure n hn w h).mono fun e w' ⟨he, ⟨v', h', hv⟩, ho⟩ => ⟨he, RCT.of hs h' (.inr hv), ho.mono fun b _ hb => (hs b).2 (.inl hb)⟩
/-- 'v.Fuse = n' -/
theorem refFuse_c {w : World} {X : Nat → Prop} {q : Nat} {u : TP} (hc : RCT w X q u) (n : Int) :
    (∃ X' : Nat → Prop, RCT (w.setCell ⟨q, 2, none⟩ (.int .i64 n)) X' q ⟨u.b, u.sure, n, u.down⟩ ∧ ∀ b, X' b → X b ∨ w.heap.size ≤ b) ∧ Only X w (w.setCell ⟨q, 2, none⟩ (.int .i64 n)) := by
  obtain ⟨v, h, hs⟩ := hc
  refine ⟨RCT.of hs (v' := v) ⟨?_, h.rd.keep (by rw [set_size]; exact Nat.le_refl _) fun g hg => set_there _ (fun e => h.far (by rw [hg, e])), h.far⟩ (.inl rfl), (Only.refl X w).set ((hs q).2 (.inl rfl)) _⟩
  have := set_here (o := 2) h.box (.int .i64 n)
  simpa using this
end Go.Proofs.YtklhdffbaglkdaaDoor
namespace Go.Proofs.YtklhdffbaglkdaaDoor
open Go.RowKit
set_option linter.unusedVariables false
set_option linter.unusedSimpArgs false

set_option maxRecDepth 100000 in
set_option maxHeartbeats 4000000 in
theorem refTexts_any (v v' : Value) (la lb : List (List UInt8)) (ha : la.length ≤ 1000000) (hb : lb.length ≤ 1000000) (w : World) (h : RdT w v la) (h' : RdT w v' lb) :
    Calls Tryd.prog 28 #[v, v'] w fun e w' => e = .returned (.bool (decide (la = lb))) ∧ Below w.heap.size w w' := by
  obtain ⟨A, c, rfl⟩ := rdt_form h
  obtain ⟨A', c', rfl⟩ := rdt_form h'
  obtain ⟨n, hln⟩ : ∃ n, la.length = n := ⟨_, rfl⟩
  obtain ⟨m, hlm⟩ : ∃ n, lb.length = n := ⟨_, rfl⟩
  by_cases hn : n = m
  · subst hn
    obtain ⟨R, hR⟩ : ∃ R, decide (la = lb) = R := ⟨_, rfl⟩
    have hyes : la.take n = lb.take n → R = true := fun e => by
      rw [List.take_of_length_le (by omega), List.take_of_length_le (by omega)] at e
      rw [← hR, e]; simp
    have hno : ∀ k (h1 : k < la.length) (h2 : k < lb.length), la[k] ≠ lb[k] → R = false := fun k h1 h2 e => by
      rw [← hR]
      exact decide_eq_false fun e2 => e (by subst e2; rfl)
    have HA := Lib.hid h; have HA' := Lib.hid h'; have HY := Lib.hid hyes; have HN := Lib.hid hno; have HL := Lib.hid hln; have HL' := Lib.hid hlm
    rw [hR, hln, hlm]
    rw [hln] at ha
    clear h h' hyes hno hln hlm hR hb
    go_enter Tryd.func28, Tryd.ntmps28
    go_wp2
    go_loopw [5] (fun i W => ∃ k : Nat, k ≤ n ∧ i = .int .i64 k ∧ Hid (la.take k = lb.take k ∧ Below w.heap.size w W)) (fun i _ => n - (intOf i).toNat)
    case atStart => exact ⟨0, Nat.zero_le _, rfl, Lib.hid ⟨rfl, Below.refl _ _⟩⟩
    case round =>
      obtain ⟨k, hk, rfl, hT⟩ := hrel
      by_cases hlt : k < n
      · have hkr : decide ((k : Int) < n) = true := by simp; omega
        have hk0 : (0 : Int) ≤ k := by omega
        have hk1 : (k : Int) < n := by omega
        have hka : k < la.length := by rw [HL.out]; exact hlt
        have hkb : k < lb.length := by rw [HL'.out]; exact hlt
        obtain ⟨g, o, rfl, hg, c1⟩ := (HA.out.below hT.out.2).at k hka
        obtain ⟨g', o', rfl, hg', c2⟩ := (HA'.out.below hT.out.2).at k hkb
        obtain ⟨S1, hS1⟩ : ∃ S : ByteArray, S = ⟨la[k].toArray⟩ := ⟨_, rfl⟩
        obtain ⟨S2, hS2⟩ : ∃ S : ByteArray, S = ⟨lb[k].toArray⟩ := ⟨_, rfl⟩
        unfold tv at c1 c2
        rw [← hS1] at c1
        rw [← hS2] at c2
        have hne := str_neq S1 S2 la[k] lb[k] hS1 hS2
        by_cases heq : la[k] = lb[k]
        · have hx : (!S1.toList == S2.toList) = false := by rw [hne, decide_eq_true heq]; rfl
          have hmore := take_eq_step hT.out.1 hka hkb heq
          have HM := Lib.hid hmore
          clear hne hmore hS1 hS2 heq hka hkb hg hg'
          go_upto_region 6 with fail
          go_quiet (fail)
          go_wp2
          go_roundw
          case rel => exact ⟨k + 1, by omega, by go_num, Lib.hid ⟨HM.out, belowDrewN hT.out.2 _⟩⟩
          case measure => simp [intOf]; omega
        · have hx : (!S1.toList == S2.toList) = true := by rw [hne, decide_eq_false heq]; rfl
          have hfin := HN.out k hka hkb heq
          have HF := Lib.hid hfin
          clear hne hfin hS1 hS2 heq hka hkb hg hg'
          go_upto_region 6 with fail
          go_quiet (fail)
          go_wp2
          go_ret
          exact ⟨ret_bool HF.out.symm, belowDrewN hT.out.2 _⟩
      · obtain rfl : k = n := by omega
        have hkr : decide ((k : Int) < k) = false := by simp
        have hfin := HY.out hT.out.1
        have HF := Lib.hid hfin
        clear hfin
        go_wp2
        go_ret
        exact ⟨ret_bool HF.out.symm, hT.out.2⟩
  · have hne : decide (la = lb) = false := decide_eq_false fun e => hn (by rw [← hln, ← hlm, e])
    have HNE := Lib.hid hne
    rw [hln, hlm]
    have hd : (!(n : Int) == m) = true := by simp; omega
    clear hne h h' hln hlm
    go_enter Tryd.func28, Tryd.ntmps28
    go_wp2
    go_ret
    exact ⟨ret_bool HNE.out.symm, Below.refl _ _⟩
/-- how large changes are -/
def sumC : List Ch → Nat
  | [] => 0
  | x :: l => x.key.length + x.value.length + sumC l
theorem sumC_snoc (l : List Ch) (x : Ch) : sumC (l ++ [x]) = sumC l + (x.key.length + x.value.length) := by
  induction l with
  | nil => simp [sumC]
  | cons y l ih => rw [List.cons_append]; simp only [sumC]; rw [ih]; omega
theorem sumC_take (l : List Ch) (k : Nat) : sumC (l.take k) ≤ sumC l := by
  induction l generalizing k with
  | nil => simp
  | cons y l ih =>
    cases k with
    | zero => simp [sumC]
    | succ k => rw [List.take_succ_cons]; simp only [sumC]; have := ih k; omega
def smallB (l : List Ch) : Bool := decide (l.length + sumC l < 40000) && decide (l.length < 100)
set_option maxRecDepth 100000 in
set_option maxHeartbeats 4000000 in
theorem small12_any (A : Option Addr) (c : Nat) (l : List Ch) (hl : l.length ≤ 200000000000000) (hz : ∀ x ∈ l, x.key.length ≤ 200000000000000 ∧ x.value.length ≤ 200000000000000) (w : World) (h : RdC w (.slice A l.length c) l) :
    Calls Tryd.prog 14 #[.slice A l.length c] w fun e w' => e = .returned (.bool (smallB l)) ∧ Below w.heap.size w w' := by
  obtain ⟨n, hn⟩ : ∃ n, l.length = n := ⟨_, rfl⟩
  have hres : smallB l = (decide (n + sumC l < 40000) && decide (n < 100)) := by unfold smallB; rw [hn]
  have hmono := sumC_take l
  have HRC := Lib.hid h; have HN := Lib.hid hn; have HZ := Lib.hid hz; have RES := Lib.hid hres; have MONO := Lib.hid hmono
  rw [hn] at hl ⊢
  clear h hn hz hres hmono
  go_enter Tryd.func14, Tryd.ntmps14
  go_wp2
  go_loopw [3, 4] (fun s i W => ∃ k sm : Nat, k ≤ n ∧ i = .int .i64 k ∧ s = .int .i64 sm ∧ Hid (sm = n + sumC (l.take k) ∧ (0 < k → sumC (l.take (k - 1)) + n < 40000) ∧ Below w.heap.size w W)) (fun _ i _ => n - (intOf i).toNat)
  case atStart => exact ⟨0, n, Nat.zero_le _, rfl, rfl, Lib.hid ⟨by simp [sumC], fun h => absurd h (Nat.lt_irrefl _), Below.refl _ _⟩⟩
  case round =>
    obtain ⟨k, sm, hk, rfl, rfl, hT⟩ := hrel
    by_cases hlt : k < n
    · have hkr : decide ((k : Int) < n) = true := by simp; omega
      by_cases hs : sm < 40000
      · have ds : decide ((sm : Int) < 40000) = true := by simp; omega
        have hkl : k < l.length := by rw [HN.out]; exact hlt
        have hk0 : (0 : Int) ≤ k := by omega
        have hk1 : (k : Int) < n := by omega
        obtain ⟨g, o, rfl, hg, c1, c2, -⟩ := (HRC.out.below hT.out.2.2).at k hkl
        obtain ⟨x, hx⟩ : ∃ x, l[k] = x := ⟨_, rfl⟩
        have hxz := HZ.out l[k] (List.getElem_mem hkl)
        have hst : sumC (l.take (k + 1)) = sumC (l.take k) + (x.key.length + x.value.length) := by
          rw [List.take_succ_eq_append_getElem hkl, hx, sumC_snoc]
        rw [hx] at c1 c2 hxz
        unfold tv at c1 c2
        obtain ⟨S1, hS1⟩ : ∃ S : ByteArray, S = ⟨x.key.toArray⟩ := ⟨_, rfl⟩
        obtain ⟨S2, hS2⟩ : ∃ S : ByteArray, S = ⟨x.value.toArray⟩ := ⟨_, rfl⟩
        have z1 : S1.size = x.key.length := by rw [hS1]; show x.key.toArray.size = _; simp
        have z2 : S2.size = x.value.length := by rw [hS2]; show x.value.toArray.size = _; simp
        rw [← hS1] at c1
        rw [← hS2] at c2
        obtain ⟨a1, ha1⟩ : ∃ n, S1.size = n := ⟨_, rfl⟩
        obtain ⟨a2, ha2⟩ : ∃ n, S2.size = n := ⟨_, rfl⟩
        have q1 : IntKind.i64.wrap ((sm : Int) + a1) = (sm : Int) + a1 := wraps_i64 _ (by omega) (by omega)
        have q2 : IntKind.i64.wrap ((sm : Int) + a1 + a2) = (sm : Int) + a1 + a2 := wraps_i64 _ (by omega) (by omega)
        have hnew : sm + a1 + a2 = n + sumC (l.take (k + 1)) := by have := hT.out.1; omega
        have hold : sumC (l.take k) + n < 40000 := by have := hT.out.1; omega
        have NEW := Lib.hid hnew; have OLD := Lib.hid hold
        clear hnew hold hst hxz hS1 hS2 z1 z2 hx hkl hg
        go_upto_region 5 with fail
        go_quiet (fail)
        go_wp2
        go_roundw
        case rel => exact ⟨k + 1, sm + a1 + a2, by omega, by go_num, by go_num, Lib.hid ⟨NEW.out, fun _ => OLD.out, belowDrewN hT.out.2.2 _⟩⟩
        case measure => simp [intOf]; omega
      · have ds : decide ((sm : Int) < 40000) = false := by simp; omega
        have hfin : smallB l = false := by
          rw [RES.out]
          have h1 := MONO.out k
          have h2 := hT.out.1
          rw [decide_eq_false (by omega)]; rfl
        have HF := Lib.hid hfin
        clear hfin
        go_wp2
        go_ret
        exact ⟨ret_bool HF.out.symm, hT.out.2.2⟩
    · obtain rfl : k = n := by omega
      have hkr : decide ((k : Int) < k) = false := by simp
      have htk : l.take k = l := List.take_of_length_le (by rw [HN.out]; exact Nat.le_refl _)
      have h1 := hT.out.1
      rw [htk] at h1
      have hfin : smallB l = (decide (sm < 40000) && decide (k < 100)) := by rw [RES.out, ← h1]
      have HF := Lib.hid hfin
      clear hfin h1 htk
      by_cases hs : sm < 40000
      · have ds : decide ((sm : Int) < 40000) = true := by simp; omega
        by_cases h100 : k < 100
        · have dk : decide ((k : Int) < 100) = true := by simp; omega
          have hf : smallB l = true := by rw [HF.out, decide_eq_true hs, decide_eq_true h100]; rfl
          have HG := Lib.hid hf
          clear hf
          go_wp2
          go_ret
          exact ⟨ret_bool HG.out.symm, hT.out.2.2⟩
        · have dk : decide ((k : Int) < 100) = false := by simp; omega
          have hf : smallB l = false := by rw [HF.out, decide_eq_false h100, Bool.and_false]
          have HG := Lib.hid hf
          clear hf
          go_wp2
          go_ret
          exact ⟨ret_bool HG.out.symm, hT.out.2.2⟩
      · have ds : decide ((sm : Int) < 40000) = false := by simp; omega
        have hf : smallB l = false := by rw [HF.out, decide_eq_false hs]; rfl
        have HG := Lib.hid hf
        clear hf
        go_wp2
        go_ret
        exact ⟨ret_bool HG.out.symm, hT.out.2.2⟩
end Go.Proofs.YtklhdffbaglkdaaDoor
namespace Go.Proofs.YtklhdffbaglkdaaDoor
open Go.RowKit
set_option linter.unusedVariables false
set_option linter.unusedSimpArgs false

def getV (r : Option (List UInt8)) : Value := match r with
  | some v => .tuple #[.string ⟨v.toArray⟩, .bool true]
  | none => .tuple #[.string ⟨#[]⟩, .bool false]
/-- what the code's store does. CT w T q t: the tape at q lies in the blocks T, and is t. CS w S p q rows: the store at p, over the tape at q, has blocks S of its own, and just these rows, that rise -/
structure CodeStore (CT : World → (Nat → Prop) → Nat → TP → Prop) (CS : World → (Nat → Prop) → Nat → Nat → RowL → Prop) : Prop where
  keep : ∀ {w w' : World} {S : Nat → Prop} {p q : Nat} {rows : RowL}, CS w S p q rows → w.heap.size ≤ w'.heap.size → (∀ b, S b → w'.heap[b]? = w.heap[b]?) → CS w' S p q rows
  lt : ∀ {w : World} {S : Nat → Prop} {p q : Nat} {rows : RowL}, CS w S p q rows → ∀ b, S b → b < w.heap.size
  rising : ∀ {w : World} {S : Nat → Prop} {p q : Nat} {rows : RowL}, CS w S p q rows → Rising rows
  open_ : ∀ (w : World) (T : Nat → Prop) (q : Nat) (t : TP), CT w T q t → t.Ok → t.b.length ≤ 100000 → RoundsIn w → Calls Tryd.prog 12 #[.pointer (some ⟨q, 0, none⟩)] w fun e w' =>
    (∃ T' : Nat → Prop, CT w' T' q (openS t).2.2 ∧ (∀ b, T' b → T b ∨ w.heap.size ≤ b) ∧
      (((openS t).1 = 0 ∧ ∃ p S, e = .returned (.tuple #[.pointer (some ⟨p, 0, none⟩), .int .i64 0]) ∧ CS w' S p q (openS t).2.1 ∧ (∀ b, S b → w.heap.size ≤ b ∧ ¬ T' b)) ∨
       ((openS t).1 ≠ 0 ∧ e = .returned (.tuple #[.pointer none, .int .i64 (openS t).1])))) ∧ Only T w w'
  nopen : ∀ (w : World), Calls Tryd.prog 12 #[.pointer none] w fun e w' => e = .returned (.tuple #[.pointer none, .int .i64 1]) ∧ Below w.heap.size w w'
  do_ : ∀ (w : World) (T S : Nat → Prop) (p q : Nat) (t : TP) (rows : RowL) (A : Option Addr) (c : Nat) (l : List Ch), CT w T q t → CS w S p q rows → (∀ b, S b → ¬ T b) → t.Ok → t.b.length ≤ 100000 → rows.length ≤ 50000 → RoundsIn w → RdC w (.slice A l.length c) l → l.length ≤ 50000 → (recL l).length ≤ 1000000 → (recL (allR (turnL rows l))).length ≤ 1000000 →
    (∀ g, l.length ≠ 0 → (Value.slice A l.length c).ownBlock = some g → ¬ T g ∧ ¬ S g) → Calls Tryd.prog 18 #[.pointer (some ⟨p, 0, none⟩), .slice A l.length c] w fun e w' =>
    e = .returned (.int .i64 (doS t rows l).1) ∧ (∃ T' S' : Nat → Prop, CT w' T' q (doS t rows l).2.2 ∧ CS w' S' p q (doS t rows l).2.1 ∧ (∀ b, S' b → ¬ T' b) ∧ (∀ b, T' b ∨ S' b → T b ∨ S b ∨ w.heap.size ≤ b)) ∧ Only (fun b => T b ∨ S b) w w'
  ndo : ∀ (w : World) (v : Value) (l : List Ch), RdC w v l → Calls Tryd.prog 18 #[.pointer none, v] w fun e w' => e = .returned (.int .i64 1) ∧ Below w.heap.size w w'
  get : ∀ (w : World) (S : Nat → Prop) (p q : Nat) (rows : RowL) (k : List UInt8), CS w S p q rows → Calls Tryd.prog 26 #[.pointer (some ⟨p, 0, none⟩), .string ⟨k.toArray⟩] w fun e w' => e = .returned (getV (getR rows k)) ∧ Below w.heap.size w w'
  nget : ∀ (w : World) (k : ByteArray), Calls Tryd.prog 26 #[.pointer none, .string k] w fun e w' => e = .returned (getV none) ∧ Below w.heap.size w w'
  keys : ∀ (w : World) (S : Nat → Prop) (p q : Nat) (rows : RowL) (k : List UInt8), CS w S p q rows → rows.length ≤ 100000 → k.length ≤ 1000000000000000 → Calls Tryd.prog 27 #[.pointer (some ⟨p, 0, none⟩), .string ⟨k.toArray⟩] w fun e w' => (∃ v, e = .returned v ∧ RdT w' v (keysR rows k)) ∧ Below w.heap.size w w'
  nkeys : ∀ (w : World) (k : ByteArray), Calls Tryd.prog 27 #[.pointer none, .string k] w fun e w' => (∃ A c, e = .returned (.slice A 0 c)) ∧ Below w.heap.size w w'
theorem CodeStore.below {CT : World → (Nat → Prop) → Nat → TP → Prop} {CS : World → (Nat → Prop) → Nat → Nat → RowL → Prop} (H : CodeStore CT CS) {w w' : World} {S : Nat → Prop} {p q : Nat} {rows : RowL} (h : CS w S p q rows) (hb : Below w.heap.size w w') : CS w' S p q rows :=
  H.keep h hb.size fun b hb' => hb.block b (H.lt h b hb')
theorem CodeStore.only {CT : World → (Nat → Prop) → Nat → TP → Prop} {CS : World → (Nat → Prop) → Nat → Nat → RowL → Prop} (H : CodeStore CT CS) {w w' : World} {S X : Nat → Prop} {p q : Nat} {rows : RowL} (h : CS w S p q rows) (ho : Only X w w') (hd : ∀ b, S b → ¬ X b) : CS w' S p q rows :=
  H.keep h ho.size fun b hb' => ho.block b (H.lt h b hb') (hd b hb')
theorem getR_at : ∀ (rows : RowL) (k : Nat) (r : List UInt8 × List UInt8), Rising rows → rows[k]? = some r → getR rows r.1 = some r.2
  | [], k, r, _, h => by simp at h
  | x :: l, 0, r, _, h => by
    simp at h; subst h
    show (if x.1 = x.1 then _ else _) = _
    rw [if_pos rfl]
  | x :: l, k + 1, r, hr, h => by
    have h' : l[k]? = some r := by simpa using h
    show (if x.1 = r.1 then _ else _) = _
    rw [if_neg (less_ne (hr.1 r (List.mem_of_getElem? h')))]
    exact getR_at l k r hr.2 h'
theorem keysR_all (rows : RowL) : keysR rows [] = rows.map (·.1) := by
  unfold keysR
  rw [List.filter_eq_self]
  intro k _
  simp
/-- has a store just these rows: for those that it has -/
theorem get_none_ne (rows rows' : RowL) (h : rows ≠ rows') (hr : Rising rows) (hr' : Rising rows') (hk : rows.map (·.1) = rows'.map (·.1)) : ∃ k, ∃ h1 : k < rows'.length, getR rows rows'[k].1 ≠ some rows'[k].2 := by
  refine Classical.byContradiction fun hn => h ?_
  refine rising_ext _ _ hr hr' fun x => ?_
  have hall : ∀ k (h1 : k < rows'.length), getR rows rows'[k].1 = some rows'[k].2 := fun k h1 => Classical.byContradiction fun h2 => hn ⟨k, h1, h2⟩
  have hin : ∀ (l : RowL) (x : List UInt8), (∃ k, ∃ h : k < l.length, l[k].1 = x) ∨ getR l x = none := fun l => by
    induction l with
    | nil => intro x; exact .inr rfl
    | cons y l ih =>
      intro x
      by_cases hy : y.1 = x
      · exact .inl ⟨0, by simp, hy⟩
      · rcases ih x with ⟨k, h1, h2⟩ | h1
        · exact .inl ⟨k + 1, by simp; omega, h2⟩
        · refine .inr ?_
          show (if y.1 = x then _ else _) = _
          rw [if_neg hy]; exact h1
  rcases hin rows' x with ⟨k, h1, h2⟩ | h1
  · rw [← h2, hall k h1]
    exact (getR_at rows' k _ hr' (List.getElem?_eq_getElem h1)).symm
  · rw [h1]
    rcases hin rows x with ⟨k, h2, h3⟩ | h2
    · exfalso
      have hlen : rows.length = rows'.length := by
        have := congrArg List.length hk
        simpa using this
      have he : rows'[k].1 = x := by
        have h4 := congrArg (fun l => l[k]?) hk
        simp only [List.getElem?_map, List.getElem?_eq_getElem h2, List.getElem?_eq_getElem (show k < rows'.length by omega), Option.map_some] at h4
        rw [← Option.some.inj h4]; exact h3
      have h5 := getR_at rows' k _ hr' (List.getElem?_eq_getElem (show k < rows'.length by omega))
      rw [he] at h5
      rw [h5] at h1; cases h1
    · rw [h2]
set_option maxRecDepth 100000 in
set_option maxHeartbeats 4000000 in
theorem same12_any {CT : World → (Nat → Prop) → Nat → TP → Prop} {CS : World → (Nat → Prop) → Nat → Nat → RowL → Prop} (H : CodeStore CT CS) (S : Nat → Prop) (p q : Nat) (rows rows' : RowL) (A : Option Addr) (c : Nat) (hl : rows.length ≤ 100000) (hl' : rows'.length ≤ 100000) (hz : ∀ r ∈ rows', r.1.length ≤ 1000000000000) (hr' : Rising rows') (w : World) (h : CS w S p q rows) (h' : RdR w (.slice A rows'.length c) rows') :
    Calls Tryd.prog 20 #[.pointer (some ⟨p, 0, none⟩), .slice A rows'.length c] w fun e w' => e = .returned (.bool (decide (rows = rows'))) ∧ Below w.heap.size w w' := by
  have hr := H.rising h
  have h1 := H.keys w S p q rows [] h hl (by decide)
  have h2 := fun W (hb : Below w.heap.size w W) => refKeysR_any A c rows' ⟨#[]⟩ hl' W (h'.below hb) hz (by decide)
  have hg := fun k W (hb : Below w.heap.size w W) => H.get W S p q rows k (H.below h hb)
  have hkeys := keysR_all rows
  have hkeys' := keysR_all rows'
  have hne := get_none_ne rows rows'
  have hat := getR_at rows'
  obtain ⟨n, hn⟩ : ∃ n, rows'.length = n := ⟨_, rfl⟩
  have hnb : n ≤ 100000 := by omega
  rw [hn] at h2 ⊢
  have H1 := Lib.hid h1; have H2 := Lib.hid h2; have HG := Lib.hid hg; have HRD := Lib.hid h'; have HN := Lib.hid hn; have HR := Lib.hid hr; have HR' := Lib.hid hr'; have HK := Lib.hid hkeys; have HK' := Lib.hid hkeys'; have HNE := Lib.hid hne; have HAT := Lib.hid hat
  have hkl : (keysR rows []).length ≤ 1000000 := Nat.le_trans (keysR_le _ _) (by omega)
  have hkl' : (keysR rows' []).length ≤ 1000000 := Nat.le_trans (keysR_le _ _) (by omega)
  have KL := Lib.hid hkl; have KL' := Lib.hid hkl'
  clear h1 h2 hg hkeys hkeys' hne hat h h' hn hr hr' hkl hkl' H hz hl
  go_enter Tryd.func20, Tryd.ntmps20
  go_wp2_with fail
  refine H1.out.mono ?_
  rintro e w1 ⟨⟨v1, rfl, ht1⟩, hb1⟩
  have B1 := Lib.hid hb1; have T1 := Lib.hid ht1; clear hb1 ht1
  dsimp only
  go_wp2_with fail
  refine (H2.out _ B1.out).mono ?_
  rintro e w2 ⟨⟨v2, rfl, ht2⟩, hb2⟩
  have B2 := Lib.hid (B1.out.chain hb2)
  have htx := refTexts_any v1 v2 (keysR rows []) (keysR rows' []) KL.out KL'.out w2 (T1.out.below hb2) ht2.rd
  have TX := Lib.hid htx
  clear hb2 ht2 htx
  dsimp only
  go_wp2_with fail
  refine TX.out.mono ?_
  rintro e w3 ⟨rfl, hb3⟩
  have B3 := Lib.hid (B2.out.chain hb3); clear hb3
  dsimp only
  by_cases hk : keysR rows [] = keysR rows' []
  · rw [decide_eq_true hk]
    rw [HK.out, HK'.out] at hk
    have HKE := Lib.hid hk
    clear hk
    go_wp2_with fail
    go_loopw [5] (fun i W => ∃ k : Nat, k ≤ n ∧ i = .int .i64 k ∧ Hid ((∀ j (h : j < rows'.length), j < k → getR rows rows'[j].1 = some rows'[j].2) ∧ Below w.heap.size w W)) (fun i _ => n - (intOf i).toNat)
    case atStart => exact ⟨0, Nat.zero_le _, rfl, Lib.hid ⟨fun j _ h => absurd h (Nat.not_lt_zero _), B3.out⟩⟩
    case round =>
      obtain ⟨k, hk, rfl, hT⟩ := hrel
      by_cases hlt : k < n
      · have hkr : decide ((k : Int) < n) = true := by simp; omega
        have hk0 : (0 : Int) ≤ k := by omega
        have hk1 : (k : Int) < n := by omega
        have hka : k < rows'.length := by rw [HN.out]; exact hlt
        obtain ⟨g, o, rfl, hg, c1, c2⟩ := (HRD.out.below hT.out.2).at k hka
        have hgw : ∀ W, Below wr.heap.size wr W → W.cell? ⟨g, o + k * 2 + 1, none⟩ = some (tv rows'[k].2) := fun W hb => (World.cell?_of_block (hb.block g hg)).trans c2
        obtain ⟨x, hx⟩ : ∃ x, rows'[k] = x := ⟨_, rfl⟩
        have hget := HG.out x.1 wr hT.out.2
        have hmore : getR rows x.1 = some x.2 → ∀ j (h : j < rows'.length), j < k + 1 → getR rows rows'[j].1 = some rows'[j].2 := fun he j h hj => by
          rcases Nat.lt_or_ge j k with h1 | h1
          · exact hT.out.1 j h h1
          · obtain rfl : j = k := by omega
            rw [hx]; exact he
        have hbad : getR rows x.1 ≠ some x.2 → decide (rows = rows') = false := fun he => decide_eq_false fun e => he (by
          rw [e]
          exact HAT.out k x HR'.out (by rw [List.getElem?_eq_getElem hka, hx]))
        rw [hx] at c1 c2 hgw
        obtain ⟨S1, hS1⟩ : ∃ S : ByteArray, S = ⟨x.1.toArray⟩ := ⟨_, rfl⟩
        obtain ⟨S2, hS2⟩ : ∃ S : ByteArray, S = ⟨x.2.toArray⟩ := ⟨_, rfl⟩
        unfold tv at c1 hgw
        rw [← hS1] at c1 hget
        simp only [← hS2] at hgw
        have GW := Lib.hid hgw; have MORE := Lib.hid hmore; have BAD := Lib.hid hbad; have HS2 := Lib.hid hS2; have GET := Lib.hid hget
        clear hgw hmore hbad hS1 hS2 hget hx hka hg c2
        go_wp2_with fail
        cases hgr : getR rows x.1 with
        | none =>
          have hget := GET.out
          rw [hgr] at hget
          have hb := BAD.out (by rw [hgr]; intro e; cases e)
          have GET2 := Lib.hid hget; have HB := Lib.hid hb
          clear hget hb hgr
          refine GET2.out.mono ?_
          rintro e w4 ⟨rfl, hb4⟩
          have B4 := Lib.hid (hT.out.2.chain hb4); clear hb4
          dsimp only [getV]
          go_wp2
          go_ret
          exact ⟨ret_bool HB.out.symm, B4.out⟩
        | some v =>
          have hget := GET.out
          rw [hgr] at hget
          have GET2 := Lib.hid hget
          clear hget
          by_cases hv : v = x.2
          · have hm := MORE.out (by rw [hgr, hv])
            have HM := Lib.hid hm
            have hve : (⟨v.toArray⟩ : ByteArray) = S2 := by rw [HS2.out, hv]
            have HVE := Lib.hid hve
            clear hm hgr hv hve
            refine GET2.out.mono ?_
            rintro e w4 ⟨rfl, hb4⟩
            have c2 := GW.out w4 hb4
            have B4 := Lib.hid (hT.out.2.chain hb4); clear hb4
            dsimp only [getV]
            rw [HVE.out]
            have hq : (!S2.toList == S2.toList) = false := by simp
            go_wp2
            go_roundw
            case rel => exact ⟨k + 1, by omega, by go_num, Lib.hid ⟨HM.out, B4.out⟩⟩
            case measure => simp [intOf]; omega
          · have hb := BAD.out (by rw [hgr]; intro e; exact hv (Option.some.inj e))
            have HB := Lib.hid hb
            obtain ⟨S3, hS3⟩ : ∃ S : ByteArray, S = ⟨v.toArray⟩ := ⟨_, rfl⟩
            have hq := str_neq S3 S2 v x.2 hS3 HS2.out
            rw [decide_eq_false hv, Bool.not_false] at hq
            have HS3 := Lib.hid hS3
            clear hb hgr hv hS3
            refine GET2.out.mono ?_
            rintro e w4 ⟨rfl, hb4⟩
            have c2 := GW.out w4 hb4
            have B4 := Lib.hid (hT.out.2.chain hb4); clear hb4
            dsimp only [getV]
            rw [← HS3.out]
            go_wp2
            go_ret
            exact ⟨ret_bool HB.out.symm, B4.out⟩
      · obtain rfl : k = n := by omega
        have hkr : decide ((k : Int) < k) = false := by simp
        have hyes : decide (rows = rows') = true := by
          refine decide_eq_true (Classical.byContradiction fun hne => ?_)
          obtain ⟨j, h1, h2⟩ := HNE.out hne HR.out HR'.out HKE.out
          exact h2 (hT.out.1 j h1 (by have := HN.out; omega))
        have HY := Lib.hid hyes
        clear hyes
        go_wp2
        go_ret
        exact ⟨ret_bool HY.out.symm, hT.out.2⟩
  · have hno : decide (rows = rows') = false := decide_eq_false fun e => hk (by rw [e])
    rw [decide_eq_false hk]
    have HNO := Lib.hid hno
    clear hno hk
    go_wp2
    go_ret
    exact ⟨ret_bool HNO.out.symm, B3.out⟩
end Go.Proofs.YtklhdffbaglkdaaDoor
