/- Two tapes and blocks apart from both, that stay as they are. -/
import Derived.Test.YtokijikcgoihmaaTapeTwo
import Derived.Test.YtokijikcgoihmaaTapeRefS
import Derived.Test.YtokijikcgoihmaaTapeRefW
namespace Go.Proofs.Ytokijikcgoihmaa
open Go.RowKit
set_option linter.unusedVariables false
set_option linter.unusedSimpArgs false

/-- two tapes; the blocks F lie as in wF, and are neither's -/
def Tri (CT CT' : World → (Nat → Prop) → Nat → TP → Prop) (w0 wF : World) (F : Nat → Prop) (w : World) (p q : Nat) (t u : TP) : Prop :=
  ∃ S X : Nat → Prop, CT w S p t ∧ CT' w X q u ∧ (∀ b, S b → ¬ X b) ∧ (∀ b, S b → w0.heap.size ≤ b) ∧ (∀ b, X b → w0.heap.size ≤ b) ∧ Below w0.heap.size w0 w ∧ (∀ b, F b → ¬ S b) ∧ (∀ b, F b → ¬ X b) ∧ (∀ b, F b → b < w.heap.size ∧ w.heap[b]? = wF.heap[b]?)
theorem Tri.mk {CT CT' : World → (Nat → Prop) → Nat → TP → Prop} (K : Kept CT) (K' : Kept CT') {w0 w wF : World} {F : Nat → Prop} {p q : Nat} {t u : TP} (h : Two CT CT' w0 w p q t u) (hb : Below w.heap.size w wF) (hF : ∀ b, F b → w.heap.size ≤ b ∧ b < wF.heap.size) : Tri CT CT' w0 wF F wF p q t u := by
  obtain ⟨S, X, h1, h2, h3, h4, h5, h6⟩ := h
  exact ⟨S, X, K.keep h1 hb.size fun b hs => hb.block b (K.lt h1 b hs), K'.keep h2 hb.size fun b hs => hb.block b (K'.lt h2 b hs), h3, h4, h5, h6.trans (hb.mono h6.size),
    fun b hf hs => by have := K.lt h1 b hs; have := (hF b hf).1; omega, fun b hf hs => by have := K'.lt h2 b hs; have := (hF b hf).1; omega, fun b hf => ⟨(hF b hf).2, rfl⟩⟩
theorem Tri.two {CT CT' : World → (Nat → Prop) → Nat → TP → Prop} {w0 wF w : World} {F : Nat → Prop} {p q : Nat} {t u : TP} (h : Tri CT CT' w0 wF F w p q t u) : Two CT CT' w0 w p q t u := by
  obtain ⟨S, X, h1, h2, h3, h4, h5, h6, _⟩ := h
  exact ⟨S, X, h1, h2, h3, h4, h5, h6⟩
theorem Tri.low {CT CT' : World → (Nat → Prop) → Nat → TP → Prop} {w0 wF w : World} {F : Nat → Prop} {p q : Nat} {t u : TP} (h : Tri CT CT' w0 wF F w p q t u) : Below w0.heap.size w0 w := h.two.low
theorem Tri.at {CT CT' : World → (Nat → Prop) → Nat → TP → Prop} {w0 wF w : World} {F : Nat → Prop} {p q : Nat} {t u : TP} (h : Tri CT CT' w0 wF F w p q t u) {b : Nat} (hb : F b) : b < w.heap.size ∧ w.heap[b]? = wF.heap[b]? := by
  obtain ⟨S, X, h1, h2, h3, h4, h5, h6, h7, h8, h9⟩ := h
  exact h9 b hb
theorem Tri.symm {CT CT' : World → (Nat → Prop) → Nat → TP → Prop} {w0 wF w : World} {F : Nat → Prop} {p q : Nat} {t u : TP} (h : Tri CT CT' w0 wF F w p q t u) : Tri CT' CT w0 wF F w q p u t := by
  obtain ⟨S, X, h1, h2, h3, h4, h5, h6, h7, h8, h9⟩ := h
  exact ⟨X, S, h2, h1, fun b hx hs => h3 b hs hx, h5, h4, h6, h8, h7, h9⟩
/-- what is done to the first one -/
theorem Tri.step {CT CT' : World → (Nat → Prop) → Nat → TP → Prop} (K : Kept CT) (K' : Kept CT') {w0 wF w w' : World} {F : Nat → Prop} {p q : Nat} {t t' u : TP} {S X : Nat → Prop} (h1 : CT w S p t) (h2 : CT' w X q u) (h3 : ∀ b, S b → ¬ X b) (h4 : ∀ b, S b → w0.heap.size ≤ b) (h5 : ∀ b, X b → w0.heap.size ≤ b) (h6 : Below w0.heap.size w0 w)
    (h7 : ∀ b, F b → ¬ S b) (h8 : ∀ b, F b → ¬ X b) (h9 : ∀ b, F b → b < w.heap.size ∧ w.heap[b]? = wF.heap[b]?) (hc : ∃ S' : Nat → Prop, CT w' S' p t' ∧ ∀ b, S' b → S b ∨ w.heap.size ≤ b) (ho : Only S w w') : Tri CT CT' w0 wF F w' p q t' u := by
  obtain ⟨S', c, hs⟩ := hc
  refine ⟨S', X, c, K'.keep h2 ho.size fun b hb => ho.block b (K'.lt h2 b hb) (fun e => h3 b e hb), fun b hb hx => ?_, fun b hb => ?_, h5, h6.trans (ho.below h6.size h4), fun b hf hb => ?_, h8, fun b hf => ⟨Nat.lt_of_lt_of_le (h9 b hf).1 ho.size, (ho.block b (h9 b hf).1 (h7 b hf)).trans (h9 b hf).2⟩⟩
  · rcases hs b hb with h | h
    · exact h3 b h hx
    · have := K'.lt h2 b hx; omega
  · rcases hs b hb with h | h
    · exact h4 b h
    · exact Nat.le_trans h6.size h
  · rcases hs b hb with h | h
    · exact h7 b hf h
    · have := (h9 b hf).1; omega
theorem Tri.fst {P : Program} {CT CT' : World → (Nat → Prop) → Nat → TP → Prop} (K : Kept CT) (K' : Kept CT') {w0 wF w : World} {F : Nat → Prop} {p q : Nat} {t t' u : TP} {f : FuncId} {args : Array Value} {E : Ending} (h : Tri CT CT' w0 wF F w p q t u)
    (op : ∀ S, CT w S p t → (∀ b, S b → w0.heap.size ≤ b) → (∀ b, F b → ¬ S b) → Calls P f args w fun e w' => e = E ∧ (∃ S' : Nat → Prop, CT w' S' p t' ∧ ∀ b, S' b → S b ∨ w.heap.size ≤ b) ∧ Only S w w') :
    Calls P f args w fun e w' => e = E ∧ Tri CT CT' w0 wF F w' p q t' u := by
  obtain ⟨S, X, h1, h2, h3, h4, h5, h6, h7, h8, h9⟩ := h
  exact (op S h1 h4 h7).mono fun e w' ⟨he, hc, ho⟩ => ⟨he, Tri.step K K' h1 h2 h3 h4 h5 h6 h7 h8 h9 hc ho⟩
theorem Tri.snd {P : Program} {CT CT' : World → (Nat → Prop) → Nat → TP → Prop} (K : Kept CT) (K' : Kept CT') {w0 wF w : World} {F : Nat → Prop} {p q : Nat} {t u u' : TP} {f : FuncId} {args : Array Value} {E : Ending} (h : Tri CT CT' w0 wF F w p q t u)
    (op : ∀ X, CT' w X q u → (∀ b, X b → w0.heap.size ≤ b) → (∀ b, F b → ¬ X b) → Calls P f args w fun e w' => e = E ∧ (∃ X' : Nat → Prop, CT' w' X' q u' ∧ ∀ b, X' b → X b ∨ w.heap.size ≤ b) ∧ Only X w w') :
    Calls P f args w fun e w' => e = E ∧ Tri CT CT' w0 wF F w' p q t u' :=
  (h.symm.fst K' K op).mono fun e w' ⟨he, h'⟩ => ⟨he, h'.symm⟩
/-- a store into the second one -/
theorem Tri.put {CT CT' : World → (Nat → Prop) → Nat → TP → Prop} (K : Kept CT) (K' : Kept CT') {w0 wF w w' : World} {F : Nat → Prop} {p q : Nat} {t u u' : TP} (h : Tri CT CT' w0 wF F w p q t u)
    (op : ∀ X, CT' w X q u → (∃ X' : Nat → Prop, CT' w' X' q u' ∧ ∀ b, X' b → X b ∨ w.heap.size ≤ b) ∧ Only X w w') : Tri CT CT' w0 wF F w' p q t u' := by
  obtain ⟨S, X, h1, h2, h3, h4, h5, h6, h7, h8, h9⟩ := h.symm
  obtain ⟨hc, ho⟩ := op S h1
  exact (Tri.step K' K h1 h2 h3 h4 h5 h6 h7 h8 h9 hc ho).symm
/-- blocks of F are written -/
theorem Tri.mark {CT CT' : World → (Nat → Prop) → Nat → TP → Prop} (K : Kept CT) (K' : Kept CT') {w0 wF w w' : World} {F : Nat → Prop} {p q : Nat} {t u : TP} (h : Tri CT CT' w0 wF F w p q t u) (hF : ∀ b, F b → w0.heap.size ≤ b) (ho : Only F w w') : Tri CT CT' w0 w' F w' p q t u := by
  obtain ⟨S, X, h1, h2, h3, h4, h5, h6, h7, h8, h9⟩ := h
  exact ⟨S, X, K.keep h1 ho.size fun b hs => ho.block b (K.lt h1 b hs) (fun e => h7 b e hs), K'.keep h2 ho.size fun b hs => ho.block b (K'.lt h2 b hs) (fun e => h8 b e hs), h3, h4, h5, h6.trans (ho.below h6.size hF), h7, h8, fun b hf => ⟨Nat.lt_of_lt_of_le (h9 b hf).1 ho.size, rfl⟩⟩
theorem Tri.later {CT CT' : World → (Nat → Prop) → Nat → TP → Prop} (K : Kept CT) (K' : Kept CT') {w0 wF w w' : World} {F : Nat → Prop} {p q : Nat} {t u : TP} (h : Tri CT CT' w0 wF F w p q t u) (hb : Below w.heap.size w w') : Tri CT CT' w0 wF F w' p q t u := by
  obtain ⟨S, X, h1, h2, h3, h4, h5, h6, h7, h8, h9⟩ := h
  exact ⟨S, X, K.keep h1 hb.size fun b hs => hb.block b (K.lt h1 b hs), K'.keep h2 hb.size fun b hs => hb.block b (K'.lt h2 b hs), h3, h4, h5, h6.trans (hb.mono h6.size), h7, h8, fun b hf => ⟨Nat.lt_of_lt_of_le (h9 b hf).1 hb.size, (hb.block b (h9 b hf).1).trans (h9 b hf).2⟩⟩

/-- the reference's tape by the blocks that it lies in -/
def RCT (w : World) (S : Nat → Prop) (q : Nat) (t : TP) : Prop := ∃ v, RT w q v t ∧ ∀ b, S b ↔ (b = q ∨ v.ownBlock = some b)
theorem RCT.kept : Kept RCT where
  keep := fun {w w' S p t} ⟨v, h, hs⟩ hw hb => ⟨v, h.keep hw (hb _ ((hs _).2 (.inl rfl))) fun g hg => hb g ((hs _).2 (.inr hg)), hs⟩
  lt := fun {w S p t} ⟨v, h, hs⟩ b hb => by
    rcases (hs b).1 hb with rfl | h2
    · exact h.lt
    · exact h.rd.lt h2
theorem RCT.of {w w' : World} {S : Nat → Prop} {q : Nat} {t' : TP} {v v' : Value} (hs : ∀ b, S b ↔ (b = q ∨ v.ownBlock = some b)) (h : RT w' q v' t') (hv : v' = v ∨ ∀ g, v'.ownBlock = some g → w.heap.size ≤ g) : ∃ S' : Nat → Prop, RCT w' S' q t' ∧ ∀ b, S' b → S b ∨ w.heap.size ≤ b := by
  refine ⟨fun b => b = q ∨ v'.ownBlock = some b, ⟨v', h, fun b => Iff.rfl⟩, fun b hb => ?_⟩
  rcases hb with hb | hb
  · exact .inl ((hs b).2 (.inl hb))
  · rcases hv with rfl | hv
    · exact .inl ((hs b).2 (.inr hb))
    · exact .inr (hv b hb)
theorem refWrite_c (w : World) (X : Nat → Prop) (q : Nat) (u : TP) (bv : Value) (l : List UInt8) (hc : RCT w X q u) (hu : u.Ok) (hl : u.b.length ≤ 100000000) (hb : RdW w bv l) (hll : l.length ≤ 100000) :
    Calls Try.prog 11 #[.pointer (some ⟨q, 0, none⟩), bv] w fun e w' => e = .returned (.int .i64 (u.write l).2) ∧ (∃ X' : Nat → Prop, RCT w' X' q (u.write l).1 ∧ ∀ b, X' b → X b ∨ w.heap.size ≤ b) ∧ Only X w w' := by
  obtain ⟨v, h, hs⟩ := hc
  exact (refWrite_any q v u bv l (by omega) (by omega) w h hu.fuse hb).mono fun e w' ⟨he, ⟨v', h', hv⟩, ho⟩ => ⟨he, RCT.of hs h' (.inr hv), ho.mono fun b _ hb => (hs b).2 (.inl hb)⟩
theorem refSync_c (w : World) (X : Nat → Prop) (q : Nat) (u : TP) (hc : RCT w X q u) (hu : u.Ok) (hl : u.b.length ≤ 100000000) :
    Calls Try.prog 13 #[.pointer (some ⟨q, 0, none⟩)] w fun e w' => e = .returned (.int .i64 u.sync.2) ∧ (∃ X' : Nat → Prop, RCT w' X' q u.sync.1 ∧ ∀ b, X' b → X b ∨ w.heap.size ≤ b) ∧ Only X w w' := by
  obtain ⟨v, h, hs⟩ := hc
  exact (refSync_any q v u (by omega) w h hu.fuse).mono fun e w' ⟨he, h', ho⟩ => ⟨he, RCT.of hs h' (.inl rfl), ho.mono fun b _ hb => (hs b).2 (.inl hb)⟩
theorem refSwap_c (w : World) (X : Nat → Prop) (q : Nat) (u : TP) (bv : Value) (l : List UInt8) (hc : RCT w X q u) (hu : u.Ok) (hb : RdW w bv l) (hll : l.length ≤ 100000) (hfar : ∀ g, rdBlock bv = some g → ¬ X g) :
    Calls Try.prog 15 #[.pointer (some ⟨q, 0, none⟩), bv] w fun e w' => e = .returned (.int .i64 (u.swap l).2) ∧ (∃ X' : Nat → Prop, RCT w' X' q (u.swap l).1 ∧ ∀ b, X' b → X b ∨ w.heap.size ≤ b) ∧ Only X w w' := by
  obtain ⟨v, h, hs⟩ := hc
  exact (refSwap_any q v u bv l (by omega) w h hu.fuse hb (fun e => hfar q e ((hs q).2 (.inl rfl)))).mono fun e w' ⟨he, ⟨v', h', hv⟩, ho⟩ => ⟨he, RCT.of hs h' (hv.imp (fun h => h.1) id), ho.mono fun b _ hb => (hs b).2 (.inl hb)⟩
theorem refCrash_c (w : World) (X : Nat → Prop) (q : Nat) (u : TP) (n : Int) (hc : RCT w X q u) (hu : u.Ok) (hl : u.b.length ≤ 100000000) (hn : (Lit.int .i64 n).wf = true) :
    Calls Try.prog 18 #[.pointer (some ⟨q, 0, none⟩), .int .i64 n] w fun e w' => e = .returned (.tuple #[]) ∧ (∃ X' : Nat → Prop, RCT w' X' q (u.crash n) ∧ ∀ b, X' b → X b ∨ w.heap.size ≤ b) ∧ Only X w w' := by
  obtain ⟨v, h, hs⟩ := hc
  exact (refCrash_any q v u (by omega) hu.sure n hn w h).mono fun e w' ⟨he, ⟨v', h', hv⟩, ho⟩ => ⟨he, RCT.of hs h' (.inr hv), ho.mono fun b _ hb => (hs b).2 (.inl hb)⟩
/-- 'v.Fuse = n' -/
theorem refFuse_c {w : World} {X : Nat → Prop} {q : Nat} {u : TP} (hc : RCT w X q u) (n : Int) :
    (∃ X' : Nat → Prop, RCT (w.setCell ⟨q, 2, none⟩ (.int .i64 n)) X' q ⟨u.b, u.sure, n, u.down⟩ ∧ ∀ b, X' b → X b ∨ w.heap.size ≤ b) ∧ Only X w (w.setCell ⟨q, 2, none⟩ (.int .i64 n)) := by
  obtain ⟨v, h, hs⟩ := hc
  refine ⟨RCT.of hs (v' := v) ⟨?_, h.rd.keep (by rw [set_size]; exact Nat.le_refl _) fun g hg => set_there _ (fun e => h.far (by rw [hg, e])), h.far⟩ (.inl rfl), (Only.refl X w).set ((hs q).2 (.inl rfl)) _⟩
  have := set_here (o := 2) h.box (.int .i64 n)
  simpa using this
end Go.Proofs.Ytokijikcgoihmaa
