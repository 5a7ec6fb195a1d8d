/- A loop over an iterator that keeps what is left in a cell of its own: what the caller owes. -/
import Derived.Test.YtobicmpgfiddhaaDoorRuleOut
import Derived.RangeFuncNested
import Derived.RangeFuncBound
import Derived.RangeFuncCalls
import Derived.RangeFuncLeaves
import Derived.RangeFuncBox
namespace Go.Proofs.YtobicmpgfiddhaaDoor
open Go.RowKit
set_option linter.unusedVariables false
set_option linter.unusedSimpArgs false

/-- one block is turned: the iterator's cell, or one of the loop's own books; new ones may come -/
def TurnC (b0 Bn : Nat) (A B : World) : Prop := ∃ q, (q = Bn ∨ (b0 ≤ q ∧ ∃ o : Obj, A.heap[q]? = some o ∧ o.isCells = false)) ∧ ButO A.heap.size q A B
theorem turn_alloc (b0 Bn : Nat) (A : World) (o : Obj) : TurnC b0 Bn A (A.alloc o) := ⟨Bn, .inl rfl, ButO.of ((Below.refl _ A).alloc (Nat.le_refl _) o)⟩
theorem turn_put {b0 Bn l : Nat} {A : World} {o : Obj} (o' : Obj) (hl : b0 ≤ l) (h : A.heap[l]? = some o) (hc : o.isCells = false) : TurnC b0 Bn A (A.putObj l o') :=
  ⟨l, .inr ⟨hl, o, h, hc⟩, rfl, rfl, rfl, (grownBy_putObj' A l o').size, fun k _ hk => World.putObj_heap_other hk⟩
theorem turn_cell {b0 Bn : Nat} {A B : World} (h : ButO A.heap.size Bn A B) : TurnC b0 Bn A B := ⟨Bn, .inl rfl, h⟩
/-- how a round may be left -/
def postC {α : Type} (b0 : Nat) (K : Nat → Prop) (I Ix : List α → World → Prop) (xs : List α) (W : World) : Exit → Act → World → Prop
  | .normal, _, W' => KeepsFrom b0 W W' ∧ (∀ k, K k → W'.heap[k]? = W.heap[k]?) ∧ I xs W'
  | .ret, _, W' => KeepsFrom b0 W W' ∧ Ix xs W'
  | _, _, _ => False
/-- what the iterator gives, whatever its caller holds that abides its own cell's turns -/
def SeqC {α : Type} (F : Fence) (n : Nat) (P : Program) (g : Nat) (lb : Array Value) (encs : α → Array Value) (Bn : Nat) (K : Nat → Prop) (S Sp : List α → Prop) (N : Nat) (w : World) : Prop :=
  ∀ (l : Nat) (J Jx : List α → World → Prop) (W : World), Below w.heap.size w W → (∀ s A B, J s A → ButO A.heap.size Bn A B → J s B) → (∀ s A B, Jx s A → ButO A.heap.size Bn A B → Jx s B) →
    (∀ pre x W1, J pre W1 → pre.length < N → YieldAt F (n - 1) P l (encs x) W1 fun e W' =>
      (e = .returned (.bool true) ∧ J (pre ++ [x]) W' ∧ ∀ k, K k → W'.heap[k]? = W1.heap[k]?) ∨ (e = .returned (.bool false) ∧ Jx (pre ++ [x]) W')) →
    J [] W → CallsIn F n P g (#[.func (.yield l) #[] #[]] ++ lb) W fun e W' => (∃ v, e = .returned v) ∧ ((∃ xs, S xs ∧ J xs W') ∨ (∃ pre, Sp pre ∧ Jx pre W'))
variable {F : Fence} {n : Nat} {P : Program}
theorem range_cell {α : Type} {g : Operand} {ps : Array Tmp} {assign body : Code} {Q : Exit → Act → World → Prop} {a : Act} {w : World}
    (hro : F.round = none) (h1 : 1 ≤ n) {gf : Nat} {lb : Array Value} (hg : a.eval g = .func (.func gf) #[] lb) (hFg : F.fn gf) (eg : ∀ args w, (callFunc gf args).run P w = .ok (.enter gf args) w)
    {encs : α → Array Value} {Bn : Nat} {K : Nat → Prop} {S Sp : List α → Prop} {N : Nat} (hBn : Bn < w.heap.size) (hK : ∀ k, K k → k < w.heap.size) (hseq : SeqC F (n - 1) P gf lb encs Bn K S Sp N w) (hps : ∀ x, (encs x).size = ps.size)
    (I Ix : List α → World → Prop) (hI : ∀ s A B, I s A → TurnC w.heap.size Bn A B → I s B) (hIx : ∀ s A B, Ix s A → TurnC w.heap.size Bn A B → Ix s B) (h0 : I [] w) (a₁ : α → Act)
    (hassign : ∀ (l : Nat) (x : α) (W : World) (K : Act → World → Prop), K (a₁ x) W →
      assign.wpIn (F.inRound l) (n - 1 - 1) P (Exit.then K (fun _ _ _ => False)) { tmps := (ps.zip (encs x)).foldl (fun t (p, v) => t.setIfInBounds p v) a.tmps, defers := [] } W)
    (hbody : ∀ (l : Nat) (pre : List α) (x : α) (W : World), I pre W → w.heap.size ≤ W.heap.size → pre.length < N → body.wpIn (F.inRound l) (n - 1 - 1) P (postC w.heap.size K I Ix (pre ++ [x]) W) (a₁ x) W)
    (hdone : ∀ (D : Nat) (xs : List α) (W : World), w.heap.size ≤ D → S xs → I xs W → W.heap[D]? = some (.deferred (some [])) → Q .normal { a with defers := { target := .collected D, args := #[] } :: a.defers } W)
    (hstop : ∀ (D : Nat) (pre : List α) (W : World), w.heap.size ≤ D → Sp pre → Ix pre W → W.heap[D]? = some (.deferred (some [])) → Code.ret.wpIn F n P Q { a with defers := { target := .collected D, args := #[] } :: a.defers } W) :
    (Code.rangeFunc g ps assign body).wpIn F n P Q a w := by
  refine wpIn_rangeFunc fun fn hfn => ?_
  rw [hro]
  -- the loop's two blocks: its deferred calls (D), its record (R)
  obtain ⟨D, hD⟩ : ∃ D, w.heap.size = D := ⟨_, rfl⟩
  obtain ⟨mk, hmk⟩ : ∃ mk : LoopState → Option Code → Loop, mk = fun st pe => { state := st, pending := pe, fn, tmps := a.tmps, params := ps, assign, body, defers := w.heap.size } := ⟨_, rfl⟩
  obtain ⟨V, hV⟩ : ∃ V, V = (w.alloc (.deferred (some []))).alloc (.loop (mk .ready none)) := ⟨_, rfl⟩
  have vR : V.heap[D + 1]? = some (.loop (mk .ready none)) := by
    have := World.alloc_heap_new (w.alloc (.deferred (some []))) (.loop (mk .ready none))
    rw [World.size_alloc, hD] at this
    rw [hV]; exact this
  have vD : V.heap[D]? = some (.deferred (some [])) := by rw [hV, ← hD]; exact (Below.heap_alloc _ _ _ (by simp)).trans (World.alloc_heap_new w _)
  have vI : I [] V := by rw [hV]; exact hI _ _ _ (hI _ _ _ h0 (turn_alloc ..)) (turn_alloc ..)
  have vB : Below w.heap.size w V := by rw [hV]; exact ((Below.refl _ w).alloc (Nat.le_refl _) _).alloc (by simp) _
  refine ⟨D + 1, [{ target := .collected D, args := #[] }], V, { target := .fn (.func gf) lb, args := #[.func (.yield (D + 1)) #[] #[]] }, V, gf, #[.func (.yield (D + 1)) #[] #[]] ++ lb, V, ?_, ?_, ?_, ?_, fun _ => h1, ?_⟩
  · have := run_enterLoop_outer (P := P) (w := w) fn a.tmps ps assign body
    rw [hV, hmk, ← hD]; exact this
  · simp only [resolve, hg]
    simp [go_sem]
  · intro f' hf'
    simp [Target.leads] at hf'
    subst hf'; exact hFg
  · simp [invoke, go_sem, eg]
  have hRp : ∀ pe, (mk .ready pe).params = ps := fun pe => by rw [hmk]
  have book : ∀ {A B : World} {k : Nat} {o : Obj}, ButO A.heap.size Bn A B → A.heap[k]? = some o → D ≤ k → B.heap[k]? = some o := fun hb ho hk =>
    (hb.block _ (Array.getElem?_eq_some_iff.1 ho).1 (by omega)).trans ho
  refine (hseq (D + 1) (fun pre W => I pre W ∧ W.heap[D + 1]? = some (.loop (mk .ready none)) ∧ W.heap[D]? = some (.deferred (some []))) (fun pre W => Ix pre W ∧ W.heap[D + 1]? = some (.loop (mk .done (some .ret))) ∧ W.heap[D]? = some (.deferred (some [])))
    V vB (fun s A B hs hb => ⟨hI _ _ _ hs.1 (turn_cell hb), book hb hs.2.1 (by omega), book hb hs.2.2 (by omega)⟩) (fun s A B hs hb => ⟨hIx _ _ _ hs.1 (turn_cell hb), book hb hs.2.1 (by omega), book hb hs.2.2 (by omega)⟩) ?_ ⟨vI, vR, vD⟩).mono ?_
  · -- one round
    rintro pre x W ⟨hi, hl, hk⟩ hlen
    have hlt := (Array.getElem?_eq_some_iff.1 hl).1
    have hy := run_yield (P := P) (args := encs x) hl (by rw [hRp]; exact hps x)
    rw [hmk] at hy
    refine ⟨fn, _, assign, body, hy, roundIn_of_wpIn hfn (hassign _ x W _ ⟨_, run_beginRound hl (by rw [hmk]), ?_⟩)⟩
    clear hy
    obtain ⟨Wb, hWb⟩ : ∃ Wb, Wb = W.putObj (D + 1) (.loop { mk .ready none with state := .busy }) := ⟨_, rfl⟩
    rw [← hWb]
    have bl : Wb.heap[D + 1]? = some (.loop { mk .ready none with state := .busy }) := by rw [hWb]; exact World.putObj_heap_same hlt
    have bk : Wb.heap[D]? = some (.deferred (some [])) := by rw [hWb]; exact (World.putObj_heap_other (by omega)).trans hk
    have bi : I pre Wb := by rw [hWb]; exact hI _ _ _ hi (turn_put _ (by omega) hl rfl)
    have bK : ∀ k, K k → Wb.heap[k]? = W.heap[k]? := fun k hk => by rw [hWb]; exact World.putObj_heap_other (by have := hK k hk; omega)
    have bs : w.heap.size ≤ Wb.heap.size := by have := (Array.getElem?_eq_some_iff.1 bl).1; omega
    refine wpIn_mono (hbody _ pre x Wb bi bs hlen) ?_
    have fin : ∀ (jump : Option Code) (W3 : World), KeepsFrom w.heap.size Wb W3 → (Instr.endRound (D + 1) jump).run P W3 = .ok (.bool jump.isNone) (W3.putObj (D + 1) (.loop (mk (if jump.isNone then .ready else .done) jump))) ∧
        (W3.putObj (D + 1) (.loop (mk (if jump.isNone then .ready else .done) jump))).heap[D + 1]? = some (.loop (mk (if jump.isNone then .ready else .done) jump)) ∧
        (W3.putObj (D + 1) (.loop (mk (if jump.isNone then .ready else .done) jump))).heap[D]? = some (.deferred (some [])) ∧ W3.heap[D + 1]? = some (.loop { mk .ready none with state := .busy }) := fun jump W3 hk3 => by
      have h3 := hk3.same _ _ (by omega) bl rfl
      have hr := run_endRound (P := P) jump h3
      rw [hmk] at hr h3 ⊢
      exact ⟨hr, World.putObj_heap_same (Array.getElem?_eq_some_iff.1 h3).1, (World.putObj_heap_other (by omega)).trans (hk3.same _ _ (by omega) bk rfl), h3⟩
    rintro e a3 W3 hp
    cases e with
    | normal =>
      obtain ⟨hk3, hs3, hi3⟩ := hp
      obtain ⟨hr, r1, r2, r3⟩ := fin none W3 hk3
      exact ⟨_, _, hr, .inl ⟨rfl, ⟨hI _ _ _ hi3 (turn_put _ (by omega) r3 rfl), r1, r2⟩, fun k hk => (World.putObj_heap_other (by have := hK k hk; omega)).trans ((hs3 k hk).trans (bK k hk))⟩⟩
    | ret =>
      obtain ⟨hk3, hi3⟩ := hp
      obtain ⟨hr, r1, r2, r3⟩ := fin (some .ret) W3 hk3
      exact ⟨_, _, hr, .inr ⟨rfl, hIx _ _ _ hi3 (turn_put _ (by omega) r3 rfl), r1, r2⟩⟩
    | exit id => exact hp.elim
    | goto t => exact hp.elim
    | panic ch => exact hp.elim
    | outgrown => exact hp.elim
  · -- behind the iterator
    rintro e W2 ⟨⟨v, rfl⟩, ⟨xs, hS, hi, hl, hk⟩ | ⟨pre, hSp, hi, hl, hk⟩⟩
    · refine ⟨none, _, by have := run_endLoop (P := P) hl (by rw [hmk]; simp); rw [hmk] at this; exact this, ?_⟩
      exact hdone D xs _ (by omega) hS (hI _ _ _ hi (turn_put _ (by omega) hl rfl)) ((World.putObj_heap_other (by omega)).trans hk)
    · refine ⟨some .ret, _, by have := run_endLoop (P := P) hl (by rw [hmk]; simp); rw [hmk] at this; exact this, ?_⟩
      exact hstop D pre _ (by omega) hSp (hIx _ _ _ hi (turn_put _ (by omega) hl rfl)) ((World.putObj_heap_other (by omega)).trans hk)
end Go.Proofs.YtobicmpgfiddhaaDoor
