/- Texts merged by program, in build order: RuleSeq, RuleSplitSeq, RuleParse, RuleLaw. -/
import Derived.Test.YtobicmpgfiddhaaDoorRuleOut
import Derived.RangeFuncNested
import Derived.RangeFuncBound
import Derived.RangeFuncCalls
import Derived.RangeFuncLeaves
import Derived.RangeFuncBox
import Derived.Test.YtobicmpgfiddhaaDoorRuleSplit
import Derived.Shelf.Abstract
import Derived.Shelf.RegionOpen
import Derived.WalkKit
import Derived.OwnWalkIn
import Derived.TacticsInMore
import Derived.LoopNIn
import Derived.LoopIn
import Derived.Laws.MakeOwn
import Derived.Maps.AppendAt
import Derived.Maps.OwnIn
import Derived.Test.YtobicmpgfiddhaaDoorRuleRunC
namespace Go.Proofs.YtobicmpgfiddhaaDoor
open Go.RowKit
set_option linter.unusedVariables false
set_option linter.unusedSimpArgs false

/-- one block is turned: the iterator's cell, or one of the loop's own books; new ones may come -/
def TurnC (b0 Bn : Nat) (A B : World) : Prop := ∃ q, (q = Bn ∨ (b0 ≤ q ∧ ∃ o : Obj, A.heap[q]? = some o ∧ o.isCells = false)) ∧ ButO A.heap.size q A B
theorem turn_alloc (b0 Bn : Nat) (A : World) (o : Obj) : TurnC b0 Bn A (A.alloc o) := ⟨Bn, .inl rfl, ButO.of ((Below.refl _ A).alloc (Nat.le_refl _) o)⟩
theorem turn_put {b0 Bn l : Nat} {A : World} {o : Obj} (o' : Obj) (hl : b0 ≤ l) (h : A.heap[l]? = some o) (hc : o.isCells = false) : TurnC b0 Bn A (A.putObj l o') :=
  ⟨l, .inr ⟨hl, o, h, hc⟩, rfl, rfl, rfl, (grownBy_putObj' A l o').size, fun k _ hk => World.putObj_heap_other hk⟩
theorem turn_cell {b0 Bn : Nat} {A B : World} (h : ButO A.heap.size Bn A B) : TurnC b0 Bn A B := ⟨Bn, .inl rfl, h⟩
/-- how a round may be left -/
def postC {α : Type} (b0 : Nat) (K : Nat → Prop) (I Ix : List α → World → Prop) (xs : List α) (W : World) : Exit → Act → World → Prop
  | .normal, _, W' => KeepsFrom b0 W W' ∧ (∀ k, K k → W'.heap[k]? = W.heap[k]?) ∧ I xs W'
  | .ret, _, W' => KeepsFrom b0 W W' ∧ Ix xs W'
  | _, _, _ => False
/-- what the iterator gives, whatever its caller holds that abides its own cell's turns -/
def SeqC {α : Type} (F : Fence) (n : Nat) (P : Program) (g : Nat) (lb : Array Value) (encs : α → Array Value) (Bn : Nat) (K : Nat → Prop) (S Sp : List α → Prop) (N : Nat) (w : World) : Prop :=
  ∀ (l : Nat) (J Jx : List α → World → Prop) (W : World), Below w.heap.size w W → (∀ s A B, J s A → ButO A.heap.size Bn A B → J s B) → (∀ s A B, Jx s A → ButO A.heap.size Bn A B → Jx s B) →
    (∀ pre x W1, J pre W1 → pre.length < N → YieldAt F (n - 1) P l (encs x) W1 fun e W' =>
      (e = .returned (.bool true) ∧ J (pre ++ [x]) W' ∧ ∀ k, K k → W'.heap[k]? = W1.heap[k]?) ∨ (e = .returned (.bool false) ∧ Jx (pre ++ [x]) W')) →
    J [] W → CallsIn F n P g (#[.func (.yield l) #[] #[]] ++ lb) W fun e W' => (∃ v, e = .returned v) ∧ ((∃ xs, S xs ∧ J xs W') ∨ (∃ pre, Sp pre ∧ Jx pre W'))
variable {F : Fence} {n : Nat} {P : Program}
theorem range_cell {α : Type} {g : Operand} {ps : Array Tmp} {assign body : Code} {Q : Exit → Act → World → Prop} {a : Act} {w : World}
    (hro : F.round = none) (h1 : 1 ≤ n) {gf : Nat} {lb : Array Value} (hg : a.eval g = .func (.func gf) #[] lb) (hFg : F.fn gf) (eg : ∀ args w, (callFunc gf args).run P w = .ok (.enter gf args) w)
    {encs : α → Array Value} {Bn : Nat} {K : Nat → Prop} {S Sp : List α → Prop} {N : Nat} (hBn : Bn < w.heap.size) (hK : ∀ k, K k → k < w.heap.size) (hseq : SeqC F (n - 1) P gf lb encs Bn K S Sp N w) (hps : ∀ x, (encs x).size = ps.size)
    (I Ix : List α → World → Prop) (hI : ∀ s A B, I s A → TurnC w.heap.size Bn A B → I s B) (hIx : ∀ s A B, Ix s A → TurnC w.heap.size Bn A B → Ix s B) (h0 : I [] w) (a₁ : α → Act)
    (hassign : ∀ (l : Nat) (x : α) (W : World) (K : Act → World → Prop), K (a₁ x) W →
      assign.wpIn (F.inRound l) (n - 1 - 1) P (Exit.then K (fun _ _ _ => False)) { tmps := (ps.zip (encs x)).foldl (fun t (p, v) => t.setIfInBounds p v) a.tmps, defers := [] } W)
    (hbody : ∀ (l : Nat) (pre : List α) (x : α) (W : World), I pre W → w.heap.size ≤ W.heap.size → pre.length < N → body.wpIn (F.inRound l) (n - 1 - 1) P (postC w.heap.size K I Ix (pre ++ [x]) W) (a₁ x) W)
    (hdone : ∀ (D : Nat) (xs : List α) (W : World), w.heap.size ≤ D → S xs → I xs W → W.heap[D]? = some (.deferred (some [])) → Q .normal { a with defers := { target := .collected D, args := #[] } :: a.defers } W)
    (hstop : ∀ (D : Nat) (pre : List α) (W : World), w.heap.size ≤ D → Sp pre → Ix pre W → W.heap[D]? = some (.deferred (some [])) → Code.ret.wpIn F n P Q { a with defers := { target := .collected D, args := #[] } :: a.defers } W) :
    (Code.rangeFunc g ps assign body).wpIn F n P Q a w := by
  refine wpIn_rangeFunc fun fn hfn => ?_
  rw [hro]
  -- the loop's two blocks: its deferred calls (D), its record (R)
  obtain ⟨D, hD⟩ : ∃ D, w.heap.size = D := ⟨_, rfl⟩
  obtain ⟨mk, hmk⟩ : ∃ mk : LoopState → Option Code → Loop, mk = fun st pe => { state := st, pending := pe, fn, tmps := a.tmps, params := ps, assign, body, defers := w.heap.size } := ⟨_, rfl⟩
  obtain ⟨V, hV⟩ : ∃ V, V = (w.alloc (.deferred (some []))).alloc (.loop (mk .ready none)) := ⟨_, rfl⟩
  have vR : V.heap[D + 1]? = some (.loop (mk .ready none)) := by
    have := World.alloc_heap_new (w.alloc (.deferred (some []))) (.loop (mk .ready none))
    rw [World.size_alloc, hD] at this
    rw [hV]; exact this
  have vD : V.heap[D]? = some (.deferred (some [])) := by rw [hV, ← hD]; exact (Below.heap_alloc _ _ _ (by simp)).trans (World.alloc_heap_new w _)
  have vI : I [] V := by rw [hV]; exact hI _ _ _ (hI _ _ _ h0 (turn_alloc ..)) (turn_alloc ..)
  have vB : Below w.heap.size w V := by rw [hV]; exact ((Below.refl _ w).alloc (Nat.le_refl _) _).alloc (by simp) _
  refine ⟨D + 1, [{ target := .collected D, args := #[] }], V, { target := .fn (.func gf) lb, args := #[.func (.yield (D + 1)) #[] #[]] }, V, gf, #[.func (.yield (D + 1)) #[] #[]] ++ lb, V, ?_, ?_, ?_, ?_, fun _ => h1, ?_⟩
  · have := run_enterLoop_outer (P := P) (w := w) fn a.tmps ps assign body
    rw [hV, hmk, ← hD]; exact this
  · simp only [resolve, hg]
    simp [go_sem]
  · intro f' hf'
    simp [Target.leads] at hf'
    subst hf'; exact hFg
  · simp [invoke, go_sem, eg]
  have hRp : ∀ pe, (mk .ready pe).params = ps := fun pe => by rw [hmk]
  have book : ∀ {A B : World} {k : Nat} {o : Obj}, ButO A.heap.size Bn A B → A.heap[k]? = some o → D ≤ k → B.heap[k]? = some o := fun hb ho hk =>
    (hb.block _ (Array.getElem?_eq_some_iff.1 ho).1 (by omega)).trans ho
  refine (hseq (D + 1) (fun pre W => I pre W ∧ W.heap[D + 1]? = some (.loop (mk .ready none)) ∧ W.heap[D]? = some (.deferred (some []))) (fun pre W => Ix pre W ∧ W.heap[D + 1]? = some (.loop (mk .done (some .ret))) ∧ W.heap[D]? = some (.deferred (some [])))
    V vB (fun s A B hs hb => ⟨hI _ _ _ hs.1 (turn_cell hb), book hb hs.2.1 (by omega), book hb hs.2.2 (by omega)⟩) (fun s A B hs hb => ⟨hIx _ _ _ hs.1 (turn_cell hb), book hb hs.2.1 (by omega), book hb hs.2.2 (by omega)⟩) ?_ ⟨vI, vR, vD⟩).mono ?_
  · -- one round
    rintro pre x W ⟨hi, hl, hk⟩ hlen
    have hlt := (Array.getElem?_eq_some_iff.1 hl).1
    have hy := run_yield (P := P) (args := encs x) hl (by rw [hRp]; exact hps x)
    rw [hmk] at hy
    refine ⟨fn, _, assign, body, hy, roundIn_of_wpIn hfn (hassign _ x W _ ⟨_, run_beginRound hl (by rw [hmk]), ?_⟩)⟩
    clear hy
    obtain ⟨Wb, hWb⟩ : ∃ Wb, Wb = W.putObj (D + 1) (.loop { mk .ready none with state := .busy }) := ⟨_, rfl⟩
    rw [← hWb]
    have bl : Wb.heap[D + 1]? = some (.loop { mk .ready none with state := .busy }) := by rw [hWb]; exact World.putObj_heap_same hlt
    have bk : Wb.heap[D]? = some (.deferred (some [])) := by rw [hWb]; exact (World.putObj_heap_other (by omega)).trans hk
    have bi : I pre Wb := by rw [hWb]; exact hI _ _ _ hi (turn_put _ (by omega) hl rfl)
    have bK : ∀ k, K k → Wb.heap[k]? = W.heap[k]? := fun k hk => by rw [hWb]; exact World.putObj_heap_other (by have := hK k hk; omega)
    have bs : w.heap.size ≤ Wb.heap.size := by have := (Array.getElem?_eq_some_iff.1 bl).1; omega
    refine wpIn_mono (hbody _ pre x Wb bi bs hlen) ?_
    have fin : ∀ (jump : Option Code) (W3 : World), KeepsFrom w.heap.size Wb W3 → (Instr.endRound (D + 1) jump).run P W3 = .ok (.bool jump.isNone) (W3.putObj (D + 1) (.loop (mk (if jump.isNone then .ready else .done) jump))) ∧
        (W3.putObj (D + 1) (.loop (mk (if jump.isNone then .ready else .done) jump))).heap[D + 1]? = some (.loop (mk (if jump.isNone then .ready else .done) jump)) ∧
        (W3.putObj (D + 1) (.loop (mk (if jump.isNone then .ready else .done) jump))).heap[D]? = some (.deferred (some [])) ∧ W3.heap[D + 1]? = some (.loop { mk .ready none with state := .busy }) := fun jump W3 hk3 => by
      have h3 := hk3.same _ _ (by omega) bl rfl
      have hr := run_endRound (P := P) jump h3
      rw [hmk] at hr h3 ⊢
      exact ⟨hr, World.putObj_heap_same (Array.getElem?_eq_some_iff.1 h3).1, (World.putObj_heap_other (by omega)).trans (hk3.same _ _ (by omega) bk rfl), h3⟩
    rintro e a3 W3 hp
    cases e with
    | normal =>
      obtain ⟨hk3, hs3, hi3⟩ := hp
      obtain ⟨hr, r1, r2, r3⟩ := fin none W3 hk3
      exact ⟨_, _, hr, .inl ⟨rfl, ⟨hI _ _ _ hi3 (turn_put _ (by omega) r3 rfl), r1, r2⟩, fun k hk => (World.putObj_heap_other (by have := hK k hk; omega)).trans ((hs3 k hk).trans (bK k hk))⟩⟩
    | ret =>
      obtain ⟨hk3, hi3⟩ := hp
      obtain ⟨hr, r1, r2, r3⟩ := fin (some .ret) W3 hk3
      exact ⟨_, _, hr, .inr ⟨rfl, hIx _ _ _ hi3 (turn_put _ (by omega) r3 rfl), r1, r2⟩⟩
    | exit id => exact hp.elim
    | goto t => exact hp.elim
    | panic ch => exact hp.elim
    | outgrown => exact hp.elim
  · -- behind the iterator
    rintro e W2 ⟨⟨v, rfl⟩, ⟨xs, hS, hi, hl, hk⟩ | ⟨pre, hSp, hi, hl, hk⟩⟩
    · refine ⟨none, _, by have := run_endLoop (P := P) hl (by rw [hmk]; simp); rw [hmk] at this; exact this, ?_⟩
      exact hdone D xs _ (by omega) hS (hI _ _ _ hi (turn_put _ (by omega) hl rfl)) ((World.putObj_heap_other (by omega)).trans hk)
    · refine ⟨some .ret, _, by have := run_endLoop (P := P) hl (by rw [hmk]; simp); rw [hmk] at this; exact this, ?_⟩
      exact hstop D pre _ (by omega) hSp (hIx _ _ _ hi (turn_put _ (by omega) hl rfl)) ((World.putObj_heap_other (by omega)).trans hk)
end Go.Proofs.YtobicmpgfiddhaaDoor
namespace Go.Proofs.YtobicmpgfiddhaaDoor
open Go.RowKit Go.Shelf
set_option linter.unusedVariables false
set_option linter.unusedSimpArgs false
attribute [local go_sem] Oper.semAt_some

theorem extP14 (s : List UInt8) (k : Nat) : (⟨s.toArray⟩ : ByteArray).extract 0 k = ⟨(s.take k).toArray⟩ := by
  apply ByteArray.ext
  rw [ByteArray.data_extract]
  simp
theorem extS14 (s : List UInt8) (k : Nat) : (⟨s.toArray⟩ : ByteArray).extract k (⟨s.toArray⟩ : ByteArray).size = ⟨(s.drop k).toArray⟩ := by
  apply ByteArray.ext
  rw [ByteArray.data_extract]
  show Array.extract s.toArray k s.toArray.size = _
  simp
  rw [← List.length_drop, List.take_length]
/-- a part of a text that is not too long -/
abbrev PartR (m : Nat) := { p : List UInt8 // p.length ≤ m }
def valsR {m : Nat} (l : List (PartR m)) : List (List UInt8) := l.map (·.1)
theorem valsR_snoc {m : Nat} (l : List (PartR m)) (p : PartR m) : valsR (l ++ [p]) = valsR l ++ [p.1] := by simp only [valsR, List.map_append, List.map_cons, List.map_nil]
theorem valsR_len {m : Nat} (l : List (PartR m)) : (valsR l).length = l.length := by simp only [valsR, List.length_map]
def cellSize (w : World) (b : Nat) : Nat := match w.cell? ⟨b, 0, none⟩ with
  | some (.string s) => s.size
  | _ => 0
set_option maxRecDepth 100000 in
set_option maxHeartbeats 2000000 in
theorem seq1_in (n : Nat) (hn : 1 ≤ n) (l Bs Bp Bv : Nat) (s : List UInt8) (m : Nat) (hs : s.length ≤ m) (hm : m ≤ 1000000000) (h1 : Bs ≠ Bp) (h2 : Bs ≠ Bv) (J Jx : List (PartR m) → World → Prop)
    (hdJ : ∀ pre A B, J pre A → ButO A.heap.size Bs A B → J pre B)
    (hY : ∀ pre x W, J pre W → pre.length < (splitL 59 s).length → YieldAt Fence.wide (n - 1) Tryd.prog l #[.string ⟨x.1.toArray⟩] W fun e W' =>
      (e = .returned (.bool true) ∧ J (pre ++ [x]) W' ∧ ∀ k, (k = Bs ∨ k = Bp ∨ k = Bv) → W'.heap[k]? = W.heap[k]?) ∨ (e = .returned (.bool false) ∧ Jx (pre ++ [x]) W'))
    (W : World) (c1 : W.heap[Bs]? = some (.cells #[.string ⟨s.toArray⟩] 9 (0, 0))) (c2 : W.heap[Bp]? = some (.cells #[.string ⟨#[59]⟩] 9 (0, 0))) (c3 : W.heap[Bv]? = some (.cells #[.int .i64 0] 3 (0, 0))) (h0 : J [] W) :
    CallsIn Fence.wide n Tryd.prog 50 #[.func (.yield l) #[] #[], .pointer (some ⟨Bp, 0, none⟩), .pointer (some ⟨Bs, 0, none⟩), .pointer (some ⟨Bv, 0, none⟩)] W fun e W' => (∃ v, e = .returned v) ∧
      ((∃ ys, valsR ys = splitL 59 s ∧ J ys W') ∨ (∃ pre, valsR pre <+: splitL 59 s ∧ Jx pre W')) := by
  have hix := fun S W => Tryd.strings_Index_one S 59 W
  have HI := Lib.hid hix; have HDJ := Lib.hid hdJ; have HY := Lib.hid hY
  obtain ⟨SP, hSP⟩ : ∃ z : ByteArray, z = ⟨#[59]⟩ := ⟨_, rfl⟩
  have hps : SP.size = 1 := by rw [hSP]; rfl
  have C1 := Lib.hid c1; have C2 := Lib.hid c2; have C3 := Lib.hid c3
  have p0 : W.cell? ⟨Bp, 0, none⟩ = some (.string ⟨#[59]⟩) := by rw [cell_here c2]; rfl
  clear hix hdJ hY c1 c2 c3 hSP hps
  refine callsIn_of_wp Tryd.func50 rfl trivial ?_ rfl
  simp only [Tryd.ntmps50, List.size_toArray, List.length_cons, List.length_nil, Nat.reduceAdd, Nat.reduceSub, Array.replicate_succ, Array.replicate_zero, List.push_toArray, List.append_toArray, List.nil_append, List.cons_append]
  gi_wp2
  gi_loopw [7] (fun _ wr => ∃ (pre : List (PartR m)) (r : List UInt8), wr.heap[Bs]? = some (.cells #[.string ⟨r.toArray⟩] 9 (0, 0)) ∧ wr.heap[Bp]? = some (.cells #[.string ⟨#[59]⟩] 9 (0, 0)) ∧ wr.heap[Bv]? = some (.cells #[.int .i64 0] 3 (0, 0)) ∧ r.length ≤ m ∧ Hid (splitL 59 s = valsR pre ++ splitL 59 r) ∧ J pre wr) (fun _ wr => cellSize wr Bs)
  case atStart => exact ⟨[], s, C1.out, C2.out, C3.out, hs, Lib.hid rfl, h0⟩
  case round =>
    obtain ⟨pre, r, d1, d2, d3, hr, HP, hJ⟩ := hrel
    obtain ⟨R, hR0⟩ : ∃ R : ByteArray, (⟨r.toArray⟩ : ByteArray) = R := ⟨_, rfl⟩
    have hRs : R.size = r.length := by rw [← hR0]; show r.toArray.size = _; simp
    have hRl : R.data.toList = r := by rw [← hR0]
    have hc := HI.out R wr
    rw [hRl, atL_index] at hc
    rw [hR0] at d1
    have e1 : wr.cell? ⟨Bs, 0, none⟩ = some (.string R) := by rw [cell_here d1]; rfl
    have e2 : wr.cell? ⟨Bp, 0, none⟩ = some (.string ⟨#[59]⟩) := by rw [cell_here d2]; rfl
    have e3 : wr.cell? ⟨Bv, 0, none⟩ = some (.int .i64 0) := by rw [cell_here d3]; rfl
    have D1 := Lib.hid d1; have D2 := Lib.hid d2; have D3 := Lib.hid d3
    clear d1 d2 d3
    by_cases hk : atL 59 r < r.length
    · rw [if_pos hk] at hc
      have hsp := splitL_more hk
      obtain ⟨k, hkk⟩ : ∃ k, atL 59 r = k := ⟨_, rfl⟩
      rw [hkk] at hc hsp hk
      obtain ⟨p, hp⟩ : ∃ p : PartR m, p.1 = r.take k := ⟨⟨r.take k, by rw [List.length_take]; omega⟩, rfl⟩
      obtain ⟨t, ht⟩ : ∃ t, r.drop (k + 1) = t := ⟨_, rfl⟩
      have htl : t.length + 1 ≤ r.length := by rw [← ht, List.length_drop]; omega
      rw [ht, ← hp] at hsp
      have hP2 : splitL 59 s = valsR (pre ++ [p]) ++ splitL 59 t := by rw [HP.out, hsp, valsR_snoc, List.append_assoc]; rfl
      have hroom : pre.length < (splitL 59 s).length := by rw [HP.out, hsp, List.length_append, valsR_len, List.length_cons]; omega
      have x1 : R.extract 0 k = ⟨p.1.toArray⟩ := by rw [← hR0, extP14, hp]
      have x2 : R.extract (k + 1) R.size = ⟨t.toArray⟩ := by rw [← ht, ← hR0, extS14]
      obtain ⟨fn, tmps, assign, body, hy, hRr⟩ := HY.out pre p wr hJ hroom
      obtain ⟨TT, hTT⟩ : ∃ T : ByteArray, (⟨t.toArray⟩ : ByteArray) = T := ⟨_, rfl⟩
      rw [hTT] at x2
      have hb1 : (k : Int) ≤ R.size := by omega
      have hb2 : (k : Int) + 1 ≤ R.size := by omega
      have hb0 : (0 : Int) ≤ k := by omega
      have HP2 := Lib.hid hP2; have HC := Lib.hid hc; have HRS := Lib.hid hRs
      clear hP2 hc hsp hroom hp ht hkk hR0 hRl hRs
      gi_wp2_with (refine ⟨trivial, ?_⟩; gi_at_call 29; refine (callsIn_wide.2 HC.out).mono ?_; rintro e w1 ⟨rfl, rfl⟩)
      refine hRr.mono ?_
      rintro e W3 (⟨rfl, hJ3, hk3⟩ | ⟨rfl, hJx3⟩)
      · have g1 := (hk3 Bs (.inl rfl)).trans D1.out
        have g2 := (hk3 Bp (.inr (.inl rfl))).trans D2.out
        have g3 := (hk3 Bv (.inr (.inr rfl))).trans D3.out
        have q1 : W3.cell? ⟨Bs, 0, none⟩ = some (.string R) := by rw [cell_here g1]; rfl
        have q2 : W3.cell? ⟨Bp, 0, none⟩ = some (.string ⟨#[59]⟩) := by rw [cell_here g2]; rfl
        have q4 := frozen_here g1 0
        have G1 := Lib.hid g1; have G2 := Lib.hid g2; have G3 := Lib.hid g3
        clear g1 g2 g3 hk3
        gi_wp2
        go_roundw
        case rel =>
          have hg : (W3.setCell ⟨Bs, 0, none⟩ (.string TT)).heap[Bs]? = some (.cells #[.string TT] 9 (0, 0)) := by have := set_here (o := 0) G1.out (.string TT); simpa using this
          exact ⟨pre ++ [p], t, by rw [hTT]; exact hg, (set_there _ (Ne.symm h1)).trans G2.out, (set_there _ (Ne.symm h2)).trans G3.out, by omega, HP2, HDJ.out _ _ _ hJ3 ((ButO.refl _ _ _).set (.inr rfl) _)⟩
        case measure =>
          have hg : (W3.setCell ⟨Bs, 0, none⟩ (.string TT)).cell? ⟨Bs, 0, none⟩ = some (.string TT) := by
            rw [cell_here (set_here (o := 0) G1.out (.string TT))]; rfl
          have hts : TT.size = t.length := by rw [← hTT]; show t.toArray.size = _; simp
          have := HRS.out
          unfold cellSize
          rw [hg, e1]
          show TT.size < R.size
          omega
      · gi_wp2
        refine bodyPost_ret (results_none rfl _ _ _) rfl ?_
        exact ⟨⟨_, rfl⟩, .inr ⟨pre ++ [p], ⟨_, HP2.out.symm⟩, hJx3⟩⟩
    · rw [if_neg hk] at hc
      have hsp := splitL_last (Nat.le_of_not_lt hk)
      obtain ⟨p, hp⟩ : ∃ p : PartR m, p.1 = r := ⟨⟨r, hr⟩, rfl⟩
      have hP2 : splitL 59 s = valsR (pre ++ [p]) := by rw [HP.out, hsp, valsR_snoc, hp]
      have hroom : pre.length < (splitL 59 s).length := by rw [HP.out, hsp, List.length_append, valsR_len, List.length_cons]; omega
      obtain ⟨fn, tmps, assign, body, hy, hRr⟩ := HY.out pre p wr hJ hroom
      rw [hp, hR0] at hy
      have HP2 := Lib.hid hP2; have HC := Lib.hid hc
      clear hP2 hc hsp hroom hp hR0 hRl hRs
      gi_wp2_with (refine ⟨trivial, ?_⟩; gi_at_call 29; refine (callsIn_wide.2 HC.out).mono ?_; rintro e w1 ⟨rfl, rfl⟩)
      refine hRr.mono ?_
      rintro e W3 (⟨rfl, hJ3, hk3⟩ | ⟨rfl, hJx3⟩)
      · gi_wp2
        go_end0
        exact ⟨⟨_, rfl⟩, .inl ⟨pre ++ [p], HP2.out.symm, hJ3⟩⟩
      · gi_wp2
        go_end0
        exact ⟨⟨_, rfl⟩, .inr ⟨pre ++ [p], by rw [HP2.out]; exact List.prefix_refl _, hJx3⟩⟩
set_option maxHeartbeats 1000000 in
theorem splitSeq_in (n : Nat) (hn : 1 ≤ n) (s : ByteArray) (w : World) :
    CallsIn Fence.wide n Tryd.prog 19 #[.string s, .string ⟨#[59]⟩] w fun e w' => e = .returned (.func (.func 50) #[] #[.pointer (some ⟨w.heap.size + 1, 0, none⟩), .pointer (some ⟨w.heap.size, 0, none⟩), .pointer (some ⟨w.heap.size + 1 + 1, 0, none⟩)]) ∧
      w' = ((w.alloc (.cells #[.string s] 9)).alloc (.cells #[.string ⟨#[59]⟩] 9)).alloc (.cells #[.int .i64 0] 3) := by
  have h : ∀ (n : Nat) W, CallsIn Fence.wide n Tryd.prog 30 #[.string s, .string ⟨#[59]⟩, .int .i64 0] W fun e w' => e = .returned (.func (.func 50) #[] #[.pointer (some ⟨W.heap.size + 1, 0, none⟩), .pointer (some ⟨W.heap.size, 0, none⟩), .pointer (some ⟨W.heap.size + 1 + 1, 0, none⟩)]) ∧
      w' = ((W.alloc (.cells #[.string s] 9)).alloc (.cells #[.string ⟨#[59]⟩] 9)).alloc (.cells #[.int .i64 0] 3) := fun n W => by
    refine callsIn_of_wp Tryd.func30 rfl trivial ?_ rfl
    simp only [Tryd.ntmps30, List.size_toArray, List.length_cons, List.length_nil, Nat.reduceAdd, Nat.reduceSub, Array.replicate_succ, Array.replicate_zero, List.push_toArray, List.append_toArray, List.nil_append, List.cons_append]
    have hmf : ∀ (fn : Fn) (first cap : Array Value) (w : World), (Instr.makeFunc fn first cap).run Tryd.prog w = .ok (.func fn first cap) w := fun _ _ _ _ => rfl
    gi_wp2
    go_ret
    exact ⟨rfl, rfl⟩
  have H := Lib.hid h
  clear h
  refine callsIn_of_wp Tryd.func19 rfl trivial ?_ rfl
  simp only [Tryd.ntmps19, List.size_toArray, List.length_cons, List.length_nil, Nat.reduceAdd, Nat.reduceSub, Array.replicate_succ, Array.replicate_zero, List.push_toArray, List.append_toArray, List.nil_append, List.cons_append]
  gi_wp2_with (refine ⟨trivial, ?_⟩; gi_at_call 30; refine (H.out _ _).mono ?_; rintro e w1 ⟨rfl, rfl⟩)
  go_ret
  exact ⟨rfl, rfl⟩
/-- what SplitSeq hands back gives all the parts, in order; or those ahead of where a round has said no more -/
theorem seq_stops (n : Nat) (hn : 1 ≤ n) (Bs Bp Bv : Nat) (s : List UInt8) (m : Nat) (hs : s.length ≤ m) (hm : m ≤ 1000000000) (h1 : Bs ≠ Bp) (h2 : Bs ≠ Bv) (w : World)
    (c1 : w.heap[Bs]? = some (.cells #[.string ⟨s.toArray⟩] 9 (0, 0))) (c2 : w.heap[Bp]? = some (.cells #[.string ⟨#[59]⟩] 9 (0, 0))) (c3 : w.heap[Bv]? = some (.cells #[.int .i64 0] 3 (0, 0))) :
    SeqC Fence.wide n Tryd.prog 50 #[.pointer (some ⟨Bp, 0, none⟩), .pointer (some ⟨Bs, 0, none⟩), .pointer (some ⟨Bv, 0, none⟩)] (fun x : PartR m => #[Value.string ⟨x.1.toArray⟩]) Bs (fun k => k = Bs ∨ k = Bp ∨ k = Bv)
      (fun ys => valsR ys = splitL 59 s) (fun pre => valsR pre <+: splitL 59 s) (splitL 59 s).length w := fun l J Jx W hW hJ _ hY h0 =>
  seq1_in n hn l Bs Bp Bv s m hs hm h1 h2 J Jx hJ hY W (blk_below c1 hW) (blk_below c2 hW) (blk_below c3 hW) h0
end Go.Proofs.YtobicmpgfiddhaaDoor
namespace Go.Proofs.YtobicmpgfiddhaaDoor
open Go.RowKit Go.Shelf
set_option linter.unusedVariables false
set_option linter.unusedSimpArgs false
attribute [local go_sem] Oper.semAt_some

/-- what Parse says: which fault, and which rules -/
def parseRE (s : List UInt8) : Int := if s = [] then 0 else if 64 < (splitL 59 s).length then 3 else if (splitL 59 s).all (fun p => (ruleR p).good) = true then 0 else 2
def parseRL (s : List UInt8) : List RU := if s = [] then [] else (splitL 59 s).map ruleR
theorem countByte_split (c : UInt8) : ∀ s : List UInt8, Lib.countByte s c + 1 = (splitL c s).length
  | [] => rfl
  | x :: r => by
    have ih := countByte_split c r
    unfold Lib.countByte at ih ⊢
    rw [splitL_cons, List.count_cons]
    by_cases h : x = c
    · subst h
      rw [if_pos rfl, List.length_cons, ← ih]
      simp
    · rw [if_neg h, if_neg (by simpa using h)]
      have hne : splitL c r ≠ [] := fun e => by rw [e] at ih; simp at ih
      cases hs : splitL c r with
      | nil => exact absurd hs hne
      | cons a b => rw [hs] at ih; simpa using ih
theorem parseRE_0 {s : List UInt8} (h : parseRE s = 0) : (parseRL s).length ≤ 64 ∧ ∀ r ∈ parseRL s, r.good = true := by
  unfold parseRE at h
  unfold parseRL
  by_cases h0 : s = []
  · rw [if_pos h0]; exact ⟨Nat.zero_le _, fun r hr => by cases hr⟩
  · rw [if_neg h0] at h ⊢
    by_cases h1 : 64 < (splitL 59 s).length
    · rw [if_pos h1] at h; cases h
    · rw [if_neg h1] at h
      by_cases h2 : (splitL 59 s).all (fun p => (ruleR p).good) = true
      · refine ⟨by rw [List.length_map]; omega, fun r hr => ?_⟩
        obtain ⟨p, hp, rfl⟩ := List.mem_map.1 hr
        exact List.all_eq_true.1 h2 p hp
      · rw [if_neg h2] at h; cases h
theorem Tryd.infoRule : (Tryd.prog.info? 37).map (fun i => (i.zero, i.size, i.bytes)) = some (some (.agg #[.string ⟨#[]⟩, .slice none 0 0]), 2, 40) := by kernel_rfl
/-- what holds between two rounds: the results' variables, the list's own, the rules so far -/
structure PIn {m : Nat} (B X L : Nat) (w : World) (pre : List (PartR m)) (W : World) : Prop where
  r0 : W.heap[B]? = some (.cells #[.slice none 0 0] 28 (0, 0))
  r1 : W.heap[B + 1]? = some (.cells #[.int .i64 0] 3 (0, 0))
  r2 : W.heap[B + 2]? = some (.cells #[.int .i64 0] 29 (0, 0))
  list : ∃ v xs, W.heap[X]? = some (.cells #[v] 28 (0, 0)) ∧ W.ownsRow (B + 3) 37 2 v pre.length xs ∧ (∀ g, v.ownBlock = some g → g = B + 3 ∨ L + 3 ≤ g) ∧
    ∀ i (h : i < pre.length), ∃ u, xs[i * 2]? = some (tv (ruleR pre[i].1).op) ∧ xs[i * 2 + 1]? = some u ∧ RdS (L + 3) W u (ruleR pre[i].1).args
  good : ∀ p ∈ pre, (ruleR p.1).good = true
  low : Below B w W
structure PEx {m : Nat} (B : Nat) (w : World) (pre : List (PartR m)) (W : World) : Prop where
  bad : ∃ p ∈ pre, (ruleR p.1).good = false
  r0 : W.heap[B]? = some (.cells #[.slice none 0 0] 28 (0, 0))
  r1 : ∃ k, W.heap[B + 1]? = some (.cells #[.int .i64 k] 3 (0, 0))
  r2 : W.heap[B + 2]? = some (.cells #[.int .i64 2] 29 (0, 0))
  low : Below B w W
theorem PIn.turn {m B X L : Nat} {w A A' : World} {pre : List (PartR m)} (h : PIn B X L w pre A) (h1 : B + 3 < X) (h2 : X < L) (ht : TurnC (L + 3) L A A') : PIn B X L w pre A' := by
  obtain ⟨q, hq, hb⟩ := ht
  obtain ⟨r0, r1, r2, ⟨v, xs, x1, x2, x3, x4⟩, g, low⟩ := h
  have hqL : L ≤ q := by omega
  have hqc : ∀ b C t fr, A.heap[b]? = some (.cells C t fr) → L + 3 ≤ b → b ≠ q := fun b C t fr hc hb e => by
    subst e
    rcases hq with hq | ⟨_, o, ho, hoc⟩
    · omega
    · rw [hc] at ho; injection ho with ho; subst ho; cases hoc
  have keep : ∀ {b : Nat} {o : Obj}, A.heap[b]? = some o → b ≠ q → A'.heap[b]? = some o := fun ho hne => (hb.block _ (Array.getElem?_eq_some_iff.1 ho).1 hne).trans ho
  refine ⟨keep r0 (by omega), keep r1 (by omega), keep r2 (by omega), ⟨v, xs, keep x1 (by omega), own_kept x2 fun b hbv => hb.block b (x2.lt b hbv).2 ?_, x3, fun i hi => ?_⟩, g, ?_⟩
  · rcases x3 b hbv with e | e
    · omega
    · rcases x2.2 with ⟨rfl, _⟩ | ⟨b', cap, cur, rfl, _, hc, _⟩
      · cases hbv
      · injection hbv with hbv
        subst hbv
        exact hqc _ _ _ _ hc e
  · obtain ⟨u, y1, y2, y3⟩ := x4 i hi
    exact ⟨u, y1, y2, y3.keep fun b C hbL hc => hb.block b (Array.getElem?_eq_some_iff.1 hc).1 (hqc _ _ _ _ hc hbL)⟩
  · have hAs := low.size
    exact low.trans ⟨hb.os, hb.tape, hb.output, hb.size, fun k hk => hb.block k (by have := (Array.getElem?_eq_some_iff.1 r2).1; omega) (by omega)⟩
theorem PEx.turn {m B X L : Nat} {w A A' : World} {pre : List (PartR m)} (h : PEx B w pre A) (h1 : B + 3 < X) (h2 : X < L) (ht : TurnC (L + 3) L A A') : PEx B w pre A' := by
  obtain ⟨q, hq, hb⟩ := ht
  obtain ⟨bad, r0, ⟨k, r1⟩, r2, low⟩ := h
  have hqL : L ≤ q := by omega
  have keep : ∀ {b : Nat} {o : Obj}, A.heap[b]? = some o → b ≠ q → A'.heap[b]? = some o := fun ho hne => (hb.block _ (Array.getElem?_eq_some_iff.1 ho).1 hne).trans ho
  exact ⟨bad, keep r0 (by omega), ⟨k, keep r1 (by omega)⟩, keep r2 (by omega), low.trans ⟨hb.os, hb.tape, hb.output, hb.size, fun k hk => hb.block k (by have := (Array.getElem?_eq_some_iff.1 r2).1; omega) (by omega)⟩⟩
theorem PIn.keep {m B X L : Nat} {w A A' : World} {pre : List (PartR m)} (h : PIn B X L w pre A) (h1 : B + 3 < X) (h2 : X < L) (hb : Below A.heap.size A A') : PIn B X L w pre A' := h.turn h1 h2 (turn_cell (ButO.of hb))
/-- a rule more: behind the append, and the store of the row -/
theorem PIn.more {m B X L : Nat} {w W W5 : World} {pre : List (PartR m)} {v v5 : Value} {xs : List Value} (h : PIn B X L w pre W) (h1 : B + 3 < X) (h2 : X < L) (hs : L + 3 ≤ W.heap.size) (x : PartR m) (u : Value)
    (y1 : W.heap[X]? = some (.cells #[v] 28 (0, 0))) (y2 : W.ownsRow (B + 3) 37 2 v pre.length xs) (y3 : ∀ g, v.ownBlock = some g → g = B + 3 ∨ L + 3 ≤ g)
    (y4 : ∀ i (h : i < pre.length), ∃ u, xs[i * 2]? = some (tv (ruleR pre[i].1).op) ∧ xs[i * 2 + 1]? = some u ∧ RdS (L + 3) W u (ruleR pre[i].1).args)
    (hu : RdS (L + 3) W u (ruleR x.1).args) (hg : (ruleR x.1).good = true) (hown : W5.ownsRow (B + 3) 37 2 v5 (pre.length + 1) (xs ++ [tv (ruleR x.1).op, u])) (hgr : W.grownBy W5 v.ownBlock) (hat : v5.ownBlock = v.ownBlock ∨ v5.ownBlock = some W.heap.size) :
    PIn B X L w (pre ++ [x]) (W5.setCell ⟨X, 0, none⟩ v5) ∧ KeepsFrom (L + 3) W (W5.setCell ⟨X, 0, none⟩ v5) ∧ ∀ k, (k = L ∨ k = L + 1 ∨ k = L + 1 + 1) → (W5.setCell ⟨X, 0, none⟩ v5).heap[k]? = W.heap[k]? := by
  have hfar : ∀ k, k < L + 3 → k ≠ B + 3 → v.ownBlock ≠ some k := fun k hk hk3 e => by
    rcases y3 k e with e | e <;> omega
  have keep : ∀ k, k < W.heap.size → k < L + 3 → k ≠ B + 3 → k ≠ X → (W5.setCell ⟨X, 0, none⟩ v5).heap[k]? = W.heap[k]? := fun k hk hkL hk3 hkX =>
    (set_there _ hkX).trans (hgr.block k hk (fun e => hfar k hkL hk3 e.symm))
  have kp : ∀ {k : Nat} {o : Obj}, W.heap[k]? = some o → k < L + 3 → k ≠ B + 3 → k ≠ X → (W5.setCell ⟨X, 0, none⟩ v5).heap[k]? = some o := fun ho h1 h2 h3 => (keep _ (Array.getElem?_eq_some_iff.1 ho).1 h1 h2 h3).trans ho
  have hcell : ∀ b C t, W.heap[b]? = some (.cells C t (0, 0)) → t ≠ 37 → b ≠ X → (W5.setCell ⟨X, 0, none⟩ v5).heap[b]? = W.heap[b]? := fun b C t hc ht hb =>
    (set_there _ hb).trans (hgr.block b (Array.getElem?_eq_some_iff.1 hc).1 (fun e => own_not y2 hc (Ne.symm ht) e.symm))
  have hrd : ∀ {u l}, RdS (L + 3) W u l → RdS (L + 3) (W5.setCell ⟨X, 0, none⟩ v5) u l := fun hr => hr.keep fun g C hgL hc => hcell g C _ hc (by decide) (by omega)
  have hxl := y2.1
  refine ⟨⟨kp h.r0 (by omega) (by omega) (by omega), kp h.r1 (by omega) (by omega) (by omega), kp h.r2 (by omega) (by omega) (by omega), ⟨v5, xs ++ [tv (ruleR x.1).op, u], ?_, ?_, fun g e => ?_, fun i hi => ?_⟩, fun p hp => ?_, ?_⟩, ⟨?_, fun k o hk ho hoc => ?_⟩, fun k hk => keep k (by omega) (by omega) (by omega) (by omega)⟩
  · have hx5 : W5.heap[X]? = some (.cells #[v] 28 (0, 0)) := (hgr.block X (by omega) (fun e => hfar X (by omega) (by omega) e.symm)).trans y1
    have := set_here (o := 0) hx5 v5
    simpa using this
  · rw [List.length_append, List.length_singleton]
    refine own_kept hown fun g e => set_there _ ?_
    rcases hat with ha | ha
    · rw [ha] at e; rcases y3 g e with e | e <;> omega
    · rw [ha] at e; injection e with e; omega
  · rcases hat with ha | ha
    · rw [ha] at e; exact y3 g e
    · rw [ha] at e; injection e with e; omega
  · rcases Nat.lt_or_ge i pre.length with hil | hil
    · obtain ⟨u', z1, z2, z3⟩ := y4 i hil
      have hgl : (pre ++ [x])[i] = pre[i] := List.getElem_append_left hil
      rw [hgl]
      exact ⟨u', by rw [List.getElem?_append_left (by omega)]; exact z1, by rw [List.getElem?_append_left (by omega)]; exact z2, hrd z3⟩
    · have hie : i = pre.length := by simp at hi; omega
      subst hie
      have hgl : (pre ++ [x])[pre.length] = x := by simp
      rw [hgl]
      exact ⟨u, by rw [List.getElem?_append_right (by omega), show pre.length * 2 - xs.length = 0 by omega]; rfl, by rw [List.getElem?_append_right (by omega), show pre.length * 2 + 1 - xs.length = 1 by omega]; rfl, hrd hu⟩
  · rcases List.mem_append.1 hp with hp | hp
    · exact h.good p hp
    · rw [List.mem_singleton] at hp; subst hp; exact hg
  · exact (h.low.trans ((Below.refl B W).grown hgr (by omega) (fun k hk => by rcases y3 k hk with e | e <;> omega))).setCell (p := ⟨X, 0, none⟩) (by show B ≤ X; omega) _
  · rw [set_size]; exact hgr.size
  · refine (set_there _ (by omega)).trans ((hgr.block k (Array.getElem?_eq_some_iff.1 ho).1 (fun e => ?_)).trans ho)
    rcases y2.2 with ⟨rfl, _⟩ | ⟨b', cap, cur, rfl, _, hc, _⟩
    · cases e
    · injection e with e
      have e : k = b' := e
      subst e
      rw [hc] at ho; injection ho with ho; subst ho; cases hoc
/-- the rules, read -/
theorem PIn.rdu {m B X L : Nat} {w W : World} {pre : List (PartR m)} {v : Value} {xs : List Value} (y2 : W.ownsRow (B + 3) 37 2 v pre.length xs)
    (y4 : ∀ i (h : i < pre.length), ∃ u, xs[i * 2]? = some (tv (ruleR pre[i].1).op) ∧ xs[i * 2 + 1]? = some u ∧ RdS (L + 3) W u (ruleR pre[i].1).args) : RdU W v ((valsR pre).map ruleR) := by
  have hc := fun g => World.ownsRow.cells (g := g) y2
  have hln : ((valsR pre).map ruleR).length = pre.length := by rw [List.length_map, valsR_len]
  rcases y2.2 with ⟨rfl, h0⟩ | ⟨g, cap, cur, rfl, hB, hg, h4, _⟩
  · have : pre = [] := List.length_eq_zero_iff.1 h0
    subst this
    exact ⟨none, 0, rfl, Nat.le_refl _, fun k r hk => by cases hk⟩
  · refine ⟨some ⟨g, 0, none⟩, cap, by rw [hln], by rw [hln]; exact h4, fun k r hk => ?_⟩
    have hkl : k < pre.length := by have := (List.getElem?_eq_some_iff.1 hk).1; omega
    obtain ⟨u, z1, z2, z3⟩ := y4 k hkl
    have hr : r = ruleR pre[k].1 := by
      unfold valsR at hk
      rw [List.map_map, List.getElem?_map, List.getElem?_eq_getElem hkl] at hk
      injection hk with hk; exact hk.symm
    subst hr
    refine ⟨g, 0, u, rfl, (Array.getElem?_eq_some_iff.1 hg).1, ?_, ?_, z3.rdt⟩
    · have := hc g rfl _ _ z1; rwa [Addr.add_lit] at this
    · have := hc g rfl _ _ z2; rwa [Addr.add_lit] at this
theorem RdS.later {L : Nat} {w w' : World} {u : Value} {l : List (List UInt8)} (h : RdS L w u l) (hb : Below w.heap.size w w') : RdS L w' u l := h.keep fun g C _ hc => hb.block g (Array.getElem?_eq_some_iff.1 hc).1
/-- the list's variable and its row -/
structure PRow14 {m : Nat} (B X L : Nat) (pre : List (PartR m)) (W : World) (v : Value) (xs : List Value) : Prop where
  y1 : W.heap[X]? = some (.cells #[v] 28 (0, 0))
  y2 : W.ownsRow (B + 3) 37 2 v pre.length xs
  y3 : ∀ g, v.ownBlock = some g → g = B + 3 ∨ L + 3 ≤ g
  y4 : ∀ i (h : i < pre.length), ∃ u, xs[i * 2]? = some (tv (ruleR pre[i].1).op) ∧ xs[i * 2 + 1]? = some u ∧ RdS (L + 3) W u (ruleR pre[i].1).args
theorem PRow14.later {m B X L : Nat} {pre : List (PartR m)} {W W' : World} {v : Value} {xs : List Value} (h : PRow14 B X L pre W v xs) (hb : Below W.heap.size W W') : PRow14 B X L pre W' v xs :=
  ⟨blk_below h.y1 hb, own_below h.y2 hb, h.y3, fun i hi => by obtain ⟨u, a, b, c⟩ := h.y4 i hi; exact ⟨u, a, b, c.later hb⟩⟩
theorem keeps_below {B : Nat} {W W' : World} (h : Below W.heap.size W W') : KeepsFrom B W W' := ⟨h.size, fun k o _ hk _ => (h.block k (Array.getElem?_eq_some_iff.1 hk).1).trans hk⟩
/-- the three results stored -/
theorem res_set {B : Nat} {W : World} {v0 v1 v2 u0 u1 u2 : Value} {t0 t1 t2 : TypeId} (h0 : W.heap[B]? = some (.cells #[u0] t0 (0, 0))) (h1 : W.heap[B + 1]? = some (.cells #[u1] t1 (0, 0))) (h2 : W.heap[B + 2]? = some (.cells #[u2] t2 (0, 0))) :
    (((W.setCell ⟨B, 0, none⟩ v0).setCell ⟨B + 1, 0, none⟩ v1).setCell ⟨B + 1 + 1, 0, none⟩ v2).heap[B]? = some (.cells #[v0] t0 (0, 0)) ∧ (((W.setCell ⟨B, 0, none⟩ v0).setCell ⟨B + 1, 0, none⟩ v1).setCell ⟨B + 1 + 1, 0, none⟩ v2).heap[B + 1]? = some (.cells #[v1] t1 (0, 0)) ∧
    (((W.setCell ⟨B, 0, none⟩ v0).setCell ⟨B + 1, 0, none⟩ v1).setCell ⟨B + 1 + 1, 0, none⟩ v2).heap[B + 2]? = some (.cells #[v2] t2 (0, 0)) ∧ ∀ k, k < B ∨ B + 3 ≤ k → (((W.setCell ⟨B, 0, none⟩ v0).setCell ⟨B + 1, 0, none⟩ v1).setCell ⟨B + 1 + 1, 0, none⟩ v2).heap[k]? = W.heap[k]? := by
  refine ⟨?_, ?_, ?_, fun k hk => ?_⟩
  · rw [set_there _ (by omega), set_there _ (by omega)]
    have := set_here (o := 0) h0 v0
    simpa using this
  · rw [set_there _ (by omega)]
    have := set_here (o := 0) ((set_there (o := 0) v0 (by omega : B + 1 ≠ B)).trans h1) v1
    simpa using this
  · have := set_here (o := 0) ((set_there (o := 0) v1 (by omega : B + 1 + 1 ≠ B + 1)).trans ((set_there (o := 0) v0 (by omega : B + 1 + 1 ≠ B)).trans h2)) v2
    simpa using this
  · rw [set_there _ (by omega), set_there _ (by omega), set_there _ (by omega)]
theorem PRow14.other {m B X L : Nat} {pre : List (PartR m)} {W W' : World} {v : Value} {xs : List Value} (h : PRow14 B X L pre W v xs) (hX : B + 3 < X) (hX2 : X < L) (hk : ∀ k C t, W.heap[k]? = some (.cells C t (0, 0)) → B + 3 ≤ k → W'.heap[k]? = W.heap[k]?) : PRow14 B X L pre W' v xs := by
  refine ⟨(hk _ _ _ h.y1 (by omega)).trans h.y1, ?_, h.y3, fun i hi => ?_⟩
  · rcases h.y2.2 with ⟨rfl, h0⟩ | ⟨g, cap, cur, rfl, hB, hg, r⟩
    · exact ⟨h.y2.1, .inl ⟨rfl, h0⟩⟩
    · exact own_kept h.y2 fun g' hg' => by
        injection hg' with hg'
        have e : g = g' := hg'
        subst e
        exact hk _ _ _ hg hB
  · obtain ⟨u, a, b, c⟩ := h.y4 i hi
    exact ⟨u, a, b, c.keep fun g C hgL hc => hk g C _ hc (by omega)⟩
/-- what Parse answers -/
def ParseSays (w : World) (s : List UInt8) (e : Ending) (w' : World) : Prop :=
  ∃ A n c k, e = .returned (.tuple #[.slice A n c, .int .i64 k, .int .i64 (parseRE s)]) ∧ (parseRE s = 0 → k = 0 ∧ n = (parseRL s).length ∧ RdU w' (.slice A n c) (parseRL s)) ∧ Below w.heap.size w w'
set_option maxRecDepth 100000 in
set_option maxHeartbeats 4000000 in
theorem parse_in14 (n : Nat) (hn : 4 ≤ n) (s : List UInt8) (hs : s.length ≤ 1000000000) (w : World) (hj : Var0 w) :
    CallsIn Fence.wide n Tryd.prog 9 #[.string ⟨s.toArray⟩] w (ParseSays w s) := by
  have h1 : 1 ≤ n := by omega
  obtain ⟨S, hS⟩ : ∃ S : ByteArray, (⟨s.toArray⟩ : ByteArray) = S := ⟨_, rfl⟩
  have hSl : S.toList = s := by rw [← hS, ByteArray.toList_eq]
  rw [hS]
  by_cases h0 : s = []
  · subst h0
    have t1 : S.toList = [] := hSl
    have t0 : S.toList.isEmpty = true := by rw [t1]; rfl
    clear hSl hS
    refine callsIn_of_wp_marks Tryd.func9 rfl trivial ?_ rfl
    simp only [Tryd.ntmps9, List.size_toArray, List.length_cons, List.length_nil, Nat.reduceAdd, Nat.reduceSub, Array.replicate_succ, Array.replicate_zero, List.push_toArray, List.append_toArray, List.nil_append, List.cons_append]
    gi_wp2
    refine ⟨.tuple #[.slice none 0 0, .int .i64 0, .int .i64 0], ?_, none, 0, 0, 0, rfl, fun _ => ⟨rfl, rfl, none, 0, rfl, Nat.le_refl _, fun k r hk => by cases hk⟩, ?_⟩
    · simp [results, Tryd.results9, go_sem]
    · exact (((Below.refl _ w).alloc (Nat.le_refl _) _).alloc (by simp) _).alloc (by simp; omega) _
  · have t1 : ¬ S.toList = [] := by rw [hSl]; exact h0
    have t0 : S.toList.isEmpty = false := by simpa using t1
    obtain ⟨N, hN⟩ : ∃ N, (splitL 59 s).length = N := ⟨_, rfl⟩
    have hcn : Lib.countByte S.data.toList 59 + 1 = N := by
      rw [← hN, ← countByte_split, ← hS]
    obtain ⟨M, hM⟩ : ∃ M, Lib.countByte S.data.toList 59 = M := ⟨_, rfl⟩
    have hct := fun W => Tryd.strings_Count_one S 59 W
    rw [hM] at hct hcn
    have HCT := Lib.hid hct
    have hNs : N ≤ 1000000001 := by have := splitL_len 59 s; omega
    have hMN : (M : Int) + 1 = (N : Int) := by omega
    clear hct hM hSl
    by_cases h64 : 64 < N
    · have t2 : decide ((64 : Int) < (N : Int)) = true := by simp; omega
      have hE : parseRE s = 3 := by unfold parseRE; rw [if_neg h0, hN, if_pos h64]
      have HE := Lib.hid hE
      clear hE hS hN hcn
      refine callsIn_of_wp_marks Tryd.func9 rfl trivial ?_ rfl
      simp only [Tryd.ntmps9, List.size_toArray, List.length_cons, List.length_nil, Nat.reduceAdd, Nat.reduceSub, Array.replicate_succ, Array.replicate_zero, List.push_toArray, List.append_toArray, List.nil_append, List.cons_append]
      gi_wp2_with (refine ⟨trivial, ?_⟩; gi_at_call 18; refine (callsIn_wide.2 (HCT.out _)).mono ?_; rintro e w1 ⟨rfl, rfl⟩; dsimp only)
      refine ⟨.tuple #[.slice none 0 0, .int .i64 0, .int .i64 3], ?_, none, 0, 0, 0, by rw [HE.out], fun h => (by rw [HE.out] at h; cases h), ?_⟩
      · simp [results, Tryd.results9, go_sem]
      · exact (((Below.refl _ w).alloc (Nat.le_refl _) _).alloc (by simp) _).alloc (by simp; omega) _
    · have t2 : decide ((64 : Int) < (N : Int)) = false := by simp; omega
      obtain ⟨i0, hi, hz0, hz1, hz2⟩ := info_parts Tryd.infoRule
      obtain ⟨V0, hV0⟩ : ∃ V0, V0 = ((w.alloc (.cells #[.slice none 0 0] 28)).alloc (.cells #[.int .i64 0] 3)).alloc (.cells #[.int .i64 0] 29) := ⟨_, rfl⟩
      have z0 : V0.heap.size = w.heap.size + 3 := by rw [hV0]; simp
      obtain ⟨wm, hmk, hrow, hgr⟩ := run_makeSlice_owned (P := Tryd.prog) V0 (w.heap.size + 3) 28 37 i0 _ 2 Tryd.underlying28 hi hz0 hz1 .i64 .i64 N (by omega) (by rw [hz2]; omega) (by unfold maxLen; omega) (by omega)
      rw [z0] at hmk hrow
      obtain ⟨b0, hb0⟩ : ∃ b, w.heap.size = b := ⟨_, rfl⟩
      have q0 : V0.heap[b0]? = some (.cells #[.slice none 0 0] 28 (0, 0)) := by rw [hV0, ← hb0]; exact alloc_block (alloc_block (heap_alloc_last w _))
      have q1 : V0.heap[b0 + 1]? = some (.cells #[.int .i64 0] 3 (0, 0)) := by rw [hV0]; exact alloc_block (fresh_at _ (by simp [hb0]))
      have q2 : V0.heap[b0 + 2]? = some (.cells #[.int .i64 0] 29 (0, 0)) := by rw [hV0]; exact fresh_at _ (by simp [hb0])
      have bV : Below w.heap.size w V0 := by rw [hV0]; exact (((Below.refl _ w).alloc (Nat.le_refl _) _).alloc (by simp) _).alloc (by simp; omega) _
      have hmk' : (Instr.makeSlice 28 (.int .i64 0) (.int .i64 (N : Int))).run Tryd.prog V0 = .ok (.slice (some ⟨b0 + 3, 0, none⟩) 0 N) wm := by rw [← hb0]; exact hmk
      rw [hV0] at hmk'
      have HROW := Lib.hid hrow; have HGR := Lib.hid hgr; have Q0 := Lib.hid q0; have Q1 := Lib.hid q1; have Q2 := Lib.hid q2; have BV := Lib.hid bV; have Z0 := Lib.hid z0; have HN := Lib.hid hN; have H0 := Lib.hid h0; have HS := Lib.hid hS; have HB0 := Lib.hid hb0
      clear hrow hgr q0 q1 q2 bV z0 hV0 hmk hN h0 hS hcn
      refine callsIn_of_wp_marks Tryd.func9 rfl trivial ?_ rfl
      simp only [Tryd.ntmps9, List.size_toArray, List.length_cons, List.length_nil, Nat.reduceAdd, Nat.reduceSub, Array.replicate_succ, Array.replicate_zero, List.push_toArray, List.append_toArray, List.nil_append, List.cons_append]
      gi_wp2_with (first
        | (refine ⟨trivial, ?_⟩; gi_at_call 18; refine (callsIn_wide.2 (HCT.out _)).mono ?_; rintro e w1 ⟨rfl, rfl⟩; dsimp only)
        | (refine ⟨trivial, ?_⟩; gi_at_call 19; refine (splitSeq_in _ (by omega) _ _).mono ?_; rintro e w1 ⟨rfl, rfl⟩; dsimp only))
      obtain ⟨X, hX⟩ : ∃ X, wm.heap.size = X := ⟨_, rfl⟩
      obtain ⟨L, hL⟩ : ∃ L, (wm.alloc (.cells #[.slice (some ⟨b0 + 3, 0, none⟩) 0 N] 28)).heap.size = L := ⟨_, rfl⟩
      have hL1 : X < L := by rw [← hL, World.size_alloc, hX]; exact Nat.lt_succ_self _
      have hL2 : L ≤ X + 1 := by rw [← hL, World.size_alloc, hX]; exact Nat.le_refl _
      have hXB : b0 + 3 < X := by
        have := (HROW.out.lt (w.heap.size + 3) rfl).2
        rw [hX] at this; have := HB0.out; omega
      rw [hX, hL]
      obtain ⟨W7, hW7⟩ : ∃ W7, W7 = (((wm.alloc (.cells #[.slice (some ⟨b0 + 3, 0, none⟩) 0 N] 28)).alloc (.cells #[.string S] 9)).alloc (.cells #[.string ⟨#[59]⟩] 9)).alloc (.cells #[.int .i64 0] 3) := ⟨_, rfl⟩
      have z7 : W7.heap.size = L + 3 := by rw [hW7]; simp [hX]; omega
      have c7 : W7.heap[X]? = some (.cells #[.slice (some ⟨b0 + 3, 0, none⟩) 0 N] 28 (0, 0)) := by rw [hW7]; exact alloc_block (alloc_block (alloc_block (fresh_at _ hX.symm)))
      have c1 : W7.heap[L]? = some (.cells #[.string S] 9 (0, 0)) := by rw [hW7]; exact alloc_block (alloc_block (fresh_at _ hL.symm))
      have c2 : W7.heap[L + 1]? = some (.cells #[.string ⟨#[59]⟩] 9 (0, 0)) := by rw [hW7]; exact alloc_block (fresh_at _ (by rw [World.size_alloc, hL]))
      have c3 : W7.heap[L + 1 + 1]? = some (.cells #[.int .i64 0] 3 (0, 0)) := by rw [hW7]; exact fresh_at _ (by rw [World.size_alloc, World.size_alloc, hL])
      have b7 : Below wm.heap.size wm W7 := by rw [hW7]; exact ((((Below.refl _ wm).alloc (Nat.le_refl _) _).alloc (by simp) _).alloc (by simp; omega) _).alloc (by simp; omega) _
      have k7 : ∀ {b : Nat} {o : Obj}, V0.heap[b]? = some o → W7.heap[b]? = some o := fun ho => by
        have hlt := (Array.getElem?_eq_some_iff.1 ho).1
        have h1 := (HGR.out.block _ hlt (fun e => by cases e)).trans ho
        exact (b7.block _ (Array.getElem?_eq_some_iff.1 h1).1).trans h1
      have hlow : Below b0 w W7 := by
        rw [← HB0.out]
        exact (BV.out.trans ⟨HGR.out.os, HGR.out.tape, HGR.out.output, HGR.out.size, fun k hk => HGR.out.block k (by have := Z0.out; omega) (fun e => by cases e)⟩).trans (b7.mono (by rw [hX, HB0.out]; omega))
      have hp0 : PIn (m := 1000000000) b0 X L w [] W7 := ⟨k7 Q0.out, k7 Q1.out, k7 Q2.out, ⟨_, [], c7, own_kept (by rw [← HB0.out]; exact HROW.out) fun g hg => b7.block g (HROW.out.lt g (by rw [HB0.out]; exact hg)).2, fun g hg => .inl (by injection hg with hg; exact hg.symm), fun i hi => absurd hi (Nat.not_lt_zero _)⟩, fun p hp => (by cases hp), hlow⟩
      have hsq := seq_stops (n - 1) (by omega) L (L + 1) (L + 1 + 1) s 1000000000 hs (Nat.le_refl _) (by omega) (by omega) W7 (by rw [HS.out]; exact c1) c2 c3
      have HP0 := Lib.hid hp0; have HSQ := Lib.hid hsq; have HW7 := Lib.hid hW7; have Z7 := Lib.hid z7; have C2 := Lib.hid c2
      have hLs : L < W7.heap.size ∧ L + 3 = W7.heap.size := by omega
      rw [← hW7]
      clear hp0 hsq hW7 c7 c1 c2 c3 b7 k7 hlow hX hL z7 hmk'
      refine range_cell rfl h1 (gf := 50) (lb := #[.pointer (some ⟨L + 1, 0, none⟩), .pointer (some ⟨L, 0, none⟩), .pointer (some ⟨L + 1 + 1, 0, none⟩)]) rfl trivial (enters_of Tryd.func50 (by kernel_rfl) rfl)
        (Bn := L) (K := fun k => k = L ∨ k = L + 1 ∨ k = L + 1 + 1) hLs.1 (fun k hk => by omega) HSQ.out (fun _ => rfl) (PIn b0 X L w) (PEx b0 w)
        (fun s A B hs ht => hs.turn hXB (by omega) (by rw [hLs.2]; exact ht)) (fun s A B hs ht => hs.turn (X := X) hXB (by omega) (by rw [hLs.2]; exact ht)) HP0.out
        (fun x => { tmps := #[.string S, undef, .pointer (some ⟨b0, 0, none⟩), .pointer (some ⟨b0 + 1, 0, none⟩), .pointer (some ⟨b0 + 1 + 1, 0, none⟩), .int .i64 N, .pointer (some ⟨X, 0, none⟩), .string ⟨x.1.toArray⟩, undef, .string S, .bool false, .string S, .int .i64 M, .int .i64 N, .int .i64 N, .bool false, .int .i64 N, .slice (some ⟨b0 + 3, 0, none⟩) 0 N, .string S, .func (.func 50) #[] #[.pointer (some ⟨L + 1, 0, none⟩), .pointer (some ⟨L, 0, none⟩), .pointer (some ⟨L + 1 + 1, 0, none⟩)], .string ⟨x.1.toArray⟩, undef, undef, undef, undef, undef, undef, undef, undef, undef, undef, undef, undef, undef], defers := [] }) ?assign ?body ?done ?stop
      case assign =>
        intro l x W K hK
        gi_wp2
        exact hK
      case body =>
        rintro l pre x W hP hWs hlt
        have hWs : L + 3 ≤ W.heap.size := by omega
        have hN64 : pre.length ≤ 64 := by rw [HN.out] at hlt; omega
        have hlw : Below w.heap.size w W := by rw [HB0.out]; exact hP.low
        obtain ⟨r, hr⟩ : ∃ r, ruleR x.1 = r := ⟨_, rfl⟩
        obtain ⟨m, hm⟩ : ∃ m, r.args.length = m := ⟨_, rfl⟩
        have hal : r.args.length ≤ 1000000 := by
          rw [← hr]
          show (wordsR x.1).tail.length ≤ _
          rw [List.length_tail]
          have := cutK_len 32 (min 5 (x.1.length + 1) - 1) x.1
          show (cutK 32 _ x.1).length - 1 ≤ _
          omega
        have haz : ∀ y ∈ r.args, y.length ≤ 1000000000000 := fun y hy => by
          rw [← hr] at hy
          have hy : y ∈ (wordsR x.1).tail := hy
          have := cutK_each 32 _ x.1 y (List.mem_of_mem_tail hy)
          have := x.2
          omega
        have hsp : Calls Tryd.prog 20 #[.string ⟨x.1.toArray⟩] W fun e w' => ∃ A c, e = .returned (.agg #[tv r.op, .slice A m c]) ∧ RdS W.heap.size w' (.slice A m c) r.args ∧ Below W.heap.size W w' := by
          refine (split_any14 x.1 x.2 W (hj.below hlw)).mono ?_
          rw [hr]
          rintro e w' ⟨A, n', c, rfl, h2, h3⟩
          have hn' : n' = m := by
            obtain ⟨_, _, e, _⟩ := h2
            injection e with _ e2 _
            rw [e2, hm]
          subst hn'
          exact ⟨A, c, rfl, h2, h3⟩
        have hir := fun W A c (h : RdT W (.slice A m c) r.args) => isRule_any r.op A c r.args hal haz W (by rw [hm]; exact h)
        rw [hm] at hir
        obtain ⟨G, hG⟩ : ∃ G, r.good = G := ⟨_, rfl⟩
        have hG2 : (⟨r.op, r.args⟩ : RU).good = G := hG
        rw [hG2] at hir
        obtain ⟨OP, hOP⟩ : ∃ OP : ByteArray, tv r.op = .string OP := ⟨_, rfl⟩
        rw [hOP] at hsp hir
        -- where the walk has come behind both calls
        have hkeep : ∀ W3, Below W.heap.size W W3 → PIn b0 X L w pre W3 := fun W3 hb => hP.keep hXB (by omega) hb
        have hst : ∀ W3, Below W.heap.size W W3 → ∃ VA vc, W3.cell? ⟨X, 0, none⟩ = some (.slice VA pre.length vc) ∧ W3.frozen? ⟨X, 0, none⟩ = false := fun W3 hb => by
          obtain ⟨v, xs, y1, y2, _⟩ := (hkeep W3 hb).list
          obtain ⟨VA, vc, rfl⟩ := own_formR y2
          exact ⟨VA, vc, by rw [cell_here y1]; rfl, frozen_here y1 0⟩
        have HSP := Lib.hid hsp; have HIR := Lib.hid hir; have HKP := Lib.hid hkeep; have HST := Lib.hid hst; have HOP := Lib.hid hOP; have HR := Lib.hid hr; have HG := Lib.hid hG; have HP := Lib.hid hP; have HM := Lib.hid hm
        clear hsp hir hkeep hst hOP hr hG hG2 hP hm hlw hal haz
        cases G with
        | true =>
          gi_wp2_with (first
            | (refine ⟨trivial, fun _ => (by omega), ?_⟩; gi_at_call 20; refine (CallsIn.inRound l (callsIn_wide.2 HSP.out)).mono ?_; rintro e1 W1 ⟨A2, c2, rfl, hrd, hb1⟩; have hir := HIR.out (W1.alloc (.cells #[.string OP, .slice A2 m c2] 37)) A2 c2 (hrd.rdt.below ((Below.refl _ _).alloc (Nat.le_refl _) _)); dsimp only)
            | (refine ⟨trivial, fun _ => (by omega), ?_⟩; gi_at_call 21; refine (CallsIn.inRound l (callsIn_wide.2 hir)).mono ?_; rintro e3 W3 ⟨rfl, hb3⟩
               have bW3 : Below W.heap.size W W3 := (hb1.chain ((Below.refl _ _).alloc (Nat.le_refl _) _)).chain hb3
               have hP3 := HKP.out W3 bW3
               obtain ⟨v, xs, y1, y2, y3, y4⟩ := hP3.list
               obtain ⟨VA, vc, rfl⟩ := own_formR y2
               have hpr : PRow14 b0 X L pre W3 (.slice VA pre.length vc) xs := ⟨y1, y2, y3, y4⟩
               have q8 := blk_below (heap_alloc_last W1 (.cells #[.string OP, .slice A2 m c2] 37)) hb3
               have e1 : W3.cell? ⟨X, 0, none⟩ = some (.slice VA pre.length vc) := by rw [cell_here y1]; rfl
               have d0 : W3.cell? ⟨W1.heap.size, 0, none⟩ = some (.string OP) := by rw [cell_here q8]; rfl
               have d1 : W3.cell? ⟨W1.heap.size, 1, none⟩ = some (.slice A2 m c2) := by rw [cell_here q8]; rfl
               have hb4 : Below W3.heap.size W3 (W3.alloc (.cells #[.string OP, .slice A2 m c2] 37)) := (Below.refl _ _).alloc (Nat.le_refl _) _
               have HPR4 := Lib.hid (hpr.later hb4); have HP4 := Lib.hid (hP3.keep hXB (by omega) hb4); have HB4 := Lib.hid (bW3.chain hb4)
               have HRD := Lib.hid (((hrd.later ((Below.refl _ _).alloc (Nat.le_refl _) (.cells #[.string OP, .slice A2 m c2] 37))).later hb3).later hb4)
               have hz3 : L + 3 ≤ W3.heap.size := Nat.le_trans hWs bW3.size
               clear hpr y1 y2 y3 y4 hP3 q8 hb4 bW3 hb3 hrd hb1 hir
               dsimp only)
            | (gi_at_builtin
               refine wpListIn_append_own_at _ rfl (.tmp 29) (.tmp 31) 28 rfl (b0 + 3) 37 i0 _ 2 40 Tryd.underlying28 hi hz0 hz1 hz2 rfl (by decide) _ _ xs rfl HPR4.out.y2 ⟨W3.heap.size, 0, none⟩ 1 1 [.string OP, .slice A2 m c2] rfl rfl (new_cells W3 #[_, _] _) (by intro u hu; simp at hu; rcases hu with rfl | rfl <;> rfl) (by unfold maxLen; omega) (by omega) (by rw [World.size_alloc]; omega) ?_
               intro v5 w5 hown hgrow hnil hat
               obtain ⟨VA5, vc5, rfl⟩ := own_formR hown
               have hx5 := (hgrow.block X (by have := (Array.getElem?_eq_some_iff.1 HPR4.out.y1).1; exact this) (fun e => by rcases HPR4.out.y3 X e.symm with e | e <;> omega)).trans HPR4.out.y1
               have e5 : w5.cell? ⟨X, 0, none⟩ = some (.slice VA pre.length vc) := by rw [cell_here hx5]; rfl
               have f5 := frozen_here hx5 0
               have HOWN := Lib.hid hown; have HGROW := Lib.hid hgrow; have HAT := Lib.hid hat
               clear hown hgrow hnil hat hx5))
          have hfin := HP4.out.more (W5 := w5) (v5 := .slice VA5 (pre.length + 1) vc5) hXB (by omega) (by rw [World.size_alloc]; omega) x (.slice A2 m c2) HPR4.out.y1 HPR4.out.y2 HPR4.out.y3 HPR4.out.y4 (by rw [HR.out]; exact HRD.out.more hWs) (by rw [HR.out]; exact HG.out) (by rw [HR.out, HOP.out]; exact HOWN.out) HGROW.out HAT.out
          exact ⟨by rw [← hLs.2]; exact (keeps_below HB4.out).trans hfin.2.1, fun k hk => (hfin.2.2 k hk).trans (HB4.out.block k (by omega)), hfin.1⟩
        | false =>
          gi_wp2_with (first
            | (refine ⟨trivial, fun _ => (by omega), ?_⟩; gi_at_call 20; refine (CallsIn.inRound l (callsIn_wide.2 HSP.out)).mono ?_; rintro e1 W1 ⟨A2, c2, rfl, hrd, hb1⟩; have hir := HIR.out (W1.alloc (.cells #[.string OP, .slice A2 m c2] 37)) A2 c2 (hrd.rdt.below ((Below.refl _ _).alloc (Nat.le_refl _) _)); dsimp only)
            | (refine ⟨trivial, fun _ => (by omega), ?_⟩; gi_at_call 21; refine (CallsIn.inRound l (callsIn_wide.2 hir)).mono ?_; rintro e3 W3 ⟨rfl, hb3⟩
               have bW3 : Below W.heap.size W W3 := (hb1.chain ((Below.refl _ _).alloc (Nat.le_refl _) _)).chain hb3
               have hP3 := HKP.out W3 bW3
               obtain ⟨v, xs, y1, y2, y3, y4⟩ := hP3.list
               obtain ⟨VA, vc, rfl⟩ := own_formR y2
               have e1 : W3.cell? ⟨X, 0, none⟩ = some (.slice VA pre.length vc) := by rw [cell_here y1]; rfl
               have a0 : W3.cell? ⟨b0, 0, none⟩ = some (.slice none 0 0) := by rw [cell_here hP3.r0]; rfl
               have a1 : W3.cell? ⟨b0 + 1, 0, none⟩ = some (.int .i64 0) := by rw [cell_here hP3.r1]; rfl
               have a2 : W3.cell? ⟨b0 + 1 + 1, 0, none⟩ = some (.int .i64 0) := by rw [cell_here hP3.r2]; rfl
               have f0 := frozen_here hP3.r0 0
               have f1 := frozen_here hP3.r1 0
               have f2 : W3.frozen? ⟨b0 + 1 + 1, 0, none⟩ = false := frozen_here hP3.r2 0
               have HP3 := Lib.hid hP3; have BW3 := Lib.hid bW3
               clear y1 y2 y3 y4 hP3 bW3 hb3 hrd hb1 hir
               dsimp only))
          gi_region
          all_goals
            gi_wp2
            have hP3 := HP3.out
            obtain ⟨g0, g1, g2, gk⟩ := res_set (v0 := .slice none 0 0) (v1 := .int .i64 (IntKind.i64.wrap ((pre.length : Int) + 1))) (v2 := .int .i64 2) hP3.r0 hP3.r1 hP3.r2
            refine ⟨?_, ⟨⟨x, List.mem_append_right _ (List.mem_singleton.2 rfl), by rw [HR.out]; exact HG.out⟩, g0, ⟨_, g1⟩, g2, ?_⟩⟩
            · rw [← hLs.2]
              exact (keeps_below BW3.out).trans ⟨by show W3.heap.size ≤ (((W3.setCell _ _).setCell _ _).setCell _ _).heap.size; rw [set_size, set_size, set_size]; exact Nat.le_refl _, fun k o hk ho _ => (gk k (by omega)).trans ho⟩
            · exact (((hP3.low.setCell (p := ⟨b0, 0, none⟩) (Nat.le_refl _) _).setCell (p := ⟨b0 + 1, 0, none⟩) (Nat.le_succ _) _).setCell (p := ⟨b0 + 1 + 1, 0, none⟩) (by show b0 ≤ b0 + 1 + 1; omega) _).drew
      case done =>
        rintro D ys W hD hS hP hK
        obtain ⟨v, xs, y1, y2, y3, y4⟩ := hP.list
        obtain ⟨VA, vc, rfl⟩ := own_formR y2
        have e1 : W.cell? ⟨X, 0, none⟩ = some (.slice VA ys.length vc) := by rw [cell_here y1]; rfl
        have a0 : W.cell? ⟨b0, 0, none⟩ = some (.slice none 0 0) := by rw [cell_here hP.r0]; rfl
        have a1 : W.cell? ⟨b0 + 1, 0, none⟩ = some (.int .i64 0) := by rw [cell_here hP.r1]; rfl
        have a2 : W.cell? ⟨b0 + 1 + 1, 0, none⟩ = some (.int .i64 0) := by rw [cell_here hP.r2]; rfl
        have f0 := frozen_here hP.r0 0
        have f1 := frozen_here hP.r1 0
        have f2 : W.frozen? ⟨b0 + 1 + 1, 0, none⟩ = false := frozen_here hP.r2 0
        have HPR := Lib.hid (⟨y1, y2, y3, y4⟩ : PRow14 b0 X L ys W (.slice VA ys.length vc) xs); have HPP := Lib.hid hP; have HK := Lib.hid hK; have HSS := Lib.hid hS
        clear y1 y2 y3 y4 hP hS hK
        have hE : parseRE s = 0 := by
          unfold parseRE
          rw [if_neg H0.out, HN.out, if_neg h64, if_pos]
          rw [List.all_eq_true]
          intro p hp
          rw [← HSS.out] at hp
          obtain ⟨q, hq, rfl⟩ := List.mem_map.1 hp
          exact HPP.out.good q hq
        have hRL : parseRL s = (valsR ys).map ruleR := by unfold parseRL; rw [if_neg H0.out, HSS.out]
        have hlen : ys.length = (parseRL s).length := by rw [hRL, List.length_map, valsR_len]
        obtain ⟨g0, g1, g2, gk⟩ := res_set (v0 := .slice VA ys.length vc) (v1 := .int .i64 0) (v2 := .int .i64 0) HPP.out.r0 HPP.out.r1 HPP.out.r2
        obtain ⟨Wf, hWf⟩ : ∃ Wf, Wf = ((W.setCell ⟨b0, 0, none⟩ (.slice VA ys.length vc)).setCell ⟨b0 + 1, 0, none⟩ (.int .i64 0)).setCell ⟨b0 + 1 + 1, 0, none⟩ (.int .i64 0) := ⟨_, rfl⟩
        rw [← hWf] at g0 g1 g2 gk
        have hKf : Wf.heap[D]? = some (.deferred (some [])) := (gk D (by omega)).trans HK.out
        have keep : ∀ b o, Wf.heap[b]? = some o → b ≠ D → (Wf.putObj D (.deferred none)).heap[b]? = some o := fun b o ho hne => (World.putObj_heap_other hne).trans ho
        have x0 : (Wf.putObj D (.deferred none)).cell? ⟨b0, 0, none⟩ = some (.slice VA ys.length vc) := by rw [cell_here (keep _ _ g0 (by omega))]; rfl
        have x1 : (Wf.putObj D (.deferred none)).cell? ⟨b0 + 1, 0, none⟩ = some (.int .i64 0) := by rw [cell_here (keep _ _ g1 (by omega))]; rfl
        have x2 : (Wf.putObj D (.deferred none)).cell? ⟨b0 + 1 + 1, 0, none⟩ = some (.int .i64 0) := by rw [cell_here (keep _ _ g2 (by omega))]; rfl
        have hpr := HPR.out.other (W' := Wf.putObj D (.deferred none)) hXB (by omega) (fun k C t hc hk => by
          have hne : k ≠ D := fun e => by subst e; rw [HK.out] at hc; injection hc with hc; cases hc
          exact (World.putObj_heap_other hne).trans (gk k (.inr hk)))
        have hrdu := PIn.rdu (w := w) (X := X) hpr.y2 hpr.y4
        have hlow : Below w.heap.size w (Wf.putObj D (.deferred none)) := by
          rw [HB0.out, hWf]
          have h1 := ((HPP.out.low.setCell (p := ⟨b0, 0, none⟩) (Nat.le_refl _) (.slice VA ys.length vc)).setCell (p := ⟨b0 + 1, 0, none⟩) (Nat.le_succ _) (.int .i64 0)).setCell (p := ⟨b0 + 1 + 1, 0, none⟩) (by show b0 ≤ b0 + 1 + 1; omega) (.int .i64 0)
          exact h1.trans ⟨rfl, rfl, rfl, (grownBy_putObj' _ D _).size, fun k hk => World.putObj_heap_other (by omega)⟩
        have HE := Lib.hid hE; have HLW := Lib.hid hlow; have HRD := Lib.hid hrdu; have HKF := Lib.hid hKf; have HRL := Lib.hid hRL; have HLEN := Lib.hid hlen; have HWF := Lib.hid hWf
        clear hE hlow keep hpr hrdu hKf hRL hlen g0 g1 g2 gk hWf
        gi_wp2
        rw [← HWF.out]
        refine ⟨by simp, .inl ⟨_, _, rfl, run_takeDeferred HKF.out, ?_⟩⟩
        refine ⟨.tuple #[.slice VA ys.length vc, .int .i64 0, .int .i64 0], ?_, VA, ys.length, vc, 0, by rw [HE.out], fun _ => ⟨rfl, HLEN.out, by rw [HRL.out]; exact HRD.out⟩, HLW.out⟩
        simp [results, Tryd.results9, go_sem, x0, x1, x2]
      case stop =>
        rintro D pre W hD hS hP hK
        have hE : parseRE s = 2 := by
          unfold parseRE
          rw [if_neg H0.out, HN.out, if_neg h64, if_neg]
          intro hall
          obtain ⟨p, hp, hb⟩ := hP.bad
          obtain ⟨tl, htl⟩ := hS
          have hm : p.1 ∈ splitL 59 s := by rw [← htl]; exact List.mem_append_left _ (List.mem_map.2 ⟨p, hp, rfl⟩)
          have := List.all_eq_true.1 hall _ hm
          rw [hb] at this; cases this
        obtain ⟨k, hr1⟩ := hP.r1
        have keep : ∀ b o, W.heap[b]? = some o → b ≠ D → (W.putObj D (.deferred none)).heap[b]? = some o := fun b o ho hne => (World.putObj_heap_other hne).trans ho
        have x0 : (W.putObj D (.deferred none)).cell? ⟨b0, 0, none⟩ = some (.slice none 0 0) := by rw [cell_here (keep _ _ hP.r0 (by omega))]; rfl
        have x1 : (W.putObj D (.deferred none)).cell? ⟨b0 + 1, 0, none⟩ = some (.int .i64 k) := by rw [cell_here (keep _ _ hr1 (by omega))]; rfl
        have x2 : (W.putObj D (.deferred none)).cell? ⟨b0 + 1 + 1, 0, none⟩ = some (.int .i64 2) := by rw [cell_here (keep _ _ hP.r2 (by omega))]; rfl
        have hlow : Below w.heap.size w (W.putObj D (.deferred none)) := by
          rw [HB0.out]
          exact hP.low.trans ⟨rfl, rfl, rfl, (grownBy_putObj' W D _).size, fun k hk => World.putObj_heap_other (by omega)⟩
        have HE := Lib.hid hE; have HLW := Lib.hid hlow
        clear hE hlow hP keep hr1 hS
        gi_wp2
        refine ⟨by simp, .inl ⟨_, _, rfl, run_takeDeferred hK, ?_⟩⟩
        refine ⟨.tuple #[.slice none 0 0, .int .i64 k, .int .i64 2], ?_, none, 0, 0, k, by rw [HE.out], fun h => (by rw [HE.out] at h; cases h), HLW.out⟩
        simp [results, Tryd.results9, go_sem, x0, x1, x2]
theorem parse_any14 (s : List UInt8) (hs : s.length ≤ 1000000000) (w : World) (hj : Var0 w) :
    Calls Tryd.prog 9 #[.string ⟨s.toArray⟩] w (ParseSays w s) := (callsIn_wide (n := 4)).1 (parse_in14 4 (by omega) s hs w hj)
end Go.Proofs.YtobicmpgfiddhaaDoor
namespace Go.Proofs.YtobicmpgfiddhaaDoor
open Go.RowKit Go.Shelf
set_option linter.unusedVariables false
set_option linter.unusedSimpArgs false

/-- what the landed rules do, behind world w0 -/
structure CodeRule (w0 : World) : Prop where
  parse : ∀ w, Below w0.heap.size w0 w → ∀ s : List UInt8, s.length ≤ 1000000000 → Calls Tryd.prog 9 #[.string ⟨s.toArray⟩] w (ParseSays w s)
  run : ∀ w, Below w0.heap.size w0 w → ∀ (A : Option Addr) (c : Nat) (rs : List RU), rs.length ≤ 80000 → (∀ r ∈ rs, r.args.length ≤ 1000000 ∧ ∀ x ∈ r.args, x.length ≤ 1000000000) → ∀ (v : V) (cs : List Value), (∀ x ∈ v.list, x.text.length ≤ 1000000) →
    RdU w (.slice A rs.length c) rs → VIs w 0 w.heap.size v cs → Calls Tryd.prog 10 #[.slice A rs.length c, .agg cs.toArray] w (CRunSays w (runU (rs.filter RU.good) v))
theorem CodeRule.later {w0 w1 : World} (h : CodeRule w0) (hb : Below w0.heap.size w0 w1) : CodeRule w1 :=
  ⟨fun w hw => h.parse w (hb.chain hw), fun w hw => h.run w (hb.chain hw)⟩
theorem good_all {rs : List RU} (h : ∀ r ∈ rs, r.good = true) : rs.filter RU.good = rs := List.filter_eq_self.2 h
theorem good_small {r : RU} (h : r.good = true) : r.args.length ≤ 1000000 ∧ ∀ x ∈ r.args, x.length ≤ 1000000000 := by
  obtain ⟨h1, h2⟩ := good_parts h
  unfold RU.good at h
  simp only [Bool.and_eq_true, decide_eq_true_eq, List.all_eq_true] at h
  refine ⟨?_, fun x hx => ?_⟩
  · rw [h2]; unfold argsN; split
    · omega
    · split <;> omega
  · have := h.1.2 x hx
    unfold nameR at this
    simp only [Bool.and_eq_true, decide_eq_true_eq] at this
    omega
theorem parse_ok {w0 : World} (C : CodeRule w0) (w : World) (hb : Below w0.heap.size w0 w) (s : List UInt8) (hs : s.length ≤ 1000000000) (hE : parseRE s = 0) (n : Nat) (hn : (parseRL s).length = n) :
    Calls Tryd.prog 9 #[.string ⟨s.toArray⟩] w fun e w' => ∃ A c, e = .returned (.tuple #[.slice A n c, .int .i64 0, .int .i64 0]) ∧ RdU w' (.slice A n c) (parseRL s) ∧ Below w.heap.size w w' := by
  refine (C.parse w hb s hs).mono ?_
  rintro e w' ⟨A, m, c, k, rfl, h1, h2⟩
  obtain ⟨rfl, rfl, h3⟩ := h1 hE
  rw [hE]
  exact ⟨A, c, by rw [hn], by rw [← hn]; exact h3, h2⟩
/-- Run, of good rules -/
theorem run_ok {w0 : World} (C : CodeRule w0) (w : World) (hb : Below w0.heap.size w0 w) (rs : List RU) (hg : ∀ r ∈ rs, r.good = true) (hn : rs.length ≤ 80000) (n : Nat) (hnn : rs.length = n) (A : Option Addr) (c : Nat) (v : V) (cs : List Value) (hx : ∀ x ∈ v.list, x.text.length ≤ 1000000) (h : RdU w (.slice A n c) rs) (hv : VIs w 0 w.heap.size v cs) :
    Calls Tryd.prog 10 #[.slice A n c, .agg cs.toArray] w (CRunSays w (runU rs v)) := by
  subst hnn
  have := C.run w hb A c rs hn (fun r hr => good_small (hg r hr)) v cs hx h hv
  rwa [good_all hg] at this
theorem obj_out {w : World} {N : Nat} {l : List V} {ks : List (List UInt8)} {k m : Int} {t : ByteArray} {B B' : Option Addr} {b d b' d' : Nat} (h : VIs w 0 N (.mk 6 0 [] l ks) [.int .i64 k, .int .i64 m, .string t, .slice B b d, .slice B' b' d']) :
    k = 6 ∧ m = 0 ∧ t = ⟨#[]⟩ ∧ b = l.length ∧ b' = ks.length ∧ (ks = [] ∨ ∃ q r, B' = some ⟨q, r, none⟩ ∧ KIs w 0 N ks q r) ∧ (l = [] ∨ ∃ q r, B = some ⟨q, r, none⟩ ∧ LIs w 0 N l q r) := by
  obtain ⟨-, A3, c3, A4, c4, hcs, hkk, hll⟩ := h.out
  injection hcs with e1 hcs
  injection hcs with e2 hcs
  injection hcs with e3 hcs
  injection hcs with e4 hcs
  injection hcs with e5 hcs
  injection e1 with _ e1
  injection e2 with _ e2
  injection e3 with e3
  injection e4 with e4 e6 e7
  injection e5 with e5 e8 e9
  subst e4; subst e5
  exact ⟨e1, e2, e3, e6, e8, hkk, hll⟩
theorem emptyO_is (w : World) (L N : Nat) : VIs w L N emptyO [.int .i64 6, .int .i64 0, .string ⟨#[]⟩, .slice none 0 0, .slice none 0 0] := by
  exact VIs.mk (k := 6) (n := 0) (t := []) (l := []) (ks := []) (A := none) (A' := none) (c := 0) (c' := 0) ⟨by simp, by simp, by simp, by simp⟩ (.inl rfl) (.inl rfl)
set_option maxRecDepth 100000 in
set_option maxHeartbeats 4000000 in
theorem answers14_any {w0 : World} (C : CodeRule w0) (w : World) (hb : Below w0.heap.size w0 w) : Calls Tryd.prog 8 #[] w fun e w' => e = .returned (.bool true) ∧ Below w.heap.size w w' := by
  have hpa := parse_ok C w hb [116, 101, 120, 116, 32, 97, 32, 98] (by decide) (by decide) 1 (by decide)
  have hrl : parseRL [116, 101, 120, 116, 32, 97, 32, 98] = [⟨opText, [[97], [98]]⟩] := by rfl
  rw [hrl] at hpa
  have hru : runU [⟨opText, [[97], [98]]⟩] emptyO = some (.mk 6 0 [] [wordV [98]] [[97]]) := by rfl
  have hrn := fun W (hW : Below w.heap.size w W) A c (h : RdU W (.slice A 1 c) [⟨opText, [[97], [98]]⟩]) => run_ok C W (hb.chain hW) [⟨opText, [[97], [98]]⟩] (by decide) (by decide) 1 rfl A c emptyO _ (fun x hx => by cases hx) h (emptyO_is W 0 W.heap.size)
  rw [hru] at hrn
  have HPA := Lib.hid hpa; have HRN := Lib.hid hrn
  clear hpa hrn hrl hru hb
  go_enter Tryd.func8, Tryd.ntmps8
  go_wp2_with (first
    | (go_at_call 9; (with_reducible refine HPA.out.mono ?_); rintro e1 w1 ⟨A1, c1, rfl, hrd, hb1⟩; have hcr := HRN.out w1 hb1 A1 c1 hrd; obtain ⟨g, o, u, rfl, hg, o1, -, -⟩ := hrd.at 0 (by decide); have HB1 := Lib.hid hb1; have O1 := Lib.hid o1; clear o1 hb1; dsimp only)
    | (go_at_call 10; (with_reducible refine hcr.mono ?_); rintro e2 w2 ⟨⟨k, m, t, B, b, d, B', b', d', rfl, hv⟩, hb2⟩
       obtain ⟨rfl, rfl, rfl, rfl, rfl, hkk, -⟩ := obj_out hv
       obtain ⟨q, r, rfl, -, hq, k1⟩ := VIs.key hkk 0 (by decide)
       have b3 : Below w2.heap.size w2 (w2.alloc (.cells #[.int .i64 6, .int .i64 0, .string ⟨#[]⟩, .slice B 1 d, .slice (some ⟨q, r, none⟩) 1 d'] 25)) := (Below.refl _ _).alloc (Nat.le_refl _) _
       have o3 : (w2.alloc (.cells #[.int .i64 6, .int .i64 0, .string ⟨#[]⟩, .slice B 1 d, .slice (some ⟨q, r, none⟩) 1 d'] 25)).cell? ⟨g, o, none⟩ = some (.string ⟨#[116, 101, 120, 116]⟩) := ((hb2.chain b3).cell (p := ⟨g, o, none⟩) hg).trans O1.out
       have k3 : (w2.alloc (.cells #[.int .i64 6, .int .i64 0, .string ⟨#[]⟩, .slice B 1 d, .slice (some ⟨q, r, none⟩) 1 d'] 25)).cell? ⟨q, r, none⟩ = some (.string ⟨#[97]⟩) := (b3.cell (p := ⟨q, r, none⟩) hq).trans k1
       have HB2 := Lib.hid ((HB1.out.chain hb2).chain b3)
       clear b3 hb2 k1 hq hkk hv
       dsimp only))
  go_ret
  exact ⟨rfl, HB2.out⟩
end Go.Proofs.YtobicmpgfiddhaaDoor
