/- The reference's tape: left and use. -/
import Derived.Test.YtokijikcgoihmaaRdAt
import Derived.Test.YtokijikcgoihmaaTapePure
namespace Go.Proofs.Ytokijikcgoihmaa
open Go.RowKit
set_option linter.unusedVariables false
set_option linter.unusedSimpArgs false

theorem box4_of {w : World} {b : Nat} {c0 c1 c2 c3 : Value} {t : TypeId} (h : w.heap[b]? = some (.cells #[c0, c1, c2, c3] t (0, 0))) :
    (w.cell? ⟨b, 0, none⟩ = some c0 ∧ w.cell? ⟨b, 1, none⟩ = some c1 ∧ w.cell? ⟨b, 2, none⟩ = some c2 ∧ w.cell? ⟨b, 3, none⟩ = some c3) ∧ w.frozen? ⟨b, 0, none⟩ = false ∧ w.frozen? ⟨b, 1, none⟩ = false ∧ w.frozen? ⟨b, 2, none⟩ = false ∧ w.frozen? ⟨b, 3, none⟩ = false :=
  ⟨⟨cell_here h, cell_here h, cell_here h, cell_here h⟩, frozen_here h _, frozen_here h _, frozen_here h _, frozen_here h _⟩
/-- the reference's tape at p: its fields, its bytes by the slice v -/
structure RT (w : World) (p : Nat) (v : Value) (t : TP) : Prop where
  box : w.heap[p]? = some (.cells #[v, .int .i64 t.sure, .int .i64 t.fuse, .bool t.down] 36 (0, 0))
  rd : RdAt w v t.b
  far : v.ownBlock ≠ some p
theorem RT.lt {w : World} {p : Nat} {v : Value} {t : TP} (h : RT w p v t) : p < w.heap.size := (Array.getElem?_eq_some_iff.1 h.box).1
theorem RT.keep {w w' : World} {p : Nat} {v : Value} {t : TP} (h : RT w p v t) (hs : w.heap.size ≤ w'.heap.size) (hp : w'.heap[p]? = w.heap[p]?) (hb : ∀ g, v.ownBlock = some g → w'.heap[g]? = w.heap[g]?) : RT w' p v t :=
  ⟨hp.trans h.box, h.rd.keep hs hb, h.far⟩
theorem RT.below {w w' : World} {p : Nat} {v : Value} {t : TP} (h : RT w p v t) (hb : Below w.heap.size w w') : RT w' p v t := h.keep hb.size (hb.block _ h.lt) fun g hg => hb.block g (h.rd.lt hg)
theorem RT.only {S : Nat → Prop} {w w' : World} {p : Nat} {v : Value} {t : TP} (h : RT w p v t) (ho : Only S w w') (hp : ¬ S p) (hv : ∀ g, v.ownBlock = some g → ¬ S g) : RT w' p v t :=
  h.keep ho.size (ho.block _ h.lt hp) fun g hg => ho.block g (h.rd.lt hg) (hv g hg)
set_option maxRecDepth 100000 in
theorem refLeft_any (p : Nat) (v : Value) (t : TP) (n : Nat) (hn : n ≤ 4611686018427387904) (w : World) (h : RT w p v t) (hf : -1 ≤ t.fuse ∧ t.fuse ≤ 9223372036854775807) :
    Calls Try.prog 24 #[.pointer (some ⟨p, 0, none⟩), .int .i64 n] w fun e w' => e = .returned (.int .i64 (t.left n)) ∧ w = w' := by
  obtain ⟨⟨e0, e1, e2, e3⟩, -⟩ := box4_of h.box
  unfold TP.left
  obtain ⟨b, s, f, d⟩ := t
  simp only at e0 e1 e2 e3 hf ⊢
  clear h
  cases d with
  | true =>
    go_enter Try.func24, Try.ntmps24
    go_wp2
    go_ret
    exact ⟨rfl, rfl⟩
  | false =>
    by_cases h1 : f < 0
    · have d1 : decide (f < 0) = true := by simp [h1]
      rw [if_neg (by decide), if_pos (.inl h1)]
      go_enter Try.func24, Try.ntmps24
      go_wp2
      go_ret
      exact ⟨rfl, rfl⟩
    · have d1 : decide (f < 0) = false := by simp [h1]
      by_cases h2 : (n : Int) ≤ f
      · have d2 : decide ((n : Int) ≤ f) = true := by simp [h2]
        rw [if_neg (by decide), if_pos (.inr h2)]
        have H1 := Lib.hid h1; have H2 := Lib.hid h2; clear h1 h2
        go_enter Try.func24, Try.ntmps24
        go_wp2
        go_ret
        exact ⟨rfl, rfl⟩
      · have d2 : decide ((n : Int) ≤ f) = false := by simp [h2]
        rw [if_neg (by decide), if_neg (by omega)]
        have hff : ((f.toNat : Nat) : Int) = f := by omega
        rw [hff]
        have H1 := Lib.hid h1; have H2 := Lib.hid h2; clear h1 h2 hff
        go_enter Try.func24, Try.ntmps24
        go_wp2
        go_ret
        exact ⟨rfl, rfl⟩
set_option maxRecDepth 100000 in
theorem refUse_any (p : Nat) (v : Value) (t : TP) (k n : Nat) (hk : k ≤ 4611686018427387904) (hn : n ≤ 4611686018427387904) (w : World) (h : RT w p v t) (hf : -1 ≤ t.fuse ∧ t.fuse ≤ 9223372036854775807) :
    Calls Try.prog 25 #[.pointer (some ⟨p, 0, none⟩), .int .i64 k, .int .i64 n] w fun e w' => e = .returned (.int .i64 (t.use k n).2) ∧ RT w' p v (t.use k n).1 ∧ Only (fun b => b = p) w w' := by
  obtain ⟨⟨e0, e1, e2, e3⟩, f0, f1, f2, f3⟩ := box4_of h.box
  unfold TP.use
  obtain ⟨b, s, f, d⟩ := t
  simp only at e0 e1 e2 e3 hf ⊢
  have H := Lib.hid h; clear h
  cases d with
  | true =>
    go_enter Try.func25, Try.ntmps25
    go_wp2
    go_ret
    exact ⟨rfl, H.out, Only.refl _ _⟩
  | false =>
    by_cases h1 : k < n
    · have d1 : decide ((k : Int) < n) = true := by simp [h1]
      rw [if_neg (by decide), if_pos h1]
      have H1 := Lib.hid h1; clear h1
      go_enter Try.func25, Try.ntmps25
      go_wp2
      go_ret
      refine ⟨rfl, ⟨?_, ?_, H.out.far⟩, ((Only.refl (fun b => b = p) w).set (b := p) rfl _).set (b := p) rfl _⟩
      · have := set_here (o := 2) (set_here (o := 3) H.out.box (.bool true)) (.int .i64 0)
        simpa using this
      · exact H.out.rd.keep (by rw [set_size, set_size]; exact Nat.le_refl _) fun g hg => by
          have : g ≠ p := fun e => H.out.far (by rw [hg, e])
          rw [set_there _ this, set_there _ this]
    · have d1 : decide ((k : Int) < n) = false := by simp; omega
      by_cases h2 : 0 < f
      · have d2 : decide (0 < f) = true := by simp [h2]
        rw [if_neg (by decide), if_neg h1, if_pos h2]
        have hw : IntKind.i64.wrap (f - n) = f - n := by rw [IntKind.wrap_i64]; omega
        have H1 := Lib.hid h1; have H2 := Lib.hid h2; clear h1 h2
        go_enter Try.func25, Try.ntmps25
        go_wp2
        go_ret
        refine ⟨rfl, ⟨?_, ?_, H.out.far⟩, (Only.refl (fun b => b = p) w).set (b := p) rfl _⟩
        · have := set_here (o := 2) H.out.box (.int .i64 (f - n))
          simpa using this
        · exact H.out.rd.keep (by rw [set_size]; exact Nat.le_refl _) fun g hg => by
            have : g ≠ p := fun e => H.out.far (by rw [hg, e])
            rw [set_there _ this]
      · have d2 : decide (0 < f) = false := by simp; omega
        rw [if_neg (by decide), if_neg h1, if_neg h2]
        have H1 := Lib.hid h1; have H2 := Lib.hid h2; clear h1 h2
        go_enter Try.func25, Try.ntmps25
        go_wp2
        go_ret
        exact ⟨rfl, H.out, Only.refl _ _⟩
end Go.Proofs.Ytokijikcgoihmaa
