/- Texts merged by program, in build order: TapeJoin, TapeCode. -/
import Derived.Test.YtklhdffbaglkdaaDoorG02
import Derived.Room.Entries
import Derived.Lib.AppendZeros
import Derived.Test.YtklhdffbaglkdaaDoorG17
import Derived.BigQuiet
namespace Go.Proofs.YtklhdffbaglkdaaDoor
open Go.RowKit
set_option linter.unusedVariables false
set_option linter.unusedSimpArgs false

theorem append_nothing (w : World) (ty : TypeId) (A : Option Addr) (n m : Nat) (h : n ≤ m) (x : Value) (hx : ∃ B c, x = .slice B 0 c) :
    (Builtin.append_ #[40, 40] ty #[.slice A n m, x]).run Tryd.prog w = .ok (.slice A n m) w := by
  obtain ⟨i0, hi, hz0, hz1, hz2⟩ := info_parts Tryd.infoByte
  obtain ⟨B, c, rfl⟩ := hx
  have ht : Tryd.prog.underlying 40 = _ := Tryd.underlying40
  have hl : ∀ b : Addr, (loadCells b 0).run Tryd.prog w = .ok #[] w := fun b => run_loadCells_list w b [] (fun j v h => by simp at h)
  cases A <;> cases B <;> simp [Builtin.append_, run_underlying ht, sizeOf, typeInfo, hi, Builtin.lenOf, Builtin.firstCells, h, storeCells, hl]
/-- append(a, b...) where a has no more room: a new block, or nothing is done -/
theorem append_full (w : World) (ty : TypeId) (A : Option Addr) (n : Nat) (la : List UInt8) (hn : la.length = n) (h : RdAt w (.slice A n n) la) (B : Option Addr) (m c : Nat) (lb : List UInt8) (hm : lb.length = m) (hb : RdW w (.slice B m c) lb)
    (hmax : n + m ≤ 1000000000) :
    ∃ A' d w', (Builtin.append_ #[40, 40] ty #[.slice A n n, .slice B m c]).run Tryd.prog w = .ok (.slice A' (n + m) d) w' ∧ n + m ≤ d ∧ RdAt w' (.slice A' (n + m) (n + m)) (la ++ lb) ∧ Below w.heap.size w w' ∧
      (A' = A ∧ m = 0 ∨ ∀ g, (Value.slice A' (n + m) (n + m)).ownBlock = some g → w.heap.size ≤ g) := by
  obtain ⟨i0, hi, hz0, hz1, hz2⟩ := info_parts Tryd.infoByte
  by_cases hm0 : m = 0
  · subst hm0
    obtain rfl : lb = [] := List.length_eq_zero_iff.1 hm
    refine ⟨A, n, w, ?_, Nat.le_refl _, ?_, Below.refl _ _, .inl ⟨rfl, rfl⟩⟩
    · exact append_nothing w ty A n n (Nat.le_refl _) _ ⟨B, c, rfl⟩
    · simpa using h
  · obtain ⟨B', c', e, h1, h2, h3⟩ := hb
    rw [hm] at e h1 h3
    cases e
    have h3' : ∃ ad, B = some ad ∧ ∀ j u, (cells lb)[j]? = some u → w.cell? (ad.add j) = some u := by
      rcases h3 with h3 | ⟨g, o, rfl, -, h3⟩
      · omega
      · exact ⟨_, rfl, h3⟩
    obtain ⟨ad, rfl, hnews⟩ := h3'
    have hll : (cells lb).length = m * i0.size := by rw [hz1, Nat.mul_one, ← hm]; simp [cells]
    have hla : (cells la).length = n * i0.size := by rw [hz1, Nat.mul_one, ← hn]; simp [cells]
    have hns := Go.Room.nextslicecap_le' (need := n + m) (old := n) (by omega)
    -- what lies in a new block
    have key : ∀ (olds : List Value) (cap : Nat), olds = cells la → n + m ≤ cap → RdAt (w.drew.alloc (.cells (olds.toArray ++ (cells lb).toArray ++ Builtin.zeroCells (Value.int .u8 0).cells (cap - (n + m))) 5)) (.slice (some ⟨w.heap.size, 0, none⟩) (n + m) (n + m)) (la ++ lb) := by
      intro olds cap ho hc
      refine ⟨_, n + m, by rw [List.length_append, hn, hm], by rw [List.length_append, hn, hm]; exact Nat.le_refl _, by omega, .inr ⟨w.heap.size, 0, rfl, by simp, fun j u hu => ?_⟩⟩
      have hlast := heap_alloc_last w.drew (.cells (olds.toArray ++ (cells lb).toArray ++ Builtin.zeroCells (Value.int .u8 0).cells (cap - (n + m))) 5)
      rw [Addr.add_lit, Nat.zero_add]
      show (match (w.drew.alloc _).heap[w.drew.heap.size]? with | some (.cells cs _ _) => cs[j]? | _ => none) = _
      rw [hlast]
      subst ho
      have hj : j < (cells (la ++ lb)).length := (List.getElem?_eq_some_iff.1 hu).1
      show ((cells la).toArray ++ (cells lb).toArray ++ _)[j]? = _
      rw [Array.getElem?_append_left (by rw [cells_app] at hj; simpa using hj), ← hu, cells_app]
      simp
    have hbel : ∀ o : Obj, Below w.heap.size w (w.drew.alloc o) := fun o => (Below.refl _ _).drew.alloc (Nat.le_refl _) o
    cases A with
    | none =>
      obtain ⟨A', c', e, g1, g2, g3⟩ := h
      have hA' : (none : Option Addr) = A' ∧ n = la.length ∧ n = c' := by injection e with e1 e2 e3; exact ⟨e1, e2, e3⟩
      have hn0 : n = 0 := by
        rcases g3 with ⟨_, g4, _⟩ | ⟨g, o, g4, _⟩
        · omega
        · rw [← hA'.1] at g4; cases g4
      subst hn0
      clear g1 g2 g3 e hA'
      have hm1 : 0 < m := Nat.pos_of_ne_zero hm0
      have hm2 : (m : Int) ≤ 9223372036854775807 := by omega
      have hm3 : m ≤ 281474976710656 := by omega
      obtain rfl : la = [] := List.length_eq_zero_iff.1 hn
      have hr := run_append_nil (P := Tryd.prog) (w := w) 40 ty 5 i0 _ Tryd.underlying40 hi hz0 ad m c (cells lb) hll hnews hm1 hm2 (by rw [hz2, Nat.mul_one]; exact hm3)
      have hge := grownCap_ge w m 0 5
      refine ⟨_, _, _, by simpa using hr, by simpa using hge, ?_, hbel _, .inr fun g hg => ?_⟩
      · have := key [] (grownCap w m 0 5) rfl (by simpa using hge)
        simpa using this
      · injection hg with hg; exact Nat.le_of_eq hg
    | some a =>
      have holds : ∀ j u, (cells la)[j]? = some u → w.cell? (a.add j) = some u := by
        obtain ⟨A', c', e, g1, g2, g3⟩ := h
        have hA' : some a = A' := by injection e
        rcases g3 with ⟨g4, _⟩ | ⟨g, o, g4, _, g5⟩
        · rw [← hA'] at g4; cases g4
        · rw [← hA'] at g4; injection g4 with g4; rw [g4]; exact g5
      have hr := run_append_grow (P := Tryd.prog) (w := w) 40 ty 5 i0 _ Tryd.underlying40 hi hz0 a n n (cells la) hla holds ad m c (cells lb) hll hnews (by omega) (by omega) (by rw [hz2]; omega)
      have hge := grownCap_ge w (n + m) n 5
      exact ⟨_, _, _, hr, hge, key (cells la) _ rfl hge, hbel _, .inr fun g hg => by injection hg with hg; exact Nat.le_of_eq hg⟩
set_option maxRecDepth 100000 in
theorem joined_any (A : Option Addr) (n : Nat) (la : List UInt8) (hn : la.length = n) (B : Option Addr) (m c : Nat) (lb : List UInt8) (hm : lb.length = m) (hmax : n + m ≤ 1000000000) (w : World) (h : RdAt w (.slice A n n) la) (hb : RdW w (.slice B m c) lb) :
    Calls Tryd.prog 35 #[.slice A n n, .slice B m c] w fun e w' => (∃ A', e = .returned (.slice A' (n + m) (n + m)) ∧ RdAt w' (.slice A' (n + m) (n + m)) (la ++ lb) ∧ (A' = A ∧ m = 0 ∨ ∀ g, (Value.slice A' (n + m) (n + m)).ownBlock = some g → w.heap.size ≤ g)) ∧ Below w.heap.size w w' := by
  have happ := fun ty => append_full w ty A n la hn h B m c lb hm hb hmax
  have HH := Lib.hid happ
  clear happ h hb
  go_enter Tryd.func35, Tryd.ntmps35
  obtain ⟨A', d, w', hr, hd, hrd, hbl, hfr⟩ := HH.out 40
  have hd' : ((n + m : Nat) : Int) ≤ d := by omega
  have h0 : (0 : Int) ≤ ((n + m : Nat) : Int) := Int.natCast_nonneg _
  obtain ⟨k, hk⟩ : ∃ k, n + m = k := ⟨_, rfl⟩
  rw [hk] at hr hrd hfr hd' h0 ⊢
  have HR := Lib.hid hrd; have HF := Lib.hid hfr; have HB := Lib.hid hbl; have HA := Lib.hid hr
  clear hrd hfr hbl hr hd hk HH
  go_wp2_with (at_builtin; refine Lib.wpList_append_run _ rfl _ _ _ _ rfl _ _ rfl rfl _ _ HA.out ?_)
  go_ret
  refine ⟨⟨A', ?_, HR.out, HF.out⟩, HB.out⟩
  simp [sliced]
end Go.Proofs.YtklhdffbaglkdaaDoor
namespace Go.Proofs.YtklhdffbaglkdaaDoor
open Go.RowKit
set_option linter.unusedVariables false
set_option linter.unusedSimpArgs false

theorem box5_of {w : World} {b : Nat} {c0 c1 c2 c3 c4 : Value} {t : TypeId} (h : w.heap[b]? = some (.cells #[c0, c1, c2, c3, c4] t (0, 0))) :
    (w.cell? ⟨b, 0, none⟩ = some c0 ∧ w.cell? ⟨b, 1, none⟩ = some c1 ∧ w.cell? ⟨b, 2, none⟩ = some c2 ∧ w.cell? ⟨b, 3, none⟩ = some c3 ∧ w.cell? ⟨b, 4, none⟩ = some c4) ∧ w.frozen? ⟨b, 0, none⟩ = false ∧ w.frozen? ⟨b, 1, none⟩ = false ∧ w.frozen? ⟨b, 2, none⟩ = false ∧ w.frozen? ⟨b, 3, none⟩ = false ∧ w.frozen? ⟨b, 4, none⟩ = false :=
  ⟨⟨cell_here h, cell_here h, cell_here h, cell_here h, cell_here h⟩, frozen_here h _, frozen_here h _, frozen_here h _, frozen_here h _, frozen_here h _⟩
/-- what of a fuse lies in the struct -/
def TP.fz (t : TP) : Int := if t.fuse < 0 then 0 else t.fuse
/-- the code's tape at p: its fields, its bytes by the slice v, which has no more room -/
structure CV (w : World) (p : Nat) (v : Value) (t : TP) : Prop where
  box : w.heap[p]? = some (.cells #[v, .int .i64 t.sure, .bool (decide (0 ≤ t.fuse)), .int .i64 t.fz, .bool t.down] 69 (0, 0))
  full : ∃ A, v = .slice A t.b.length t.b.length
  rd : RdAt w v t.b
  far : v.ownBlock ≠ some p
theorem CV.lt {w : World} {p : Nat} {v : Value} {t : TP} (h : CV w p v t) : p < w.heap.size := (Array.getElem?_eq_some_iff.1 h.box).1
theorem CV.keep {w w' : World} {p : Nat} {v : Value} {t : TP} (h : CV w p v t) (hs : w.heap.size ≤ w'.heap.size) (hp : w'.heap[p]? = w.heap[p]?) (hb : ∀ g, v.ownBlock = some g → w'.heap[g]? = w.heap[g]?) : CV w' p v t :=
  ⟨hp.trans h.box, h.full, h.rd.keep hs hb, h.far⟩
theorem CV.below {w w' : World} {p : Nat} {v : Value} {t : TP} (h : CV w p v t) (hb : Below w.heap.size w w') : CV w' p v t := h.keep hb.size (hb.block _ h.lt) fun g hg => hb.block g (h.rd.lt hg)
/-- the struct written anew: another value for the bytes, or the same -/
theorem CV.set {w w' : World} {p : Nat} {v v' : Value} {t t' : TP} (h : CV w p v t) (hf : ∃ A, v' = .slice A t'.b.length t'.b.length) (hr : RdAt w v' t'.b) (hn : v'.ownBlock ≠ some p) (hs : w.heap.size ≤ w'.heap.size)
    (ho : ∀ g, g ≠ p → g < w.heap.size → w'.heap[g]? = w.heap[g]?) (hb : w'.heap[p]? = some (.cells #[v', .int .i64 t'.sure, .bool (decide (0 ≤ t'.fuse)), .int .i64 t'.fz, .bool t'.down] 69 (0, 0))) : CV w' p v' t' :=
  ⟨hb, hf, hr.keep hs fun g hg => ho g (fun e => hn (by rw [hg, e])) (hr.lt hg), hn⟩
/-- the blocks of a tape: the struct's, and its bytes' -/
def CT (w : World) (S : Nat → Prop) (p : Nat) (t : TP) : Prop := ∃ v, CV w p v t ∧ ∀ b, S b ↔ b = p ∨ v.ownBlock = some b
set_option maxRecDepth 100000 in
theorem power_any (p : Nat) (v : Value) (t : TP) (w : World) (h : CV w p v t) :
    Calls Tryd.prog 44 #[.pointer (some ⟨p, 0, none⟩)] w fun e w' => e = .returned (.int .i64 (if t.down = true then 8 else 0)) ∧ w = w' := by
  obtain ⟨⟨e0, e1, e2, e3, e4⟩, -⟩ := box5_of h.box
  clear h e0 e1 e2 e3
  obtain ⟨b, s, f, d⟩ := t
  simp only at e4 ⊢
  cases d with
  | true =>
    go_enter Tryd.func44, Tryd.ntmps44
    go_wp2
    go_ret
    exact ⟨rfl, rfl⟩
  | false =>
    go_enter Tryd.func44, Tryd.ntmps44
    go_wp2
    go_ret
    exact ⟨rfl, rfl⟩
set_option maxRecDepth 100000 in
theorem powerNil_any (w : World) : Calls Tryd.prog 44 #[.pointer none] w fun e w' => e = .returned (.int .i64 1) ∧ w = w' := by
  go_enter Tryd.func44, Tryd.ntmps44
  go_wp2
  go_ret
  exact ⟨rfl, rfl⟩
set_option maxRecDepth 100000 in
set_option maxHeartbeats 4000000 in
theorem burn_any (p : Nat) (v : Value) (t : TP) (n : Nat) (hn : n ≤ 4611686018427387904) (w : World) (h : CV w p v t) (hf : -1 ≤ t.fuse ∧ t.fuse ≤ 9223372036854775807) (hd : t.down = false) :
    Calls Tryd.prog 45 #[.pointer (some ⟨p, 0, none⟩), .int .i64 n] w fun e w' => e = .returned (.int .i64 (t.left n)) ∧ CV w' p v (t.use (t.left n) n).1 ∧ Only (fun b => b = p) w w' := by
  obtain ⟨⟨e0, e1, e2, e3, e4⟩, f0, f1, f2, f3, f4⟩ := box5_of h.box
  unfold TP.use
  obtain ⟨b, s, f, d⟩ := t
  simp only at hd
  subst hd
  unfold TP.left
  simp only [TP.fz] at e0 e1 e2 e3 e4 hf ⊢
  have H := Lib.hid h; clear h
  simp only [Bool.false_eq_true, if_false]
  by_cases h1 : f < 0
  · have d1 : decide (0 ≤ f) = false := by simp; omega
    rw [d1] at e2
    rw [if_pos (.inl h1), if_neg (by omega), if_neg (by omega)]
    have H1 := Lib.hid h1; clear h1
    go_enter Tryd.func45, Tryd.ntmps45
    go_wp2
    go_ret
    exact ⟨rfl, H.out, Only.refl _ _⟩
  · have d1 : decide (0 ≤ f) = true := by simp; omega
    rw [d1] at e2
    rw [if_neg h1] at e3
    have hb := H.out.box
    simp only [TP.fz, d1, if_neg h1] at hb
    by_cases h2 : (n : Int) ≤ f
    · have d2 : decide ((n : Int) < (n : Int)) = false := by simp
      have hmin : (if f < (n : Int) then f else (n : Int)) = n := by rw [if_neg (by omega)]
      have hw : IntKind.i64.wrap (f - n) = f - n := by rw [IntKind.wrap_i64]; omega
      have hpost : (if 0 < f then (⟨b, s, f - n, false⟩, 0) else (⟨b, s, f, false⟩, 0) : TP × Int).1 = ⟨b, s, f - n, false⟩ := by
        by_cases hf0 : 0 < f
        · rw [if_pos hf0]
        · rw [if_neg hf0]
          have : f - n = f := by omega
          rw [this]
      rw [if_pos (.inr h2), if_neg (by omega), hpost]
      have HB := Lib.hid hb; have H1 := Lib.hid h1; have H2 := Lib.hid h2; clear hb h1 h2 hpost
      have d3 : decide (f < (n : Int)) = false := by have := H2.out; simp; omega
      have d4 : ¬ (f < (n : Int)) := by have := H2.out; omega
      go_enter Tryd.func45, Tryd.ntmps45
      go_wp2
      go_ret
      refine ⟨rfl, H.out.set H.out.full H.out.rd H.out.far (by rw [set_size, set_size]; exact Nat.le_refl _) (fun g hg _ => by rw [set_there _ hg, set_there _ hg]) ?_, ((Only.refl (fun b => b = p) w).set (b := p) rfl _).set (b := p) rfl _⟩
      have := set_here (o := 4) (set_here (o := 3) HB.out (.int .i64 (f - n))) (.bool false)
      have hz : decide ((n : Int) ≤ f) = true := by have := H2.out; simp; omega
      have hz2 : ¬ (f - (n : Int) < 0) := by have := H2.out; omega
      have hz3 : (n : Int) ≤ f := H2.out
      simpa [TP.fz, hz3, hz2] using this
    · have hmin : (if f < (n : Int) then f else (n : Int)) = f := by rw [if_pos (by omega)]
      have hw : IntKind.i64.wrap (f - f) = 0 := by rw [Int.sub_self]; decide
      have d3 : decide (f < (n : Int)) = true := by simp; omega
      have hff : ((f.toNat : Nat) : Int) = f := by omega
      rw [if_neg (by omega), if_pos (by omega), hff]
      have d4 : f < (n : Int) := by omega
      have HB := Lib.hid hb; have H1 := Lib.hid h1; have H2 := Lib.hid h2; clear hb h1 h2 hff
      go_enter Tryd.func45, Tryd.ntmps45
      go_wp2
      go_ret
      refine ⟨rfl, H.out.set H.out.full H.out.rd H.out.far (by rw [set_size, set_size]; exact Nat.le_refl _) (fun g hg _ => by rw [set_there _ hg, set_there _ hg]) ?_, ((Only.refl (fun b => b = p) w).set (b := p) rfl _).set (b := p) rfl _⟩
      have := set_here (o := 4) (set_here (o := 3) HB.out (.int .i64 0)) (.bool true)
      simpa [TP.fz] using this
theorem use_down (t : TP) (k n : Nat) (hd : t.down = false) : (t.use k n).2 = if (t.use k n).1.down = true then 8 else 0 := by
  unfold TP.use
  rw [hd]
  simp only [Bool.false_eq_true, if_false]
  split
  · rfl
  · split <;> simp [hd]
theorem use_kn (t : TP) (k n : Nat) (hd : t.down = false) : (t.use k n).1.down = decide (k < n) := by
  unfold TP.use
  simp only [hd, Bool.false_eq_true, if_false]
  split
  · rename_i h1; simp [h1]
  · rename_i h1; split <;> simp [h1, hd]
set_option maxRecDepth 100000 in
set_option maxHeartbeats 4000000 in
theorem write_any (p : Nat) (v : Value) (t : TP) (bv : Value) (l : List UInt8) (hl : l.length ≤ 100000) (htl : t.b.length ≤ 100000000) (w : World) (h : CV w p v t) (ht : t.Ok) (hb : RdW w bv l) (hfar : rdBlock bv ≠ some p) :
    Calls Tryd.prog 61 #[.pointer (some ⟨p, 0, none⟩), bv] w fun e w' => e = .returned (.int .i64 (t.write l).2) ∧ (∃ v', CV w' p v' (t.write l).1 ∧ (v' = v ∨ ∀ g, v'.ownBlock = some g → w.heap.size ≤ g)) ∧ Only (fun b => b = p) w w' := by
  have hpw := power_any p v t w h
  cases hd : t.down with
  | true =>
    have e1 : t.write l = (t, 8) := by
      unfold TP.write TP.use TP.left
      rw [hd]
      obtain ⟨b, s, f, d⟩ := t
      simp only at hd
      subst hd
      simp
    rw [e1]
    rw [hd, if_pos rfl] at hpw
    have HP := Lib.hid hpw; have H := Lib.hid h
    clear hpw h hd e1 hb hfar ht htl
    go_enter Tryd.func61, Tryd.ntmps61
    go_wp2_with fail
    refine HP.out.mono ?_
    rintro e _ ⟨rfl, rfl⟩
    dsimp only
    go_wp2
    go_ret
    exact ⟨rfl, ⟨v, H.out, .inl rfl⟩, Only.refl _ _⟩
  | false =>
    have hle := t.left_le l.length
    have hbn := burn_any p v t l.length (by omega) w h ht.fuse hd
    have hud := use_down t (t.left l.length) l.length hd
    have hub := TP.use_b t (t.left l.length) l.length
    have hw1 : t.write l = ((⟨t.b ++ l.take (t.left l.length), t.sure, (t.use (t.left l.length) l.length).1.fuse, (t.use (t.left l.length) l.length).1.down⟩ : TP), (t.use (t.left l.length) l.length).2) := by
      unfold TP.write TP.use
      simp only [hd, Bool.false_eq_true, if_false]
      split
      · rfl
      · split <;> simp [hd]
    rw [hw1, hud]
    rw [hd, if_neg (by decide)] at hpw
    obtain ⟨m, hm⟩ : ∃ m, t.left l.length = m := ⟨_, rfl⟩
    obtain ⟨n, hn⟩ : ∃ n, l.length = n := ⟨_, rfl⟩
    rw [hm, hn] at hbn hub ⊢
    rw [hm, hn] at hle
    obtain ⟨t', ht'⟩ : ∃ t', (t.use m n).1 = t' := ⟨_, rfl⟩
    rw [ht'] at hbn hub ⊢
    obtain ⟨E, hE⟩ : ∃ E : Int, (if t'.down = true then (8 : Int) else 0) = E := ⟨_, rfl⟩
    rw [hE]
    have HE := Lib.hid hE; clear hE
    obtain ⟨A, c, rfl, hc, -, -⟩ := id hb
    rw [hn] at hb hc ⊢
    have hbt : RdW w (.slice A m c) (l.take m) := by
      have := (hn ▸ hb : RdW w (.slice A l.length c) l).take m (by omega)
      exact this
    have hltk : (l.take m).length = m := by rw [List.length_take]; omega
    obtain ⟨q, hq⟩ : ∃ q, t.b.length = q := ⟨_, rfl⟩
    have hjn := fun (A0 : Option Addr) (W : World) (h1 : RdAt W (.slice A0 q q) t.b) (h2 : RdW W (.slice A m c) (l.take m)) => joined_any A0 q t.b hq A m c (l.take m) hltk (by omega) W h1 h2
    have hrow : ∀ W, Only (fun b => b = p) w W → RdW W (.slice A m c) (l.take m) := fun W ho => hbt.only ho fun g hg e => hfar (by
      have : rdBlock (.slice A l.length c) = rdBlock (.slice A m c) := by cases A <;> rfl
      rw [this, hg, e])
    have hmc : (m : Int) ≤ c := by omega
    have hm0 : (0 : Int) ≤ m := by omega
    have HP := Lib.hid hpw; have HBN := Lib.hid hbn; have HJ := Lib.hid hjn; have HR := Lib.hid hrow; have HUB := Lib.hid hub; have HQ := Lib.hid hq; have HLT := Lib.hid hltk; have HPL := Lib.hid h.lt
    clear hpw hbn hjn hrow hub hb hbt hltk hq ht' hm hn hw1 hud hle hfar htl hl ht h hc hd
    go_enter Tryd.func61, Tryd.ntmps61
    go_wp2_with fail
    refine HP.out.mono ?_
    rintro e _ ⟨rfl, rfl⟩
    dsimp only
    go_wp2_with fail
    refine HBN.out.mono ?_
    rintro e w1 ⟨rfl, h1, ho1⟩
    obtain ⟨A0, hA0⟩ := h1.full
    rw [HUB.out.1, HQ.out] at hA0
    subst hA0
    obtain ⟨⟨e0, e1, e2, e3, e4⟩, f0, f1, f2, f3, f4⟩ := box5_of h1.box
    have hJ : ∀ W, Below w1.heap.size w1 W → _ := fun W hW => HJ.out A0 W (by have := (h1.below hW).rd; rw [HUB.out.1] at this; exact this) (HR.out W (ho1.trans (Only.of_below hW)))
    have hC : ∀ W, Below w1.heap.size w1 W → W.cell? ⟨p, 0, none⟩ = some (.slice A0 q q) ∧ W.frozen? ⟨p, 0, none⟩ = false := fun W hW => by
      have := box5_of ((hW.block p h1.lt).trans h1.box)
      exact ⟨this.1.1, this.2.1⟩
    have H1 := Lib.hid h1; have HO1 := Lib.hid ho1; have HJJ := Lib.hid hJ; have HC := Lib.hid hC
    clear h1 ho1 hJ hC
    dsimp only
    go_upto_region 2 with fail
    go_region_with (go_at_call 35; (with_reducible refine (HJJ.out _ ?_).mono ?_); (· exact (Below.refl _ _).drew); rintro e2 w2 ⟨⟨A2, rfl, hr2, hf2⟩, hb2⟩; have hb3 := below_drew2 _ _ hb2; obtain ⟨c5, c6⟩ := HC.out w2 hb3)
    have hne : ∀ g, (Value.slice A2 (q + m) (q + m)).ownBlock = some g → g ≠ p ∧ ((A2 = A0 ∧ m = 0) ∨ w.heap.size ≤ g) := fun g hg => by
      rcases hf2 with ⟨rfl, rfl⟩ | hf2
      · exact ⟨fun e => H1.out.far (by rw [← e]; exact hg), .inl ⟨rfl, rfl⟩⟩
      · have h1 := hf2 g hg
        have h2 := HO1.out.size
        have h3 := HPL.out
        have h4 : w1.heap.size ≤ g := h1
        exact ⟨by omega, .inr (by omega)⟩
    have hcv : CV (w2.setCell ⟨p, 0, none⟩ (.slice A2 (q + m) (q + m))) p (.slice A2 (q + m) (q + m)) ⟨t.b ++ l.take m, t.sure, t'.fuse, t'.down⟩ := by
      refine (H1.out.below hb3).set ⟨A2, ?_⟩ hr2 (fun e => (hne p e).1 rfl) (by rw [set_size]; exact Nat.le_refl _) (fun g hg _ => set_there _ hg) ?_
      · have h1 := HQ.out; have h2 := HLT.out
        show _ = Value.slice A2 (t.b ++ l.take m).length (t.b ++ l.take m).length
        rw [List.length_append, h1, h2]
      · have := set_here (o := 0) ((hb3.block p H1.out.lt).trans H1.out.box) (.slice A2 (q + m) (q + m))
        rw [HUB.out.2] at this
        simpa [TP.fz] using this
    have hoz : Only (fun b => b = p) w (w2.setCell ⟨p, 0, none⟩ (.slice A2 (q + m) (q + m))) := (HO1.out.trans (Only.of_below hb3)).set (b := p) rfl _
    have hlast : (Value.slice A2 (q + m) (q + m) = .slice A0 q q) ∨ ∀ g, (Value.slice A2 (q + m) (q + m)).ownBlock = some g → w.heap.size ≤ g := by
      rcases hf2 with ⟨rfl, rfl⟩ | hf2
      · exact .inl rfl
      · exact .inr fun g hg => by have h1 : w1.heap.size ≤ g := hf2 g hg; have h2 := HO1.out.size; omega
    obtain ⟨wz, hwz⟩ : ∃ wz, wz = w2.setCell ⟨p, 0, none⟩ (.slice A2 (q + m) (q + m)) := ⟨_, rfl⟩
    change Exit.then _ _ _ _ (w2.setCell ⟨p, 0, none⟩ (.slice A2 (q + m) (q + m)))
    rw [← hwz] at hcv hoz ⊢
    have HCV := Lib.hid hcv; have HOZ := Lib.hid hoz; have HLA := Lib.hid hlast
    have hpz := power_any p _ _ wz hcv
    dsimp only at hpz
    rw [HE.out] at hpz
    have HPZ := Lib.hid hpz
    clear hcv hoz hlast hpz hwz hne hf2 hr2 hb2 hb3 c5 c6
    go_wp2_with fail
    refine HPZ.out.mono ?_
    rintro e _ ⟨rfl, rfl⟩
    dsimp only
    go_wp2
    go_ret
    exact ⟨rfl, ⟨_, HCV.out, HLA.out⟩, HOZ.out⟩
set_option maxRecDepth 100000 in
set_option maxHeartbeats 4000000 in
theorem sync_any (p : Nat) (v : Value) (t : TP) (htl : t.b.length ≤ 100000000) (w : World) (h : CV w p v t) (ht : t.Ok) :
    Calls Tryd.prog 62 #[.pointer (some ⟨p, 0, none⟩)] w fun e w' => e = .returned (.int .i64 t.sync.2) ∧ CV w' p v t.sync.1 ∧ Only (fun b => b = p) w w' := by
  have hpw := power_any p v t w h
  cases hd : t.down with
  | true =>
    have e1 : t.sync = (t, 8) := by
      unfold TP.sync TP.use TP.left
      rw [hd]
      simp
    rw [e1]
    rw [hd, if_pos rfl] at hpw
    have HP := Lib.hid hpw; have H := Lib.hid h
    clear hpw h hd e1 ht htl
    go_enter Tryd.func62, Tryd.ntmps62
    go_wp2_with fail
    refine HP.out.mono ?_
    rintro e _ ⟨rfl, rfl⟩
    dsimp only
    go_wp2
    go_ret
    exact ⟨rfl, H.out, Only.refl _ _⟩
  | false =>
    have hle := t.left_le 1
    have hbn := burn_any p v t 1 (by omega) w h ht.fuse hd
    have hud := use_down t (t.left 1) 1 hd
    have hub := TP.use_b t (t.left 1) 1
    have hkn : (t.use (t.left 1) 1).1.down = decide (t.left 1 < 1) := use_kn t _ 1 hd
    unfold TP.sync
    rw [hd, if_neg (by decide)] at hpw
    obtain ⟨m, hm⟩ : ∃ m, t.left 1 = m := ⟨_, rfl⟩
    rw [hm] at hbn hub hle hkn hud ⊢
    obtain ⟨t', ht'⟩ : ∃ t', (t.use m 1).1 = t' := ⟨_, rfl⟩
    rw [ht'] at hbn hub hkn hud
    have huse : t.use m 1 = (t', if t'.down = true then 8 else 0) := Prod.ext ht' hud
    rw [huse]
    dsimp only
    have htl' : t'.b.length ≤ 100000000 := by rw [hub.1]; exact htl
    have HP := Lib.hid hpw; have HBN := Lib.hid hbn
    clear hpw hbn hub htl ht' hm hud ht h hd huse
    by_cases hm1 : m = 1
    · subst hm1
      have hkd : t'.down = false := by rw [hkn]; rfl
      rw [hkd]
      simp only [Bool.false_eq_true, if_false, if_true]
      clear hkn hle
      have HKD := Lib.hid hkd; clear hkd
      obtain ⟨q, hq⟩ : ∃ q, t'.b.length = q := ⟨_, rfl⟩
      rw [hq]
      have HQ := Lib.hid hq; clear hq htl'
      go_enter Tryd.func62, Tryd.ntmps62
      go_wp2_with fail
      refine HP.out.mono ?_
      rintro e _ ⟨rfl, rfl⟩
      dsimp only
      go_wp2_with fail
      refine HBN.out.mono ?_
      rintro e w1 ⟨rfl, h1, ho1⟩
      obtain ⟨A0, hA0⟩ := h1.full
      rw [HQ.out] at hA0
      subst hA0
      obtain ⟨⟨e0, e1, e2, e3, e4⟩, f0, f1, f2, f3, f4⟩ := box5_of h1.box
      have hcv : CV (w1.setCell ⟨p, 1, none⟩ (.int .i64 q)) p (.slice A0 q q) ⟨t'.b, q, t'.fuse, false⟩ := by
        refine h1.set ⟨A0, by show _ = Value.slice A0 t'.b.length t'.b.length; rw [HQ.out]⟩ h1.rd h1.far (by rw [set_size]; exact Nat.le_refl _) (fun g hg _ => set_there _ hg) ?_
        have := set_here (o := 1) h1.box (.int .i64 q)
        rw [HKD.out] at this
        simpa [TP.fz] using this
      have hoz := ho1.set (b := p) (o := 1) rfl (.int .i64 q)
      have hpz := power_any p _ _ _ hcv
      rw [if_neg (fun h => by cases h)] at hpz
      have HCV := Lib.hid hcv; have HOZ := Lib.hid hoz; have HPZ := Lib.hid hpz
      clear h1 ho1 hcv hoz hpz
      dsimp only
      go_wp2_with fail
      refine HPZ.out.mono ?_
      rintro e _ ⟨rfl, rfl⟩
      dsimp only
      go_wp2
      go_ret
      exact ⟨rfl, HCV.out, HOZ.out⟩
    · obtain rfl : m = 0 := by omega
      have hkd : t'.down = true := by rw [hkn]; rfl
      rw [hkd]
      simp only [if_true]
      rw [if_neg (by decide)]
      have HKD := Lib.hid hkd; clear hkd hkn hle hm1 htl'
      go_enter Tryd.func62, Tryd.ntmps62
      go_wp2_with fail
      refine HP.out.mono ?_
      rintro e _ ⟨rfl, rfl⟩
      dsimp only
      go_wp2_with fail
      refine HBN.out.mono ?_
      rintro e w1 ⟨rfl, h1, ho1⟩
      have hpz := power_any p _ _ _ h1
      rw [HKD.out, if_pos rfl] at hpz
      have HCV := Lib.hid h1; have HOZ := Lib.hid ho1; have HPZ := Lib.hid hpz
      clear h1 ho1 hpz
      dsimp only
      go_wp2_with fail
      refine HPZ.out.mono ?_
      rintro e _ ⟨rfl, rfl⟩
      dsimp only
      go_wp2
      go_ret
      exact ⟨rfl, HCV.out, HOZ.out⟩
set_option maxRecDepth 100000 in
set_option maxHeartbeats 4000000 in
theorem swap_any (p : Nat) (v : Value) (t : TP) (bv : Value) (l : List UInt8) (hl : l.length ≤ 100000) (htl : t.b.length ≤ 100000000) (w : World) (h : CV w p v t) (ht : t.Ok) (hb : RdW w bv l) (hfar : rdBlock bv ≠ some p) :
    Calls Tryd.prog 24 #[.pointer (some ⟨p, 0, none⟩), bv] w fun e w' => e = .returned (.int .i64 (t.swap l).2) ∧ (∃ v', CV w' p v' (t.swap l).1 ∧ (v' = v ∨ ∀ g, v'.ownBlock = some g → w.heap.size ≤ g)) ∧ Only (fun b => b = p) w w' := by
  have hpw := power_any p v t w h
  obtain ⟨A, c, rfl, hc, hcm, -⟩ := id hb
  cases hd : t.down with
  | true =>
    have e1 : t.swap l = (t, 8) := by
      unfold TP.swap TP.use TP.left
      rw [hd]
      simp
    rw [e1]
    rw [hd, if_pos rfl] at hpw
    have HP := Lib.hid hpw; have H := Lib.hid h
    clear hpw h hd e1 hb hfar ht htl
    go_enter Tryd.func24, Tryd.ntmps24
    go_wp2_with fail
    refine HP.out.mono ?_
    rintro e _ ⟨rfl, rfl⟩
    dsimp only
    go_wp2
    go_ret
    exact ⟨rfl, ⟨v, H.out, .inl rfl⟩, Only.refl _ _⟩
  | false =>
    have hle := t.left_le (l.length + 1)
    have hbn := burn_any p v t (l.length + 1) (by omega) w h ht.fuse hd
    have hud := use_down t (t.left (l.length + 1)) (l.length + 1) hd
    have hub := TP.use_b t (t.left (l.length + 1)) (l.length + 1)
    have hkn : (t.use (t.left (l.length + 1)) (l.length + 1)).1.down = decide (t.left (l.length + 1) < l.length + 1) := use_kn t _ _ hd
    unfold TP.swap
    rw [hd, if_neg (by decide)] at hpw
    obtain ⟨m, hm⟩ : ∃ m, t.left (l.length + 1) = m := ⟨_, rfl⟩
    rw [hm] at hbn hub hle hkn hud ⊢
    obtain ⟨t', ht'⟩ : ∃ t', (t.use m (l.length + 1)).1 = t' := ⟨_, rfl⟩
    rw [ht'] at hbn hub hkn hud
    have huse : t.use m (l.length + 1) = (t', if t'.down = true then 8 else 0) := Prod.ext ht' hud
    rw [huse]
    dsimp only
    have htl' : t'.b.length ≤ 100000000 := by rw [hub.1]; exact htl
    have hrow : ∀ W, Only (fun b => b = p) w W → RdW W (.slice A l.length c) l := fun W ho => hb.only ho fun g hg e => hfar (by rw [hg, e])
    obtain ⟨n, hn⟩ : ∃ n, l.length = n := ⟨_, rfl⟩
    have hjn := fun (W : World) (h2 : RdW W (.slice A n c) l) => joined_any none 0 [] rfl A n c l hn (by omega) W (RdAt.nil W) h2
    rw [hn] at hrow hbn hkn hle hl hc ⊢
    have hw1 : IntKind.i64.wrap ((n : Int) + 1) = ((n + 1 : Nat) : Int) := by rw [IntKind.wrap_i64]; omega
    obtain ⟨N, hN⟩ : ∃ N, n + 1 = N := ⟨_, rfl⟩
    rw [hN] at hbn hkn hle hw1
    have hNl : N ≤ 100001 := by omega
    have HP := Lib.hid hpw; have HBN := Lib.hid hbn; have HJ := Lib.hid hjn; have HR := Lib.hid hrow; have HPL := Lib.hid h.lt; have HNN := Lib.hid hn
    clear hpw hbn hub htl ht' hm hud ht h hd huse hjn hrow hN hb hfar hn
    by_cases hm1 : m = N
    · subst hm1
      have hkd : t'.down = false := by rw [hkn]; simp
      rw [hkd]
      simp only [Bool.false_eq_true, if_false, if_true]
      clear hkn hle
      have HKD := Lib.hid hkd; clear hkd htl'
      go_enter Tryd.func24, Tryd.ntmps24
      go_wp2_with fail
      refine HP.out.mono ?_
      rintro e _ ⟨rfl, rfl⟩
      dsimp only
      go_wp2_with fail
      refine HBN.out.mono ?_
      rintro e w1 ⟨rfl, h1, ho1⟩
      have hj := HJ.out w1 (HR.out w1 ho1)
      rw [Nat.zero_add, List.nil_append] at hj
      have H1 := Lib.hid h1; have HO1 := Lib.hid ho1; have HJJ := Lib.hid hj
      clear h1 ho1 hj
      dsimp only
      go_wp2_with fail
      refine HJJ.out.mono ?_
      rintro e w2 ⟨⟨A2, rfl, hr2, hf2⟩, hb2⟩
      obtain ⟨⟨e0, e1, e2, e3, e4⟩, f0, f1, f2, f3, f4⟩ := box5_of ((hb2.block p H1.out.lt).trans H1.out.box)
      have hne : ∀ g, (Value.slice A2 n n).ownBlock = some g → w.heap.size ≤ g := fun g hg => by
        rcases hf2 with ⟨rfl, -⟩ | hf2
        · cases hg
        · have h1 := hf2 g hg; have h2 := HO1.out.size; omega
      have hcv : CV ((w2.setCell ⟨p, 0, none⟩ (.slice A2 n n)).setCell ⟨p, 1, none⟩ (.int .i64 n)) p (.slice A2 n n) ⟨l, n, t'.fuse, false⟩ := by
        refine (H1.out.below hb2).set ⟨A2, by show _ = Value.slice A2 l.length l.length; rw [HNN.out]⟩ hr2 (fun e => by have h1 := hne p e; have h2 := HPL.out; omega) (by rw [set_size, set_size]; exact Nat.le_refl _) (fun g hg _ => by rw [set_there _ hg, set_there _ hg]) ?_
        have := set_here (o := 1) (set_here (o := 0) ((hb2.block p H1.out.lt).trans H1.out.box) (.slice A2 n n)) (.int .i64 n)
        rw [HKD.out] at this
        simpa [TP.fz] using this
      have hoz := ((HO1.out.trans (Only.of_below (S := fun b => b = p) hb2)).set (b := p) (o := 0) rfl (.slice A2 n n)).set (b := p) (o := 1) rfl (.int .i64 n)
      have hpz := power_any p _ _ _ hcv
      rw [if_neg (fun h => by cases h)] at hpz
      have HCV := Lib.hid hcv; have HOZ := Lib.hid hoz; have HPZ := Lib.hid hpz; have HNE := Lib.hid hne
      clear hcv hoz hpz hne hf2 hr2 hb2
      dsimp only
      go_wp2_with fail
      refine HPZ.out.mono ?_
      rintro e _ ⟨rfl, rfl⟩
      dsimp only
      go_wp2
      go_ret
      exact ⟨rfl, ⟨_, HCV.out, .inr HNE.out⟩, HOZ.out⟩
    · have hkd : t'.down = true := by rw [hkn]; simp; omega
      rw [hkd]
      simp only [if_true]
      rw [if_neg (by decide)]
      have d1 : ((m : Int) == (N : Int)) = false := by simp; omega
      have d2 : ¬ ((m : Int) = (N : Int)) := by omega
      have HKD := Lib.hid hkd; clear hkd hkn hle hm1 htl'
      go_enter Tryd.func24, Tryd.ntmps24
      go_wp2_with fail
      refine HP.out.mono ?_
      rintro e _ ⟨rfl, rfl⟩
      dsimp only
      go_wp2_with fail
      refine HBN.out.mono ?_
      rintro e w1 ⟨rfl, h1, ho1⟩
      have hpz := power_any p _ _ _ h1
      rw [HKD.out, if_pos rfl] at hpz
      have HCV := Lib.hid h1; have HOZ := Lib.hid ho1; have HPZ := Lib.hid hpz
      clear h1 ho1 hpz
      dsimp only
      go_wp2_with fail
      refine HPZ.out.mono ?_
      rintro e _ ⟨rfl, rfl⟩
      dsimp only
      go_wp2
      go_ret
      exact ⟨rfl, ⟨_, HCV.out, .inl rfl⟩, HOZ.out⟩
/-- a tape set anew: its bytes, all sure, and neither a fuse nor power that is gone -/
theorem cv_anew {w w2 : World} {p : Nat} {v : Value} {t : TP} (h : CV w p v t) (hb : Below w.heap.size w w2) {c0 c1 c2 c3 c4 : Value} (hz : w2.heap[p]? = some (.cells #[c0, c1, c2, c3, c4] 69 (0, 0)))
    (A : Option Addr) (T : Nat) (l : List UInt8) (hl : l.length = T) (hr : RdAt w2 (.slice A T T) l) (hn : (Value.slice A T T).ownBlock ≠ some p) :
    CV (((((w2.setCell ⟨p, 0, none⟩ (.slice A T T)).setCell ⟨p, 1, none⟩ (.int .i64 T)).setCell ⟨p, 2, none⟩ (.bool false)).setCell ⟨p, 3, none⟩ (.int .i64 0)).setCell ⟨p, 4, none⟩ (.bool false)) p (.slice A T T) ⟨l, T, -1, false⟩ := by
  refine ⟨?_, ⟨A, by show Value.slice A T T = .slice A l.length l.length; rw [hl]⟩, ?_, hn⟩
  · have := set_here (o := 4) (set_here (o := 3) (set_here (o := 2) (set_here (o := 1) (set_here (o := 0) hz (.slice A T T)) (.int .i64 T)) (.bool false)) (.int .i64 0)) (.bool false)
    rw [this]
    rfl
  · refine hr.keep ?_ fun g hg => ?_
    · rw [set_size, set_size, set_size, set_size, set_size]; exact Nat.le_refl _
    · have hg' : g ≠ p := fun e => hn (by rw [← e]; exact hg)
      rw [set_there _ hg', set_there _ hg', set_there _ hg', set_there _ hg', set_there _ hg']
theorem only_anew {w w2 : World} {p : Nat} (hb : Below w.heap.size w w2) (c0 c1 c2 c3 c4 : Value) : Only (fun b => b = p) w (((((w2.setCell ⟨p, 0, none⟩ c0).setCell ⟨p, 1, none⟩ c1).setCell ⟨p, 2, none⟩ c2).setCell ⟨p, 3, none⟩ c3).setCell ⟨p, 4, none⟩ c4) :=
  (((((Only.of_below (S := fun b => b = p) hb).set (b := p) rfl _).set (b := p) rfl _).set (b := p) rfl _).set (b := p) rfl _).set (b := p) rfl _
theorem kept_cases (t : TP) (keep : Int) : (keep < 0 ∧ t.kept keep = 0) ∨ (0 ≤ keep ∧ ((t.b.length - t.sure : Nat) : Int) < keep ∧ t.kept keep = t.b.length - t.sure) ∨ (0 ≤ keep ∧ keep ≤ ((t.b.length - t.sure : Nat) : Int) ∧ (t.kept keep : Int) = keep) := by
  unfold TP.kept
  by_cases h1 : keep < 0
  · exact .inl ⟨h1, by rw [if_pos h1]⟩
  · by_cases h2 : ((t.b.length - t.sure : Nat) : Int) < keep
    · exact .inr (.inl ⟨by omega, h2, by rw [if_neg h1, if_pos h2]⟩)
    · exact .inr (.inr ⟨by omega, by omega, by rw [if_neg h1, if_neg h2]; omega⟩)
set_option maxRecDepth 100000 in
set_option maxHeartbeats 4000000 in
theorem crash_any (p : Nat) (v : Value) (t : TP) (htl : t.b.length ≤ 100000000) (ht : t.Ok) (keep : Int) (hk : (Lit.int .i64 keep).wf = true) (w : World) (h : CV w p v t) :
    Calls Tryd.prog 15 #[.pointer (some ⟨p, 0, none⟩), .int .i64 keep] w fun e w' => e = .returned (.tuple #[]) ∧ (∃ v', CV w' p v' (t.crash keep) ∧ ∀ g, v'.ownBlock = some g → w.heap.size ≤ g) ∧ Only (fun b => b = p) w w' := by
  have hcase := kept_cases t keep
  have hkl := t.kept_le keep
  have hcl := (TP.crash_ok ht keep).2
  unfold TP.crash at hcl ⊢
  have hs := ht.sure
  obtain ⟨r, hr⟩ : ∃ r, t.kept keep = r := ⟨_, rfl⟩
  rw [hr] at hcase hkl hcl ⊢
  obtain ⟨S, hS⟩ : ∃ S, t.sure = S := ⟨_, rfl⟩
  obtain ⟨q, hq⟩ : ∃ q, t.b.length = q := ⟨_, rfl⟩
  obtain ⟨A0, hA0⟩ := h.full
  rw [hS, hq] at hkl hcase hcl
  rw [hq] at hA0
  rw [hq] at htl hs
  rw [hS] at hs ⊢
  obtain ⟨T, hT⟩ : ∃ T, S + r = T := ⟨_, rfl⟩
  obtain ⟨G, hG⟩ : ∃ G, q - S = G := ⟨_, rfl⟩
  rw [hG] at hcase hkl
  rw [hT] at hcl ⊢
  subst hA0
  have hrow : ∀ W, Below w.heap.size w W → RdW W (.slice A0 T q) (t.b.take T) := fun W hW => by
    have := (h.rd.below hW).weak
    rw [← hq] at this
    have := this.take T (by omega)
    rwa [hq] at this
  have hjn := fun (W : World) (h2 : RdW W (.slice A0 T q) (t.b.take T)) => joined_any none 0 [] rfl A0 T q (t.b.take T) hcl.1 (by omega) W (RdAt.nil W) h2
  have hPW : ∀ W, Below w.heap.size w W → W.heap[p]? = some (.cells #[.slice A0 q q, .int .i64 S, .bool (decide (0 ≤ t.fuse)), .int .i64 t.fz, .bool t.down] 69 (0, 0)) := fun W hbw => by
    have := (hbw.block p h.lt).trans h.box
    rwa [hS] at this
  have hw1 : IntKind.i64.wrap ((q : Int) - S) = (G : Int) := by rw [IntKind.wrap_i64]; omega
  have hw2 : IntKind.i64.wrap ((S : Int) + r) = (T : Int) := by rw [IntKind.wrap_i64]; omega
  have hw3 : IntKind.i64.wrap (S : Int) = (S : Int) := by rw [IntKind.wrap_i64]; omega
  have hT0 : (0 : Int) ≤ T := by omega
  have hTq : (T : Int) ≤ q := by omega
  have HPl := Lib.hid h.lt; have HP := Lib.hid hPW; have HR := Lib.hid hrow; have HJ := Lib.hid hjn; have HCL := Lib.hid hcl.1; have HH := Lib.hid h; have HTS := Lib.hid hT
  clear hPW hrow hjn hr hq hS hs hcl htl ht h hk hG
  have e0 := cell_here (o := 0) (HP.out w (Below.refl _ _))
  have e1 := cell_here (o := 1) (HP.out w (Below.refl _ _))
  replace e0 : w.cell? ⟨p, 0, none⟩ = some (.slice A0 q q) := e0
  replace e1 : w.cell? ⟨p, 1, none⟩ = some (.int .i64 S) := e1
  go_enter Tryd.func15, Tryd.ntmps15
  go_upto_region 1 with fail
  go_quiet (fail)
  go_upto_region 2 with fail
  try simp only [World.drewN_drewN]
  generalize hW : w.drewN _ = W
  have hbw : Below w.heap.size w W := by rw [← hW]; exact belowDrewN (Below.refl _ _) _
  have hws : W.heap.size = w.heap.size := by rw [← hW]; rfl
  have hPb := HP.out W hbw
  obtain ⟨⟨c0, c1, c2, c3, c4⟩, f0, f1, f2, f3, f4⟩ := box5_of hPb
  have hj := HJ.out W (HR.out W hbw)
  rw [Nat.zero_add, List.nil_append] at hj
  have HBW := Lib.hid hbw; have HJJ := Lib.hid hj
  clear hW hbw hws hPb e0 e1 hj
  rcases hcase with ⟨hk0, rfl⟩ | ⟨hk0, hk1, rfl⟩ | ⟨hk0, hk1, hk2⟩
  case' inl =>
    have d1 : keep < 0 := hk0
    have d3 : ¬ ((G : Int) < 0) := by omega
    clear HTS
    obtain rfl : T = S := by omega
    clear hw2 hT hkl
    go_wp2_with fail
  case' inr.inl =>
    have d1 : ¬ (keep < 0) := by omega
    have d3 : ¬ (keep < (r : Int)) := by omega
    have d4 : (r : Int) < keep := hk1
    clear hT HTS hkl hk1
    go_wp2_with fail
  case' inr.inr =>
    subst hk2
    have d1 : ¬ ((r : Int) < 0) := by omega
    have d3 : ¬ ((G : Int) < (r : Int)) := by omega
    clear hT HTS hkl hk0
    go_wp2_with fail
  all_goals
    refine HJJ.out.mono ?_
    rintro e w2 ⟨⟨A2, rfl, hr2, hf2⟩, hb2⟩
    have hb3 := HBW.out.trans (hb2.mono HBW.out.size)
    have hbz := HP.out w2 hb3
    obtain ⟨⟨p0, p1, p2, p3, p4⟩, q0, q1, q2, q3, q4⟩ := box5_of hbz
    have hne : ∀ g, (Value.slice A2 T T).ownBlock = some g → w.heap.size ≤ g := fun g hg => by
      rcases hf2 with ⟨rfl, -⟩ | hf2
      · cases hg
      · have h1 := hf2 g hg; have h2 := HBW.out.size; omega
    have HBZ := Lib.hid hbz; have HNE := Lib.hid hne; have HR2 := Lib.hid hr2; have HB3 := Lib.hid hb3
    dsimp only
    clear c0 c1 c2 c3 c4 f0 f1 f2 f3 f4 hbz hne hr2 hb3 hf2 hb2
    go_wp2
    refine bodyPost_end (v := .tuple #[]) (results_none rfl _ _ _) rfl ?_
    exact ⟨rfl, ⟨.slice A2 T T, cv_anew HH.out HB3.out HBZ.out A2 T _ HCL.out HR2.out (fun e => by have h1 := HNE.out p e; have h2 := HPl.out; omega), HNE.out⟩, only_anew HB3.out _ _ _ _ _⟩
set_option maxRecDepth 100000 in
theorem fuse_any (p : Nat) (v : Value) (t : TP) (n : Int) (hn : (Lit.int .i64 n).wf = true) (w : World) (h : CV w p v t) :
    Calls Tryd.prog 17 #[.pointer (some ⟨p, 0, none⟩), .int .i64 n] w fun e w' => e = .returned (.tuple #[]) ∧ CV w' p v (t.setFuse n) ∧ Only (fun b => b = p) w w' := by
  obtain ⟨⟨e0, e1, e2, e3, e4⟩, f0, f1, f2, f3, f4⟩ := box5_of h.box
  unfold TP.setFuse
  have H := Lib.hid h; clear h hn
  have hend : ∀ N : Int, 0 ≤ N → CV ((w.setCell ⟨p, 2, none⟩ (.bool true)).setCell ⟨p, 3, none⟩ (.int .i64 N)) p v ⟨t.b, t.sure, N, t.down⟩ := fun N hN => by
    refine H.out.set H.out.full H.out.rd H.out.far (by rw [set_size, set_size]; exact Nat.le_refl _) (fun g hg _ => by rw [set_there _ hg, set_there _ hg]) ?_
    have := set_here (o := 3) (set_here (o := 2) H.out.box (.bool true)) (.int .i64 N)
    have h2 : ¬ (N < 0) := by omega
    simpa [TP.fz, hN, h2] using this
  have HE := Lib.hid hend; clear hend
  by_cases h1 : n < 0
  · rw [if_pos h1]
    go_enter Tryd.func17, Tryd.ntmps17
    go_wp2
    refine bodyPost_end (v := .tuple #[]) (results_none rfl _ _ _) rfl ?_
    exact ⟨rfl, HE.out 0 (by decide), ((Only.refl (fun b => b = p) w).set (b := p) rfl _).set (b := p) rfl _⟩
  · rw [if_neg h1]
    have h2 : 0 ≤ n := by omega
    go_enter Tryd.func17, Tryd.ntmps17
    go_wp2
    refine bodyPost_end (v := .tuple #[]) (results_none rfl _ _ _) rfl ?_
    exact ⟨rfl, HE.out n h2, ((Only.refl (fun b => b = p) w).set (b := p) rfl _).set (b := p) rfl _⟩
set_option maxRecDepth 100000 in
theorem bytes_any (p : Nat) (v : Value) (t : TP) (htl : t.b.length ≤ 100000000) (w : World) (h : CV w p v t) :
    Calls Tryd.prog 21 #[.pointer (some ⟨p, 0, none⟩)] w fun e w' =>
    (∃ A c, e = .returned (.slice A t.b.length c) ∧ RdAt w' (.slice A t.b.length c) t.b ∧ ∀ g, (Value.slice A t.b.length c).ownBlock = some g → w.heap.size ≤ g) ∧ Below w.heap.size w w' := by
  obtain ⟨⟨e0, e1, e2, e3, e4⟩, f0, f1, f2, f3, f4⟩ := box5_of h.box
  obtain ⟨A0, hA0⟩ := h.full
  have hrd := h.rd.weak
  obtain ⟨q, hq⟩ : ∃ q, t.b.length = q := ⟨_, rfl⟩
  rw [hq] at hA0 htl ⊢
  subst hA0
  have hj := joined_any none 0 [] rfl A0 q q t.b hq (by omega) w (RdAt.nil w) hrd
  rw [Nat.zero_add, List.nil_append] at hj
  have HJ := Lib.hid hj; clear hj hrd h hq htl
  go_enter Tryd.func21, Tryd.ntmps21
  go_wp2_with fail
  refine HJ.out.mono ?_
  rintro e w2 ⟨⟨A2, rfl, hr2, hf2⟩, hb2⟩
  have hne : ∀ g, (Value.slice A2 q q).ownBlock = some g → w.heap.size ≤ g := fun g hg => by
    rcases hf2 with ⟨rfl, -⟩ | hf2
    · cases hg
    · exact hf2 g hg
  dsimp only
  go_wp2
  go_ret
  exact ⟨⟨A2, q, rfl, hr2, hne⟩, hb2⟩
set_option maxRecDepth 100000 in
theorem codeTape : CodeTape CT where
  keep := fun ⟨v, h, hS⟩ hs hb => ⟨v, h.keep hs (hb _ ((hS _).2 (.inl rfl))) fun g hg => hb g ((hS g).2 (.inr hg)), hS⟩
  lt := fun ⟨v, h, hS⟩ b hb => by
    rcases (hS b).1 hb with rfl | hb
    · exact h.lt
    · exact h.rd.lt hb
  new := fun w => by
    go_enter Tryd.func10, Tryd.ntmps10
    go_wp2
    go_ret
    refine ⟨⟨w.heap.size, fun b => b = w.heap.size, rfl, ⟨.slice none 0 0, ⟨heap_alloc_last w _, ⟨none, rfl⟩, RdAt.nil _, fun h => by cases h⟩, fun b => ⟨.inl, fun h => by rcases h with h | h; exact h; cases h⟩⟩, fun b hb => Nat.le_of_eq hb.symm⟩, (Below.refl _ _).alloc (Nat.le_refl _) _⟩
  write := fun w S p t bv l ⟨v, h, hS⟩ ht htl hb hl hf => by
    refine (write_any p v t bv l hl htl w h ht hb.weak fun e => hf p (rdBlock_own e) ((hS p).2 (.inl rfl))).mono ?_
    rintro e w' ⟨rfl, ⟨v', h', hv'⟩, ho⟩
    refine ⟨rfl, ⟨fun b => b = p ∨ v'.ownBlock = some b, ⟨v', h', fun b => Iff.rfl⟩, fun b hb => ?_⟩, ho.mono fun i _ hi => (hS i).2 (.inl hi)⟩
    rcases hb with rfl | hb
    · exact .inl ((hS b).2 (.inl rfl))
    · rcases hv' with rfl | hv'
      · exact .inl ((hS b).2 (.inr hb))
      · exact .inr (hv' b hb)
  sync := fun w S p t ⟨v, h, hS⟩ ht htl => by
    refine (sync_any p v t htl w h ht).mono ?_
    rintro e w' ⟨rfl, h', ho⟩
    exact ⟨rfl, ⟨S, ⟨v, h', hS⟩, fun b hb => .inl hb⟩, ho.mono fun i _ hi => (hS i).2 (.inl hi)⟩
  swap := fun w S p t bv l ⟨v, h, hS⟩ ht htl hb hl hf => by
    refine (swap_any p v t bv l hl htl w h ht hb.weak fun e => hf p (rdBlock_own e) ((hS p).2 (.inl rfl))).mono ?_
    rintro e w' ⟨rfl, ⟨v', h', hv'⟩, ho⟩
    refine ⟨rfl, ⟨fun b => b = p ∨ v'.ownBlock = some b, ⟨v', h', fun b => Iff.rfl⟩, fun b hb => ?_⟩, ho.mono fun i _ hi => (hS i).2 (.inl hi)⟩
    rcases hb with rfl | hb
    · exact .inl ((hS b).2 (.inl rfl))
    · rcases hv' with rfl | hv'
      · exact .inl ((hS b).2 (.inr hb))
      · exact .inr (hv' b hb)
  fuse := fun w S p t n ⟨v, h, hS⟩ hn => by
    refine (fuse_any p v t n hn w h).mono ?_
    rintro e w' ⟨rfl, h', ho⟩
    exact ⟨rfl, ⟨S, ⟨v, h', hS⟩, fun b hb => .inl hb⟩, ho.mono fun i _ hi => (hS i).2 (.inl hi)⟩
  crash := fun w S p t n ⟨v, h, hS⟩ ht htl hn => by
    refine (crash_any p v t htl ht n hn w h).mono ?_
    rintro e w' ⟨rfl, ⟨v', h', hv'⟩, ho⟩
    refine ⟨rfl, ⟨fun b => b = p ∨ v'.ownBlock = some b, ⟨v', h', fun b => Iff.rfl⟩, fun b hb => ?_⟩, ho.mono fun i _ hi => (hS i).2 (.inl hi)⟩
    rcases hb with rfl | hb
    · exact .inl ((hS b).2 (.inl rfl))
    · exact .inr (hv' b hb)
  bytes := fun w S p t ⟨v, h, hS⟩ htl => bytes_any p v t htl w h
  sure := fun w S p t ⟨v, h, hS⟩ => by
    obtain ⟨⟨e0, e1, e2, e3, e4⟩, f0, f1, f2, f3, f4⟩ := box5_of h.box
    clear h hS
    go_enter Tryd.func22, Tryd.ntmps22
    go_wp2
    go_ret
    exact ⟨rfl, Below.refl _ _⟩
  nwrite := fun w bv l hb => by
    obtain ⟨A, c, rfl, -, -, -⟩ := hb
    go_enter Tryd.func61, Tryd.ntmps61
    go_wp2_with fail
    refine (powerNil_any w).mono ?_
    rintro e _ ⟨rfl, rfl⟩
    dsimp only
    go_wp2
    go_ret
    exact ⟨rfl, Below.refl _ _⟩
  nsync := fun w => by
    go_enter Tryd.func62, Tryd.ntmps62
    go_wp2_with fail
    refine (powerNil_any w).mono ?_
    rintro e _ ⟨rfl, rfl⟩
    dsimp only
    go_wp2
    go_ret
    exact ⟨rfl, Below.refl _ _⟩
  nswap := fun w bv l hb => by
    obtain ⟨A, c, rfl, -, -, -⟩ := hb
    go_enter Tryd.func24, Tryd.ntmps24
    go_wp2_with fail
    refine (powerNil_any w).mono ?_
    rintro e _ ⟨rfl, rfl⟩
    dsimp only
    go_wp2
    go_ret
    exact ⟨rfl, Below.refl _ _⟩
  nfuse := fun w n => by
    go_enter Tryd.func17, Tryd.ntmps17
    go_wp2
    refine bodyPost_ret (v := .tuple #[]) (results_none rfl _ _ _) rfl ?_
    exact ⟨rfl, Below.refl _ _⟩
  ncrash := fun w n => by
    go_enter Tryd.func15, Tryd.ntmps15
    go_wp2
    refine bodyPost_ret (v := .tuple #[]) (results_none rfl _ _ _) rfl ?_
    exact ⟨rfl, Below.refl _ _⟩
  nbytes := fun w => by
    go_enter Tryd.func21, Tryd.ntmps21
    go_wp2
    go_ret
    exact ⟨⟨none, 0, rfl⟩, Below.refl _ _⟩
  nsure := fun w => by
    go_enter Tryd.func22, Tryd.ntmps22
    go_wp2
    go_ret
    exact ⟨rfl, Below.refl _ _⟩
end Go.Proofs.YtklhdffbaglkdaaDoor
