/- Texts merged by program, in build order: StoreCode, TapeJoin, TapeCode, TapeW. -/
import Derived.Test.YtkbjpgfdmkmbmaaGreatDoorG10
import Derived.Test.YtkbjpgfdmkmbmaaGreatDoorG02
import Derived.Room.Entries
import Derived.Lib.AppendZeros
import Derived.BigQuiet
set_option linter.unusedVariables false
set_option linter.unusedSimpArgs false
namespace Go.Proofs.YtkbjpgfdmkmbmaaGreatDoor
open Go.RowKit
set_option linter.unusedVariables false
set_option linter.unusedSimpArgs false

def getV (r : Option (List UInt8)) : Value := match r with
  | some v => .tuple #[.string ⟨v.toArray⟩, .bool true]
  | none => .tuple #[.string ⟨#[]⟩, .bool false]
/-- what the code's store does. CT w T q t: the tape at q lies in the blocks T, and is t. CS w S p q rows: the store at p, over the tape at q, has blocks S of its own, and just these rows, that rise -/
structure CodeStore (CT : World → (Nat → Prop) → Nat → TP → Prop) (CS : World → (Nat → Prop) → Nat → Nat → RowL → Prop) : Prop where
  keep : ∀ {w w' : World} {S : Nat → Prop} {p q : Nat} {rows : RowL}, CS w S p q rows → w.heap.size ≤ w'.heap.size → (∀ b, S b → w'.heap[b]? = w.heap[b]?) → CS w' S p q rows
  lt : ∀ {w : World} {S : Nat → Prop} {p q : Nat} {rows : RowL}, CS w S p q rows → ∀ b, S b → b < w.heap.size
  rising : ∀ {w : World} {S : Nat → Prop} {p q : Nat} {rows : RowL}, CS w S p q rows → Rising rows
  open_ : ∀ (w : World) (T : Nat → Prop) (q : Nat) (t : TP), CT w T q t → t.Ok → t.b.length ≤ 100000 → RoundsIn w → Calls Tryz.prog 15 #[.pointer (some ⟨q, 0, none⟩)] w fun e w' =>
    (∃ T' : Nat → Prop, CT w' T' q (openS t).2.2 ∧ (∀ b, T' b → T b ∨ w.heap.size ≤ b) ∧
      (((openS t).1 = 0 ∧ ∃ p S, e = .returned (.tuple #[.pointer (some ⟨p, 0, none⟩), .int .i64 0]) ∧ CS w' S p q (openS t).2.1 ∧ (∀ b, S b → w.heap.size ≤ b ∧ ¬ T' b)) ∨
       ((openS t).1 ≠ 0 ∧ e = .returned (.tuple #[.pointer none, .int .i64 (openS t).1])))) ∧ Only T w w'
  nopen : ∀ (w : World), Calls Tryz.prog 15 #[.pointer none] w fun e w' => e = .returned (.tuple #[.pointer none, .int .i64 1]) ∧ Below w.heap.size w w'
  do_ : ∀ (w : World) (T S : Nat → Prop) (p q : Nat) (t : TP) (rows : RowL) (A : Option Addr) (c : Nat) (l : List Ch), CT w T q t → CS w S p q rows → (∀ b, S b → ¬ T b) → t.Ok → t.b.length ≤ 100000 → rows.length ≤ 50000 → RoundsIn w → RdC w (.slice A l.length c) l → l.length ≤ 50000 → (recL l).length ≤ 1000000 → (recL (allR (turnL rows l))).length ≤ 1000000 →
    (∀ g, l.length ≠ 0 → (Value.slice A l.length c).ownBlock = some g → ¬ T g ∧ ¬ S g) → Calls Tryz.prog 17 #[.pointer (some ⟨p, 0, none⟩), .slice A l.length c] w fun e w' =>
    e = .returned (.int .i64 (doS t rows l).1) ∧ (∃ T' S' : Nat → Prop, CT w' T' q (doS t rows l).2.2 ∧ CS w' S' p q (doS t rows l).2.1 ∧ (∀ b, S' b → ¬ T' b) ∧ (∀ b, T' b ∨ S' b → T b ∨ S b ∨ w.heap.size ≤ b)) ∧ Only (fun b => T b ∨ S b) w w'
  ndo : ∀ (w : World) (v : Value) (l : List Ch), RdC w v l → Calls Tryz.prog 17 #[.pointer none, v] w fun e w' => e = .returned (.int .i64 1) ∧ Below w.heap.size w w'
  get : ∀ (w : World) (S : Nat → Prop) (p q : Nat) (rows : RowL) (k : List UInt8), CS w S p q rows → Calls Tryz.prog 19 #[.pointer (some ⟨p, 0, none⟩), .string ⟨k.toArray⟩] w fun e w' => e = .returned (getV (getR rows k)) ∧ Below w.heap.size w w'
  nget : ∀ (w : World) (k : ByteArray), Calls Tryz.prog 19 #[.pointer none, .string k] w fun e w' => e = .returned (getV none) ∧ Below w.heap.size w w'
  keys : ∀ (w : World) (S : Nat → Prop) (p q : Nat) (rows : RowL) (k : List UInt8), CS w S p q rows → rows.length ≤ 100000 → k.length ≤ 1000000000000000 → Calls Tryz.prog 23 #[.pointer (some ⟨p, 0, none⟩), .string ⟨k.toArray⟩] w fun e w' => (∃ v, e = .returned v ∧ RdT w' v (keysR rows k)) ∧ Below w.heap.size w w'
  nkeys : ∀ (w : World) (k : ByteArray), Calls Tryz.prog 23 #[.pointer none, .string k] w fun e w' => (∃ A c, e = .returned (.slice A 0 c)) ∧ Below w.heap.size w w'
theorem CodeStore.below {CT : World → (Nat → Prop) → Nat → TP → Prop} {CS : World → (Nat → Prop) → Nat → Nat → RowL → Prop} (H : CodeStore CT CS) {w w' : World} {S : Nat → Prop} {p q : Nat} {rows : RowL} (h : CS w S p q rows) (hb : Below w.heap.size w w') : CS w' S p q rows :=
  H.keep h hb.size fun b hb' => hb.block b (H.lt h b hb')
theorem CodeStore.only {CT : World → (Nat → Prop) → Nat → TP → Prop} {CS : World → (Nat → Prop) → Nat → Nat → RowL → Prop} (H : CodeStore CT CS) {w w' : World} {S X : Nat → Prop} {p q : Nat} {rows : RowL} (h : CS w S p q rows) (ho : Only X w w') (hd : ∀ b, S b → ¬ X b) : CS w' S p q rows :=
  H.keep h ho.size fun b hb' => ho.block b (H.lt h b hb') (hd b hb')
theorem getR_at : ∀ (rows : RowL) (k : Nat) (r : List UInt8 × List UInt8), Rising rows → rows[k]? = some r → getR rows r.1 = some r.2
  | [], k, r, _, h => by simp at h
  | x :: l, 0, r, _, h => by
    simp at h; subst h
    show (if x.1 = x.1 then _ else _) = _
    rw [if_pos rfl]
  | x :: l, k + 1, r, hr, h => by
    have h' : l[k]? = some r := by simpa using h
    show (if x.1 = r.1 then _ else _) = _
    rw [if_neg (less_ne (hr.1 r (List.mem_of_getElem? h')))]
    exact getR_at l k r hr.2 h'
theorem keysR_all (rows : RowL) : keysR rows [] = rows.map (·.1) := by
  unfold keysR
  rw [List.filter_eq_self]
  intro k _
  simp
/-- has a store just these rows: for those that it has -/
theorem get_none_ne (rows rows' : RowL) (h : rows ≠ rows') (hr : Rising rows) (hr' : Rising rows') (hk : rows.map (·.1) = rows'.map (·.1)) : ∃ k, ∃ h1 : k < rows'.length, getR rows rows'[k].1 ≠ some rows'[k].2 := by
  refine Classical.byContradiction fun hn => h ?_
  refine rising_ext _ _ hr hr' fun x => ?_
  have hall : ∀ k (h1 : k < rows'.length), getR rows rows'[k].1 = some rows'[k].2 := fun k h1 => Classical.byContradiction fun h2 => hn ⟨k, h1, h2⟩
  have hin : ∀ (l : RowL) (x : List UInt8), (∃ k, ∃ h : k < l.length, l[k].1 = x) ∨ getR l x = none := fun l => by
    induction l with
    | nil => intro x; exact .inr rfl
    | cons y l ih =>
      intro x
      by_cases hy : y.1 = x
      · exact .inl ⟨0, by simp, hy⟩
      · rcases ih x with ⟨k, h1, h2⟩ | h1
        · exact .inl ⟨k + 1, by simp; omega, h2⟩
        · refine .inr ?_
          show (if y.1 = x then _ else _) = _
          rw [if_neg hy]; exact h1
  rcases hin rows' x with ⟨k, h1, h2⟩ | h1
  · rw [← h2, hall k h1]
    exact (getR_at rows' k _ hr' (List.getElem?_eq_getElem h1)).symm
  · rw [h1]
    rcases hin rows x with ⟨k, h2, h3⟩ | h2
    · exfalso
      have hlen : rows.length = rows'.length := by
        have := congrArg List.length hk
        simpa using this
      have he : rows'[k].1 = x := by
        have h4 := congrArg (fun l => l[k]?) hk
        simp only [List.getElem?_map, List.getElem?_eq_getElem h2, List.getElem?_eq_getElem (show k < rows'.length by omega), Option.map_some] at h4
        rw [← Option.some.inj h4]; exact h3
      have h5 := getR_at rows' k _ hr' (List.getElem?_eq_getElem (show k < rows'.length by omega))
      rw [he] at h5
      rw [h5] at h1; cases h1
    · rw [h2]
end Go.Proofs.YtkbjpgfdmkmbmaaGreatDoor
namespace Go.Proofs.YtkbjpgfdmkmbmaaGreatDoor
open Go.RowKit
set_option linter.unusedVariables false
set_option linter.unusedSimpArgs false

theorem append_nothing (w : World) (ty : TypeId) (A : Option Addr) (n m : Nat) (h : n ≤ m) (x : Value) (hx : ∃ B c, x = .slice B 0 c) :
    (Builtin.append_ #[60, 60] ty #[.slice A n m, x]).run Tryz.prog w = .ok (.slice A n m) w := by
  obtain ⟨i0, hi, hz0, hz1, hz2⟩ := info_parts Tryz.infoByte
  obtain ⟨B, c, rfl⟩ := hx
  have ht : Tryz.prog.underlying 60 = _ := Tryz.underlying60
  have hl : ∀ b : Addr, (loadCells b 0).run Tryz.prog w = .ok #[] w := fun b => run_loadCells_list w b [] (fun j v h => by simp at h)
  cases A <;> cases B <;> simp [Builtin.append_, run_underlying ht, sizeOf, typeInfo, hi, Builtin.lenOf, Builtin.firstCells, h, storeCells, hl]
/-- append(a, b...) where a has no more room: a new block, or nothing is done -/
theorem append_full (w : World) (ty : TypeId) (A : Option Addr) (n : Nat) (la : List UInt8) (hn : la.length = n) (h : RdAt w (.slice A n n) la) (B : Option Addr) (m c : Nat) (lb : List UInt8) (hm : lb.length = m) (hb : RdW w (.slice B m c) lb)
    (hmax : n + m ≤ 1000000000) :
    ∃ A' d w', (Builtin.append_ #[60, 60] ty #[.slice A n n, .slice B m c]).run Tryz.prog w = .ok (.slice A' (n + m) d) w' ∧ n + m ≤ d ∧ RdAt w' (.slice A' (n + m) (n + m)) (la ++ lb) ∧ Below w.heap.size w w' ∧
      (A' = A ∧ m = 0 ∨ ∀ g, (Value.slice A' (n + m) (n + m)).ownBlock = some g → w.heap.size ≤ g) := by
  obtain ⟨i0, hi, hz0, hz1, hz2⟩ := info_parts Tryz.infoByte
  by_cases hm0 : m = 0
  · subst hm0
    obtain rfl : lb = [] := List.length_eq_zero_iff.1 hm
    refine ⟨A, n, w, ?_, Nat.le_refl _, ?_, Below.refl _ _, .inl ⟨rfl, rfl⟩⟩
    · exact append_nothing w ty A n n (Nat.le_refl _) _ ⟨B, c, rfl⟩
    · simpa using h
  · obtain ⟨B', c', e, h1, h2, h3⟩ := hb
    rw [hm] at e h1 h3
    cases e
    have h3' : ∃ ad, B = some ad ∧ ∀ j u, (cells lb)[j]? = some u → w.cell? (ad.add j) = some u := by
      rcases h3 with h3 | ⟨g, o, rfl, -, h3⟩
      · omega
      · exact ⟨_, rfl, h3⟩
    obtain ⟨ad, rfl, hnews⟩ := h3'
    have hll : (cells lb).length = m * i0.size := by rw [hz1, Nat.mul_one, ← hm]; simp [cells]
    have hla : (cells la).length = n * i0.size := by rw [hz1, Nat.mul_one, ← hn]; simp [cells]
    have hns := Go.Room.nextslicecap_le' (need := n + m) (old := n) (by omega)
    -- what lies in a new block
    have key : ∀ (olds : List Value) (cap : Nat), olds = cells la → n + m ≤ cap → RdAt (w.drew.alloc (.cells (olds.toArray ++ (cells lb).toArray ++ Builtin.zeroCells (Value.int .u8 0).cells (cap - (n + m))) 5)) (.slice (some ⟨w.heap.size, 0, none⟩) (n + m) (n + m)) (la ++ lb) := by
      intro olds cap ho hc
      refine ⟨_, n + m, by rw [List.length_append, hn, hm], by rw [List.length_append, hn, hm]; exact Nat.le_refl _, by omega, .inr ⟨w.heap.size, 0, rfl, by simp, fun j u hu => ?_⟩⟩
      have hlast := heap_alloc_last w.drew (.cells (olds.toArray ++ (cells lb).toArray ++ Builtin.zeroCells (Value.int .u8 0).cells (cap - (n + m))) 5)
      rw [Addr.add_lit, Nat.zero_add]
      show (match (w.drew.alloc _).heap[w.drew.heap.size]? with | some (.cells cs _ _) => cs[j]? | _ => none) = _
      rw [hlast]
      subst ho
      have hj : j < (cells (la ++ lb)).length := (List.getElem?_eq_some_iff.1 hu).1
      show ((cells la).toArray ++ (cells lb).toArray ++ _)[j]? = _
      rw [Array.getElem?_append_left (by rw [cells_app] at hj; simpa using hj), ← hu, cells_app]
      simp
    have hbel : ∀ o : Obj, Below w.heap.size w (w.drew.alloc o) := fun o => (Below.refl _ _).drew.alloc (Nat.le_refl _) o
    cases A with
    | none =>
      obtain ⟨A', c', e, g1, g2, g3⟩ := h
      have hA' : (none : Option Addr) = A' ∧ n = la.length ∧ n = c' := by injection e with e1 e2 e3; exact ⟨e1, e2, e3⟩
      have hn0 : n = 0 := by
        rcases g3 with ⟨_, g4, _⟩ | ⟨g, o, g4, _⟩
        · omega
        · rw [← hA'.1] at g4; cases g4
      subst hn0
      clear g1 g2 g3 e hA'
      have hm1 : 0 < m := Nat.pos_of_ne_zero hm0
      have hm2 : (m : Int) ≤ 9223372036854775807 := by omega
      have hm3 : m ≤ 281474976710656 := by omega
      obtain rfl : la = [] := List.length_eq_zero_iff.1 hn
      have hr := run_append_nil (P := Tryz.prog) (w := w) 60 ty 5 i0 _ Tryz.underlying60 hi hz0 ad m c (cells lb) hll hnews hm1 hm2 (by rw [hz2, Nat.mul_one]; exact hm3)
      have hge := grownCap_ge w m 0 5
      refine ⟨_, _, _, by simpa using hr, by simpa using hge, ?_, hbel _, .inr fun g hg => ?_⟩
      · have := key [] (grownCap w m 0 5) rfl (by simpa using hge)
        simpa using this
      · injection hg with hg; exact Nat.le_of_eq hg
    | some a =>
      have holds : ∀ j u, (cells la)[j]? = some u → w.cell? (a.add j) = some u := by
        obtain ⟨A', c', e, g1, g2, g3⟩ := h
        have hA' : some a = A' := by injection e
        rcases g3 with ⟨g4, _⟩ | ⟨g, o, g4, _, g5⟩
        · rw [← hA'] at g4; cases g4
        · rw [← hA'] at g4; injection g4 with g4; rw [g4]; exact g5
      have hr := run_append_grow (P := Tryz.prog) (w := w) 60 ty 5 i0 _ Tryz.underlying60 hi hz0 a n n (cells la) hla holds ad m c (cells lb) hll hnews (by omega) (by omega) (by rw [hz2]; omega)
      have hge := grownCap_ge w (n + m) n 5
      exact ⟨_, _, _, hr, hge, key (cells la) _ rfl hge, hbel _, .inr fun g hg => by injection hg with hg; exact Nat.le_of_eq hg⟩
set_option maxRecDepth 100000 in
theorem joined_any (A : Option Addr) (n : Nat) (la : List UInt8) (hn : la.length = n) (B : Option Addr) (m c : Nat) (lb : List UInt8) (hm : lb.length = m) (hmax : n + m ≤ 1000000000) (w : World) (h : RdAt w (.slice A n n) la) (hb : RdW w (.slice B m c) lb) :
    Calls Tryz.prog 39 #[.slice A n n, .slice B m c] w fun e w' => (∃ A', e = .returned (.slice A' (n + m) (n + m)) ∧ RdAt w' (.slice A' (n + m) (n + m)) (la ++ lb) ∧ (A' = A ∧ m = 0 ∨ ∀ g, (Value.slice A' (n + m) (n + m)).ownBlock = some g → w.heap.size ≤ g)) ∧ Below w.heap.size w w' := by
  have happ := fun ty => append_full w ty A n la hn h B m c lb hm hb hmax
  have HH := Lib.hid happ
  clear happ h hb
  go_enter Tryz.func39, Tryz.ntmps39
  obtain ⟨A', d, w', hr, hd, hrd, hbl, hfr⟩ := HH.out 60
  have hd' : ((n + m : Nat) : Int) ≤ d := by omega
  have h0 : (0 : Int) ≤ ((n + m : Nat) : Int) := Int.natCast_nonneg _
  obtain ⟨k, hk⟩ : ∃ k, n + m = k := ⟨_, rfl⟩
  rw [hk] at hr hrd hfr hd' h0 ⊢
  have HR := Lib.hid hrd; have HF := Lib.hid hfr; have HB := Lib.hid hbl; have HA := Lib.hid hr
  clear hrd hfr hbl hr hd hk HH
  go_wp2_with (at_builtin; refine Lib.wpList_append_run _ rfl _ _ _ _ rfl _ _ rfl rfl _ _ HA.out ?_)
  go_ret
  refine ⟨⟨A', ?_, HR.out, HF.out⟩, HB.out⟩
  simp [sliced]
end Go.Proofs.YtkbjpgfdmkmbmaaGreatDoor
namespace Go.Proofs.YtkbjpgfdmkmbmaaGreatDoor
open Go.RowKit
set_option linter.unusedVariables false
set_option linter.unusedSimpArgs false

theorem box5_of {w : World} {b : Nat} {c0 c1 c2 c3 c4 : Value} {t : TypeId} (h : w.heap[b]? = some (.cells #[c0, c1, c2, c3, c4] t (0, 0))) :
    (w.cell? ⟨b, 0, none⟩ = some c0 ∧ w.cell? ⟨b, 1, none⟩ = some c1 ∧ w.cell? ⟨b, 2, none⟩ = some c2 ∧ w.cell? ⟨b, 3, none⟩ = some c3 ∧ w.cell? ⟨b, 4, none⟩ = some c4) ∧ w.frozen? ⟨b, 0, none⟩ = false ∧ w.frozen? ⟨b, 1, none⟩ = false ∧ w.frozen? ⟨b, 2, none⟩ = false ∧ w.frozen? ⟨b, 3, none⟩ = false ∧ w.frozen? ⟨b, 4, none⟩ = false :=
  ⟨⟨cell_here h, cell_here h, cell_here h, cell_here h, cell_here h⟩, frozen_here h _, frozen_here h _, frozen_here h _, frozen_here h _, frozen_here h _⟩
/-- what of a fuse lies in the struct -/
def TP.fz (t : TP) : Int := if t.fuse < 0 then 0 else t.fuse
/-- the code's tape at p: its fields, its bytes by the slice v, which has no more room -/
structure CV (w : World) (p : Nat) (v : Value) (t : TP) : Prop where
  box : w.heap[p]? = some (.cells #[v, .int .i64 t.sure, .bool (decide (0 ≤ t.fuse)), .int .i64 t.fz, .bool t.down] 72 (0, 0))
  full : ∃ A, v = .slice A t.b.length t.b.length
  rd : RdAt w v t.b
  far : v.ownBlock ≠ some p
theorem CV.lt {w : World} {p : Nat} {v : Value} {t : TP} (h : CV w p v t) : p < w.heap.size := (Array.getElem?_eq_some_iff.1 h.box).1
theorem CV.keep {w w' : World} {p : Nat} {v : Value} {t : TP} (h : CV w p v t) (hs : w.heap.size ≤ w'.heap.size) (hp : w'.heap[p]? = w.heap[p]?) (hb : ∀ g, v.ownBlock = some g → w'.heap[g]? = w.heap[g]?) : CV w' p v t :=
  ⟨hp.trans h.box, h.full, h.rd.keep hs hb, h.far⟩
theorem CV.below {w w' : World} {p : Nat} {v : Value} {t : TP} (h : CV w p v t) (hb : Below w.heap.size w w') : CV w' p v t := h.keep hb.size (hb.block _ h.lt) fun g hg => hb.block g (h.rd.lt hg)
/-- the struct written anew: another value for the bytes, or the same -/
theorem CV.set {w w' : World} {p : Nat} {v v' : Value} {t t' : TP} (h : CV w p v t) (hf : ∃ A, v' = .slice A t'.b.length t'.b.length) (hr : RdAt w v' t'.b) (hn : v'.ownBlock ≠ some p) (hs : w.heap.size ≤ w'.heap.size)
    (ho : ∀ g, g ≠ p → g < w.heap.size → w'.heap[g]? = w.heap[g]?) (hb : w'.heap[p]? = some (.cells #[v', .int .i64 t'.sure, .bool (decide (0 ≤ t'.fuse)), .int .i64 t'.fz, .bool t'.down] 72 (0, 0))) : CV w' p v' t' :=
  ⟨hb, hf, hr.keep hs fun g hg => ho g (fun e => hn (by rw [hg, e])) (hr.lt hg), hn⟩
/-- the blocks of a tape: the struct's, and its bytes' -/
def CT (w : World) (S : Nat → Prop) (p : Nat) (t : TP) : Prop := ∃ v, CV w p v t ∧ ∀ b, S b ↔ b = p ∨ v.ownBlock = some b
set_option maxRecDepth 100000 in
theorem power_any (p : Nat) (v : Value) (t : TP) (w : World) (h : CV w p v t) :
    Calls Tryz.prog 45 #[.pointer (some ⟨p, 0, none⟩)] w fun e w' => e = .returned (.int .i64 (if t.down = true then 8 else 0)) ∧ w = w' := by
  obtain ⟨⟨e0, e1, e2, e3, e4⟩, -⟩ := box5_of h.box
  clear h e0 e1 e2 e3
  obtain ⟨b, s, f, d⟩ := t
  simp only at e4 ⊢
  cases d with
  | true =>
    go_enter Tryz.func45, Tryz.ntmps45
    go_wp2
    go_ret
    exact ⟨rfl, rfl⟩
  | false =>
    go_enter Tryz.func45, Tryz.ntmps45
    go_wp2
    go_ret
    exact ⟨rfl, rfl⟩
set_option maxRecDepth 100000 in
theorem powerNil_any (w : World) : Calls Tryz.prog 45 #[.pointer none] w fun e w' => e = .returned (.int .i64 1) ∧ w = w' := by
  go_enter Tryz.func45, Tryz.ntmps45
  go_wp2
  go_ret
  exact ⟨rfl, rfl⟩
set_option maxRecDepth 100000 in
set_option maxHeartbeats 4000000 in
theorem burn_any (p : Nat) (v : Value) (t : TP) (n : Nat) (hn : n ≤ 4611686018427387904) (w : World) (h : CV w p v t) (hf : -1 ≤ t.fuse ∧ t.fuse ≤ 9223372036854775807) (hd : t.down = false) :
    Calls Tryz.prog 46 #[.pointer (some ⟨p, 0, none⟩), .int .i64 n] w fun e w' => e = .returned (.int .i64 (t.left n)) ∧ CV w' p v (t.use (t.left n) n).1 ∧ Only (fun b => b = p) w w' := by
  obtain ⟨⟨e0, e1, e2, e3, e4⟩, f0, f1, f2, f3, f4⟩ := box5_of h.box
  unfold TP.use
  obtain ⟨b, s, f, d⟩ := t
  simp only at hd
  subst hd
  unfold TP.left
  simp only [TP.fz] at e0 e1 e2 e3 e4 hf ⊢
  have H := Lib.hid h; clear h
  simp only [Bool.false_eq_true, if_false]
  by_cases h1 : f < 0
  · have d1 : decide (0 ≤ f) = false := by simp; omega
    rw [d1] at e2
    rw [if_pos (.inl h1), if_neg (by omega), if_neg (by omega)]
    have H1 := Lib.hid h1; clear h1
    go_enter Tryz.func46, Tryz.ntmps46
    go_wp2
    go_ret
    exact ⟨rfl, H.out, Only.refl _ _⟩
  · have d1 : decide (0 ≤ f) = true := by simp; omega
    rw [d1] at e2
    rw [if_neg h1] at e3
    have hb := H.out.box
    simp only [TP.fz, d1, if_neg h1] at hb
    by_cases h2 : (n : Int) ≤ f
    · have d2 : decide ((n : Int) < (n : Int)) = false := by simp
      have hmin : (if f < (n : Int) then f else (n : Int)) = n := by rw [if_neg (by omega)]
      have hw : IntKind.i64.wrap (f - n) = f - n := by rw [IntKind.wrap_i64]; omega
      have hpost : (if 0 < f then (⟨b, s, f - n, false⟩, 0) else (⟨b, s, f, false⟩, 0) : TP × Int).1 = ⟨b, s, f - n, false⟩ := by
        by_cases hf0 : 0 < f
        · rw [if_pos hf0]
        · rw [if_neg hf0]
          have : f - n = f := by omega
          rw [this]
      rw [if_pos (.inr h2), if_neg (by omega), hpost]
      have HB := Lib.hid hb; have H1 := Lib.hid h1; have H2 := Lib.hid h2; clear hb h1 h2 hpost
      have d3 : decide (f < (n : Int)) = false := by have := H2.out; simp; omega
      have d4 : ¬ (f < (n : Int)) := by have := H2.out; omega
      go_enter Tryz.func46, Tryz.ntmps46
      go_wp2
      go_ret
      refine ⟨rfl, H.out.set H.out.full H.out.rd H.out.far (by rw [set_size, set_size]; exact Nat.le_refl _) (fun g hg _ => by rw [set_there _ hg, set_there _ hg]) ?_, ((Only.refl (fun b => b = p) w).set (b := p) rfl _).set (b := p) rfl _⟩
      have := set_here (o := 4) (set_here (o := 3) HB.out (.int .i64 (f - n))) (.bool false)
      have hz : decide ((n : Int) ≤ f) = true := by have := H2.out; simp; omega
      have hz2 : ¬ (f - (n : Int) < 0) := by have := H2.out; omega
      have hz3 : (n : Int) ≤ f := H2.out
      simpa [TP.fz, hz3, hz2] using this
    · have hmin : (if f < (n : Int) then f else (n : Int)) = f := by rw [if_pos (by omega)]
      have hw : IntKind.i64.wrap (f - f) = 0 := by rw [Int.sub_self]; decide
      have d3 : decide (f < (n : Int)) = true := by simp; omega
      have hff : ((f.toNat : Nat) : Int) = f := by omega
      rw [if_neg (by omega), if_pos (by omega), hff]
      have d4 : f < (n : Int) := by omega
      have HB := Lib.hid hb; have H1 := Lib.hid h1; have H2 := Lib.hid h2; clear hb h1 h2 hff
      go_enter Tryz.func46, Tryz.ntmps46
      go_wp2
      go_ret
      refine ⟨rfl, H.out.set H.out.full H.out.rd H.out.far (by rw [set_size, set_size]; exact Nat.le_refl _) (fun g hg _ => by rw [set_there _ hg, set_there _ hg]) ?_, ((Only.refl (fun b => b = p) w).set (b := p) rfl _).set (b := p) rfl _⟩
      have := set_here (o := 4) (set_here (o := 3) HB.out (.int .i64 0)) (.bool true)
      simpa [TP.fz] using this
theorem use_down (t : TP) (k n : Nat) (hd : t.down = false) : (t.use k n).2 = if (t.use k n).1.down = true then 8 else 0 := by
  unfold TP.use
  rw [hd]
  simp only [Bool.false_eq_true, if_false]
  split
  · rfl
  · split <;> simp [hd]
theorem use_kn (t : TP) (k n : Nat) (hd : t.down = false) : (t.use k n).1.down = decide (k < n) := by
  unfold TP.use
  simp only [hd, Bool.false_eq_true, if_false]
  split
  · rename_i h1; simp [h1]
  · rename_i h1; split <;> simp [h1, hd]
set_option maxRecDepth 100000 in
set_option maxHeartbeats 4000000 in
theorem write_any (p : Nat) (v : Value) (t : TP) (bv : Value) (l : List UInt8) (hl : l.length ≤ 100000) (htl : t.b.length ≤ 100000000) (w : World) (h : CV w p v t) (ht : t.Ok) (hb : RdW w bv l) (hfar : rdBlock bv ≠ some p) :
    Calls Tryz.prog 52 #[.pointer (some ⟨p, 0, none⟩), bv] w fun e w' => e = .returned (.int .i64 (t.write l).2) ∧ (∃ v', CV w' p v' (t.write l).1 ∧ (v' = v ∨ ∀ g, v'.ownBlock = some g → w.heap.size ≤ g)) ∧ Only (fun b => b = p) w w' := by
  have hpw := power_any p v t w h
  cases hd : t.down with
  | true =>
    have e1 : t.write l = (t, 8) := by
      unfold TP.write TP.use TP.left
      rw [hd]
      obtain ⟨b, s, f, d⟩ := t
      simp only at hd
      subst hd
      simp
    rw [e1]
    rw [hd, if_pos rfl] at hpw
    have HP := Lib.hid hpw; have H := Lib.hid h
    clear hpw h hd e1 hb hfar ht htl
    go_enter Tryz.func52, Tryz.ntmps52
    go_wp2_with fail
    refine HP.out.mono ?_
    rintro e _ ⟨rfl, rfl⟩
    dsimp only
    go_wp2
    go_ret
    exact ⟨rfl, ⟨v, H.out, .inl rfl⟩, Only.refl _ _⟩
  | false =>
    have hle := t.left_le l.length
    have hbn := burn_any p v t l.length (by omega) w h ht.fuse hd
    have hud := use_down t (t.left l.length) l.length hd
    have hub := TP.use_b t (t.left l.length) l.length
    have hw1 : t.write l = ((⟨t.b ++ l.take (t.left l.length), t.sure, (t.use (t.left l.length) l.length).1.fuse, (t.use (t.left l.length) l.length).1.down⟩ : TP), (t.use (t.left l.length) l.length).2) := by
      unfold TP.write TP.use
      simp only [hd, Bool.false_eq_true, if_false]
      split
      · rfl
      · split <;> simp [hd]
    rw [hw1, hud]
    rw [hd, if_neg (by decide)] at hpw
    obtain ⟨m, hm⟩ : ∃ m, t.left l.length = m := ⟨_, rfl⟩
    obtain ⟨n, hn⟩ : ∃ n, l.length = n := ⟨_, rfl⟩
    rw [hm, hn] at hbn hub ⊢
    rw [hm, hn] at hle
    obtain ⟨t', ht'⟩ : ∃ t', (t.use m n).1 = t' := ⟨_, rfl⟩
    rw [ht'] at hbn hub ⊢
    obtain ⟨E, hE⟩ : ∃ E : Int, (if t'.down = true then (8 : Int) else 0) = E := ⟨_, rfl⟩
    rw [hE]
    have HE := Lib.hid hE; clear hE
    obtain ⟨A, c, rfl, hc, -, -⟩ := id hb
    rw [hn] at hb hc ⊢
    have hbt : RdW w (.slice A m c) (l.take m) := by
      have := (hn ▸ hb : RdW w (.slice A l.length c) l).take m (by omega)
      exact this
    have hltk : (l.take m).length = m := by rw [List.length_take]; omega
    obtain ⟨q, hq⟩ : ∃ q, t.b.length = q := ⟨_, rfl⟩
    have hjn := fun (A0 : Option Addr) (W : World) (h1 : RdAt W (.slice A0 q q) t.b) (h2 : RdW W (.slice A m c) (l.take m)) => joined_any A0 q t.b hq A m c (l.take m) hltk (by omega) W h1 h2
    have hrow : ∀ W, Only (fun b => b = p) w W → RdW W (.slice A m c) (l.take m) := fun W ho => hbt.only ho fun g hg e => hfar (by
      have : rdBlock (.slice A l.length c) = rdBlock (.slice A m c) := by cases A <;> rfl
      rw [this, hg, e])
    have hmc : (m : Int) ≤ c := by omega
    have hm0 : (0 : Int) ≤ m := by omega
    have HP := Lib.hid hpw; have HBN := Lib.hid hbn; have HJ := Lib.hid hjn; have HR := Lib.hid hrow; have HUB := Lib.hid hub; have HQ := Lib.hid hq; have HLT := Lib.hid hltk; have HPL := Lib.hid h.lt
    clear hpw hbn hjn hrow hub hb hbt hltk hq ht' hm hn hw1 hud hle hfar htl hl ht h hc hd
    go_enter Tryz.func52, Tryz.ntmps52
    go_wp2_with fail
    refine HP.out.mono ?_
    rintro e _ ⟨rfl, rfl⟩
    dsimp only
    go_wp2_with fail
    refine HBN.out.mono ?_
    rintro e w1 ⟨rfl, h1, ho1⟩
    obtain ⟨A0, hA0⟩ := h1.full
    rw [HUB.out.1, HQ.out] at hA0
    subst hA0
    obtain ⟨⟨e0, e1, e2, e3, e4⟩, f0, f1, f2, f3, f4⟩ := box5_of h1.box
    have hJ : ∀ W, Below w1.heap.size w1 W → _ := fun W hW => HJ.out A0 W (by have := (h1.below hW).rd; rw [HUB.out.1] at this; exact this) (HR.out W (ho1.trans (Only.of_below hW)))
    have hC : ∀ W, Below w1.heap.size w1 W → W.cell? ⟨p, 0, none⟩ = some (.slice A0 q q) ∧ W.frozen? ⟨p, 0, none⟩ = false := fun W hW => by
      have := box5_of ((hW.block p h1.lt).trans h1.box)
      exact ⟨this.1.1, this.2.1⟩
    have H1 := Lib.hid h1; have HO1 := Lib.hid ho1; have HJJ := Lib.hid hJ; have HC := Lib.hid hC
    clear h1 ho1 hJ hC
    dsimp only
    go_upto_region 2 with fail
    go_region_with (go_at_call 39; (with_reducible refine (HJJ.out _ ?_).mono ?_); (· exact (Below.refl _ _).drew); rintro e2 w2 ⟨⟨A2, rfl, hr2, hf2⟩, hb2⟩; have hb3 := below_drew2 _ _ hb2; obtain ⟨c5, c6⟩ := HC.out w2 hb3)
    have hne : ∀ g, (Value.slice A2 (q + m) (q + m)).ownBlock = some g → g ≠ p ∧ ((A2 = A0 ∧ m = 0) ∨ w.heap.size ≤ g) := fun g hg => by
      rcases hf2 with ⟨rfl, rfl⟩ | hf2
      · exact ⟨fun e => H1.out.far (by rw [← e]; exact hg), .inl ⟨rfl, rfl⟩⟩
      · have h1 := hf2 g hg
        have h2 := HO1.out.size
        have h3 := HPL.out
        have h4 : w1.heap.size ≤ g := h1
        exact ⟨by omega, .inr (by omega)⟩
    have hcv : CV (w2.setCell ⟨p, 0, none⟩ (.slice A2 (q + m) (q + m))) p (.slice A2 (q + m) (q + m)) ⟨t.b ++ l.take m, t.sure, t'.fuse, t'.down⟩ := by
      refine (H1.out.below hb3).set ⟨A2, ?_⟩ hr2 (fun e => (hne p e).1 rfl) (by rw [set_size]; exact Nat.le_refl _) (fun g hg _ => set_there _ hg) ?_
      · have h1 := HQ.out; have h2 := HLT.out
        show _ = Value.slice A2 (t.b ++ l.take m).length (t.b ++ l.take m).length
        rw [List.length_append, h1, h2]
      · have := set_here (o := 0) ((hb3.block p H1.out.lt).trans H1.out.box) (.slice A2 (q + m) (q + m))
        rw [HUB.out.2] at this
        simpa [TP.fz] using this
    have hoz : Only (fun b => b = p) w (w2.setCell ⟨p, 0, none⟩ (.slice A2 (q + m) (q + m))) := (HO1.out.trans (Only.of_below hb3)).set (b := p) rfl _
    have hlast : (Value.slice A2 (q + m) (q + m) = .slice A0 q q) ∨ ∀ g, (Value.slice A2 (q + m) (q + m)).ownBlock = some g → w.heap.size ≤ g := by
      rcases hf2 with ⟨rfl, rfl⟩ | hf2
      · exact .inl rfl
      · exact .inr fun g hg => by have h1 : w1.heap.size ≤ g := hf2 g hg; have h2 := HO1.out.size; omega
    obtain ⟨wz, hwz⟩ : ∃ wz, wz = w2.setCell ⟨p, 0, none⟩ (.slice A2 (q + m) (q + m)) := ⟨_, rfl⟩
    change Exit.then _ _ _ _ (w2.setCell ⟨p, 0, none⟩ (.slice A2 (q + m) (q + m)))
    rw [← hwz] at hcv hoz ⊢
    have HCV := Lib.hid hcv; have HOZ := Lib.hid hoz; have HLA := Lib.hid hlast
    have hpz := power_any p _ _ wz hcv
    dsimp only at hpz
    rw [HE.out] at hpz
    have HPZ := Lib.hid hpz
    clear hcv hoz hlast hpz hwz hne hf2 hr2 hb2 hb3 c5 c6
    go_wp2_with fail
    refine HPZ.out.mono ?_
    rintro e _ ⟨rfl, rfl⟩
    dsimp only
    go_wp2
    go_ret
    exact ⟨rfl, ⟨_, HCV.out, HLA.out⟩, HOZ.out⟩
set_option maxRecDepth 100000 in
set_option maxHeartbeats 4000000 in
theorem sync_any (p : Nat) (v : Value) (t : TP) (htl : t.b.length ≤ 100000000) (w : World) (h : CV w p v t) (ht : t.Ok) :
    Calls Tryz.prog 53 #[.pointer (some ⟨p, 0, none⟩)] w fun e w' => e = .returned (.int .i64 t.sync.2) ∧ CV w' p v t.sync.1 ∧ Only (fun b => b = p) w w' := by
  have hpw := power_any p v t w h
  cases hd : t.down with
  | true =>
    have e1 : t.sync = (t, 8) := by
      unfold TP.sync TP.use TP.left
      rw [hd]
      simp
    rw [e1]
    rw [hd, if_pos rfl] at hpw
    have HP := Lib.hid hpw; have H := Lib.hid h
    clear hpw h hd e1 ht htl
    go_enter Tryz.func53, Tryz.ntmps53
    go_wp2_with fail
    refine HP.out.mono ?_
    rintro e _ ⟨rfl, rfl⟩
    dsimp only
    go_wp2
    go_ret
    exact ⟨rfl, H.out, Only.refl _ _⟩
  | false =>
    have hle := t.left_le 1
    have hbn := burn_any p v t 1 (by omega) w h ht.fuse hd
    have hud := use_down t (t.left 1) 1 hd
    have hub := TP.use_b t (t.left 1) 1
    have hkn : (t.use (t.left 1) 1).1.down = decide (t.left 1 < 1) := use_kn t _ 1 hd
    unfold TP.sync
    rw [hd, if_neg (by decide)] at hpw
    obtain ⟨m, hm⟩ : ∃ m, t.left 1 = m := ⟨_, rfl⟩
    rw [hm] at hbn hub hle hkn hud ⊢
    obtain ⟨t', ht'⟩ : ∃ t', (t.use m 1).1 = t' := ⟨_, rfl⟩
    rw [ht'] at hbn hub hkn hud
    have huse : t.use m 1 = (t', if t'.down = true then 8 else 0) := Prod.ext ht' hud
    rw [huse]
    dsimp only
    have htl' : t'.b.length ≤ 100000000 := by rw [hub.1]; exact htl
    have HP := Lib.hid hpw; have HBN := Lib.hid hbn
    clear hpw hbn hub htl ht' hm hud ht h hd huse
    by_cases hm1 : m = 1
    · subst hm1
      have hkd : t'.down = false := by rw [hkn]; rfl
      rw [hkd]
      simp only [Bool.false_eq_true, if_false, if_true]
      clear hkn hle
      have HKD := Lib.hid hkd; clear hkd
      obtain ⟨q, hq⟩ : ∃ q, t'.b.length = q := ⟨_, rfl⟩
      rw [hq]
      have HQ := Lib.hid hq; clear hq htl'
      go_enter Tryz.func53, Tryz.ntmps53
      go_wp2_with fail
      refine HP.out.mono ?_
      rintro e _ ⟨rfl, rfl⟩
      dsimp only
      go_wp2_with fail
      refine HBN.out.mono ?_
      rintro e w1 ⟨rfl, h1, ho1⟩
      obtain ⟨A0, hA0⟩ := h1.full
      rw [HQ.out] at hA0
      subst hA0
      obtain ⟨⟨e0, e1, e2, e3, e4⟩, f0, f1, f2, f3, f4⟩ := box5_of h1.box
      have hcv : CV (w1.setCell ⟨p, 1, none⟩ (.int .i64 q)) p (.slice A0 q q) ⟨t'.b, q, t'.fuse, false⟩ := by
        refine h1.set ⟨A0, by show _ = Value.slice A0 t'.b.length t'.b.length; rw [HQ.out]⟩ h1.rd h1.far (by rw [set_size]; exact Nat.le_refl _) (fun g hg _ => set_there _ hg) ?_
        have := set_here (o := 1) h1.box (.int .i64 q)
        rw [HKD.out] at this
        simpa [TP.fz] using this
      have hoz := ho1.set (b := p) (o := 1) rfl (.int .i64 q)
      have hpz := power_any p _ _ _ hcv
      rw [if_neg (fun h => by cases h)] at hpz
      have HCV := Lib.hid hcv; have HOZ := Lib.hid hoz; have HPZ := Lib.hid hpz
      clear h1 ho1 hcv hoz hpz
      dsimp only
      go_wp2_with fail
      refine HPZ.out.mono ?_
      rintro e _ ⟨rfl, rfl⟩
      dsimp only
      go_wp2
      go_ret
      exact ⟨rfl, HCV.out, HOZ.out⟩
    · obtain rfl : m = 0 := by omega
      have hkd : t'.down = true := by rw [hkn]; rfl
      rw [hkd]
      simp only [if_true]
      rw [if_neg (by decide)]
      have HKD := Lib.hid hkd; clear hkd hkn hle hm1 htl'
      go_enter Tryz.func53, Tryz.ntmps53
      go_wp2_with fail
      refine HP.out.mono ?_
      rintro e _ ⟨rfl, rfl⟩
      dsimp only
      go_wp2_with fail
      refine HBN.out.mono ?_
      rintro e w1 ⟨rfl, h1, ho1⟩
      have hpz := power_any p _ _ _ h1
      rw [HKD.out, if_pos rfl] at hpz
      have HCV := Lib.hid h1; have HOZ := Lib.hid ho1; have HPZ := Lib.hid hpz
      clear h1 ho1 hpz
      dsimp only
      go_wp2_with fail
      refine HPZ.out.mono ?_
      rintro e _ ⟨rfl, rfl⟩
      dsimp only
      go_wp2
      go_ret
      exact ⟨rfl, HCV.out, HOZ.out⟩
set_option maxRecDepth 100000 in
set_option maxHeartbeats 4000000 in
theorem swap_any (p : Nat) (v : Value) (t : TP) (bv : Value) (l : List UInt8) (hl : l.length ≤ 100000) (htl : t.b.length ≤ 100000000) (w : World) (h : CV w p v t) (ht : t.Ok) (hb : RdW w bv l) (hfar : rdBlock bv ≠ some p) :
    Calls Tryz.prog 29 #[.pointer (some ⟨p, 0, none⟩), bv] w fun e w' => e = .returned (.int .i64 (t.swap l).2) ∧ (∃ v', CV w' p v' (t.swap l).1 ∧ (v' = v ∨ ∀ g, v'.ownBlock = some g → w.heap.size ≤ g)) ∧ Only (fun b => b = p) w w' := by
  have hpw := power_any p v t w h
  obtain ⟨A, c, rfl, hc, hcm, -⟩ := id hb
  cases hd : t.down with
  | true =>
    have e1 : t.swap l = (t, 8) := by
      unfold TP.swap TP.use TP.left
      rw [hd]
      simp
    rw [e1]
    rw [hd, if_pos rfl] at hpw
    have HP := Lib.hid hpw; have H := Lib.hid h
    clear hpw h hd e1 hb hfar ht htl
    go_enter Tryz.func29, Tryz.ntmps29
    go_wp2_with fail
    refine HP.out.mono ?_
    rintro e _ ⟨rfl, rfl⟩
    dsimp only
    go_wp2
    go_ret
    exact ⟨rfl, ⟨v, H.out, .inl rfl⟩, Only.refl _ _⟩
  | false =>
    have hle := t.left_le (l.length + 1)
    have hbn := burn_any p v t (l.length + 1) (by omega) w h ht.fuse hd
    have hud := use_down t (t.left (l.length + 1)) (l.length + 1) hd
    have hub := TP.use_b t (t.left (l.length + 1)) (l.length + 1)
    have hkn : (t.use (t.left (l.length + 1)) (l.length + 1)).1.down = decide (t.left (l.length + 1) < l.length + 1) := use_kn t _ _ hd
    unfold TP.swap
    rw [hd, if_neg (by decide)] at hpw
    obtain ⟨m, hm⟩ : ∃ m, t.left (l.length + 1) = m := ⟨_, rfl⟩
    rw [hm] at hbn hub hle hkn hud ⊢
    obtain ⟨t', ht'⟩ : ∃ t', (t.use m (l.length + 1)).1 = t' := ⟨_, rfl⟩
    rw [ht'] at hbn hub hkn hud
    have huse : t.use m (l.length + 1) = (t', if t'.down = true then 8 else 0) := Prod.ext ht' hud
    rw [huse]
    dsimp only
    have htl' : t'.b.length ≤ 100000000 := by rw [hub.1]; exact htl
    have hrow : ∀ W, Only (fun b => b = p) w W → RdW W (.slice A l.length c) l := fun W ho => hb.only ho fun g hg e => hfar (by rw [hg, e])
    obtain ⟨n, hn⟩ : ∃ n, l.length = n := ⟨_, rfl⟩
    have hjn := fun (W : World) (h2 : RdW W (.slice A n c) l) => joined_any none 0 [] rfl A n c l hn (by omega) W (RdAt.nil W) h2
    rw [hn] at hrow hbn hkn hle hl hc ⊢
    have hw1 : IntKind.i64.wrap ((n : Int) + 1) = ((n + 1 : Nat) : Int) := by rw [IntKind.wrap_i64]; omega
    obtain ⟨N, hN⟩ : ∃ N, n + 1 = N := ⟨_, rfl⟩
    rw [hN] at hbn hkn hle hw1
    have hNl : N ≤ 100001 := by omega
    have HP := Lib.hid hpw; have HBN := Lib.hid hbn; have HJ := Lib.hid hjn; have HR := Lib.hid hrow; have HPL := Lib.hid h.lt; have HNN := Lib.hid hn
    clear hpw hbn hub htl ht' hm hud ht h hd huse hjn hrow hN hb hfar hn
    by_cases hm1 : m = N
    · subst hm1
      have hkd : t'.down = false := by rw [hkn]; simp
      rw [hkd]
      simp only [Bool.false_eq_true, if_false, if_true]
      clear hkn hle
      have HKD := Lib.hid hkd; clear hkd htl'
      go_enter Tryz.func29, Tryz.ntmps29
      go_wp2_with fail
      refine HP.out.mono ?_
      rintro e _ ⟨rfl, rfl⟩
      dsimp only
      go_wp2_with fail
      refine HBN.out.mono ?_
      rintro e w1 ⟨rfl, h1, ho1⟩
      have hj := HJ.out w1 (HR.out w1 ho1)
      rw [Nat.zero_add, List.nil_append] at hj
      have H1 := Lib.hid h1; have HO1 := Lib.hid ho1; have HJJ := Lib.hid hj
      clear h1 ho1 hj
      dsimp only
      go_wp2_with fail
      refine HJJ.out.mono ?_
      rintro e w2 ⟨⟨A2, rfl, hr2, hf2⟩, hb2⟩
      obtain ⟨⟨e0, e1, e2, e3, e4⟩, f0, f1, f2, f3, f4⟩ := box5_of ((hb2.block p H1.out.lt).trans H1.out.box)
      have hne : ∀ g, (Value.slice A2 n n).ownBlock = some g → w.heap.size ≤ g := fun g hg => by
        rcases hf2 with ⟨rfl, -⟩ | hf2
        · cases hg
        · have h1 := hf2 g hg; have h2 := HO1.out.size; omega
      have hcv : CV ((w2.setCell ⟨p, 0, none⟩ (.slice A2 n n)).setCell ⟨p, 1, none⟩ (.int .i64 n)) p (.slice A2 n n) ⟨l, n, t'.fuse, false⟩ := by
        refine (H1.out.below hb2).set ⟨A2, by show _ = Value.slice A2 l.length l.length; rw [HNN.out]⟩ hr2 (fun e => by have h1 := hne p e; have h2 := HPL.out; omega) (by rw [set_size, set_size]; exact Nat.le_refl _) (fun g hg _ => by rw [set_there _ hg, set_there _ hg]) ?_
        have := set_here (o := 1) (set_here (o := 0) ((hb2.block p H1.out.lt).trans H1.out.box) (.slice A2 n n)) (.int .i64 n)
        rw [HKD.out] at this
        simpa [TP.fz] using this
      have hoz := ((HO1.out.trans (Only.of_below (S := fun b => b = p) hb2)).set (b := p) (o := 0) rfl (.slice A2 n n)).set (b := p) (o := 1) rfl (.int .i64 n)
      have hpz := power_any p _ _ _ hcv
      rw [if_neg (fun h => by cases h)] at hpz
      have HCV := Lib.hid hcv; have HOZ := Lib.hid hoz; have HPZ := Lib.hid hpz; have HNE := Lib.hid hne
      clear hcv hoz hpz hne hf2 hr2 hb2
      dsimp only
      go_wp2_with fail
      refine HPZ.out.mono ?_
      rintro e _ ⟨rfl, rfl⟩
      dsimp only
      go_wp2
      go_ret
      exact ⟨rfl, ⟨_, HCV.out, .inr HNE.out⟩, HOZ.out⟩
    · have hkd : t'.down = true := by rw [hkn]; simp; omega
      rw [hkd]
      simp only [if_true]
      rw [if_neg (by decide)]
      have d1 : ((m : Int) == (N : Int)) = false := by simp; omega
      have d2 : ¬ ((m : Int) = (N : Int)) := by omega
      have HKD := Lib.hid hkd; clear hkd hkn hle hm1 htl'
      go_enter Tryz.func29, Tryz.ntmps29
      go_wp2_with fail
      refine HP.out.mono ?_
      rintro e _ ⟨rfl, rfl⟩
      dsimp only
      go_wp2_with fail
      refine HBN.out.mono ?_
      rintro e w1 ⟨rfl, h1, ho1⟩
      have hpz := power_any p _ _ _ h1
      rw [HKD.out, if_pos rfl] at hpz
      have HCV := Lib.hid h1; have HOZ := Lib.hid ho1; have HPZ := Lib.hid hpz
      clear h1 ho1 hpz
      dsimp only
      go_wp2_with fail
      refine HPZ.out.mono ?_
      rintro e _ ⟨rfl, rfl⟩
      dsimp only
      go_wp2
      go_ret
      exact ⟨rfl, ⟨_, HCV.out, .inl rfl⟩, HOZ.out⟩
set_option maxRecDepth 100000 in
theorem bytes_any (p : Nat) (v : Value) (t : TP) (htl : t.b.length ≤ 100000000) (w : World) (h : CV w p v t) :
    Calls Tryz.prog 25 #[.pointer (some ⟨p, 0, none⟩)] w fun e w' =>
    (∃ A c, e = .returned (.slice A t.b.length c) ∧ RdAt w' (.slice A t.b.length c) t.b ∧ ∀ g, (Value.slice A t.b.length c).ownBlock = some g → w.heap.size ≤ g) ∧ Below w.heap.size w w' := by
  obtain ⟨⟨e0, e1, e2, e3, e4⟩, f0, f1, f2, f3, f4⟩ := box5_of h.box
  obtain ⟨A0, hA0⟩ := h.full
  have hrd := h.rd.weak
  obtain ⟨q, hq⟩ : ∃ q, t.b.length = q := ⟨_, rfl⟩
  rw [hq] at hA0 htl ⊢
  subst hA0
  have hj := joined_any none 0 [] rfl A0 q q t.b hq (by omega) w (RdAt.nil w) hrd
  rw [Nat.zero_add, List.nil_append] at hj
  have HJ := Lib.hid hj; clear hj hrd h hq htl
  go_enter Tryz.func25, Tryz.ntmps25
  go_wp2_with fail
  refine HJ.out.mono ?_
  rintro e w2 ⟨⟨A2, rfl, hr2, hf2⟩, hb2⟩
  have hne : ∀ g, (Value.slice A2 q q).ownBlock = some g → w.heap.size ≤ g := fun g hg => by
    rcases hf2 with ⟨rfl, -⟩ | hf2
    · cases hg
    · exact hf2 g hg
  dsimp only
  go_wp2
  go_ret
  exact ⟨⟨A2, q, rfl, hr2, hne⟩, hb2⟩
end Go.Proofs.YtkbjpgfdmkmbmaaGreatDoor
namespace Go.Proofs.YtkbjpgfdmkmbmaaGreatDoor
open Go.RowKit
set_option linter.unusedVariables false
set_option linter.unusedSimpArgs false

structure TapeW (CT : World → (Nat → Prop) → Nat → TP → Prop) : Prop where
  keep : ∀ {w w' : World} {S : Nat → Prop} {p : Nat} {t : TP}, CT w S p t → w.heap.size ≤ w'.heap.size → (∀ b, S b → w'.heap[b]? = w.heap[b]?) → CT w' S p t
  lt : ∀ {w : World} {S : Nat → Prop} {p : Nat} {t : TP}, CT w S p t → ∀ b, S b → b < w.heap.size
  new : ∀ w, Calls Tryz.prog 16 #[] w fun e w' => (∃ p S, e = .returned (.pointer (some ⟨p, 0, none⟩)) ∧ CT w' S p TP.new ∧ ∀ b, S b → w.heap.size ≤ b) ∧ Below w.heap.size w w'
  write : ∀ (w : World) (S : Nat → Prop) (p : Nat) (t : TP) (bv : Value) (l : List UInt8), CT w S p t → t.Ok → t.b.length ≤ 100000000 → RdAt w bv l → l.length ≤ 100000 → (∀ g, bv.ownBlock = some g → ¬ S g) → Calls Tryz.prog 52 #[.pointer (some ⟨p, 0, none⟩), bv] w fun e w' =>
    e = .returned (.int .i64 (t.write l).2) ∧ (∃ S' : Nat → Prop, CT w' S' p (t.write l).1 ∧ ∀ b, S' b → S b ∨ w.heap.size ≤ b) ∧ Only S w w'
  sync : ∀ (w : World) (S : Nat → Prop) (p : Nat) (t : TP), CT w S p t → t.Ok → t.b.length ≤ 100000000 → Calls Tryz.prog 53 #[.pointer (some ⟨p, 0, none⟩)] w fun e w' =>
    e = .returned (.int .i64 t.sync.2) ∧ (∃ S' : Nat → Prop, CT w' S' p t.sync.1 ∧ ∀ b, S' b → S b ∨ w.heap.size ≤ b) ∧ Only S w w'
  swap : ∀ (w : World) (S : Nat → Prop) (p : Nat) (t : TP) (bv : Value) (l : List UInt8), CT w S p t → t.Ok → t.b.length ≤ 100000000 → RdAt w bv l → l.length ≤ 100000 → (∀ g, bv.ownBlock = some g → ¬ S g) → Calls Tryz.prog 29 #[.pointer (some ⟨p, 0, none⟩), bv] w fun e w' =>
    e = .returned (.int .i64 (t.swap l).2) ∧ (∃ S' : Nat → Prop, CT w' S' p (t.swap l).1 ∧ ∀ b, S' b → S b ∨ w.heap.size ≤ b) ∧ Only S w w'
  bytes : ∀ (w : World) (S : Nat → Prop) (p : Nat) (t : TP), CT w S p t → t.b.length ≤ 100000000 → Calls Tryz.prog 25 #[.pointer (some ⟨p, 0, none⟩)] w fun e w' =>
    (∃ A c, e = .returned (.slice A t.b.length c) ∧ RdAt w' (.slice A t.b.length c) t.b ∧ ∀ g, (Value.slice A t.b.length c).ownBlock = some g → w.heap.size ≤ g) ∧ Below w.heap.size w w'
theorem TapeW.below {CT : World → (Nat → Prop) → Nat → TP → Prop} (H : TapeW CT) {w w' : World} {S : Nat → Prop} {p : Nat} {t : TP} (h : CT w S p t) (hb : Below w.heap.size w w') : CT w' S p t :=
  H.keep h hb.size fun b hb' => hb.block b (H.lt h b hb')
/-- THE LANDED TAPE -/
theorem tapeW : TapeW CT where
  keep := fun ⟨v, h, hS⟩ hs hb => ⟨v, h.keep hs (hb _ ((hS _).2 (.inl rfl))) fun g hg => hb g ((hS g).2 (.inr hg)), hS⟩
  lt := fun ⟨v, h, hS⟩ b hb => by
    rcases (hS b).1 hb with rfl | hb
    · exact h.lt
    · exact h.rd.lt hb
  new := fun w => by
    go_enter Tryz.func16, Tryz.ntmps16
    go_wp2
    go_ret
    refine ⟨⟨w.heap.size, fun b => b = w.heap.size, rfl, ⟨.slice none 0 0, ⟨heap_alloc_last w _, ⟨none, rfl⟩, RdAt.nil _, fun h => by cases h⟩, fun b => ⟨.inl, fun h => by rcases h with h | h; exact h; cases h⟩⟩, fun b hb => Nat.le_of_eq hb.symm⟩, (Below.refl _ _).alloc (Nat.le_refl _) _⟩
  write := fun w S p t bv l ⟨v, h, hS⟩ ht htl hb hl hf => by
    refine (write_any p v t bv l hl htl w h ht hb.weak fun e => hf p (rdBlock_own e) ((hS p).2 (.inl rfl))).mono ?_
    rintro e w' ⟨rfl, ⟨v', h', hv'⟩, ho⟩
    refine ⟨rfl, ⟨fun b => b = p ∨ v'.ownBlock = some b, ⟨v', h', fun b => Iff.rfl⟩, fun b hb => ?_⟩, ho.mono fun i _ hi => (hS i).2 (.inl hi)⟩
    rcases hb with rfl | hb
    · exact .inl ((hS b).2 (.inl rfl))
    · rcases hv' with rfl | hv'
      · exact .inl ((hS b).2 (.inr hb))
      · exact .inr (hv' b hb)
  sync := fun w S p t ⟨v, h, hS⟩ ht htl => by
    refine (sync_any p v t htl w h ht).mono ?_
    rintro e w' ⟨rfl, h', ho⟩
    exact ⟨rfl, ⟨S, ⟨v, h', hS⟩, fun b hb => .inl hb⟩, ho.mono fun i _ hi => (hS i).2 (.inl hi)⟩
  swap := fun w S p t bv l ⟨v, h, hS⟩ ht htl hb hl hf => by
    refine (swap_any p v t bv l hl htl w h ht hb.weak fun e => hf p (rdBlock_own e) ((hS p).2 (.inl rfl))).mono ?_
    rintro e w' ⟨rfl, ⟨v', h', hv'⟩, ho⟩
    refine ⟨rfl, ⟨fun b => b = p ∨ v'.ownBlock = some b, ⟨v', h', fun b => Iff.rfl⟩, fun b hb => ?_⟩, ho.mono fun i _ hi => (hS i).2 (.inl hi)⟩
    rcases hb with rfl | hb
    · exact .inl ((hS b).2 (.inl rfl))
    · rcases hv' with rfl | hv'
      · exact .inl ((hS b).2 (.inr hb))
      · exact .inr (hv' b hb)
  bytes := fun w S p t ⟨v, h, hS⟩ htl => bytes_any p v t htl w h
end Go.Proofs.YtkbjpgfdmkmbmaaGreatDoor
