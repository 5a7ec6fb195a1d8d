/- Texts merged by program, in build order: RegInv, PutReg8, PutReg1, JsonPut, JsonPutOld, RulePut. -/
import Derived.Test.YtobicmpgfiddhaaDoorBase
import Derived.StillTail
import Derived.Deep.RegionHeld3
import Derived.Test.YtobicmpgfiddhaaDoorJsonRows
import Derived.Deep.DeepCutAuto
import Derived.Deep.DrawnRows
import Derived.Test.YtobicmpgfiddhaaDoorPutSet
import Derived.Test.YtobicmpgfiddhaaDoorRuleVals
namespace Go.Proofs.YtobicmpgfiddhaaDoor
open Go.RowKit

/-- what is listed is closed under what it waits for -/
structure Closed (md : Region.Mode) (ops : Array Oper) (listed : Array Bool) : Prop where
  size : listed.size = ops.size
  dep : ∀ j oj, ops[j]? = some oj → listed.getD j false = true → ∀ e ∈ oj.after, Region.binds md e = true → listed.getD e.on false = true
theorem Closed.on {md : Region.Mode} {ops : Array Oper} {listed : Array Bool} (h : Closed md ops listed) {j i : Nat} (hw : Region.waitsFor md ops j i = true) (hj : listed.getD j false = true) : listed.getD i false = true := by
  obtain ⟨oj, hoj, e, he, hb, rfl⟩ := Region.waitsFor_spec hw
  exact h.dep j oj hoj hj e he hb
/-- every operation waits for such alone as stand ahead of it -/
def dagB (md : Region.Mode) (ops : Array Oper) : Bool := (List.range ops.size).all fun j => match ops[j]? with
  | some o => o.after.all fun e => !Region.binds md e || decide (e.on < j)
  | none => true
theorem dagB_spec {md : Region.Mode} {ops : Array Oper} (h : dagB md ops = true) {j : Nat} {o : Oper} (ho : ops[j]? = some o) {e : Edge} (he : e ∈ o.after) (hb : Region.binds md e = true) : e.on < j := by
  have hj : j < ops.size := (Array.getElem?_eq_some_iff.1 ho).1
  have h1 := List.all_eq_true.1 h j (List.mem_range.2 hj)
  rw [ho] at h1
  have h2 := Array.all_eq_true'.1 h1 e he
  simp [hb] at h2
  exact h2
theorem countP_lt {p q : Nat → Bool} : ∀ (l : List Nat), (∀ x, q x = true → p x = true) → ∀ i ∈ l, p i = true → q i = false → l.countP q < l.countP p
  | [], _, i, hi, _, _ => by cases hi
  | x :: r, h, i, hi, hp, hq => by
    have hle : r.countP q ≤ r.countP p := List.countP_mono_left fun y _ hy => h y hy
    rcases List.mem_cons.1 hi with rfl | hi
    · rw [List.countP_cons_of_pos hp, List.countP_cons_of_neg (by rw [hq]; decide)]; omega
    · have ih := countP_lt r h i hi hp hq
      rw [List.countP_cons, List.countP_cons]
      by_cases hx : q x = true
      · rw [if_pos hx, if_pos (h x hx)]; omega
      · rw [if_neg hx]; omega
def unlisted (n : Nat) (listed : Array Bool) : Nat := (List.range n).countP fun i => !listed.getD i true
section
variable {P : Program} {md : Region.Mode} {ops : Array Oper} {Q : Exit → Act → World → Prop}
theorem ready_all (hd : dagB md ops = true) {listed : Array Bool} (hs : listed.size = ops.size) (hr : Region.ready md ops listed = []) : ∀ i, i < ops.size → listed.getD i false = true := by
  intro i
  induction i using Nat.strongRecOn with
  | _ i ih =>
    intro hi
    cases hl : listed.getD i false with
    | true => rfl
    | false =>
      have h1 := getD_in (by omega) hl
      have : i ∈ Region.ready md ops listed := mem_ready.2 ⟨h1, ops[i], Array.getElem?_eq_getElem hi, fun e he hb => by
        have hlt := dagB_spec hd (Array.getElem?_eq_getElem hi) he hb
        exact ih e.on hlt (by omega)⟩
      rw [hr] at this; cases this
theorem wpAny_inv (hd : dagB md ops = true) (I : Array Bool → Act → World → Prop)
    (hstep : ∀ listed a w i, Closed md ops listed → i ∈ Region.ready md ops listed → I listed a w → wpOp P ops Q i (I (listed.setIfInBounds i true)) a w)
    (hend : ∀ listed a w, (∀ i, i < ops.size → listed.getD i false = true) → I listed a w → Q .normal a w) :
    ∀ (fuel : Nat) (listed : Array Bool) (a : Act) (w : World), Closed md ops listed → unlisted ops.size listed ≤ fuel → I listed a w → wpAny P md ops Q fuel listed a w
  | 0, listed, a, w, hc, hf, hI => by
    have hr : Region.ready md ops listed = [] := by
      rcases hr : Region.ready md ops listed with _ | ⟨i, r⟩
      · rfl
      · have hi : i ∈ Region.ready md ops listed := by rw [hr]; exact List.mem_cons_self ..
        obtain ⟨h1, o, ho, _⟩ := mem_ready.1 hi
        have hil := (Array.getElem?_eq_some_iff.1 ho).1
        have : 0 < unlisted ops.size listed := List.countP_pos_iff.2 ⟨i, List.mem_range.2 hil, by rw [h1]; rfl⟩
        omega
    exact ⟨hr, hend listed a w (ready_all hd hc.size hr) hI⟩
  | fuel + 1, listed, a, w, hc, hf, hI => by
    refine ⟨fun hr => hend listed a w (ready_all hd hc.size hr) hI, fun i hi => ?_⟩
    obtain ⟨h1, o, ho, hall⟩ := mem_ready.1 hi
    have hil := (Array.getElem?_eq_some_iff.1 ho).1
    refine wpOp_mono (fun a' w' h' => wpAny_inv hd I hstep hend fuel _ a' w' ?_ ?_ h') (hstep listed a w i hc hi hI)
    · refine ⟨by simp [hc.size], fun j oj hj hl e he hb => ?_⟩
      by_cases hij : i = j
      · subst hij
        have : oj = o := Option.some.inj (hj.symm.trans ho)
        subst this
        exact getD_set_true (hall e he hb)
      · rw [getD_set_ne false hij] at hl
        exact getD_set_true (hc.dep j oj hj hl e he hb)
    · have hlt : unlisted ops.size (listed.setIfInBounds i true) < unlisted ops.size listed := by
        refine countP_lt _ (fun x hx => ?_) i (List.mem_range.2 hil) (by rw [h1]; rfl) ?_
        · by_cases hij : i = x
          · subst hij
            have : (listed.setIfInBounds i true).getD i true = true := by simp [hc.size, hil]
            rw [this] at hx; cases hx
          · rwa [getD_set_ne true hij] at hx
        · have : (listed.setIfInBounds i true).getD i true = true := by simp [hc.size, hil]
          rw [this]; rfl
      omega
/-- THE REGION, by an invariant -/
theorem wp_region_inv {id : Nat} {a : Act} {w : World} (hm : P.follows .mixedOrders = true) (hd : dagB .any ops = true) (I : Array Bool → Act → World → Prop) (h0 : I (Array.replicate ops.size false) a w.drew)
    (hstep : ∀ listed a w i, Closed .any ops listed → i ∈ Region.ready .any ops listed → I listed a w → wpOp P ops Q i (I (listed.setIfInBounds i true)) a w)
    (hend : ∀ listed a w, (∀ i, i < ops.size → listed.getD i false = true) → I listed a w → Q .normal a w) : (Code.region id ops true).wp P Q a w :=
  wp_region_any hm (wpAny_inv hd I hstep hend ops.size _ a w.drew ⟨by simp, fun j oj hj hl => by rw [getD_replicate_false] at hl; cases hl⟩ (Nat.le_trans (List.countP_le_length ..) (by simp)) h0)
/-- the same, the invariant told of the state that the region begins with -/
theorem wp_region_invA {id : Nat} {a : Act} {w : World} (J : Act → Array Bool → Act → World → Prop) (hm : P.follows .mixedOrders = true) (hd : dagB .any ops = true) (h0 : J a (Array.replicate ops.size false) a w.drew)
    (hstep : ∀ listed a' w' i, Closed .any ops listed → i ∈ Region.ready .any ops listed → J a listed a' w' → wpOp P ops Q i (J a (listed.setIfInBounds i true)) a' w')
    (hend : ∀ listed a' w', (∀ i, i < ops.size → listed.getD i false = true) → J a listed a' w' → Q .normal a' w') : (Code.region id ops true).wp P Q a w :=
  wp_region_inv hm hd (J a) h0 hstep hend
theorem listed_now {listed : Array Bool} {i : Nat} (hc : Closed md ops listed) (hi : i ∈ Region.ready md ops listed) : (listed.setIfInBounds i true).getD i false = true := by
  obtain ⟨_, o, ho, _⟩ := mem_ready.1 hi
  have hil := (Array.getElem?_eq_some_iff.1 ho).1
  simp [hc.size, hil]
theorem listed_iff (listed : Array Bool) (i : Nat) : ∀ j, j ≠ i → ((listed.setIfInBounds i true).getD j false = true ↔ listed.getD j false = true) := fun j hj => ⟨fun h => by rwa [getD_set_ne false (Ne.symm hj)] at h, getD_set_true⟩
/-- a step, the operation by what is told of it -/
theorem wpOp_at {i : Nat} {K : Act → World → Prop} {a : Act} {w : World} (F : Oper → Prop) (h : ∃ o, ops[i]? = some o ∧ F o)
    (k : ∀ o, F o → ∀ K' : Act → World → Prop, (∀ a w, K a w → K' a w) → if Region.wanted o (yielded ops a.tmps) = true then Oper.wp P o a w K' Q else K' (a.put o.dst undef) w) : wpOp P ops Q i K a w := by
  obtain ⟨o, ho, hF⟩ := h
  exact wpOp_step ho (k o hF)
/-- what is listed behind a step was listed, or is the step's own -/
theorem listed_was {listed : Array Bool} {i j : Nat} (hij : i ≠ j) (h : (listed.setIfInBounds i true).getD j false = true) : listed.getD j false = true := by rwa [getD_set_ne false hij] at h
theorem listed_not {listed : Array Bool} {i j : Nat} (h : ¬ (listed.setIfInBounds i true).getD j false = true) : ¬ listed.getD j false = true := fun hj => h (getD_set_true hj)
theorem ready_not {listed : Array Bool} {i : Nat} (h : i ∈ Region.ready md ops listed) : ¬ listed.getD i false = true := by
  have h1 := getD_both (mem_ready.1 h).1
  rw [h1]; decide
theorem ready_on {listed : Array Bool} {i k : Nat} (h : i ∈ Region.ready md ops listed) (hw : Region.waitsFor md ops i k = true) : listed.getD k false = true := by
  obtain ⟨_, o, ho, hall⟩ := mem_ready.1 h
  obtain ⟨oj, hoj, e, he, hb, rfl⟩ := Region.waitsFor_spec hw
  have : oj = o := Option.some.inj (hoj.symm.trans ho)
  subst this
  exact hall e he hb
theorem ready_lt {listed : Array Bool} {i : Nat} (h : i ∈ Region.ready md ops listed) : i < ops.size := by
  obtain ⟨_, o, ho, _⟩ := mem_ready.1 h
  exact (Array.getElem?_eq_some_iff.1 ho).1
end
end Go.Proofs.YtobicmpgfiddhaaDoor
namespace Go.Proofs.YtobicmpgfiddhaaDoor
open Go.RowKit
set_option linter.unusedVariables false
set_option linter.unusedSimpArgs false

def acts8 (a : Act) (u38 u39 u40 u41 u42 u43 u44 u45 u46 u47 u48 u49 : Value) : Act := { a with tmps := ((((((((((((a.tmps).setIfInBounds 38 u38).setIfInBounds 39 u39).setIfInBounds 40 u40).setIfInBounds 41 u41).setIfInBounds 42 u42).setIfInBounds 43 u43).setIfInBounds 44 u44).setIfInBounds 45 u45).setIfInBounds 46 u46).setIfInBounds 47 u47).setIfInBounds 48 u48).setIfInBounds 49 u49 }
/-- what holds, whatever has come up: L says what has -/
structure R8 (B p : Nat) (W3 : World) (lv kv : Value) (nl : Nat) (ks : List (List UInt8)) (xs : List Value) (key : List UInt8) (x0 x1 x2 x3 x4 : Value) (L : Nat → Prop) (u38 u39 u40 u41 u42 u43 u44 u45 u46 u47 u48 u49 : Value) (wr : World) : Prop where
  f0 : L 0 → u38 = .pointer (some ⟨p, 4, none⟩)
  f1 : L 1 → u39 = kv
  f2 : L 2 → u40 = .string ⟨key.toArray⟩
  f3 : L 3 → ¬ L 4 → ∃ g, u41 = .slice (some ⟨g, 0, none⟩) 1 1 ∧ wr.heap[g]? = some (.cells #[.string ⟨key.toArray⟩] 9 (0, 0))
  f4 : L 4 → wr.ownsRow B 9 1 u42 (ks.length + 1) (ksCells ks ++ [.string ⟨key.toArray⟩])
  k4 : ¬ L 4 → wr.ownsRow B 9 1 kv ks.length (ksCells ks)
  f5 : L 5 → u43 = .pointer (some ⟨p, 3, none⟩)
  f6 : L 6 → u44 = lv
  f7 : L 7 → u45 = .agg #[x0, x1, x2, x3, x4]
  f8 : L 8 → ¬ L 9 → ∃ g, u46 = .slice (some ⟨g, 0, none⟩) 1 1 ∧ wr.heap[g]? = some (.cells #[x0, x1, x2, x3, x4] 25 (0, 0))
  f9 : L 9 → wr.ownsRow B 25 5 u47 (nl + 1) (xs ++ [x0, x1, x2, x3, x4]) ∧ u47.ownBlock ≠ some p
  k9 : ¬ L 9 → wr.ownsRow B 25 5 lv nl xs
  f10 : L 10 → u48 = .pointer (some ⟨p, 4, none⟩)
  f12 : L 12 → u49 = .pointer (some ⟨p, 3, none⟩)
  var : ∃ lv' kv', wr.heap[p]? = some (.cells #[.int .i64 6, .int .i64 0, .string ⟨#[]⟩, lv', kv'] 25 (0, 0)) ∧ (¬ L 11 → kv' = kv) ∧ (L 11 → kv' = u42) ∧ (¬ L 13 → lv' = lv) ∧ (L 13 → lv' = u47)
  low : Below B W3 wr

theorem R8.s0 {B p : Nat} {W3 : World} {lv kv : Value} {nl : Nat} {ks : List (List UInt8)} {xs : List Value} {key : List UInt8} {x0 x1 x2 x3 x4 : Value} {L L' : Nat → Prop} {u38 u39 u40 u41 u42 u43 u44 u45 u46 u47 u48 u49 : Value} {wr : World} (h : R8 B p W3 lv kv nl ks xs key x0 x1 x2 x3 x4 L u38 u39 u40 u41 u42 u43 u44 u45 u46 u47 u48 u49 wr) (hL : ∀ j, j ≠ 0 → (L' j ↔ L j)) (hi : L' 0) : R8 B p W3 lv kv nl ks xs key x0 x1 x2 x3 x4 L' (.pointer (some ⟨p, 4, none⟩)) u39 u40 u41 u42 u43 u44 u45 u46 u47 u48 u49 wr := by
  refine ⟨?_, ?_, ?_, ?_, ?_, ?_, ?_, ?_, ?_, ?_, ?_, ?_, ?_, ?_, ?_, ?_⟩
  · exact fun _ => rfl
  · exact fun p1 => (h.f1 ((hL 1 (by decide)).1 p1))
  · exact fun p2 => (h.f2 ((hL 2 (by decide)).1 p2))
  · exact fun p3 n4 => (h.f3 ((hL 3 (by decide)).1 p3) (fun x => n4 ((hL 4 (by decide)).2 x)))
  · exact fun p4 => (h.f4 ((hL 4 (by decide)).1 p4))
  · exact fun n4 => (h.k4 (fun x => n4 ((hL 4 (by decide)).2 x)))
  · exact fun p5 => (h.f5 ((hL 5 (by decide)).1 p5))
  · exact fun p6 => (h.f6 ((hL 6 (by decide)).1 p6))
  · exact fun p7 => (h.f7 ((hL 7 (by decide)).1 p7))
  · exact fun p8 n9 => (h.f8 ((hL 8 (by decide)).1 p8) (fun x => n9 ((hL 9 (by decide)).2 x)))
  · exact fun p9 => (h.f9 ((hL 9 (by decide)).1 p9))
  · exact fun n9 => (h.k9 (fun x => n9 ((hL 9 (by decide)).2 x)))
  · exact fun p10 => (h.f10 ((hL 10 (by decide)).1 p10))
  · exact fun p12 => (h.f12 ((hL 12 (by decide)).1 p12))
  · exact (let ⟨lv', kv', hv, e1, e2, e3, e4⟩ := h.var; ⟨lv', kv', hv, fun n => e1 (fun x => n ((hL 11 (by decide)).2 x)), fun n => e2 ((hL 11 (by decide)).1 n), fun n => e3 (fun x => n ((hL 13 (by decide)).2 x)), fun n => e4 ((hL 13 (by decide)).1 n)⟩)
  · exact h.low
theorem R8.s1 {B p : Nat} {W3 : World} {lv kv : Value} {nl : Nat} {ks : List (List UInt8)} {xs : List Value} {key : List UInt8} {x0 x1 x2 x3 x4 : Value} {L L' : Nat → Prop} {u38 u39 u40 u41 u42 u43 u44 u45 u46 u47 u48 u49 : Value} {wr : World} (h : R8 B p W3 lv kv nl ks xs key x0 x1 x2 x3 x4 L u38 u39 u40 u41 u42 u43 u44 u45 u46 u47 u48 u49 wr) (hL : ∀ j, j ≠ 1 → (L' j ↔ L j)) (hi : L' 1) : R8 B p W3 lv kv nl ks xs key x0 x1 x2 x3 x4 L' u38 (kv) u40 u41 u42 u43 u44 u45 u46 u47 u48 u49 wr := by
  refine ⟨?_, ?_, ?_, ?_, ?_, ?_, ?_, ?_, ?_, ?_, ?_, ?_, ?_, ?_, ?_, ?_⟩
  · exact fun p0 => (h.f0 ((hL 0 (by decide)).1 p0))
  · exact fun _ => rfl
  · exact fun p2 => (h.f2 ((hL 2 (by decide)).1 p2))
  · exact fun p3 n4 => (h.f3 ((hL 3 (by decide)).1 p3) (fun x => n4 ((hL 4 (by decide)).2 x)))
  · exact fun p4 => (h.f4 ((hL 4 (by decide)).1 p4))
  · exact fun n4 => (h.k4 (fun x => n4 ((hL 4 (by decide)).2 x)))
  · exact fun p5 => (h.f5 ((hL 5 (by decide)).1 p5))
  · exact fun p6 => (h.f6 ((hL 6 (by decide)).1 p6))
  · exact fun p7 => (h.f7 ((hL 7 (by decide)).1 p7))
  · exact fun p8 n9 => (h.f8 ((hL 8 (by decide)).1 p8) (fun x => n9 ((hL 9 (by decide)).2 x)))
  · exact fun p9 => (h.f9 ((hL 9 (by decide)).1 p9))
  · exact fun n9 => (h.k9 (fun x => n9 ((hL 9 (by decide)).2 x)))
  · exact fun p10 => (h.f10 ((hL 10 (by decide)).1 p10))
  · exact fun p12 => (h.f12 ((hL 12 (by decide)).1 p12))
  · exact (let ⟨lv', kv', hv, e1, e2, e3, e4⟩ := h.var; ⟨lv', kv', hv, fun n => e1 (fun x => n ((hL 11 (by decide)).2 x)), fun n => e2 ((hL 11 (by decide)).1 n), fun n => e3 (fun x => n ((hL 13 (by decide)).2 x)), fun n => e4 ((hL 13 (by decide)).1 n)⟩)
  · exact h.low
theorem R8.s2 {B p : Nat} {W3 : World} {lv kv : Value} {nl : Nat} {ks : List (List UInt8)} {xs : List Value} {key : List UInt8} {x0 x1 x2 x3 x4 : Value} {L L' : Nat → Prop} {u38 u39 u40 u41 u42 u43 u44 u45 u46 u47 u48 u49 : Value} {wr : World} (h : R8 B p W3 lv kv nl ks xs key x0 x1 x2 x3 x4 L u38 u39 u40 u41 u42 u43 u44 u45 u46 u47 u48 u49 wr) (hL : ∀ j, j ≠ 2 → (L' j ↔ L j)) (hi : L' 2) : R8 B p W3 lv kv nl ks xs key x0 x1 x2 x3 x4 L' u38 u39 (.string ⟨key.toArray⟩) u41 u42 u43 u44 u45 u46 u47 u48 u49 wr := by
  refine ⟨?_, ?_, ?_, ?_, ?_, ?_, ?_, ?_, ?_, ?_, ?_, ?_, ?_, ?_, ?_, ?_⟩
  · exact fun p0 => (h.f0 ((hL 0 (by decide)).1 p0))
  · exact fun p1 => (h.f1 ((hL 1 (by decide)).1 p1))
  · exact fun _ => rfl
  · exact fun p3 n4 => (h.f3 ((hL 3 (by decide)).1 p3) (fun x => n4 ((hL 4 (by decide)).2 x)))
  · exact fun p4 => (h.f4 ((hL 4 (by decide)).1 p4))
  · exact fun n4 => (h.k4 (fun x => n4 ((hL 4 (by decide)).2 x)))
  · exact fun p5 => (h.f5 ((hL 5 (by decide)).1 p5))
  · exact fun p6 => (h.f6 ((hL 6 (by decide)).1 p6))
  · exact fun p7 => (h.f7 ((hL 7 (by decide)).1 p7))
  · exact fun p8 n9 => (h.f8 ((hL 8 (by decide)).1 p8) (fun x => n9 ((hL 9 (by decide)).2 x)))
  · exact fun p9 => (h.f9 ((hL 9 (by decide)).1 p9))
  · exact fun n9 => (h.k9 (fun x => n9 ((hL 9 (by decide)).2 x)))
  · exact fun p10 => (h.f10 ((hL 10 (by decide)).1 p10))
  · exact fun p12 => (h.f12 ((hL 12 (by decide)).1 p12))
  · exact (let ⟨lv', kv', hv, e1, e2, e3, e4⟩ := h.var; ⟨lv', kv', hv, fun n => e1 (fun x => n ((hL 11 (by decide)).2 x)), fun n => e2 ((hL 11 (by decide)).1 n), fun n => e3 (fun x => n ((hL 13 (by decide)).2 x)), fun n => e4 ((hL 13 (by decide)).1 n)⟩)
  · exact h.low
theorem R8.s5 {B p : Nat} {W3 : World} {lv kv : Value} {nl : Nat} {ks : List (List UInt8)} {xs : List Value} {key : List UInt8} {x0 x1 x2 x3 x4 : Value} {L L' : Nat → Prop} {u38 u39 u40 u41 u42 u43 u44 u45 u46 u47 u48 u49 : Value} {wr : World} (h : R8 B p W3 lv kv nl ks xs key x0 x1 x2 x3 x4 L u38 u39 u40 u41 u42 u43 u44 u45 u46 u47 u48 u49 wr) (hL : ∀ j, j ≠ 5 → (L' j ↔ L j)) (hi : L' 5) : R8 B p W3 lv kv nl ks xs key x0 x1 x2 x3 x4 L' u38 u39 u40 u41 u42 (.pointer (some ⟨p, 3, none⟩)) u44 u45 u46 u47 u48 u49 wr := by
  refine ⟨?_, ?_, ?_, ?_, ?_, ?_, ?_, ?_, ?_, ?_, ?_, ?_, ?_, ?_, ?_, ?_⟩
  · exact fun p0 => (h.f0 ((hL 0 (by decide)).1 p0))
  · exact fun p1 => (h.f1 ((hL 1 (by decide)).1 p1))
  · exact fun p2 => (h.f2 ((hL 2 (by decide)).1 p2))
  · exact fun p3 n4 => (h.f3 ((hL 3 (by decide)).1 p3) (fun x => n4 ((hL 4 (by decide)).2 x)))
  · exact fun p4 => (h.f4 ((hL 4 (by decide)).1 p4))
  · exact fun n4 => (h.k4 (fun x => n4 ((hL 4 (by decide)).2 x)))
  · exact fun _ => rfl
  · exact fun p6 => (h.f6 ((hL 6 (by decide)).1 p6))
  · exact fun p7 => (h.f7 ((hL 7 (by decide)).1 p7))
  · exact fun p8 n9 => (h.f8 ((hL 8 (by decide)).1 p8) (fun x => n9 ((hL 9 (by decide)).2 x)))
  · exact fun p9 => (h.f9 ((hL 9 (by decide)).1 p9))
  · exact fun n9 => (h.k9 (fun x => n9 ((hL 9 (by decide)).2 x)))
  · exact fun p10 => (h.f10 ((hL 10 (by decide)).1 p10))
  · exact fun p12 => (h.f12 ((hL 12 (by decide)).1 p12))
  · exact (let ⟨lv', kv', hv, e1, e2, e3, e4⟩ := h.var; ⟨lv', kv', hv, fun n => e1 (fun x => n ((hL 11 (by decide)).2 x)), fun n => e2 ((hL 11 (by decide)).1 n), fun n => e3 (fun x => n ((hL 13 (by decide)).2 x)), fun n => e4 ((hL 13 (by decide)).1 n)⟩)
  · exact h.low
theorem R8.s6 {B p : Nat} {W3 : World} {lv kv : Value} {nl : Nat} {ks : List (List UInt8)} {xs : List Value} {key : List UInt8} {x0 x1 x2 x3 x4 : Value} {L L' : Nat → Prop} {u38 u39 u40 u41 u42 u43 u44 u45 u46 u47 u48 u49 : Value} {wr : World} (h : R8 B p W3 lv kv nl ks xs key x0 x1 x2 x3 x4 L u38 u39 u40 u41 u42 u43 u44 u45 u46 u47 u48 u49 wr) (hL : ∀ j, j ≠ 6 → (L' j ↔ L j)) (hi : L' 6) : R8 B p W3 lv kv nl ks xs key x0 x1 x2 x3 x4 L' u38 u39 u40 u41 u42 u43 (lv) u45 u46 u47 u48 u49 wr := by
  refine ⟨?_, ?_, ?_, ?_, ?_, ?_, ?_, ?_, ?_, ?_, ?_, ?_, ?_, ?_, ?_, ?_⟩
  · exact fun p0 => (h.f0 ((hL 0 (by decide)).1 p0))
  · exact fun p1 => (h.f1 ((hL 1 (by decide)).1 p1))
  · exact fun p2 => (h.f2 ((hL 2 (by decide)).1 p2))
  · exact fun p3 n4 => (h.f3 ((hL 3 (by decide)).1 p3) (fun x => n4 ((hL 4 (by decide)).2 x)))
  · exact fun p4 => (h.f4 ((hL 4 (by decide)).1 p4))
  · exact fun n4 => (h.k4 (fun x => n4 ((hL 4 (by decide)).2 x)))
  · exact fun p5 => (h.f5 ((hL 5 (by decide)).1 p5))
  · exact fun _ => rfl
  · exact fun p7 => (h.f7 ((hL 7 (by decide)).1 p7))
  · exact fun p8 n9 => (h.f8 ((hL 8 (by decide)).1 p8) (fun x => n9 ((hL 9 (by decide)).2 x)))
  · exact fun p9 => (h.f9 ((hL 9 (by decide)).1 p9))
  · exact fun n9 => (h.k9 (fun x => n9 ((hL 9 (by decide)).2 x)))
  · exact fun p10 => (h.f10 ((hL 10 (by decide)).1 p10))
  · exact fun p12 => (h.f12 ((hL 12 (by decide)).1 p12))
  · exact (let ⟨lv', kv', hv, e1, e2, e3, e4⟩ := h.var; ⟨lv', kv', hv, fun n => e1 (fun x => n ((hL 11 (by decide)).2 x)), fun n => e2 ((hL 11 (by decide)).1 n), fun n => e3 (fun x => n ((hL 13 (by decide)).2 x)), fun n => e4 ((hL 13 (by decide)).1 n)⟩)
  · exact h.low
theorem R8.s7 {B p : Nat} {W3 : World} {lv kv : Value} {nl : Nat} {ks : List (List UInt8)} {xs : List Value} {key : List UInt8} {x0 x1 x2 x3 x4 : Value} {L L' : Nat → Prop} {u38 u39 u40 u41 u42 u43 u44 u45 u46 u47 u48 u49 : Value} {wr : World} (h : R8 B p W3 lv kv nl ks xs key x0 x1 x2 x3 x4 L u38 u39 u40 u41 u42 u43 u44 u45 u46 u47 u48 u49 wr) (hL : ∀ j, j ≠ 7 → (L' j ↔ L j)) (hi : L' 7) : R8 B p W3 lv kv nl ks xs key x0 x1 x2 x3 x4 L' u38 u39 u40 u41 u42 u43 u44 (.agg #[x0, x1, x2, x3, x4]) u46 u47 u48 u49 wr := by
  refine ⟨?_, ?_, ?_, ?_, ?_, ?_, ?_, ?_, ?_, ?_, ?_, ?_, ?_, ?_, ?_, ?_⟩
  · exact fun p0 => (h.f0 ((hL 0 (by decide)).1 p0))
  · exact fun p1 => (h.f1 ((hL 1 (by decide)).1 p1))
  · exact fun p2 => (h.f2 ((hL 2 (by decide)).1 p2))
  · exact fun p3 n4 => (h.f3 ((hL 3 (by decide)).1 p3) (fun x => n4 ((hL 4 (by decide)).2 x)))
  · exact fun p4 => (h.f4 ((hL 4 (by decide)).1 p4))
  · exact fun n4 => (h.k4 (fun x => n4 ((hL 4 (by decide)).2 x)))
  · exact fun p5 => (h.f5 ((hL 5 (by decide)).1 p5))
  · exact fun p6 => (h.f6 ((hL 6 (by decide)).1 p6))
  · exact fun _ => rfl
  · exact fun p8 n9 => (h.f8 ((hL 8 (by decide)).1 p8) (fun x => n9 ((hL 9 (by decide)).2 x)))
  · exact fun p9 => (h.f9 ((hL 9 (by decide)).1 p9))
  · exact fun n9 => (h.k9 (fun x => n9 ((hL 9 (by decide)).2 x)))
  · exact fun p10 => (h.f10 ((hL 10 (by decide)).1 p10))
  · exact fun p12 => (h.f12 ((hL 12 (by decide)).1 p12))
  · exact (let ⟨lv', kv', hv, e1, e2, e3, e4⟩ := h.var; ⟨lv', kv', hv, fun n => e1 (fun x => n ((hL 11 (by decide)).2 x)), fun n => e2 ((hL 11 (by decide)).1 n), fun n => e3 (fun x => n ((hL 13 (by decide)).2 x)), fun n => e4 ((hL 13 (by decide)).1 n)⟩)
  · exact h.low
theorem R8.s10 {B p : Nat} {W3 : World} {lv kv : Value} {nl : Nat} {ks : List (List UInt8)} {xs : List Value} {key : List UInt8} {x0 x1 x2 x3 x4 : Value} {L L' : Nat → Prop} {u38 u39 u40 u41 u42 u43 u44 u45 u46 u47 u48 u49 : Value} {wr : World} (h : R8 B p W3 lv kv nl ks xs key x0 x1 x2 x3 x4 L u38 u39 u40 u41 u42 u43 u44 u45 u46 u47 u48 u49 wr) (hL : ∀ j, j ≠ 10 → (L' j ↔ L j)) (hi : L' 10) : R8 B p W3 lv kv nl ks xs key x0 x1 x2 x3 x4 L' u38 u39 u40 u41 u42 u43 u44 u45 u46 u47 (.pointer (some ⟨p, 4, none⟩)) u49 wr := by
  refine ⟨?_, ?_, ?_, ?_, ?_, ?_, ?_, ?_, ?_, ?_, ?_, ?_, ?_, ?_, ?_, ?_⟩
  · exact fun p0 => (h.f0 ((hL 0 (by decide)).1 p0))
  · exact fun p1 => (h.f1 ((hL 1 (by decide)).1 p1))
  · exact fun p2 => (h.f2 ((hL 2 (by decide)).1 p2))
  · exact fun p3 n4 => (h.f3 ((hL 3 (by decide)).1 p3) (fun x => n4 ((hL 4 (by decide)).2 x)))
  · exact fun p4 => (h.f4 ((hL 4 (by decide)).1 p4))
  · exact fun n4 => (h.k4 (fun x => n4 ((hL 4 (by decide)).2 x)))
  · exact fun p5 => (h.f5 ((hL 5 (by decide)).1 p5))
  · exact fun p6 => (h.f6 ((hL 6 (by decide)).1 p6))
  · exact fun p7 => (h.f7 ((hL 7 (by decide)).1 p7))
  · exact fun p8 n9 => (h.f8 ((hL 8 (by decide)).1 p8) (fun x => n9 ((hL 9 (by decide)).2 x)))
  · exact fun p9 => (h.f9 ((hL 9 (by decide)).1 p9))
  · exact fun n9 => (h.k9 (fun x => n9 ((hL 9 (by decide)).2 x)))
  · exact fun _ => rfl
  · exact fun p12 => (h.f12 ((hL 12 (by decide)).1 p12))
  · exact (let ⟨lv', kv', hv, e1, e2, e3, e4⟩ := h.var; ⟨lv', kv', hv, fun n => e1 (fun x => n ((hL 11 (by decide)).2 x)), fun n => e2 ((hL 11 (by decide)).1 n), fun n => e3 (fun x => n ((hL 13 (by decide)).2 x)), fun n => e4 ((hL 13 (by decide)).1 n)⟩)
  · exact h.low
theorem R8.s12 {B p : Nat} {W3 : World} {lv kv : Value} {nl : Nat} {ks : List (List UInt8)} {xs : List Value} {key : List UInt8} {x0 x1 x2 x3 x4 : Value} {L L' : Nat → Prop} {u38 u39 u40 u41 u42 u43 u44 u45 u46 u47 u48 u49 : Value} {wr : World} (h : R8 B p W3 lv kv nl ks xs key x0 x1 x2 x3 x4 L u38 u39 u40 u41 u42 u43 u44 u45 u46 u47 u48 u49 wr) (hL : ∀ j, j ≠ 12 → (L' j ↔ L j)) (hi : L' 12) : R8 B p W3 lv kv nl ks xs key x0 x1 x2 x3 x4 L' u38 u39 u40 u41 u42 u43 u44 u45 u46 u47 u48 (.pointer (some ⟨p, 3, none⟩)) wr := by
  refine ⟨?_, ?_, ?_, ?_, ?_, ?_, ?_, ?_, ?_, ?_, ?_, ?_, ?_, ?_, ?_, ?_⟩
  · exact fun p0 => (h.f0 ((hL 0 (by decide)).1 p0))
  · exact fun p1 => (h.f1 ((hL 1 (by decide)).1 p1))
  · exact fun p2 => (h.f2 ((hL 2 (by decide)).1 p2))
  · exact fun p3 n4 => (h.f3 ((hL 3 (by decide)).1 p3) (fun x => n4 ((hL 4 (by decide)).2 x)))
  · exact fun p4 => (h.f4 ((hL 4 (by decide)).1 p4))
  · exact fun n4 => (h.k4 (fun x => n4 ((hL 4 (by decide)).2 x)))
  · exact fun p5 => (h.f5 ((hL 5 (by decide)).1 p5))
  · exact fun p6 => (h.f6 ((hL 6 (by decide)).1 p6))
  · exact fun p7 => (h.f7 ((hL 7 (by decide)).1 p7))
  · exact fun p8 n9 => (h.f8 ((hL 8 (by decide)).1 p8) (fun x => n9 ((hL 9 (by decide)).2 x)))
  · exact fun p9 => (h.f9 ((hL 9 (by decide)).1 p9))
  · exact fun n9 => (h.k9 (fun x => n9 ((hL 9 (by decide)).2 x)))
  · exact fun p10 => (h.f10 ((hL 10 (by decide)).1 p10))
  · exact fun _ => rfl
  · exact (let ⟨lv', kv', hv, e1, e2, e3, e4⟩ := h.var; ⟨lv', kv', hv, fun n => e1 (fun x => n ((hL 11 (by decide)).2 x)), fun n => e2 ((hL 11 (by decide)).1 n), fun n => e3 (fun x => n ((hL 13 (by decide)).2 x)), fun n => e4 ((hL 13 (by decide)).1 n)⟩)
  · exact h.low
theorem R8.s3 {B p : Nat} {W3 : World} {lv kv : Value} {nl : Nat} {ks : List (List UInt8)} {xs : List Value} {key : List UInt8} {x0 x1 x2 x3 x4 : Value} {L L' : Nat → Prop} {u38 u39 u40 u41 u42 u43 u44 u45 u46 u47 u48 u49 : Value} {wr : World} (h : R8 B p W3 lv kv nl ks xs key x0 x1 x2 x3 x4 L u38 u39 u40 u41 u42 u43 u44 u45 u46 u47 u48 u49 wr) (hL : ∀ j, j ≠ 3 → (L' j ↔ L j)) (hi : L' 3) (hB : B ≤ wr.heap.size) : R8 B p W3 lv kv nl ks xs key x0 x1 x2 x3 x4 L' u38 u39 u40 (.slice (some ⟨wr.heap.size, 0, none⟩) 1 1) u42 u43 u44 u45 u46 u47 u48 u49 (wr.alloc (.cells #[.string ⟨key.toArray⟩] 9)) := by
  refine ⟨?_, ?_, ?_, ?_, ?_, ?_, ?_, ?_, ?_, ?_, ?_, ?_, ?_, ?_, ?_, ?_⟩
  · exact fun p0 => (h.f0 ((hL 0 (by decide)).1 p0))
  · exact fun p1 => (h.f1 ((hL 1 (by decide)).1 p1))
  · exact fun p2 => (h.f2 ((hL 2 (by decide)).1 p2))
  · exact fun _ _ => ⟨_, rfl, heap_alloc_last wr _⟩
  · exact fun p4 => World.ownsRow.alloc (h.f4 ((hL 4 (by decide)).1 p4)) _
  · exact fun n4 => World.ownsRow.alloc (h.k4 (fun x => n4 ((hL 4 (by decide)).2 x))) _
  · exact fun p5 => (h.f5 ((hL 5 (by decide)).1 p5))
  · exact fun p6 => (h.f6 ((hL 6 (by decide)).1 p6))
  · exact fun p7 => (h.f7 ((hL 7 (by decide)).1 p7))
  · exact fun p8 n9 => (let ⟨g, e, hg⟩ := (h.f8 ((hL 8 (by decide)).1 p8) (fun x => n9 ((hL 9 (by decide)).2 x))); ⟨g, e, alloc_block hg⟩)
  · exact fun p9 => ⟨World.ownsRow.alloc (h.f9 ((hL 9 (by decide)).1 p9)).1 _, (h.f9 ((hL 9 (by decide)).1 p9)).2⟩
  · exact fun n9 => World.ownsRow.alloc (h.k9 (fun x => n9 ((hL 9 (by decide)).2 x))) _
  · exact fun p10 => (h.f10 ((hL 10 (by decide)).1 p10))
  · exact fun p12 => (h.f12 ((hL 12 (by decide)).1 p12))
  · exact (let ⟨lv', kv', hv, e1, e2, e3, e4⟩ := h.var; ⟨lv', kv', alloc_block hv, fun n => e1 (fun x => n ((hL 11 (by decide)).2 x)), fun n => e2 ((hL 11 (by decide)).1 n), fun n => e3 (fun x => n ((hL 13 (by decide)).2 x)), fun n => e4 ((hL 13 (by decide)).1 n)⟩)
  · exact h.low.alloc hB _
theorem R8.s8 {B p : Nat} {W3 : World} {lv kv : Value} {nl : Nat} {ks : List (List UInt8)} {xs : List Value} {key : List UInt8} {x0 x1 x2 x3 x4 : Value} {L L' : Nat → Prop} {u38 u39 u40 u41 u42 u43 u44 u45 u46 u47 u48 u49 : Value} {wr : World} (h : R8 B p W3 lv kv nl ks xs key x0 x1 x2 x3 x4 L u38 u39 u40 u41 u42 u43 u44 u45 u46 u47 u48 u49 wr) (hL : ∀ j, j ≠ 8 → (L' j ↔ L j)) (hi : L' 8) (hB : B ≤ wr.heap.size) : R8 B p W3 lv kv nl ks xs key x0 x1 x2 x3 x4 L' u38 u39 u40 u41 u42 u43 u44 u45 (.slice (some ⟨wr.heap.size, 0, none⟩) 1 1) u47 u48 u49 (wr.alloc (.cells #[x0, x1, x2, x3, x4] 25)) := by
  refine ⟨?_, ?_, ?_, ?_, ?_, ?_, ?_, ?_, ?_, ?_, ?_, ?_, ?_, ?_, ?_, ?_⟩
  · exact fun p0 => (h.f0 ((hL 0 (by decide)).1 p0))
  · exact fun p1 => (h.f1 ((hL 1 (by decide)).1 p1))
  · exact fun p2 => (h.f2 ((hL 2 (by decide)).1 p2))
  · exact fun p3 n4 => (let ⟨g, e, hg⟩ := (h.f3 ((hL 3 (by decide)).1 p3) (fun x => n4 ((hL 4 (by decide)).2 x))); ⟨g, e, alloc_block hg⟩)
  · exact fun p4 => World.ownsRow.alloc (h.f4 ((hL 4 (by decide)).1 p4)) _
  · exact fun n4 => World.ownsRow.alloc (h.k4 (fun x => n4 ((hL 4 (by decide)).2 x))) _
  · exact fun p5 => (h.f5 ((hL 5 (by decide)).1 p5))
  · exact fun p6 => (h.f6 ((hL 6 (by decide)).1 p6))
  · exact fun p7 => (h.f7 ((hL 7 (by decide)).1 p7))
  · exact fun _ _ => ⟨_, rfl, heap_alloc_last wr _⟩
  · exact fun p9 => ⟨World.ownsRow.alloc (h.f9 ((hL 9 (by decide)).1 p9)).1 _, (h.f9 ((hL 9 (by decide)).1 p9)).2⟩
  · exact fun n9 => World.ownsRow.alloc (h.k9 (fun x => n9 ((hL 9 (by decide)).2 x))) _
  · exact fun p10 => (h.f10 ((hL 10 (by decide)).1 p10))
  · exact fun p12 => (h.f12 ((hL 12 (by decide)).1 p12))
  · exact (let ⟨lv', kv', hv, e1, e2, e3, e4⟩ := h.var; ⟨lv', kv', alloc_block hv, fun n => e1 (fun x => n ((hL 11 (by decide)).2 x)), fun n => e2 ((hL 11 (by decide)).1 n), fun n => e3 (fun x => n ((hL 13 (by decide)).2 x)), fun n => e4 ((hL 13 (by decide)).1 n)⟩)
  · exact h.low.alloc hB _
theorem R8.s4 {B p : Nat} {W3 : World} {lv kv : Value} {nl : Nat} {ks : List (List UInt8)} {xs : List Value} {key : List UInt8} {x0 x1 x2 x3 x4 : Value} {L L' : Nat → Prop} {u38 u39 u40 u41 u42 u43 u44 u45 u46 u47 u48 u49 : Value} {wr : World} {v' : Value} {w1 : World} (h : R8 B p W3 lv kv nl ks xs key x0 x1 x2 x3 x4 L u38 u39 u40 u41 u42 u43 u44 u45 u46 u47 u48 u49 wr) (hL : ∀ j, j ≠ 4 → (L' j ↔ L j)) (hi : L' 4) (h4 : ¬ L 4) (n11 : ¬ L 11) (hB : B ≤ wr.heap.size) (hK : w1.ownsRow B 9 1 v' (ks.length + 1) (ksCells ks ++ [.string ⟨key.toArray⟩])) (gK : wr.grownBy w1 kv.ownBlock) : R8 B p W3 lv kv nl ks xs key x0 x1 x2 x3 x4 L' u38 u39 u40 u41 v' u43 u44 u45 u46 u47 u48 u49 w1 := by
  refine ⟨?_, ?_, ?_, ?_, ?_, ?_, ?_, ?_, ?_, ?_, ?_, ?_, ?_, ?_, ?_, ?_⟩
  · exact fun p0 => (h.f0 ((hL 0 (by decide)).1 p0))
  · exact fun p1 => (h.f1 ((hL 1 (by decide)).1 p1))
  · exact fun p2 => (h.f2 ((hL 2 (by decide)).1 p2))
  · exact fun _ n => absurd hi n
  · exact fun _ => hK
  · exact fun n => absurd hi n
  · exact fun p5 => (h.f5 ((hL 5 (by decide)).1 p5))
  · exact fun p6 => (h.f6 ((hL 6 (by decide)).1 p6))
  · exact fun p7 => (h.f7 ((hL 7 (by decide)).1 p7))
  · exact fun p8 n9 => (let ⟨g, e, hg⟩ := (h.f8 ((hL 8 (by decide)).1 p8) (fun x => n9 ((hL 9 (by decide)).2 x))); ⟨g, e, grown_block gK hg (own_not (h.k4 h4) hg (by decide))⟩)
  · exact fun p9 => ⟨own_other (h.f9 ((hL 9 (by decide)).1 p9)).1 (h.k4 h4) (by decide) gK, (h.f9 ((hL 9 (by decide)).1 p9)).2⟩
  · exact fun n9 => own_other (h.k9 (fun x => n9 ((hL 9 (by decide)).2 x))) (h.k4 h4) (by decide) gK
  · exact fun p10 => (h.f10 ((hL 10 (by decide)).1 p10))
  · exact fun p12 => (h.f12 ((hL 12 (by decide)).1 p12))
  · exact (let ⟨lv', kv', hv, e1, e2, e3, e4⟩ := h.var; ⟨lv', kv', grown_block gK hv (own_not (h.k4 h4) hv (by decide)), fun n => e1 (fun x => n ((hL 11 (by decide)).2 x)), fun n => absurd ((hL 11 (by decide)).1 n) n11, fun n => e3 (fun x => n ((hL 13 (by decide)).2 x)), fun n => e4 ((hL 13 (by decide)).1 n)⟩)
  · exact h.low.grown gK hB (fun k hk => ((h.k4 h4).lt k hk).1)
theorem R8.s9 {B p : Nat} {W3 : World} {lv kv : Value} {nl : Nat} {ks : List (List UInt8)} {xs : List Value} {key : List UInt8} {x0 x1 x2 x3 x4 : Value} {L L' : Nat → Prop} {u38 u39 u40 u41 u42 u43 u44 u45 u46 u47 u48 u49 : Value} {wr : World} {v' : Value} {w1 : World} (h : R8 B p W3 lv kv nl ks xs key x0 x1 x2 x3 x4 L u38 u39 u40 u41 u42 u43 u44 u45 u46 u47 u48 u49 wr) (hL : ∀ j, j ≠ 9 → (L' j ↔ L j)) (hi : L' 9) (h9 : ¬ L 9) (n13 : ¬ L 13) (hB : B ≤ wr.heap.size) (hf : lv.ownBlock ≠ some p) (hL9 : w1.ownsRow B 25 5 v' (nl + 1) (xs ++ [x0, x1, x2, x3, x4])) (gL : wr.grownBy w1 lv.ownBlock) (at9 : v'.ownBlock = lv.ownBlock ∨ v'.ownBlock = some wr.heap.size) : R8 B p W3 lv kv nl ks xs key x0 x1 x2 x3 x4 L' u38 u39 u40 u41 u42 u43 u44 u45 u46 v' u48 u49 w1 := by
  refine ⟨?_, ?_, ?_, ?_, ?_, ?_, ?_, ?_, ?_, ?_, ?_, ?_, ?_, ?_, ?_, ?_⟩
  · exact fun p0 => (h.f0 ((hL 0 (by decide)).1 p0))
  · exact fun p1 => (h.f1 ((hL 1 (by decide)).1 p1))
  · exact fun p2 => (h.f2 ((hL 2 (by decide)).1 p2))
  · exact fun p3 n4 => (let ⟨g, e, hg⟩ := (h.f3 ((hL 3 (by decide)).1 p3) (fun x => n4 ((hL 4 (by decide)).2 x))); ⟨g, e, grown_block gL hg (own_not (h.k9 h9) hg (by decide))⟩)
  · exact fun p4 => own_other (h.f4 ((hL 4 (by decide)).1 p4)) (h.k9 h9) (by decide) gL
  · exact fun n4 => own_other (h.k4 (fun x => n4 ((hL 4 (by decide)).2 x))) (h.k9 h9) (by decide) gL
  · exact fun p5 => (h.f5 ((hL 5 (by decide)).1 p5))
  · exact fun p6 => (h.f6 ((hL 6 (by decide)).1 p6))
  · exact fun p7 => (h.f7 ((hL 7 (by decide)).1 p7))
  · exact fun _ n => absurd hi n
  · exact fun _ => ⟨hL9, far_of2 hL9 at9 hf (by obtain ⟨_, _, hv, _⟩ := h.var; exact (Array.getElem?_eq_some_iff.1 hv).1)⟩
  · exact fun n => absurd hi n
  · exact fun p10 => (h.f10 ((hL 10 (by decide)).1 p10))
  · exact fun p12 => (h.f12 ((hL 12 (by decide)).1 p12))
  · exact (let ⟨lv', kv', hv, e1, e2, e3, e4⟩ := h.var; ⟨lv', kv', grown_block gL hv hf, fun n => e1 (fun x => n ((hL 11 (by decide)).2 x)), fun n => e2 ((hL 11 (by decide)).1 n), fun n => e3 (fun x => n ((hL 13 (by decide)).2 x)), fun n => absurd ((hL 13 (by decide)).1 n) n13⟩)
  · exact h.low.grown gL hB (fun k hk => ((h.k9 h9).lt k hk).1)
theorem R8.s11 {B p : Nat} {W3 : World} {lv kv : Value} {nl : Nat} {ks : List (List UInt8)} {xs : List Value} {key : List UInt8} {x0 x1 x2 x3 x4 : Value} {L L' : Nat → Prop} {u38 u39 u40 u41 u42 u43 u44 u45 u46 u47 u48 u49 : Value} {wr : World} (h : R8 B p W3 lv kv nl ks xs key x0 x1 x2 x3 x4 L u38 u39 u40 u41 u42 u43 u44 u45 u46 u47 u48 u49 wr) (hL : ∀ j, j ≠ 11 → (L' j ↔ L j)) (hi : L' 11) (d4 : L 4) (d9 : L 9) (hp : B ≤ p) : R8 B p W3 lv kv nl ks xs key x0 x1 x2 x3 x4 L' u38 u39 u40 u41 u42 u43 u44 u45 u46 u47 u48 u49 (wr.setCell ⟨p, 4, none⟩ u42) := by
  refine ⟨?_, ?_, ?_, ?_, ?_, ?_, ?_, ?_, ?_, ?_, ?_, ?_, ?_, ?_, ?_, ?_⟩
  · exact fun p0 => (h.f0 ((hL 0 (by decide)).1 p0))
  · exact fun p1 => (h.f1 ((hL 1 (by decide)).1 p1))
  · exact fun p2 => (h.f2 ((hL 2 (by decide)).1 p2))
  · exact fun _ n4 => absurd ((hL 4 (by decide)).2 d4) n4
  · exact fun _ => own_kept (h.f4 d4) fun g hg => set_there _ (fun e => by obtain ⟨_, _, hv, _⟩ := h.var; exact own_not (h.f4 d4) hv (by decide) (by rw [hg, e]))
  · exact fun n4 => absurd ((hL 4 (by decide)).2 d4) n4
  · exact fun p5 => (h.f5 ((hL 5 (by decide)).1 p5))
  · exact fun p6 => (h.f6 ((hL 6 (by decide)).1 p6))
  · exact fun p7 => (h.f7 ((hL 7 (by decide)).1 p7))
  · exact fun _ n9 => absurd ((hL 9 (by decide)).2 d9) n9
  · exact fun _ => ⟨own_kept (h.f9 d9).1 fun g hg => set_there _ (fun e => (h.f9 d9).2 (by rw [hg, e])), (h.f9 d9).2⟩
  · exact fun n9 => absurd ((hL 9 (by decide)).2 d9) n9
  · exact fun p10 => (h.f10 ((hL 10 (by decide)).1 p10))
  · exact fun p12 => (h.f12 ((hL 12 (by decide)).1 p12))
  · (obtain ⟨lv', kv', hv, e1, e2, e3, e4⟩ := h.var; refine ⟨lv', u42, ?_, fun n => absurd hi n, fun _ => rfl, fun n => e3 (fun x => n ((hL 13 (by decide)).2 x)), fun n => e4 ((hL 13 (by decide)).1 n)⟩; (have := set_here (o := 4) hv u42; simpa using this))
  · exact h.low.setCell (p := ⟨p, 4, none⟩) hp _
theorem R8.s13 {B p : Nat} {W3 : World} {lv kv : Value} {nl : Nat} {ks : List (List UInt8)} {xs : List Value} {key : List UInt8} {x0 x1 x2 x3 x4 : Value} {L L' : Nat → Prop} {u38 u39 u40 u41 u42 u43 u44 u45 u46 u47 u48 u49 : Value} {wr : World} (h : R8 B p W3 lv kv nl ks xs key x0 x1 x2 x3 x4 L u38 u39 u40 u41 u42 u43 u44 u45 u46 u47 u48 u49 wr) (hL : ∀ j, j ≠ 13 → (L' j ↔ L j)) (hi : L' 13) (d4 : L 4) (d9 : L 9) (hp : B ≤ p) : R8 B p W3 lv kv nl ks xs key x0 x1 x2 x3 x4 L' u38 u39 u40 u41 u42 u43 u44 u45 u46 u47 u48 u49 (wr.setCell ⟨p, 3, none⟩ u47) := by
  refine ⟨?_, ?_, ?_, ?_, ?_, ?_, ?_, ?_, ?_, ?_, ?_, ?_, ?_, ?_, ?_, ?_⟩
  · exact fun p0 => (h.f0 ((hL 0 (by decide)).1 p0))
  · exact fun p1 => (h.f1 ((hL 1 (by decide)).1 p1))
  · exact fun p2 => (h.f2 ((hL 2 (by decide)).1 p2))
  · exact fun _ n4 => absurd ((hL 4 (by decide)).2 d4) n4
  · exact fun _ => own_kept (h.f4 d4) fun g hg => set_there _ (fun e => by obtain ⟨_, _, hv, _⟩ := h.var; exact own_not (h.f4 d4) hv (by decide) (by rw [hg, e]))
  · exact fun n4 => absurd ((hL 4 (by decide)).2 d4) n4
  · exact fun p5 => (h.f5 ((hL 5 (by decide)).1 p5))
  · exact fun p6 => (h.f6 ((hL 6 (by decide)).1 p6))
  · exact fun p7 => (h.f7 ((hL 7 (by decide)).1 p7))
  · exact fun _ n9 => absurd ((hL 9 (by decide)).2 d9) n9
  · exact fun _ => ⟨own_kept (h.f9 d9).1 fun g hg => set_there _ (fun e => (h.f9 d9).2 (by rw [hg, e])), (h.f9 d9).2⟩
  · exact fun n9 => absurd ((hL 9 (by decide)).2 d9) n9
  · exact fun p10 => (h.f10 ((hL 10 (by decide)).1 p10))
  · exact fun p12 => (h.f12 ((hL 12 (by decide)).1 p12))
  · (obtain ⟨lv', kv', hv, e1, e2, e3, e4⟩ := h.var; refine ⟨u47, kv', ?_, fun n => e1 (fun x => n ((hL 11 (by decide)).2 x)), fun n => e2 ((hL 11 (by decide)).1 n), fun n => absurd hi n, fun _ => rfl⟩; (have := set_here (o := 3) hv u47; simpa using this))
  · exact h.low.setCell (p := ⟨p, 3, none⟩) hp _
/-- a key and an item more, both stored -/
theorem OSt.grown {B p L N : Nat} {w wr wz : World} {lv kv lv' kv' : Value} {l : List V} {ks : List (List UInt8)} {xs : List Value} {c0 c1 c2 c3 c4 : Value} (h : OSt B p L N w wr lv kv l ks xs) (hp : B ≤ p) (t : List UInt8) (x : V)
    (hx : VIs w L N x [c0, c1, c2, c3, c4]) (hv : wz.heap[p]? = some (.cells #[.int .i64 6, .int .i64 0, .string ⟨#[]⟩, lv', kv'] 25 (0, 0)))
    (hK : wz.ownsRow B 9 1 kv' (ks.length + 1) (ksCells ks ++ [.string ⟨t.toArray⟩])) (hL : wz.ownsRow B 25 5 lv' (l.length + 1) (xs ++ [c0, c1, c2, c3, c4])) (hf : lv'.ownBlock ≠ some p) (hb : Below B w wz) :
    OSt B p L N w wz lv' kv' (l ++ [x]) (ks ++ [t]) (xs ++ [c0, c1, c2, c3, c4]) := by
  have hxl := h.rowL.1
  refine ⟨hv, ?_, ?_, hf, fun i hi => ?_, hb⟩
  · rw [List.length_append, List.length_singleton]; exact hL
  · rw [ksCells_snoc, List.length_append, List.length_singleton]; exact hK
  · rcases Nat.lt_or_ge i l.length with hil | hil
    · obtain ⟨d0, d1, d2, d3, d4, e0, e1, e2, e3, e4, hv⟩ := h.elem i hil
      have hgl : (l ++ [x])[i] = l[i] := List.getElem_append_left hil
      rw [hgl]
      refine ⟨d0, d1, d2, d3, d4, ?_, ?_, ?_, ?_, ?_, hv⟩
      · rw [List.getElem?_append_left (by omega)]; exact e0
      · rw [List.getElem?_append_left (by omega)]; exact e1
      · rw [List.getElem?_append_left (by omega)]; exact e2
      · rw [List.getElem?_append_left (by omega)]; exact e3
      · rw [List.getElem?_append_left (by omega)]; exact e4
    · have hie : i = l.length := by simp at hi; omega
      subst hie
      have hgl : (l ++ [x])[l.length] = x := by simp
      rw [hgl]
      exact ⟨c0, c1, c2, c3, c4, app_at hxl _ _ _ _ _ (k := 0) (by decide), app_at hxl _ _ _ _ _ (k := 1) (by decide), app_at hxl _ _ _ _ _ (k := 2) (by decide), app_at hxl _ _ _ _ _ (k := 3) (by decide), app_at hxl _ _ _ _ _ (k := 4) (by decide), hx⟩
end Go.Proofs.YtobicmpgfiddhaaDoor
namespace Go.Proofs.YtobicmpgfiddhaaDoor
open Go.RowKit
set_option linter.unusedVariables false
set_option linter.unusedSimpArgs false

def acts1 (a : Act) (u7 u9 u10 u11 u12 u13 u14 u15 u16 u17 : Value) : Act := { a with tmps := ((((((((((a.tmps).setIfInBounds 7 u7).setIfInBounds 9 u9).setIfInBounds 10 u10).setIfInBounds 11 u11).setIfInBounds 12 u12).setIfInBounds 13 u13).setIfInBounds 14 u14).setIfInBounds 15 u15).setIfInBounds 16 u16).setIfInBounds 17 u17 }
/-- what holds, whatever has come up: L says what has -/
structure R1 (B R : Nat) (W3 : World) (A A' : Option Addr) (nl c c' : Nat) (ks : List (List UInt8)) (xs : List Value) (L : Nat → Prop) (u7 u9 u10 u11 u12 u13 u14 u15 u16 u17 : Value) (wr : World) : Prop where
  f0 : L 0 → ¬ L 3 → ∃ g, u9 = .slice (some ⟨g, 0, none⟩) 0 0 ∧ wr.ownsRow B 9 1 u9 0 []
  f1 : L 1 → u10 = .pointer (some ⟨R, 4, none⟩)
  f2 : L 2 → u11 = .slice A' ks.length c'
  f3 : L 3 → wr.ownsRow B 9 1 u12 ks.length (ksCells ks)
  f4 : L 4 → ¬ L 7 → ∃ g, u13 = .slice (some ⟨g, 0, none⟩) 0 0 ∧ wr.ownsRow B 25 5 u13 0 []
  f5 : L 5 → u14 = .pointer (some ⟨R, 3, none⟩)
  f6 : L 6 → u15 = .slice A nl c
  f7 : L 7 → wr.ownsRow B 25 5 u16 nl xs
  f8 : L 8 → u17 = .agg #[.int .i64 6, .int .i64 0, .string ⟨#[]⟩, u16, u12]
  f9 : L 9 → ∃ p, u7 = .pointer (some ⟨p, 0, none⟩) ∧ B ≤ p ∧ (∃ cs, wr.heap[p]? = some (.cells cs 25 (0, 0)) ∧ (¬ L 10 → cs = #[.int .i64 0, .int .i64 0, .string ⟨#[]⟩, .slice none 0 0, .slice none 0 0]) ∧ (L 10 → cs = #[.int .i64 6, .int .i64 0, .string ⟨#[]⟩, u16, u12])) ∧ (L 4 → ¬ L 7 → u13.ownBlock ≠ some p) ∧ (L 7 → u16.ownBlock ≠ some p)
  low : Below B W3 wr

theorem R1.s1 {B R : Nat} {W3 : World} {A A' : Option Addr} {nl c c' : Nat} {ks : List (List UInt8)} {xs : List Value} {L L' : Nat → Prop} {u7 u9 u10 u11 u12 u13 u14 u15 u16 u17 : Value} {wr : World} (h : R1 B R W3 A A' nl c c' ks xs L u7 u9 u10 u11 u12 u13 u14 u15 u16 u17 wr) (hL : ∀ j, j ≠ 1 → (L' j ↔ L j)) (hi : L' 1) : R1 B R W3 A A' nl c c' ks xs L' u7 u9 (.pointer (some ⟨R, 4, none⟩)) u11 u12 u13 u14 u15 u16 u17 wr := by
  refine ⟨?_, ?_, ?_, ?_, ?_, ?_, ?_, ?_, ?_, ?_, ?_⟩
  · exact fun p0 n3 => (h.f0 ((hL 0 (by decide)).1 p0) (fun x => n3 ((hL 3 (by decide)).2 x)))
  · exact fun _ => rfl
  · exact fun p2 => (h.f2 ((hL 2 (by decide)).1 p2))
  · exact fun p3 => (h.f3 ((hL 3 (by decide)).1 p3))
  · exact fun p4 n7 => (h.f4 ((hL 4 (by decide)).1 p4) (fun x => n7 ((hL 7 (by decide)).2 x)))
  · exact fun p5 => (h.f5 ((hL 5 (by decide)).1 p5))
  · exact fun p6 => (h.f6 ((hL 6 (by decide)).1 p6))
  · exact fun p7 => (h.f7 ((hL 7 (by decide)).1 p7))
  · exact fun p8 => (h.f8 ((hL 8 (by decide)).1 p8))
  · exact fun n9 => (let ⟨p, e, hp, ⟨cs, hv, z1, z2⟩, q1, q2⟩ := h.f9 ((hL 9 (by decide)).1 n9); ⟨p, e, hp, ⟨cs, hv, fun n => z1 (fun x => n ((hL 10 (by decide)).2 x)), fun n => z2 ((hL 10 (by decide)).1 n)⟩, fun a b => q1 ((hL 4 (by decide)).1 a) (fun x => b ((hL 7 (by decide)).2 x)), fun a => q2 ((hL 7 (by decide)).1 a)⟩)
  · exact h.low
theorem R1.s2 {B R : Nat} {W3 : World} {A A' : Option Addr} {nl c c' : Nat} {ks : List (List UInt8)} {xs : List Value} {L L' : Nat → Prop} {u7 u9 u10 u11 u12 u13 u14 u15 u16 u17 : Value} {wr : World} (h : R1 B R W3 A A' nl c c' ks xs L u7 u9 u10 u11 u12 u13 u14 u15 u16 u17 wr) (hL : ∀ j, j ≠ 2 → (L' j ↔ L j)) (hi : L' 2) : R1 B R W3 A A' nl c c' ks xs L' u7 u9 u10 (.slice A' ks.length c') u12 u13 u14 u15 u16 u17 wr := by
  refine ⟨?_, ?_, ?_, ?_, ?_, ?_, ?_, ?_, ?_, ?_, ?_⟩
  · exact fun p0 n3 => (h.f0 ((hL 0 (by decide)).1 p0) (fun x => n3 ((hL 3 (by decide)).2 x)))
  · exact fun p1 => (h.f1 ((hL 1 (by decide)).1 p1))
  · exact fun _ => rfl
  · exact fun p3 => (h.f3 ((hL 3 (by decide)).1 p3))
  · exact fun p4 n7 => (h.f4 ((hL 4 (by decide)).1 p4) (fun x => n7 ((hL 7 (by decide)).2 x)))
  · exact fun p5 => (h.f5 ((hL 5 (by decide)).1 p5))
  · exact fun p6 => (h.f6 ((hL 6 (by decide)).1 p6))
  · exact fun p7 => (h.f7 ((hL 7 (by decide)).1 p7))
  · exact fun p8 => (h.f8 ((hL 8 (by decide)).1 p8))
  · exact fun n9 => (let ⟨p, e, hp, ⟨cs, hv, z1, z2⟩, q1, q2⟩ := h.f9 ((hL 9 (by decide)).1 n9); ⟨p, e, hp, ⟨cs, hv, fun n => z1 (fun x => n ((hL 10 (by decide)).2 x)), fun n => z2 ((hL 10 (by decide)).1 n)⟩, fun a b => q1 ((hL 4 (by decide)).1 a) (fun x => b ((hL 7 (by decide)).2 x)), fun a => q2 ((hL 7 (by decide)).1 a)⟩)
  · exact h.low
theorem R1.s5 {B R : Nat} {W3 : World} {A A' : Option Addr} {nl c c' : Nat} {ks : List (List UInt8)} {xs : List Value} {L L' : Nat → Prop} {u7 u9 u10 u11 u12 u13 u14 u15 u16 u17 : Value} {wr : World} (h : R1 B R W3 A A' nl c c' ks xs L u7 u9 u10 u11 u12 u13 u14 u15 u16 u17 wr) (hL : ∀ j, j ≠ 5 → (L' j ↔ L j)) (hi : L' 5) : R1 B R W3 A A' nl c c' ks xs L' u7 u9 u10 u11 u12 u13 (.pointer (some ⟨R, 3, none⟩)) u15 u16 u17 wr := by
  refine ⟨?_, ?_, ?_, ?_, ?_, ?_, ?_, ?_, ?_, ?_, ?_⟩
  · exact fun p0 n3 => (h.f0 ((hL 0 (by decide)).1 p0) (fun x => n3 ((hL 3 (by decide)).2 x)))
  · exact fun p1 => (h.f1 ((hL 1 (by decide)).1 p1))
  · exact fun p2 => (h.f2 ((hL 2 (by decide)).1 p2))
  · exact fun p3 => (h.f3 ((hL 3 (by decide)).1 p3))
  · exact fun p4 n7 => (h.f4 ((hL 4 (by decide)).1 p4) (fun x => n7 ((hL 7 (by decide)).2 x)))
  · exact fun _ => rfl
  · exact fun p6 => (h.f6 ((hL 6 (by decide)).1 p6))
  · exact fun p7 => (h.f7 ((hL 7 (by decide)).1 p7))
  · exact fun p8 => (h.f8 ((hL 8 (by decide)).1 p8))
  · exact fun n9 => (let ⟨p, e, hp, ⟨cs, hv, z1, z2⟩, q1, q2⟩ := h.f9 ((hL 9 (by decide)).1 n9); ⟨p, e, hp, ⟨cs, hv, fun n => z1 (fun x => n ((hL 10 (by decide)).2 x)), fun n => z2 ((hL 10 (by decide)).1 n)⟩, fun a b => q1 ((hL 4 (by decide)).1 a) (fun x => b ((hL 7 (by decide)).2 x)), fun a => q2 ((hL 7 (by decide)).1 a)⟩)
  · exact h.low
theorem R1.s6 {B R : Nat} {W3 : World} {A A' : Option Addr} {nl c c' : Nat} {ks : List (List UInt8)} {xs : List Value} {L L' : Nat → Prop} {u7 u9 u10 u11 u12 u13 u14 u15 u16 u17 : Value} {wr : World} (h : R1 B R W3 A A' nl c c' ks xs L u7 u9 u10 u11 u12 u13 u14 u15 u16 u17 wr) (hL : ∀ j, j ≠ 6 → (L' j ↔ L j)) (hi : L' 6) : R1 B R W3 A A' nl c c' ks xs L' u7 u9 u10 u11 u12 u13 u14 (.slice A nl c) u16 u17 wr := by
  refine ⟨?_, ?_, ?_, ?_, ?_, ?_, ?_, ?_, ?_, ?_, ?_⟩
  · exact fun p0 n3 => (h.f0 ((hL 0 (by decide)).1 p0) (fun x => n3 ((hL 3 (by decide)).2 x)))
  · exact fun p1 => (h.f1 ((hL 1 (by decide)).1 p1))
  · exact fun p2 => (h.f2 ((hL 2 (by decide)).1 p2))
  · exact fun p3 => (h.f3 ((hL 3 (by decide)).1 p3))
  · exact fun p4 n7 => (h.f4 ((hL 4 (by decide)).1 p4) (fun x => n7 ((hL 7 (by decide)).2 x)))
  · exact fun p5 => (h.f5 ((hL 5 (by decide)).1 p5))
  · exact fun _ => rfl
  · exact fun p7 => (h.f7 ((hL 7 (by decide)).1 p7))
  · exact fun p8 => (h.f8 ((hL 8 (by decide)).1 p8))
  · exact fun n9 => (let ⟨p, e, hp, ⟨cs, hv, z1, z2⟩, q1, q2⟩ := h.f9 ((hL 9 (by decide)).1 n9); ⟨p, e, hp, ⟨cs, hv, fun n => z1 (fun x => n ((hL 10 (by decide)).2 x)), fun n => z2 ((hL 10 (by decide)).1 n)⟩, fun a b => q1 ((hL 4 (by decide)).1 a) (fun x => b ((hL 7 (by decide)).2 x)), fun a => q2 ((hL 7 (by decide)).1 a)⟩)
  · exact h.low
theorem R1.s8 {B R : Nat} {W3 : World} {A A' : Option Addr} {nl c c' : Nat} {ks : List (List UInt8)} {xs : List Value} {L L' : Nat → Prop} {u7 u9 u10 u11 u12 u13 u14 u15 u16 u17 : Value} {wr : World} (h : R1 B R W3 A A' nl c c' ks xs L u7 u9 u10 u11 u12 u13 u14 u15 u16 u17 wr) (hL : ∀ j, j ≠ 8 → (L' j ↔ L j)) (hi : L' 8) : R1 B R W3 A A' nl c c' ks xs L' u7 u9 u10 u11 u12 u13 u14 u15 u16 (.agg #[.int .i64 6, .int .i64 0, .string ⟨#[]⟩, u16, u12]) wr := by
  refine ⟨?_, ?_, ?_, ?_, ?_, ?_, ?_, ?_, ?_, ?_, ?_⟩
  · exact fun p0 n3 => (h.f0 ((hL 0 (by decide)).1 p0) (fun x => n3 ((hL 3 (by decide)).2 x)))
  · exact fun p1 => (h.f1 ((hL 1 (by decide)).1 p1))
  · exact fun p2 => (h.f2 ((hL 2 (by decide)).1 p2))
  · exact fun p3 => (h.f3 ((hL 3 (by decide)).1 p3))
  · exact fun p4 n7 => (h.f4 ((hL 4 (by decide)).1 p4) (fun x => n7 ((hL 7 (by decide)).2 x)))
  · exact fun p5 => (h.f5 ((hL 5 (by decide)).1 p5))
  · exact fun p6 => (h.f6 ((hL 6 (by decide)).1 p6))
  · exact fun p7 => (h.f7 ((hL 7 (by decide)).1 p7))
  · exact fun _ => rfl
  · exact fun n9 => (let ⟨p, e, hp, ⟨cs, hv, z1, z2⟩, q1, q2⟩ := h.f9 ((hL 9 (by decide)).1 n9); ⟨p, e, hp, ⟨cs, hv, fun n => z1 (fun x => n ((hL 10 (by decide)).2 x)), fun n => z2 ((hL 10 (by decide)).1 n)⟩, fun a b => q1 ((hL 4 (by decide)).1 a) (fun x => b ((hL 7 (by decide)).2 x)), fun a => q2 ((hL 7 (by decide)).1 a)⟩)
  · exact h.low
theorem R1.s0 {B R : Nat} {W3 : World} {A A' : Option Addr} {nl c c' : Nat} {ks : List (List UInt8)} {xs : List Value} {L L' : Nat → Prop} {u7 u9 u10 u11 u12 u13 u14 u15 u16 u17 : Value} {wr : World} (h : R1 B R W3 A A' nl c c' ks xs L u7 u9 u10 u11 u12 u13 u14 u15 u16 u17 wr) (hL : ∀ j, j ≠ 0 → (L' j ↔ L j)) (hi : L' 0) (hB : B ≤ wr.heap.size) : R1 B R W3 A A' nl c c' ks xs L' u7 (.slice (some ⟨wr.heap.size, 0, none⟩) 0 0) u10 u11 u12 u13 u14 u15 u16 u17 (wr.alloc (.cells #[] 9)) := by
  refine ⟨?_, ?_, ?_, ?_, ?_, ?_, ?_, ?_, ?_, ?_, ?_⟩
  · exact fun _ _ => ⟨_, rfl, own_fresh wr B _ _ hB⟩
  · exact fun p1 => (h.f1 ((hL 1 (by decide)).1 p1))
  · exact fun p2 => (h.f2 ((hL 2 (by decide)).1 p2))
  · exact fun p3 => World.ownsRow.alloc (h.f3 ((hL 3 (by decide)).1 p3)) _
  · exact fun p4 n7 => (let ⟨g, e, hg⟩ := (h.f4 ((hL 4 (by decide)).1 p4) (fun x => n7 ((hL 7 (by decide)).2 x))); ⟨g, e, World.ownsRow.alloc hg _⟩)
  · exact fun p5 => (h.f5 ((hL 5 (by decide)).1 p5))
  · exact fun p6 => (h.f6 ((hL 6 (by decide)).1 p6))
  · exact fun p7 => World.ownsRow.alloc (h.f7 ((hL 7 (by decide)).1 p7)) _
  · exact fun p8 => (h.f8 ((hL 8 (by decide)).1 p8))
  · exact fun n9 => (let ⟨p, e, hp, ⟨cs, hv, z1, z2⟩, q1, q2⟩ := h.f9 ((hL 9 (by decide)).1 n9); ⟨p, e, hp, ⟨cs, alloc_block hv, fun n => z1 (fun x => n ((hL 10 (by decide)).2 x)), fun n => z2 ((hL 10 (by decide)).1 n)⟩, fun a b => q1 ((hL 4 (by decide)).1 a) (fun x => b ((hL 7 (by decide)).2 x)), fun a => q2 ((hL 7 (by decide)).1 a)⟩)
  · exact h.low.alloc hB _
theorem R1.s4 {B R : Nat} {W3 : World} {A A' : Option Addr} {nl c c' : Nat} {ks : List (List UInt8)} {xs : List Value} {L L' : Nat → Prop} {u7 u9 u10 u11 u12 u13 u14 u15 u16 u17 : Value} {wr : World} (h : R1 B R W3 A A' nl c c' ks xs L u7 u9 u10 u11 u12 u13 u14 u15 u16 u17 wr) (hL : ∀ j, j ≠ 4 → (L' j ↔ L j)) (hi : L' 4) (hB : B ≤ wr.heap.size) (n7 : ¬ L 7) : R1 B R W3 A A' nl c c' ks xs L' u7 u9 u10 u11 u12 (.slice (some ⟨wr.heap.size, 0, none⟩) 0 0) u14 u15 u16 u17 (wr.alloc (.cells #[] 25)) := by
  refine ⟨?_, ?_, ?_, ?_, ?_, ?_, ?_, ?_, ?_, ?_, ?_⟩
  · exact fun p0 n3 => (let ⟨g, e, hg⟩ := (h.f0 ((hL 0 (by decide)).1 p0) (fun x => n3 ((hL 3 (by decide)).2 x))); ⟨g, e, World.ownsRow.alloc hg _⟩)
  · exact fun p1 => (h.f1 ((hL 1 (by decide)).1 p1))
  · exact fun p2 => (h.f2 ((hL 2 (by decide)).1 p2))
  · exact fun p3 => World.ownsRow.alloc (h.f3 ((hL 3 (by decide)).1 p3)) _
  · exact fun _ _ => ⟨_, rfl, own_fresh wr B _ _ hB⟩
  · exact fun p5 => (h.f5 ((hL 5 (by decide)).1 p5))
  · exact fun p6 => (h.f6 ((hL 6 (by decide)).1 p6))
  · exact fun p7 => World.ownsRow.alloc (h.f7 ((hL 7 (by decide)).1 p7)) _
  · exact fun p8 => (h.f8 ((hL 8 (by decide)).1 p8))
  · exact fun n9 => (let ⟨p, e, hp, ⟨cs, hv, z1, z2⟩, q1, q2⟩ := h.f9 ((hL 9 (by decide)).1 n9); ⟨p, e, hp, ⟨cs, alloc_block hv, fun n => z1 (fun x => n ((hL 10 (by decide)).2 x)), fun n => z2 ((hL 10 (by decide)).1 n)⟩, fun _ _ => (fun (e : some wr.heap.size = some p) => by have h1 := (Array.getElem?_eq_some_iff.1 hv).1; injection e with e; omega), fun a => q2 ((hL 7 (by decide)).1 a)⟩)
  · exact h.low.alloc hB _
theorem R1.s9 {B R : Nat} {W3 : World} {A A' : Option Addr} {nl c c' : Nat} {ks : List (List UInt8)} {xs : List Value} {L L' : Nat → Prop} {u7 u9 u10 u11 u12 u13 u14 u15 u16 u17 : Value} {wr : World} (h : R1 B R W3 A A' nl c c' ks xs L u7 u9 u10 u11 u12 u13 u14 u15 u16 u17 wr) (hL : ∀ j, j ≠ 9 → (L' j ↔ L j)) (hi : L' 9) (hB : B ≤ wr.heap.size) (n10 : ¬ L 10) : R1 B R W3 A A' nl c c' ks xs L' (.pointer (some ⟨wr.heap.size, 0, none⟩)) u9 u10 u11 u12 u13 u14 u15 u16 u17 (wr.alloc (.cells #[.int .i64 0, .int .i64 0, .string ⟨#[]⟩, .slice none 0 0, .slice none 0 0] 25)) := by
  refine ⟨?_, ?_, ?_, ?_, ?_, ?_, ?_, ?_, ?_, ?_, ?_⟩
  · exact fun p0 n3 => (let ⟨g, e, hg⟩ := (h.f0 ((hL 0 (by decide)).1 p0) (fun x => n3 ((hL 3 (by decide)).2 x))); ⟨g, e, World.ownsRow.alloc hg _⟩)
  · exact fun p1 => (h.f1 ((hL 1 (by decide)).1 p1))
  · exact fun p2 => (h.f2 ((hL 2 (by decide)).1 p2))
  · exact fun p3 => World.ownsRow.alloc (h.f3 ((hL 3 (by decide)).1 p3)) _
  · exact fun p4 n7 => (let ⟨g, e, hg⟩ := (h.f4 ((hL 4 (by decide)).1 p4) (fun x => n7 ((hL 7 (by decide)).2 x))); ⟨g, e, World.ownsRow.alloc hg _⟩)
  · exact fun p5 => (h.f5 ((hL 5 (by decide)).1 p5))
  · exact fun p6 => (h.f6 ((hL 6 (by decide)).1 p6))
  · exact fun p7 => World.ownsRow.alloc (h.f7 ((hL 7 (by decide)).1 p7)) _
  · exact fun p8 => (h.f8 ((hL 8 (by decide)).1 p8))
  · exact fun _ => ⟨_, rfl, hB, ⟨_, heap_alloc_last wr _, fun _ => rfl, fun n => absurd ((hL 10 (by decide)).1 n) n10⟩, fun a b e => (by obtain ⟨g, e1, hg⟩ := h.f4 ((hL 4 (by decide)).1 a) (fun x => b ((hL 7 (by decide)).2 x)); have := (hg.lt _ e).2; omega), fun a e => (by have := ((h.f7 ((hL 7 (by decide)).1 a)).lt _ e).2; omega)⟩
  · exact h.low.alloc hB _
theorem R1.s3 {B R : Nat} {W3 : World} {A A' : Option Addr} {nl c c' : Nat} {ks : List (List UInt8)} {xs : List Value} {L L' : Nat → Prop} {u7 u9 u10 u11 u12 u13 u14 u15 u16 u17 : Value} {wr : World} {v' : Value} {w1 : World} (h : R1 B R W3 A A' nl c c' ks xs L u7 u9 u10 u11 u12 u13 u14 u15 u16 u17 wr) (hL : ∀ j, j ≠ 3 → (L' j ↔ L j)) (hi : L' 3) (h0 : wr.ownsRow B 9 1 u9 0 []) (hB : B ≤ wr.heap.size) (hK : w1.ownsRow B 9 1 v' ks.length (ksCells ks)) (gK : wr.grownBy w1 u9.ownBlock) (n8 : ¬ L 8) (n10 : ¬ L 10) : R1 B R W3 A A' nl c c' ks xs L' u7 u9 u10 u11 v' u13 u14 u15 u16 u17 w1 := by
  refine ⟨?_, ?_, ?_, ?_, ?_, ?_, ?_, ?_, ?_, ?_, ?_⟩
  · exact fun _ n => absurd hi n
  · exact fun p1 => (h.f1 ((hL 1 (by decide)).1 p1))
  · exact fun p2 => (h.f2 ((hL 2 (by decide)).1 p2))
  · exact fun _ => hK
  · exact fun p4 n7 => (let ⟨g, e, hg⟩ := (h.f4 ((hL 4 (by decide)).1 p4) (fun x => n7 ((hL 7 (by decide)).2 x))); ⟨g, e, own_other hg h0 (by decide) gK⟩)
  · exact fun p5 => (h.f5 ((hL 5 (by decide)).1 p5))
  · exact fun p6 => (h.f6 ((hL 6 (by decide)).1 p6))
  · exact fun p7 => own_other (h.f7 ((hL 7 (by decide)).1 p7)) h0 (by decide) gK
  · exact fun p8 => absurd ((hL 8 (by decide)).1 p8) n8
  · exact fun n9 => (let ⟨p, e, hp, ⟨cs, hv, z1, z2⟩, q1, q2⟩ := h.f9 ((hL 9 (by decide)).1 n9); ⟨p, e, hp, ⟨cs, grown_block gK hv (own_not h0 hv (by decide)), fun n => z1 (fun x => n ((hL 10 (by decide)).2 x)), fun n => absurd ((hL 10 (by decide)).1 n) n10⟩, fun a b => q1 ((hL 4 (by decide)).1 a) (fun x => b ((hL 7 (by decide)).2 x)), fun a => q2 ((hL 7 (by decide)).1 a)⟩)
  · exact h.low.grown gK hB (fun k hk => (h0.lt k hk).1)
theorem R1.s7 {B R : Nat} {W3 : World} {A A' : Option Addr} {nl c c' : Nat} {ks : List (List UInt8)} {xs : List Value} {L L' : Nat → Prop} {u7 u9 u10 u11 u12 u13 u14 u15 u16 u17 : Value} {wr : World} {v' : Value} {w1 : World} (h : R1 B R W3 A A' nl c c' ks xs L u7 u9 u10 u11 u12 u13 u14 u15 u16 u17 wr) (hL : ∀ j, j ≠ 7 → (L' j ↔ L j)) (hi : L' 7) (h4 : wr.ownsRow B 25 5 u13 0 []) (d4 : L 4) (n7 : ¬ L 7) (hB : B ≤ wr.heap.size) (hL7 : w1.ownsRow B 25 5 v' nl xs) (gL : wr.grownBy w1 u13.ownBlock) (at7 : v'.ownBlock = u13.ownBlock ∨ v'.ownBlock = some wr.heap.size) (n8 : ¬ L 8) (n10 : ¬ L 10) : R1 B R W3 A A' nl c c' ks xs L' u7 u9 u10 u11 u12 u13 u14 u15 v' u17 w1 := by
  refine ⟨?_, ?_, ?_, ?_, ?_, ?_, ?_, ?_, ?_, ?_, ?_⟩
  · exact fun p0 n3 => (let ⟨g, e, hg⟩ := (h.f0 ((hL 0 (by decide)).1 p0) (fun x => n3 ((hL 3 (by decide)).2 x))); ⟨g, e, own_other hg h4 (by decide) gL⟩)
  · exact fun p1 => (h.f1 ((hL 1 (by decide)).1 p1))
  · exact fun p2 => (h.f2 ((hL 2 (by decide)).1 p2))
  · exact fun p3 => own_other (h.f3 ((hL 3 (by decide)).1 p3)) h4 (by decide) gL
  · exact fun _ n => absurd hi n
  · exact fun p5 => (h.f5 ((hL 5 (by decide)).1 p5))
  · exact fun p6 => (h.f6 ((hL 6 (by decide)).1 p6))
  · exact fun _ => hL7
  · exact fun p8 => absurd ((hL 8 (by decide)).1 p8) n8
  · exact fun n9 => (let ⟨p, e, hp, ⟨cs, hv, z1, z2⟩, q1, q2⟩ := h.f9 ((hL 9 (by decide)).1 n9); ⟨p, e, hp, ⟨cs, grown_block gL hv (q1 d4 n7), fun n => z1 (fun x => n ((hL 10 (by decide)).2 x)), fun n => absurd ((hL 10 (by decide)).1 n) n10⟩, fun a b => absurd hi b, fun _ => far_of2 hL7 at7 (q1 d4 n7) (Array.getElem?_eq_some_iff.1 hv).1⟩)
  · exact h.low.grown gL hB (fun k hk => (h4.lt k hk).1)
theorem R1.s10 {B R : Nat} {W3 : World} {A A' : Option Addr} {nl c c' : Nat} {ks : List (List UInt8)} {xs : List Value} {L L' : Nat → Prop} {u7 u9 u10 u11 u12 u13 u14 u15 u16 u17 : Value} {wr : World} {p : Nat} (h : R1 B R W3 A A' nl c c' ks xs L u7 u9 u10 u11 u12 u13 u14 u15 u16 u17 wr) (hL : ∀ j, j ≠ 10 → (L' j ↔ L j)) (hi : L' 10) (d3 : L 3) (d7 : L 7) (d9 : L 9) (n10 : ¬ L 10) (e7 : u7 = .pointer (some ⟨p, 0, none⟩)) : R1 B R W3 A A' nl c c' ks xs L' u7 u9 u10 u11 u12 u13 u14 u15 u16 u17 (set5 wr p 0 (.int .i64 6) (.int .i64 0) (.string ⟨#[]⟩) u16 u12) := by
  refine ⟨?_, ?_, ?_, ?_, ?_, ?_, ?_, ?_, ?_, ?_, ?_⟩
  · exact fun _ n => absurd ((hL 3 (by decide)).2 d3) n
  · exact fun p1 => (h.f1 ((hL 1 (by decide)).1 p1))
  · exact fun p2 => (h.f2 ((hL 2 (by decide)).1 p2))
  · exact fun _ => (by obtain ⟨p', e, hp, ⟨cs, hv, z1, z2⟩, q1, q2⟩ := h.f9 d9; rw [e7] at e; injection e with e; injection e with e; injection e with e; subst e; exact own_kept (h.f3 d3) fun g hg => set5_there (fun e => own_not (h.f3 d3) hv (by decide) (by rw [hg, e])))
  · exact fun _ n => absurd ((hL 7 (by decide)).2 d7) n
  · exact fun p5 => (h.f5 ((hL 5 (by decide)).1 p5))
  · exact fun p6 => (h.f6 ((hL 6 (by decide)).1 p6))
  · exact fun _ => (by obtain ⟨p', e, hp, ⟨cs, hv, z1, z2⟩, q1, q2⟩ := h.f9 d9; rw [e7] at e; injection e with e; injection e with e; injection e with e; subst e; exact own_kept (h.f7 d7) fun g hg => set5_there (fun e => q2 d7 (by rw [hg, e])))
  · exact fun p8 => (h.f8 ((hL 8 (by decide)).1 p8))
  · exact fun _ => (by obtain ⟨p', e, hp, ⟨cs, hv, z1, z2⟩, q1, q2⟩ := h.f9 d9; rw [e7] at e; injection e with e; injection e with e; injection e with e; subst e; refine ⟨_, e7, hp, ⟨_, (by rw [z1 n10] at hv; have := set5_here (o := 0) (c0 := .int .i64 6) (c1 := .int .i64 0) (c2 := .string ⟨#[]⟩) (c3 := u16) (c4 := u12) hv; simpa using this), fun n => absurd hi n, fun _ => rfl⟩, fun a b => absurd ((hL 7 (by decide)).2 d7) b, fun _ => q2 d7⟩)
  · (obtain ⟨p', e, hp, ⟨cs, hv, z1, z2⟩, q1, q2⟩ := h.f9 d9; rw [e7] at e; injection e with e; injection e with e; injection e with e; subst e; exact h.low.trans (set5_below hp))
end Go.Proofs.YtobicmpgfiddhaaDoor
namespace Go.Proofs.YtobicmpgfiddhaaDoor
open Go.RowKit
set_option linter.unusedVariables false
set_option linter.unusedSimpArgs false

attribute [local go_sem ↓] Go.wp_at_zero Go.wp_at_succ
set_option maxRecDepth 100000 in
set_option maxHeartbeats 40000000 in
theorem refPut_newX : PutNewX := by
  intro k n t l ks key x w L N L0 N0 A A' c c' x0 x1 x2 x3 x4 hl hk hz hkz hne hN hN0 hL0 hnil hit hx
  obtain ⟨i0, hI0, hz0, hz1, hz2⟩ := info_parts Tryd.infoValR
  obtain ⟨j0, hj, hy0, hy1, hy2⟩ := info_parts Tryd.infoStrR
  obtain ⟨W3, hW3⟩ : ∃ W3, W3 = (((w.alloc (.cells #[.int .i64 k, .int .i64 n, .string ⟨t.toArray⟩, .slice A l.length c, .slice A' ks.length c'] 25)).alloc (.cells #[x0, x1, x2, x3, x4] 25)).alloc (.cells #[.int .i64 0, .int .i64 0, .string ⟨#[]⟩, .slice none 0 0, .slice none 0 0] 25)) := ⟨_, rfl⟩
  have b3 : Below w.heap.size w W3 := by rw [hW3]; exact (((Below.refl _ _).alloc (Nat.le_refl _) _).alloc (by simp) _).alloc (by simp; omega) _
  have z3 : W3.heap.size = w.heap.size + 3 := by rw [hW3]; simp
  have y1 : W3.heap[w.heap.size]? = some (.cells #[.int .i64 k, .int .i64 n, .string ⟨t.toArray⟩, .slice A l.length c, .slice A' ks.length c'] 25 (0, 0)) := by rw [hW3]; exact alloc_block (alloc_block (heap_alloc_last w _))
  have y2 : W3.heap[w.heap.size + 1]? = some (.cells #[x0, x1, x2, x3, x4] 25 (0, 0)) := by
    rw [hW3]; refine alloc_block ?_
    have := heap_alloc_last (w.alloc (.cells #[.int .i64 k, .int .i64 n, .string ⟨t.toArray⟩, .slice A l.length c, .slice A' ks.length c'] 25)) (.cells #[x0, x1, x2, x3, x4] 25)
    simpa using this
  have y3 : W3.heap[w.heap.size + 2]? = some (.cells #[.int .i64 0, .int .i64 0, .string ⟨#[]⟩, .slice none 0 0, .slice none 0 0] 25 (0, 0)) := by
    rw [hW3]
    have := heap_alloc_last ((w.alloc (.cells #[.int .i64 k, .int .i64 n, .string ⟨t.toArray⟩, .slice A l.length c, .slice A' ks.length c'] 25)).alloc (.cells #[x0, x1, x2, x3, x4] 25)) (.cells #[.int .i64 0, .int .i64 0, .string ⟨#[]⟩, .slice none 0 0, .slice none 0 0] 25)
    simpa using this
  have hsz : (W3.heap.size : Nat) = w.heap.size + 3 := z3
  have ST : ∀ W, Below W3.heap.size W3 W → (W.cell? ⟨w.heap.size, 3, none⟩ = some (.slice A l.length c) ∧ W.cell? ⟨w.heap.size, 4, none⟩ = some (.slice A' ks.length c')) ∧ Below W3.heap.size W3 W := fun W hb =>
    ⟨⟨(hb.cell (p := ⟨w.heap.size, 3, none⟩) (by show w.heap.size < _; omega)).trans (cell_here y1), (hb.cell (p := ⟨w.heap.size, 4, none⟩) (by show w.heap.size < _; omega)).trans (cell_here y1)⟩, hb⟩
  obtain ⟨xs, hxw, hxl, hxc, hx1, hxe⟩ : ∃ xs : List Value, (∀ b o, A = some ⟨b, o, none⟩ → ∀ j u, xs[j]? = some u → w.cell? ⟨b, o + j, none⟩ = some u) ∧ xs.length = l.length * 5 ∧ ((A = none ∧ l.length = 0 ∧ c = 0) ∨ ∃ ad, A = some ad ∧ ∀ W, Below W3.heap.size W3 W → ∀ j u, xs[j]? = some u → W.cell? (ad.add j) = some u) ∧ (∀ u ∈ xs, u.oneCell' = true) ∧
      ∀ i (h : i < l.length), ∃ c0 c1 c2 c3 c4, xs[i * 5]? = some c0 ∧ xs[i * 5 + 1]? = some c1 ∧ xs[i * 5 + 2]? = some c2 ∧ xs[i * 5 + 3]? = some c3 ∧ xs[i * 5 + 4]? = some c4 ∧ VIs w L0 N0 l[i] [c0, c1, c2, c3, c4] := by
    rcases hnil with ⟨rfl, _, rfl, _, rfl, _⟩ | ⟨b, o, b', o', rfl, rfl, hl1, hk1⟩
    · exact ⟨[], (fun b o e => by cases e), by simp, .inl ⟨rfl, rfl, rfl⟩, by simp, fun i h => absurd h (Nat.not_lt_zero _)⟩
    · obtain ⟨xs, n1, n2, n3, n4⟩ := flat_items hl1
      refine ⟨xs, (fun b2 o2 e j u hu => by cases e; exact (n2 j u hu).2), n1, .inr ⟨_, rfl, fun W hW j u hu => ?_⟩, n3, fun i h => ?_⟩
      · obtain ⟨hb, hc⟩ := n2 j u hu
        rw [Addr.add_lit]
        refine (hW.cell (p := ⟨b, o + j, none⟩) (by show b < _; omega)).trans ((b3.cell (p := ⟨b, o + j, none⟩) (by show b < _; omega)).trans hc)
      · obtain ⟨c0, c1, c2, c3, c4, e0, e1, e2, e3, e4, hv⟩ := n4 i h
        exact ⟨c0, c1, c2, c3, c4, e0, e1, e2, e3, e4, hit i h _ hv⟩
  have hkc : ((A' = none ∧ ks.length = 0 ∧ c' = 0) ∨ ∃ ad, A' = some ad ∧ ∀ W, Below W3.heap.size W3 W → ∀ j u, (ksCells ks)[j]? = some u → W.cell? (ad.add j) = some u) := by
    rcases hnil with ⟨_, rfl, _, rfl, _, rfl⟩ | ⟨b, o, b', o', rfl, rfl, hl1, hk1⟩
    · exact .inl ⟨rfl, rfl, rfl⟩
    · refine .inr ⟨_, rfl, fun W hW j u hu => ?_⟩
      have hj : j < ks.length := by have := (List.getElem?_eq_some_iff.1 hu).1; unfold ksCells at this; simpa using this
      obtain ⟨_, hb, hc⟩ := hk1.get j hj
      have hu' : u = .string ⟨ks[j].toArray⟩ := by
        unfold ksCells at hu
        rw [List.getElem?_map, List.getElem?_eq_getElem hj] at hu
        exact (Option.some.inj hu).symm
      rw [hu', Addr.add_lit]
      exact (hW.cell (p := ⟨b', o' + j, none⟩) (by show b' < _; omega)).trans ((b3.cell (p := ⟨b', o' + j, none⟩) (by show b' < _; omega)).trans hc)
  have hxe3 : ∀ i (h : i < l.length), ∃ c0 c1 c2 c3 c4, xs[i * 5]? = some c0 ∧ xs[i * 5 + 1]? = some c1 ∧ xs[i * 5 + 2]? = some c2 ∧ xs[i * 5 + 3]? = some c3 ∧ xs[i * 5 + 4]? = some c4 ∧ VIs W3 L0 N0 l[i] [c0, c1, c2, c3, c4] := fun i h => by
    obtain ⟨c0, c1, c2, c3, c4, e0, e1, e2, e3, e4, hv⟩ := hxe i h
    exact ⟨c0, c1, c2, c3, c4, e0, e1, e2, e3, e4, hv.below (b3.mono hN0)⟩
  have hx3 := hx.below (b3.mono hN0)
  have HXW := Lib.hid hxw; clear hxw
  have HW3 := Lib.hid hW3; have B3 := Lib.hid b3; have Z3 := Lib.hid z3; have Y1 := Lib.hid y1; have Y2 := Lib.hid y2; have Y3 := Lib.hid y3; have STH := Lib.hid ST; have HXE := Lib.hid hxe3; have HX1 := Lib.hid hx1; have HXC := Lib.hid hxc; have HKC := Lib.hid hkc; have HXL := Lib.hid hxl; have HNE := Lib.hid hne; have HX := Lib.hid hx3; have HZ := Lib.hid hz; have HIT := Lib.hid hit
  clear hx3 hxe3 hW3 b3 z3 y1 y2 y3 hsz ST hxe hx1 hxc hkc hxl hne hx hz hit hnil
  go_enter Tryd.func16, Tryd.ntmps16
  go_upto_region 1 with fail
  rw [← HW3.out]
  go_cut [7] (fun s7 wx => ∃ (p : Nat) (lv kv : Value), s7 = .pointer (some ⟨p, 0, none⟩) ∧ W3.heap.size ≤ p ∧ OSt W3.heap.size p L0 N0 W3 wx lv kv l ks xs)
  case first =>
    refine wp_region_invA (fun a0 listed a' wr => ∃ u7 u9 u10 u11 u12 u13 u14 u15 u16 u17, a' = acts1 a0 u7 u9 u10 u11 u12 u13 u14 u15 u16 u17 ∧ R1 W3.heap.size w.heap.size W3 A A' l.length c c' ks xs (fun j => listed.getD j false = true) u7 u9 u10 u11 u12 u13 u14 u15 u16 u17 wr) (by kernel_rfl) (by kernel_rfl) ?h0 ?hstep ?hend
    case h0 =>
      have nl : ∀ j, ¬ (Array.replicate 11 false).getD j false = true := fun j h => by rw [getD_replicate_false] at h; cases h
      refine ⟨undef, undef, undef, undef, undef, undef, undef, undef, undef, undef, (by simp only [acts1, List.setIfInBounds_toArray, List.set_cons_zero, List.set_cons_succ]), ?_⟩
      exact ⟨fun h => absurd h (nl _), fun h => absurd h (nl _), fun h => absurd h (nl _), fun h => absurd h (nl _), fun h => absurd h (nl _), fun h => absurd h (nl _), fun h => absurd h (nl _), fun h => absurd h (nl _), fun h => absurd h (nl _), fun h => absurd h (nl _), Below.drew (Below.refl _ _)⟩
    case hstep =>
      rintro listed a' wr i hc hi ⟨u7, u9, u10, u11, u12, u13, u14, u15, u16, u17, ha, h⟩
      have hi11 : i < 11 := ready_lt hi
      have hno := ready_not hi
      have hL := listed_iff listed i
      have hii := listed_now hc hi
      have hB : W3.heap.size ≤ wr.heap.size := h.low.size
      have HL := Lib.hid hL; have HII := Lib.hid hii; have H := Lib.hid h; have HC := Lib.hid hc; have HI := Lib.hid hi; have HNO := Lib.hid hno
      clear hL hii hno h hc
      rcases (by omega : i = 0 ∨ i = 1 ∨ i = 2 ∨ i = 3 ∨ i = 4 ∨ i = 5 ∨ i = 6 ∨ i = 7 ∨ i = 8 ∨ i = 9 ∨ i = 10) with rfl | rfl | rfl | rfl | rfl | rfl | rfl | rfl | rfl | rfl | rfl
      · clear hi11 hi
        subst ha
        refine wpOp_step (o := _) rfl (fun K hK => ?_)
        have HK := Lib.hid hK; clear hK
        simp only [acts1, List.setIfInBounds_toArray, List.set_cons_zero, List.set_cons_succ]
        go_simp
        exact HK.out _ _ ⟨u7, .slice (some ⟨wr.heap.size, 0, none⟩) 0 0, u10, u11, u12, u13, u14, u15, u16, u17, (by simp only [acts1, List.setIfInBounds_toArray, List.set_cons_zero, List.set_cons_succ]), H.out.s0 HL.out HII.out hB⟩
      · clear hi11 hi
        subst ha
        refine wpOp_step (o := _) rfl (fun K hK => ?_)
        have HK := Lib.hid hK; clear hK
        simp only [acts1, List.setIfInBounds_toArray, List.set_cons_zero, List.set_cons_succ]
        go_simp
        exact HK.out _ _ ⟨u7, u9, .pointer (some ⟨w.heap.size, 4, none⟩), u11, u12, u13, u14, u15, u16, u17, (by simp only [acts1, List.setIfInBounds_toArray, List.set_cons_zero, List.set_cons_succ]), H.out.s1 HL.out HII.out⟩
      · clear hi11 hi
        subst ha
        obtain rfl := H.out.f1 (ready_on HI.out (show Region.waitsFor .any _ 2 1 = true by kernel_rfl))
        obtain ⟨⟨-, hc4⟩, -⟩ := STH.out wr H.out.low
        refine wpOp_step (o := _) rfl (fun K hK => ?_)
        have HK := Lib.hid hK; clear hK
        simp only [acts1, List.setIfInBounds_toArray, List.set_cons_zero, List.set_cons_succ]
        go_simp
        exact HK.out _ _ ⟨u7, u9, .pointer (some ⟨w.heap.size, 4, none⟩), .slice A' ks.length c', u12, u13, u14, u15, u16, u17, (by simp only [acts1, List.setIfInBounds_toArray, List.set_cons_zero, List.set_cons_succ]), H.out.s2 HL.out HII.out⟩
      · clear hi11 hi
        have HA := Lib.hid ha; clear ha
        obtain rfl := H.out.f2 (ready_on HI.out (show Region.waitsFor .any _ 3 2 = true by kernel_rfl))
        obtain ⟨g, rfl, h0⟩ := H.out.f0 (ready_on HI.out (show Region.waitsFor .any _ 3 0 = true by kernel_rfl)) HNO.out
        refine wpOp_at (fun o => o.guard = none ∧ o.dst = some 12 ∧ o.op = .call { callee := .builtin .append, args := #[.tmp 9, .tmp 11], argTypes := #[23, 23] }) ⟨_, rfl, rfl, rfl, rfl⟩ (fun o ⟨hog, hod, hop⟩ K hK => ?_)
        have HK := Lib.hid hK; clear hK
        refine step_append_opt hog (.tmp 9) (.tmp 11) 23 hop W3.heap.size 9 j0 _ 1 16 Tryd.underlying23 hj hy0 hy1 hy2 rfl (by decide) (.slice (some ⟨g, 0, none⟩) 0 0) 0 [] (by rw [HA.out]; simp only [acts1, List.setIfInBounds_toArray, List.set_cons_zero, List.set_cons_succ]; rfl) h0 A' ks.length c' (ksCells ks) (by rw [HA.out]; simp only [acts1, List.setIfInBounds_toArray, List.set_cons_zero, List.set_cons_succ]; rfl) (by simp [ksCells]) (by rcases HKC.out with h | ⟨ad, e1, e2⟩; exact Or.inl h; exact Or.inr ⟨ad, e1, fun j u hu => e2 _ H.out.low j u hu⟩) (ks_one ks) (by unfold maxLen; omega) (by omega) hB ?_
        intro v' w1 hK3 gK at3
        rw [Nat.zero_add, List.nil_append] at hK3
        rw [hod]
        exact HK.out _ _ ⟨u7, .slice (some ⟨g, 0, none⟩) 0 0, u10, .slice A' ks.length c', v', u13, u14, u15, u16, u17, (by rw [HA.out]; simp only [acts1, Act.put, List.setIfInBounds_toArray, List.set_cons_zero, List.set_cons_succ]), H.out.s3 HL.out HII.out h0 hB hK3 gK (fun h => HNO.out (HC.out.on (show Region.waitsFor .any _ 8 3 = true by kernel_rfl) h)) (fun h => HNO.out (HC.out.on (show Region.waitsFor .any _ 10 3 = true by kernel_rfl) h))⟩
      · clear hi11 hi
        subst ha
        refine wpOp_step (o := _) rfl (fun K hK => ?_)
        have HK := Lib.hid hK; clear hK
        simp only [acts1, List.setIfInBounds_toArray, List.set_cons_zero, List.set_cons_succ]
        go_simp
        exact HK.out _ _ ⟨u7, u9, u10, u11, u12, .slice (some ⟨wr.heap.size, 0, none⟩) 0 0, u14, u15, u16, u17, (by simp only [acts1, List.setIfInBounds_toArray, List.set_cons_zero, List.set_cons_succ]), H.out.s4 HL.out HII.out hB (fun h => HNO.out (HC.out.on (show Region.waitsFor .any _ 7 4 = true by kernel_rfl) h))⟩
      · clear hi11 hi
        subst ha
        refine wpOp_step (o := _) rfl (fun K hK => ?_)
        have HK := Lib.hid hK; clear hK
        simp only [acts1, List.setIfInBounds_toArray, List.set_cons_zero, List.set_cons_succ]
        go_simp
        exact HK.out _ _ ⟨u7, u9, u10, u11, u12, u13, .pointer (some ⟨w.heap.size, 3, none⟩), u15, u16, u17, (by simp only [acts1, List.setIfInBounds_toArray, List.set_cons_zero, List.set_cons_succ]), H.out.s5 HL.out HII.out⟩
      · clear hi11 hi
        subst ha
        obtain rfl := H.out.f5 (ready_on HI.out (show Region.waitsFor .any _ 6 5 = true by kernel_rfl))
        obtain ⟨⟨hc3, -⟩, -⟩ := STH.out wr H.out.low
        refine wpOp_step (o := _) rfl (fun K hK => ?_)
        have HK := Lib.hid hK; clear hK
        simp only [acts1, List.setIfInBounds_toArray, List.set_cons_zero, List.set_cons_succ]
        go_simp
        exact HK.out _ _ ⟨u7, u9, u10, u11, u12, u13, .pointer (some ⟨w.heap.size, 3, none⟩), .slice A l.length c, u16, u17, (by simp only [acts1, List.setIfInBounds_toArray, List.set_cons_zero, List.set_cons_succ]), H.out.s6 HL.out HII.out⟩
      · clear hi11 hi
        have HA := Lib.hid ha; clear ha
        obtain rfl := H.out.f6 (ready_on HI.out (show Region.waitsFor .any _ 7 6 = true by kernel_rfl))
        have d4 := (ready_on HI.out (show Region.waitsFor .any _ 7 4 = true by kernel_rfl))
        obtain ⟨g, rfl, h4⟩ := H.out.f4 d4 HNO.out
        refine wpOp_at (fun o => o.guard = none ∧ o.dst = some 16 ∧ o.op = .call { callee := .builtin .append, args := #[.tmp 13, .tmp 15], argTypes := #[22, 22] }) ⟨_, rfl, rfl, rfl, rfl⟩ (fun o ⟨hog, hod, hop⟩ K hK => ?_)
        have HK := Lib.hid hK; clear hK
        refine step_append_opt hog (.tmp 13) (.tmp 15) 22 hop W3.heap.size 25 i0 _ 5 80 Tryd.underlying22 hI0 hz0 hz1 hz2 rfl (by decide) (.slice (some ⟨g, 0, none⟩) 0 0) 0 [] (by rw [HA.out]; simp only [acts1, List.setIfInBounds_toArray, List.set_cons_zero, List.set_cons_succ]; rfl) h4 A l.length c xs (by rw [HA.out]; simp only [acts1, List.setIfInBounds_toArray, List.set_cons_zero, List.set_cons_succ]; rfl) HXL.out (by rcases HXC.out with h | ⟨ad, e1, e2⟩; exact Or.inl h; exact Or.inr ⟨ad, e1, fun j u hu => e2 _ H.out.low j u hu⟩) HX1.out (by unfold maxLen; omega) (by omega) hB ?_
        intro v' w1 hL7 gL at7
        rw [Nat.zero_add, List.nil_append] at hL7
        rw [hod]
        exact HK.out _ _ ⟨u7, u9, u10, u11, u12, .slice (some ⟨g, 0, none⟩) 0 0, u14, .slice A l.length c, v', u17, (by rw [HA.out]; simp only [acts1, Act.put, List.setIfInBounds_toArray, List.set_cons_zero, List.set_cons_succ]), H.out.s7 HL.out HII.out h4 d4 HNO.out hB hL7 gL at7 (fun h => HNO.out (HC.out.on (show Region.waitsFor .any _ 8 7 = true by kernel_rfl) h)) (fun h => HNO.out (HC.out.on (show Region.waitsFor .any _ 10 7 = true by kernel_rfl) h))⟩
      · clear hi11 hi
        subst ha
        obtain ⟨K1, k1, rfl⟩ := own_formR (H.out.f3 (ready_on HI.out (show Region.waitsFor .any _ 8 3 = true by kernel_rfl)))
        obtain ⟨L1, l1, rfl⟩ := own_formR (H.out.f7 (ready_on HI.out (show Region.waitsFor .any _ 8 7 = true by kernel_rfl)))
        refine wpOp_step (o := _) rfl (fun K hK => ?_)
        have HK := Lib.hid hK; clear hK
        simp only [acts1, List.setIfInBounds_toArray, List.set_cons_zero, List.set_cons_succ]
        go_simp
        exact HK.out _ _ ⟨u7, u9, u10, u11, _, u13, u14, u15, _, _, (by simp only [acts1, List.setIfInBounds_toArray, List.set_cons_zero, List.set_cons_succ]), H.out.s8 HL.out HII.out⟩
      · clear hi11 hi
        subst ha
        refine wpOp_step (o := _) rfl (fun K hK => ?_)
        have HK := Lib.hid hK; clear hK
        simp only [acts1, List.setIfInBounds_toArray, List.set_cons_zero, List.set_cons_succ]
        go_simp
        exact HK.out _ _ ⟨.pointer (some ⟨wr.heap.size, 0, none⟩), u9, u10, u11, u12, u13, u14, u15, u16, u17, (by simp only [acts1, List.setIfInBounds_toArray, List.set_cons_zero, List.set_cons_succ]), H.out.s9 HL.out HII.out hB (fun h => HNO.out (HC.out.on (show Region.waitsFor .any _ 10 9 = true by kernel_rfl) h))⟩
      · clear hi11 hi
        subst ha
        have d3 := HC.out.on (show Region.waitsFor .any _ 8 3 = true by kernel_rfl) (ready_on HI.out (show Region.waitsFor .any _ 10 8 = true by kernel_rfl))
        have d7 := HC.out.on (show Region.waitsFor .any _ 8 7 = true by kernel_rfl) (ready_on HI.out (show Region.waitsFor .any _ 10 8 = true by kernel_rfl))
        have d9 := (ready_on HI.out (show Region.waitsFor .any _ 10 9 = true by kernel_rfl))
        obtain ⟨K1, k1, rfl⟩ := own_formR (H.out.f3 d3)
        obtain ⟨L1, l1, rfl⟩ := own_formR (H.out.f7 d7)
        obtain rfl := H.out.f8 (ready_on HI.out (show Region.waitsFor .any _ 10 8 = true by kernel_rfl))
        obtain ⟨p, rfl, hp, ⟨cs, hv, z1, -⟩, -, -⟩ := H.out.f9 d9
        rw [z1 HNO.out] at hv
        obtain ⟨⟨p0, p1, p2, p3, p4⟩, q0, q1, q2, q3, q4⟩ := box_of hv
        refine wpOp_step (o := _) rfl (fun K hK => ?_)
        have HK := Lib.hid hK; clear hK
        simp only [acts1, List.setIfInBounds_toArray, List.set_cons_zero, List.set_cons_succ]
        go_simp
        exact HK.out _ _ ⟨.pointer (some ⟨p, 0, none⟩), u9, u10, u11, _, u13, u14, u15, _, _, (by simp only [acts1, List.setIfInBounds_toArray, List.set_cons_zero, List.set_cons_succ]), H.out.s10 HL.out HII.out d3 d7 d9 HNO.out rfl⟩
    case hend =>
      rintro listed a' wr hall ⟨u7, u9, u10, u11, u12, u13, u14, u15, u16, u17, rfl, h⟩
      obtain ⟨p, rfl, hp, ⟨cs, hv, -, z2⟩, -, q2⟩ := h.f9 (hall 9 (by decide))
      obtain rfl := z2 (hall 10 (by decide))
      have hst : OSt W3.heap.size p L0 N0 W3 wr u16 u12 l ks xs := ⟨hv, h.f7 (hall 7 (by decide)), h.f3 (hall 3 (by decide)), q2 (hall 7 (by decide)), HXE.out, h.low⟩
      clear h hall z2 q2 hv
      simp only [acts1, List.setIfInBounds_toArray, List.set_cons_zero, List.set_cons_succ]
      go_wp2_with fail
      go_meet
      exact ⟨p, _, _, rfl, hp, hst⟩
  case rest =>
    obtain ⟨p, lv, kv, rfl, hp, hst⟩ := hcut
    obtain ⟨LA, lc, rfl⟩ := own_formR hst.rowL
    obtain ⟨KA, kc, rfl⟩ := own_formR hst.rowK
    have hps := (Array.getElem?_eq_some_iff.1 hst.var).1
    have hz := Z3.out
    have z3x : wc.heap[w.heap.size + 2]? = some (.cells #[.int .i64 0, .int .i64 0, .string ⟨#[]⟩, .slice none 0 0, .slice none 0 0] 25 (0, 0)) := (hst.low.block _ (by omega)).trans Y3.out
    have x3x : wc.heap[w.heap.size + 1]? = some (.cells #[x0, x1, x2, x3, x4] 25 (0, 0)) := (hst.low.block _ (by omega)).trans Y2.out
    have hkc : ∀ j (h : j < ks.length), ∃ g, KA = some ⟨g, 0, none⟩ ∧ wc.cell? ⟨g, j, none⟩ = some (.string ⟨ks[j].toArray⟩) := fun j h => by
      rcases hst.rowK.2 with ⟨_, h0⟩ | ⟨g, cap, cur, hv, _⟩
      · omega
      · injection hv with e1 e2 e3
        refine ⟨g, e1, ?_⟩
        have := World.ownsRow.cells (g := g) hst.rowK (by rw [e1]; rfl) j (.string ⟨ks[j].toArray⟩) (by unfold ksCells; rw [List.getElem?_map, List.getElem?_eq_getElem h]; rfl)
        rwa [Addr.add_lit, Nat.zero_add] at this
    obtain ⟨⟨p0, p1, p2, p3, p4⟩, q0, q1, q2, q3, q4⟩ := box_of hst.var
    have HST := Lib.hid hst; have Z3X := Lib.hid z3x; have X3X := Lib.hid x3x; have KC := Lib.hid hkc
    clear hst z3x x3x hkc hz
    go_wp2
    go_loop [8] (fun i => ∃ j : Nat, j ≤ ks.length ∧ i = .int .i64 j) (fun i => ks.length - (intOf i).toNat)
    case atStart => exact ⟨0, Nat.zero_le _, rfl⟩
    case round =>
      obtain ⟨j, hjk, rfl⟩ := hrel
      by_cases hlt : j < ks.length
      · obtain ⟨g, rfl, hc⟩ := KC.out j hlt
        have hkn : ks[j] ≠ key := fun e => HNE.out (by rw [← e]; exact List.getElem_mem hlt)
        generalize ks[j] = y at *
        have hbe : (y == key) = false := by rw [beq_eq_false_iff_ne]; exact hkn
        have hj0 : (0 : Int) ≤ j := by omega
        have hj1 : (j : Int) < ks.length := by omega
        clear hkn
        go_wp2
        go_round
        case rel => exact ⟨j + 1, by omega, by go_num⟩
        case measure => simp [intOf]; omega
      · obtain rfl : j = ks.length := by omega
        have HLOW := Lib.hid HST.out.low
        have HPS : p < wc.heap.size := hps
        have ST2 : ∀ W, Below W3.heap.size W3 W → (W.cell? ⟨w.heap.size + 1, 0, none⟩ = some x0 ∧ W.cell? ⟨w.heap.size + 1, 1, none⟩ = some x1 ∧ W.cell? ⟨w.heap.size + 1, 2, none⟩ = some x2 ∧ W.cell? ⟨w.heap.size + 1, 3, none⟩ = some x3 ∧ W.cell? ⟨w.heap.size + 1, 4, none⟩ = some x4) ∧ Below W3.heap.size W3 W := fun W hb => by
          have hz := Z3.out
          exact ⟨(box_of ((hb.block (w.heap.size + 1) (by omega)).trans Y2.out)).1, hb⟩
        have hx5 : ∀ u ∈ [x0, x1, x2, x3, x4], u.oneCell' = true := five_oneR HX.out
        have STX := Lib.hid ST2; have HX5 := Lib.hid hx5
        clear ST2 hx5
        go_upto_region 8 with fail
        go_cut [42] (fun _ wx => ∃ (lv kv : Value), OSt W3.heap.size p L0 N0 W3 wx lv kv (l ++ [x]) (ks ++ [key]) (xs ++ [x0, x1, x2, x3, x4]))
        case first =>
          refine wp_region_invA (fun a0 listed a' wr => ∃ u38 u39 u40 u41 u42 u43 u44 u45 u46 u47 u48 u49, a' = acts8 a0 u38 u39 u40 u41 u42 u43 u44 u45 u46 u47 u48 u49 ∧ R8 W3.heap.size p W3 (.slice LA l.length lc) (.slice KA ks.length kc) l.length ks xs key x0 x1 x2 x3 x4 (fun j => listed.getD j false = true) u38 u39 u40 u41 u42 u43 u44 u45 u46 u47 u48 u49 wr) (by kernel_rfl) (by kernel_rfl) ?h0 ?hstep ?hend
          case h0 =>
            have nl : ∀ j, ¬ (Array.replicate 14 false).getD j false = true := fun j h => by rw [getD_replicate_false] at h; cases h
            refine ⟨u38, u39, u40, u41, u42, u43, u44, u45, u46, u47, u48, u49, (by simp only [acts8, List.setIfInBounds_toArray, List.set_cons_zero, List.set_cons_succ]), ?_⟩
            exact ⟨fun h => absurd h (nl _), fun h => absurd h (nl _), fun h => absurd h (nl _), fun h => absurd h (nl _), fun h => absurd h (nl _), fun _ => World.ownsRow.drew HST.out.rowK, fun h => absurd h (nl _), fun h => absurd h (nl _), fun h => absurd h (nl _), fun h => absurd h (nl _), fun h => absurd h (nl _), fun _ => World.ownsRow.drew HST.out.rowL, fun h => absurd h (nl _), fun h => absurd h (nl _), ⟨_, _, drew_block HST.out.var, fun _ => rfl, fun h => absurd h (nl _), fun _ => rfl, fun h => absurd h (nl _)⟩, Below.drew HST.out.low⟩
          case hstep =>
            rintro listed a' wr i hc hi ⟨u38, u39, u40, u41, u42, u43, u44, u45, u46, u47, u48, u49, ha, h⟩
            have hi14 : i < 14 := ready_lt hi
            have hno := ready_not hi
            have hL := listed_iff listed i
            have hii := listed_now hc hi
            have hB : W3.heap.size ≤ wr.heap.size := h.low.size
            have HL := Lib.hid hL; have HII := Lib.hid hii; have H := Lib.hid h; have HC := Lib.hid hc; have HI := Lib.hid hi; have HNO := Lib.hid hno
            clear hL hii hno h hc
            rcases (by omega : i = 0 ∨ i = 1 ∨ i = 2 ∨ i = 3 ∨ i = 4 ∨ i = 5 ∨ i = 6 ∨ i = 7 ∨ i = 8 ∨ i = 9 ∨ i = 10 ∨ i = 11 ∨ i = 12 ∨ i = 13) with rfl | rfl | rfl | rfl | rfl | rfl | rfl | rfl | rfl | rfl | rfl | rfl | rfl | rfl
            · clear hi14 hi
              subst ha
              refine wpOp_step (o := _) rfl (fun K hK => ?_)
              have HK := Lib.hid hK; clear hK
              simp only [acts8, List.setIfInBounds_toArray, List.set_cons_zero, List.set_cons_succ]
              go_simp
              exact HK.out _ _ ⟨.pointer (some ⟨p, 4, none⟩), u39, u40, u41, u42, u43, u44, u45, u46, u47, u48, u49, (by simp only [acts8, List.setIfInBounds_toArray, List.set_cons_zero, List.set_cons_succ]), H.out.s0 HL.out HII.out⟩
            · clear hi14 hi
              subst ha
              obtain rfl := H.out.f0 (ready_on HI.out (show Region.waitsFor .any _ 1 0 = true by kernel_rfl))
              obtain ⟨lv', kv', hv, e1, -, -, -⟩ := H.out.var
              obtain rfl := e1 (fun h11 => HNO.out (HC.out.on (show Region.waitsFor .any _ 11 1 = true by kernel_rfl) h11))
              have hc4 := (cell_here (o := 4) hv).trans rfl
              have hc4' : wr.cell? ⟨p, 4, none⟩ = some (.slice KA ks.length kc) := hc4
              refine wpOp_step (o := _) rfl (fun K hK => ?_)
              have HK := Lib.hid hK; clear hK
              simp only [acts8, List.setIfInBounds_toArray, List.set_cons_zero, List.set_cons_succ]
              go_simp
              exact HK.out _ _ ⟨.pointer (some ⟨p, 4, none⟩), .slice KA ks.length kc, u40, u41, u42, u43, u44, u45, u46, u47, u48, u49, (by simp only [acts8, List.setIfInBounds_toArray, List.set_cons_zero, List.set_cons_succ]), H.out.s1 HL.out HII.out⟩
            · clear hi14 hi
              subst ha
              refine wpOp_step (o := _) rfl (fun K hK => ?_)
              have HK := Lib.hid hK; clear hK
              simp only [acts8, List.setIfInBounds_toArray, List.set_cons_zero, List.set_cons_succ]
              go_simp
              exact HK.out _ _ ⟨u38, u39, .string ⟨key.toArray⟩, u41, u42, u43, u44, u45, u46, u47, u48, u49, (by simp only [acts8, List.setIfInBounds_toArray, List.set_cons_zero, List.set_cons_succ]), H.out.s2 HL.out HII.out⟩
            · clear hi14 hi
              subst ha
              obtain rfl := H.out.f2 (ready_on HI.out (show Region.waitsFor .any _ 3 2 = true by kernel_rfl))
              refine wpOp_step (o := _) rfl (fun K hK => ?_)
              have HK := Lib.hid hK; clear hK
              simp only [acts8, List.setIfInBounds_toArray, List.set_cons_zero, List.set_cons_succ]
              go_simp
              exact HK.out _ _ ⟨u38, u39, .string ⟨key.toArray⟩, .slice (some ⟨wr.heap.size, 0, none⟩) 1 1, u42, u43, u44, u45, u46, u47, u48, u49, (by simp only [acts8, List.setIfInBounds_toArray, List.set_cons_zero, List.set_cons_succ]), H.out.s3 HL.out HII.out hB⟩
            · clear hi14 hi
              have HA := Lib.hid ha; clear ha
              obtain rfl := H.out.f1 (ready_on HI.out (show Region.waitsFor .any _ 4 1 = true by kernel_rfl))
              obtain ⟨g, rfl, hg⟩ := H.out.f3 (ready_on HI.out (show Region.waitsFor .any _ 4 3 = true by kernel_rfl)) HNO.out
              refine wpOp_at (fun o => o.guard = none ∧ o.dst = some 42 ∧ o.op = .call { callee := .builtin .append, args := #[.tmp 39, .tmp 41], argTypes := #[23, 23] }) ⟨_, rfl, rfl, rfl, rfl⟩ (fun o ⟨hog, hod, hop⟩ K hK => ?_)
              have HK := Lib.hid hK; clear hK
              refine step_append_opt hog (.tmp 39) (.tmp 41) 23 hop W3.heap.size 9 j0 _ 1 16 Tryd.underlying23 hj hy0 hy1 hy2 rfl (by decide) (.slice KA ks.length kc) ks.length (ksCells ks) (by rw [HA.out]; simp only [acts8, List.setIfInBounds_toArray, List.set_cons_zero, List.set_cons_succ]; rfl) (H.out.k4 HNO.out) (some ⟨g, 0, none⟩) 1 1 [.string ⟨key.toArray⟩] (by rw [HA.out]; simp only [acts8, List.setIfInBounds_toArray, List.set_cons_zero, List.set_cons_succ]; rfl) rfl (Or.inr ⟨_, rfl, one_at hg⟩) (by intro u hu; simp at hu; subst hu; rfl) (by unfold maxLen; omega) (by omega) hB ?_
              intro v' w1 hK4 gK at4
              have n11 : ¬ listed.getD 11 false = true := fun h11 => HNO.out (HC.out.on (show Region.waitsFor .any _ 11 4 = true by kernel_rfl) h11)
              rw [hod]
              exact HK.out _ _ ⟨u38, .slice KA ks.length kc, u40, .slice (some ⟨g, 0, none⟩) 1 1, v', u43, u44, u45, u46, u47, u48, u49, (by rw [HA.out]; simp only [acts8, Act.put, List.setIfInBounds_toArray, List.set_cons_zero, List.set_cons_succ]), H.out.s4 HL.out HII.out HNO.out n11 hB hK4 gK⟩
            · clear hi14 hi
              subst ha
              refine wpOp_step (o := _) rfl (fun K hK => ?_)
              have HK := Lib.hid hK; clear hK
              simp only [acts8, List.setIfInBounds_toArray, List.set_cons_zero, List.set_cons_succ]
              go_simp
              exact HK.out _ _ ⟨u38, u39, u40, u41, u42, .pointer (some ⟨p, 3, none⟩), u44, u45, u46, u47, u48, u49, (by simp only [acts8, List.setIfInBounds_toArray, List.set_cons_zero, List.set_cons_succ]), H.out.s5 HL.out HII.out⟩
            · clear hi14 hi
              subst ha
              obtain rfl := H.out.f5 (ready_on HI.out (show Region.waitsFor .any _ 6 5 = true by kernel_rfl))
              obtain ⟨lv', kv', hv, -, -, e3, -⟩ := H.out.var
              obtain rfl := e3 (fun h13 => HNO.out (HC.out.on (show Region.waitsFor .any _ 13 6 = true by kernel_rfl) h13))
              have hc3' : wr.cell? ⟨p, 3, none⟩ = some (.slice LA l.length lc) := cell_here (o := 3) hv
              refine wpOp_step (o := _) rfl (fun K hK => ?_)
              have HK := Lib.hid hK; clear hK
              simp only [acts8, List.setIfInBounds_toArray, List.set_cons_zero, List.set_cons_succ]
              go_simp
              exact HK.out _ _ ⟨u38, u39, u40, u41, u42, .pointer (some ⟨p, 3, none⟩), .slice LA l.length lc, u45, u46, u47, u48, u49, (by simp only [acts8, List.setIfInBounds_toArray, List.set_cons_zero, List.set_cons_succ]), H.out.s6 HL.out HII.out⟩
            · clear hi14 hi
              subst ha
              obtain ⟨⟨c0, c1, c2, c3, c4⟩, -⟩ := STX.out wr H.out.low
              refine wpOp_step (o := _) rfl (fun K hK => ?_)
              have HK := Lib.hid hK; clear hK
              simp only [acts8, List.setIfInBounds_toArray, List.set_cons_zero, List.set_cons_succ]
              go_simp
              exact HK.out _ _ ⟨u38, u39, u40, u41, u42, u43, u44, .agg #[x0, x1, x2, x3, x4], u46, u47, u48, u49, (by simp only [acts8, List.setIfInBounds_toArray, List.set_cons_zero, List.set_cons_succ]), H.out.s7 HL.out HII.out⟩
            · clear hi14 hi
              subst ha
              obtain rfl := H.out.f7 (ready_on HI.out (show Region.waitsFor .any _ 8 7 = true by kernel_rfl))
              refine wpOp_step (o := _) rfl (fun K hK => ?_)
              have HK := Lib.hid hK; clear hK
              simp only [acts8, List.setIfInBounds_toArray, List.set_cons_zero, List.set_cons_succ]
              go_simp
              exact HK.out _ _ ⟨u38, u39, u40, u41, u42, u43, u44, .agg #[x0, x1, x2, x3, x4], .slice (some ⟨wr.heap.size, 0, none⟩) 1 1, u47, u48, u49, (by simp only [acts8, List.setIfInBounds_toArray, List.set_cons_zero, List.set_cons_succ]), H.out.s8 HL.out HII.out hB⟩
            · clear hi14 hi
              have HA := Lib.hid ha; clear ha
              obtain rfl := H.out.f6 (ready_on HI.out (show Region.waitsFor .any _ 9 6 = true by kernel_rfl))
              obtain ⟨g, rfl, hg⟩ := H.out.f8 (ready_on HI.out (show Region.waitsFor .any _ 9 8 = true by kernel_rfl)) HNO.out
              refine wpOp_at (fun o => o.guard = none ∧ o.dst = some 47 ∧ o.op = .call { callee := .builtin .append, args := #[.tmp 44, .tmp 46], argTypes := #[22, 22] }) ⟨_, rfl, rfl, rfl, rfl⟩ (fun o ⟨hog, hod, hop⟩ K hK => ?_)
              have HK := Lib.hid hK; clear hK
              refine step_append_opt hog (.tmp 44) (.tmp 46) 22 hop W3.heap.size 25 i0 _ 5 80 Tryd.underlying22 hI0 hz0 hz1 hz2 rfl (by decide) (.slice LA l.length lc) l.length xs (by rw [HA.out]; simp only [acts8, List.setIfInBounds_toArray, List.set_cons_zero, List.set_cons_succ]; rfl) (H.out.k9 HNO.out) (some ⟨g, 0, none⟩) 1 1 [x0, x1, x2, x3, x4] (by rw [HA.out]; simp only [acts8, List.setIfInBounds_toArray, List.set_cons_zero, List.set_cons_succ]; rfl) rfl (Or.inr ⟨_, rfl, five_at hg⟩) HX5.out (by unfold maxLen; omega) (by omega) hB ?_
              intro v' w1 hL9 gL at9
              have n13 : ¬ listed.getD 13 false = true := fun h13 => HNO.out (HC.out.on (show Region.waitsFor .any _ 13 9 = true by kernel_rfl) h13)
              rw [hod]
              exact HK.out _ _ ⟨u38, u39, u40, u41, u42, u43, .slice LA l.length lc, u45, .slice (some ⟨g, 0, none⟩) 1 1, v', u48, u49, (by rw [HA.out]; simp only [acts8, Act.put, List.setIfInBounds_toArray, List.set_cons_zero, List.set_cons_succ]), H.out.s9 HL.out HII.out HNO.out n13 hB HST.out.far hL9 gL at9⟩
            · clear hi14 hi
              subst ha
              refine wpOp_step (o := _) rfl (fun K hK => ?_)
              have HK := Lib.hid hK; clear hK
              simp only [acts8, List.setIfInBounds_toArray, List.set_cons_zero, List.set_cons_succ]
              go_simp
              exact HK.out _ _ ⟨u38, u39, u40, u41, u42, u43, u44, u45, u46, u47, .pointer (some ⟨p, 4, none⟩), u49, (by simp only [acts8, List.setIfInBounds_toArray, List.set_cons_zero, List.set_cons_succ]), H.out.s10 HL.out HII.out⟩
            · clear hi14 hi
              subst ha
              obtain rfl := H.out.f10 (ready_on HI.out (show Region.waitsFor .any _ 11 10 = true by kernel_rfl))
              have d4 := (ready_on HI.out (show Region.waitsFor .any _ 11 4 = true by kernel_rfl))
              have d9 := (ready_on HI.out (show Region.waitsFor .any _ 11 9 = true by kernel_rfl))
              obtain ⟨A4, q4, rfl⟩ := own_formR (H.out.f4 d4)
              obtain ⟨lv', kv', hv, -⟩ := H.out.var
              have hc4 : wr.cell? ⟨p, 4, none⟩ = some kv' := cell_here (o := 4) hv
              have hf4 : wr.frozen? ⟨p, 4, none⟩ = false := frozen_here hv 4
              refine wpOp_step (o := _) rfl (fun K hK => ?_)
              have HK := Lib.hid hK; clear hK
              simp only [acts8, List.setIfInBounds_toArray, List.set_cons_zero, List.set_cons_succ]
              go_simp
              exact HK.out _ _ ⟨u38, u39, u40, u41, _, u43, u44, u45, u46, u47, .pointer (some ⟨p, 4, none⟩), u49, (by simp only [acts8, List.setIfInBounds_toArray, List.set_cons_zero, List.set_cons_succ]), H.out.s11 HL.out HII.out d4 d9 hp⟩
            · clear hi14 hi
              subst ha
              refine wpOp_step (o := _) rfl (fun K hK => ?_)
              have HK := Lib.hid hK; clear hK
              simp only [acts8, List.setIfInBounds_toArray, List.set_cons_zero, List.set_cons_succ]
              go_simp
              exact HK.out _ _ ⟨u38, u39, u40, u41, u42, u43, u44, u45, u46, u47, u48, .pointer (some ⟨p, 3, none⟩), (by simp only [acts8, List.setIfInBounds_toArray, List.set_cons_zero, List.set_cons_succ]), H.out.s12 HL.out HII.out⟩
            · clear hi14 hi
              subst ha
              obtain rfl := H.out.f12 (ready_on HI.out (show Region.waitsFor .any _ 13 12 = true by kernel_rfl))
              have d4 := (ready_on HI.out (show Region.waitsFor .any _ 13 4 = true by kernel_rfl))
              have d9 := (ready_on HI.out (show Region.waitsFor .any _ 13 9 = true by kernel_rfl))
              obtain ⟨A9, q9, rfl⟩ := own_formR (H.out.f9 d9).1
              obtain ⟨lv', kv', hv, -⟩ := H.out.var
              have hc3 : wr.cell? ⟨p, 3, none⟩ = some lv' := cell_here (o := 3) hv
              have hf3 : wr.frozen? ⟨p, 3, none⟩ = false := frozen_here hv 3
              refine wpOp_step (o := _) rfl (fun K hK => ?_)
              have HK := Lib.hid hK; clear hK
              simp only [acts8, List.setIfInBounds_toArray, List.set_cons_zero, List.set_cons_succ]
              go_simp
              exact HK.out _ _ ⟨u38, u39, u40, u41, u42, u43, u44, u45, u46, _, u48, .pointer (some ⟨p, 3, none⟩), (by simp only [acts8, List.setIfInBounds_toArray, List.set_cons_zero, List.set_cons_succ]), H.out.s13 HL.out HII.out d4 d9 hp⟩
          case hend =>
            rintro listed a' wr hall ⟨u38, u39, u40, u41, u42, u43, u44, u45, u46, u47, u48, u49, rfl, h⟩
            obtain ⟨lv', kv', hv, -, e2, -, e4⟩ := h.var
            obtain rfl := e2 (hall 11 (by decide))
            obtain rfl := e4 (hall 13 (by decide))
            have hgrow := HST.out.grown hp key x HX.out hv (h.f4 (hall 4 (by decide))) (h.f9 (hall 9 (by decide))).1 (h.f9 (hall 9 (by decide))).2 h.low
            clear h hall e2 e4 hv
            simp only [acts8, List.setIfInBounds_toArray, List.set_cons_zero, List.set_cons_succ]
            go_wp2_with fail
            go_meet
            exact ⟨_, _, hgrow⟩
        case rest =>
          obtain ⟨lv2, kv2, hst2⟩ := hcut
          have rl := hst2.rowL
          have rk := hst2.rowK
          rw [List.length_append, List.length_singleton] at rl rk
          obtain ⟨A2, c2, rfl⟩ := own_formR rl
          obtain ⟨A3, c3, rfl⟩ := own_formR rk
          have z3 := Z3.out
          have hps2 := (Array.getElem?_eq_some_iff.1 hst2.var).1
          have z3x : wc.heap[w.heap.size + 2]? = some (.cells #[.int .i64 0, .int .i64 0, .string ⟨#[]⟩, .slice none 0 0, .slice none 0 0] 25 (0, 0)) := (hst2.low.block _ (by omega)).trans Y3.out
          obtain ⟨⟨v0, v1, v2, v3, v4⟩, -⟩ := box_of hst2.var
          obtain ⟨⟨r0, r1, r2, r3, r4⟩, s0, s1, s2, s3, s4⟩ := box_of z3x
          have HST2 := Lib.hid hst2; have Z3X2 := Lib.hid z3x
          clear hst2 rl rk z3 z3x hps2
          go_wp2
          obtain ⟨wf, hwf⟩ : ∃ wf, wf = set5 wc (w.heap.size + 2) 0 (.int .i64 6) (.int .i64 0) (.string ⟨#[]⟩) (.slice A2 (l.length + 1) c2) (.slice A3 (ks.length + 1) c3) := ⟨_, rfl⟩
          change bodyPost _ _ _ _ _ (set5 wc (w.heap.size + 2) 0 (.int .i64 6) (.int .i64 0) (.string ⟨#[]⟩) (.slice A2 (l.length + 1) c2) (.slice A3 (ks.length + 1) c3))
          rw [← hwf]
          have hz3 := Z3.out
          have hxr : wf.heap[w.heap.size + 2]? = some (.cells #[.int .i64 6, .int .i64 0, .string ⟨#[]⟩, .slice A2 (l.length + 1) c2, .slice A3 (ks.length + 1) c3] 25 (0, 0)) := by
            have := set5_here (o := 0) (c0 := .int .i64 6) (c1 := .int .i64 0) (c2 := .string ⟨#[]⟩) (c3 := .slice A2 (l.length + 1) c2) (c4 := .slice A3 (ks.length + 1) c3) Z3X2.out
            rw [hwf]; simpa using this
          have hvf := HST2.out.done hp (by omega) (by omega) (show w.heap.size + 2 < W3.heap.size by omega) (by omega) (by simp; omega) (by simp; omega) (by intro y hy; rcases List.mem_append.1 hy with h | h; exact HZ.out y h; simp at h; subst h; exact hkz)
            (wf := wf) (fun b hb => by rw [hwf]; exact set5_there hb) (by rw [hwf, set5_size])
          have hbf : Below w.heap.size w wf := by rw [hwf]; exact (B3.out.trans (HST2.out.low.mono (by omega))).trans (set5_below (by omega))
          obtain ⟨⟨t0, t1, t2, t3, t4⟩, -⟩ := box_of hxr
          have rl := HST2.out.rowL
          have rk := HST2.out.rowK
          rw [List.length_append, List.length_singleton] at rl
          have hcl : PutCells w wf A l.length (· ++ [x0, x1, x2, x3, x4]) (.slice A2 (l.length + 1) c2) (l.length + 1) (.slice A3 (ks.length + 1) c3) (ks ++ [key]) :=
            ⟨xs, HXL.out, HXW.out, own_base (own_kept rl fun g hg => by rw [hwf]; exact set5_there (by have := (rl.lt g hg).1; omega)) (by omega), own_base (own_kept rk fun g hg => by rw [hwf]; exact set5_there (by have := (rk.lt g hg).1; omega)) (by omega)⟩
          have HCL := Lib.hid hcl
          clear rl rk hcl
          have HVF := Lib.hid hvf; have HBF := Lib.hid hbf
          clear hvf hbf hxr hwf v0 v1 v2 v3 v4 r0 r1 r2 r3 r4 s0 s1 s2 s3 s4
          refine bodyPost_ret (v := .agg #[.int .i64 6, .int .i64 0, .string ⟨#[]⟩, .slice A2 (l.length + 1) c2, .slice A3 (ks.length + 1) c3]) (by simp [results, Tryd.results16, go_sem, t0, t1, t2, t3, t4]) rfl ?_
          exact ⟨_, _, _, _, rfl, HVF.out, HBF.out, HCL.out⟩
theorem refPut_new : PutNew := fun k n t l ks key x w L N L0 N0 A A' c c' x0 x1 x2 x3 x4 hl hk hz hkz hne hN hN0 hL0 hnil hit hx =>
  (refPut_newX k n t l ks key x w L N L0 N0 A A' c c' x0 x1 x2 x3 x4 hl hk hz hkz hne hN hN0 hL0 hnil hit hx).mono fun e w' ⟨B, b, B', b', he, hv, hb, _⟩ => ⟨B, b, B', b', he, hv, hb⟩
end Go.Proofs.YtobicmpgfiddhaaDoor
namespace Go.Proofs.YtobicmpgfiddhaaDoor
open Go.RowKit
set_option linter.unusedVariables false
set_option linter.unusedSimpArgs false

attribute [local go_sem ↓] Go.wp_at_zero Go.wp_at_succ
/-- what Put answers of a key that the object has, at number i0 first -/
def PutOld : Prop := ∀ (k n : Int) (t : List UInt8) (l : List V) (ks : List (List UInt8)) (key : List UInt8) (x : V) (w : World) (L N L0 N0 : Nat) (A A' : Option Addr) (c c' : Nat) (x0 x1 x2 x3 x4 : Value) (jj : Nat)
    (hl : l.length ≤ 100000) (hk : ks.length ≤ 100000) (hz : ∀ y ∈ ks, y.length ≤ 9223372036854775807) (hkz : key.length ≤ 9223372036854775807) (hjl : jj < l.length) (hjk : ∃ h : jj < ks.length, ks[jj] = key) (hne : ∀ i (h : i < ks.length), i < jj → ks[i] ≠ key) (hN : N ≤ w.heap.size) (hN0 : N0 ≤ w.heap.size) (hL0 : L0 ≤ w.heap.size)
    (hnil : (A = none ∧ A' = none ∧ l = [] ∧ ks = [] ∧ c = 0 ∧ c' = 0) ∨ ∃ b o b' o', A = some ⟨b, o, none⟩ ∧ A' = some ⟨b', o', none⟩ ∧ LIs w L N l b o ∧ KIs w L N ks b' o')
    (hit : ∀ i (h : i < l.length) cs, VIs w L N l[i] cs → VIs w L0 N0 l[i] cs) (hx : VIs w L0 N0 x [x0, x1, x2, x3, x4]),
    Calls Tryd.prog 16 #[.agg #[.int .i64 k, .int .i64 n, .string ⟨t.toArray⟩, .slice A l.length c, .slice A' ks.length c'], .string ⟨key.toArray⟩, .agg #[x0, x1, x2, x3, x4]] w fun e w' => ∃ B b B' b', e = .returned (.agg #[.int .i64 6, .int .i64 0, .string ⟨#[]⟩, .slice B l.length b, .slice B' ks.length b']) ∧
      VIs w' L0 w'.heap.size (.mk 6 0 [] (l.set jj x) ks) [.int .i64 6, .int .i64 0, .string ⟨#[]⟩, .slice B l.length b, .slice B' ks.length b'] ∧ Below w.heap.size w w'
/-- with the cells of the rows -/
def PutOldX : Prop := ∀ (k n : Int) (t : List UInt8) (l : List V) (ks : List (List UInt8)) (key : List UInt8) (x : V) (w : World) (L N L0 N0 : Nat) (A A' : Option Addr) (c c' : Nat) (x0 x1 x2 x3 x4 : Value) (jj : Nat)
    (hl : l.length ≤ 100000) (hk : ks.length ≤ 100000) (hz : ∀ y ∈ ks, y.length ≤ 9223372036854775807) (hkz : key.length ≤ 9223372036854775807) (hjl : jj < l.length) (hjk : ∃ h : jj < ks.length, ks[jj] = key) (hne : ∀ i (h : i < ks.length), i < jj → ks[i] ≠ key) (hN : N ≤ w.heap.size) (hN0 : N0 ≤ w.heap.size) (hL0 : L0 ≤ w.heap.size)
    (hnil : (A = none ∧ A' = none ∧ l = [] ∧ ks = [] ∧ c = 0 ∧ c' = 0) ∨ ∃ b o b' o', A = some ⟨b, o, none⟩ ∧ A' = some ⟨b', o', none⟩ ∧ LIs w L N l b o ∧ KIs w L N ks b' o')
    (hit : ∀ i (h : i < l.length) cs, VIs w L N l[i] cs → VIs w L0 N0 l[i] cs) (hx : VIs w L0 N0 x [x0, x1, x2, x3, x4]),
    Calls Tryd.prog 16 #[.agg #[.int .i64 k, .int .i64 n, .string ⟨t.toArray⟩, .slice A l.length c, .slice A' ks.length c'], .string ⟨key.toArray⟩, .agg #[x0, x1, x2, x3, x4]] w fun e w' => ∃ B b B' b', e = .returned (.agg #[.int .i64 6, .int .i64 0, .string ⟨#[]⟩, .slice B l.length b, .slice B' ks.length b']) ∧
      VIs w' L0 w'.heap.size (.mk 6 0 [] (l.set jj x) ks) [.int .i64 6, .int .i64 0, .string ⟨#[]⟩, .slice B l.length b, .slice B' ks.length b'] ∧ Below w.heap.size w w' ∧
      PutCells w w' A l.length (fun xs => put5 xs (jj * 5) x0 x1 x2 x3 x4) (.slice B l.length b) l.length (.slice B' ks.length b') ks
set_option maxRecDepth 100000 in
set_option maxHeartbeats 40000000 in
theorem refPut_oldX : PutOldX := by
  intro k n t l ks key x w L N L0 N0 A A' c c' x0 x1 x2 x3 x4 jj hl hk hz hkz hjl hjk hne hN hN0 hL0 hnil hit hx
  obtain ⟨i0, hI0, hz0, hz1, hz2⟩ := info_parts Tryd.infoValR
  obtain ⟨j0, hj, hy0, hy1, hy2⟩ := info_parts Tryd.infoStrR
  obtain ⟨W3, hW3⟩ : ∃ W3, W3 = (((w.alloc (.cells #[.int .i64 k, .int .i64 n, .string ⟨t.toArray⟩, .slice A l.length c, .slice A' ks.length c'] 25)).alloc (.cells #[x0, x1, x2, x3, x4] 25)).alloc (.cells #[.int .i64 0, .int .i64 0, .string ⟨#[]⟩, .slice none 0 0, .slice none 0 0] 25)) := ⟨_, rfl⟩
  have b3 : Below w.heap.size w W3 := by rw [hW3]; exact (((Below.refl _ _).alloc (Nat.le_refl _) _).alloc (by simp) _).alloc (by simp; omega) _
  have z3 : W3.heap.size = w.heap.size + 3 := by rw [hW3]; simp
  have y1 : W3.heap[w.heap.size]? = some (.cells #[.int .i64 k, .int .i64 n, .string ⟨t.toArray⟩, .slice A l.length c, .slice A' ks.length c'] 25 (0, 0)) := by rw [hW3]; exact alloc_block (alloc_block (heap_alloc_last w _))
  have y2 : W3.heap[w.heap.size + 1]? = some (.cells #[x0, x1, x2, x3, x4] 25 (0, 0)) := by
    rw [hW3]; refine alloc_block ?_
    have := heap_alloc_last (w.alloc (.cells #[.int .i64 k, .int .i64 n, .string ⟨t.toArray⟩, .slice A l.length c, .slice A' ks.length c'] 25)) (.cells #[x0, x1, x2, x3, x4] 25)
    simpa using this
  have y3 : W3.heap[w.heap.size + 2]? = some (.cells #[.int .i64 0, .int .i64 0, .string ⟨#[]⟩, .slice none 0 0, .slice none 0 0] 25 (0, 0)) := by
    rw [hW3]
    have := heap_alloc_last ((w.alloc (.cells #[.int .i64 k, .int .i64 n, .string ⟨t.toArray⟩, .slice A l.length c, .slice A' ks.length c'] 25)).alloc (.cells #[x0, x1, x2, x3, x4] 25)) (.cells #[.int .i64 0, .int .i64 0, .string ⟨#[]⟩, .slice none 0 0, .slice none 0 0] 25)
    simpa using this
  have hsz : (W3.heap.size : Nat) = w.heap.size + 3 := z3
  have ST : ∀ W, Below W3.heap.size W3 W → (W.cell? ⟨w.heap.size, 3, none⟩ = some (.slice A l.length c) ∧ W.cell? ⟨w.heap.size, 4, none⟩ = some (.slice A' ks.length c')) ∧ Below W3.heap.size W3 W := fun W hb =>
    ⟨⟨(hb.cell (p := ⟨w.heap.size, 3, none⟩) (by show w.heap.size < _; omega)).trans (cell_here y1), (hb.cell (p := ⟨w.heap.size, 4, none⟩) (by show w.heap.size < _; omega)).trans (cell_here y1)⟩, hb⟩
  obtain ⟨xs, hxw, hxl, hxc, hx1, hxe⟩ : ∃ xs : List Value, (∀ b o, A = some ⟨b, o, none⟩ → ∀ j u, xs[j]? = some u → w.cell? ⟨b, o + j, none⟩ = some u) ∧ xs.length = l.length * 5 ∧ ((A = none ∧ l.length = 0 ∧ c = 0) ∨ ∃ ad, A = some ad ∧ ∀ W, Below W3.heap.size W3 W → ∀ j u, xs[j]? = some u → W.cell? (ad.add j) = some u) ∧ (∀ u ∈ xs, u.oneCell' = true) ∧
      ∀ i (h : i < l.length), ∃ c0 c1 c2 c3 c4, xs[i * 5]? = some c0 ∧ xs[i * 5 + 1]? = some c1 ∧ xs[i * 5 + 2]? = some c2 ∧ xs[i * 5 + 3]? = some c3 ∧ xs[i * 5 + 4]? = some c4 ∧ VIs w L0 N0 l[i] [c0, c1, c2, c3, c4] := by
    rcases hnil with ⟨rfl, _, rfl, _, rfl, _⟩ | ⟨b, o, b', o', rfl, rfl, hl1, hk1⟩
    · exact ⟨[], (fun b o e => by cases e), by simp, .inl ⟨rfl, rfl, rfl⟩, by simp, fun i h => absurd h (Nat.not_lt_zero _)⟩
    · obtain ⟨xs, n1, n2, n3, n4⟩ := flat_items hl1
      refine ⟨xs, (fun b2 o2 e j u hu => by cases e; exact (n2 j u hu).2), n1, .inr ⟨_, rfl, fun W hW j u hu => ?_⟩, n3, fun i h => ?_⟩
      · obtain ⟨hb, hc⟩ := n2 j u hu
        rw [Addr.add_lit]
        refine (hW.cell (p := ⟨b, o + j, none⟩) (by show b < _; omega)).trans ((b3.cell (p := ⟨b, o + j, none⟩) (by show b < _; omega)).trans hc)
      · obtain ⟨c0, c1, c2, c3, c4, e0, e1, e2, e3, e4, hv⟩ := n4 i h
        exact ⟨c0, c1, c2, c3, c4, e0, e1, e2, e3, e4, hit i h _ hv⟩
  have hkc : ((A' = none ∧ ks.length = 0 ∧ c' = 0) ∨ ∃ ad, A' = some ad ∧ ∀ W, Below W3.heap.size W3 W → ∀ j u, (ksCells ks)[j]? = some u → W.cell? (ad.add j) = some u) := by
    rcases hnil with ⟨_, rfl, _, rfl, _, rfl⟩ | ⟨b, o, b', o', rfl, rfl, hl1, hk1⟩
    · exact .inl ⟨rfl, rfl, rfl⟩
    · refine .inr ⟨_, rfl, fun W hW j u hu => ?_⟩
      have hj : j < ks.length := by have := (List.getElem?_eq_some_iff.1 hu).1; unfold ksCells at this; simpa using this
      obtain ⟨_, hb, hc⟩ := hk1.get j hj
      have hu' : u = .string ⟨ks[j].toArray⟩ := by
        unfold ksCells at hu
        rw [List.getElem?_map, List.getElem?_eq_getElem hj] at hu
        exact (Option.some.inj hu).symm
      rw [hu', Addr.add_lit]
      exact (hW.cell (p := ⟨b', o' + j, none⟩) (by show b' < _; omega)).trans ((b3.cell (p := ⟨b', o' + j, none⟩) (by show b' < _; omega)).trans hc)
  have hxe3 : ∀ i (h : i < l.length), ∃ c0 c1 c2 c3 c4, xs[i * 5]? = some c0 ∧ xs[i * 5 + 1]? = some c1 ∧ xs[i * 5 + 2]? = some c2 ∧ xs[i * 5 + 3]? = some c3 ∧ xs[i * 5 + 4]? = some c4 ∧ VIs W3 L0 N0 l[i] [c0, c1, c2, c3, c4] := fun i h => by
    obtain ⟨c0, c1, c2, c3, c4, e0, e1, e2, e3, e4, hv⟩ := hxe i h
    exact ⟨c0, c1, c2, c3, c4, e0, e1, e2, e3, e4, hv.below (b3.mono hN0)⟩
  have hx3 := hx.below (b3.mono hN0)
  have HXW := Lib.hid hxw; clear hxw
  have HW3 := Lib.hid hW3; have B3 := Lib.hid b3; have Z3 := Lib.hid z3; have Y1 := Lib.hid y1; have Y2 := Lib.hid y2; have Y3 := Lib.hid y3; have STH := Lib.hid ST; have HXE := Lib.hid hxe3; have HX1 := Lib.hid hx1; have HXC := Lib.hid hxc; have HKC := Lib.hid hkc; have HXL := Lib.hid hxl; have HNE := Lib.hid hne; have HX := Lib.hid hx3; have HZ := Lib.hid hz; have HIT := Lib.hid hit
  clear hx3 hxe3 hW3 b3 z3 y1 y2 y3 hsz ST hxe hx1 hxc hkc hxl hne hx hz hit hnil
  go_enter Tryd.func16, Tryd.ntmps16
  go_upto_region 1 with fail
  rw [← HW3.out]
  go_cut [7] (fun s7 wx => ∃ (p : Nat) (lv kv : Value), s7 = .pointer (some ⟨p, 0, none⟩) ∧ W3.heap.size ≤ p ∧ OSt W3.heap.size p L0 N0 W3 wx lv kv l ks xs)
  case first =>
    refine wp_region_invA (fun a0 listed a' wr => ∃ u7 u9 u10 u11 u12 u13 u14 u15 u16 u17, a' = acts1 a0 u7 u9 u10 u11 u12 u13 u14 u15 u16 u17 ∧ R1 W3.heap.size w.heap.size W3 A A' l.length c c' ks xs (fun j => listed.getD j false = true) u7 u9 u10 u11 u12 u13 u14 u15 u16 u17 wr) (by kernel_rfl) (by kernel_rfl) ?h0 ?hstep ?hend
    case h0 =>
      have nl : ∀ j, ¬ (Array.replicate 11 false).getD j false = true := fun j h => by rw [getD_replicate_false] at h; cases h
      refine ⟨undef, undef, undef, undef, undef, undef, undef, undef, undef, undef, (by simp only [acts1, List.setIfInBounds_toArray, List.set_cons_zero, List.set_cons_succ]), ?_⟩
      exact ⟨fun h => absurd h (nl _), fun h => absurd h (nl _), fun h => absurd h (nl _), fun h => absurd h (nl _), fun h => absurd h (nl _), fun h => absurd h (nl _), fun h => absurd h (nl _), fun h => absurd h (nl _), fun h => absurd h (nl _), fun h => absurd h (nl _), Below.drew (Below.refl _ _)⟩
    case hstep =>
      rintro listed a' wr i hc hi ⟨u7, u9, u10, u11, u12, u13, u14, u15, u16, u17, ha, h⟩
      have hi11 : i < 11 := ready_lt hi
      have hno := ready_not hi
      have hL := listed_iff listed i
      have hii := listed_now hc hi
      have hB : W3.heap.size ≤ wr.heap.size := h.low.size
      have HL := Lib.hid hL; have HII := Lib.hid hii; have H := Lib.hid h; have HC := Lib.hid hc; have HI := Lib.hid hi; have HNO := Lib.hid hno
      clear hL hii hno h hc
      rcases (by omega : i = 0 ∨ i = 1 ∨ i = 2 ∨ i = 3 ∨ i = 4 ∨ i = 5 ∨ i = 6 ∨ i = 7 ∨ i = 8 ∨ i = 9 ∨ i = 10) with rfl | rfl | rfl | rfl | rfl | rfl | rfl | rfl | rfl | rfl | rfl
      · clear hi11 hi
        subst ha
        refine wpOp_step (o := _) rfl (fun K hK => ?_)
        have HK := Lib.hid hK; clear hK
        simp only [acts1, List.setIfInBounds_toArray, List.set_cons_zero, List.set_cons_succ]
        go_simp
        exact HK.out _ _ ⟨u7, .slice (some ⟨wr.heap.size, 0, none⟩) 0 0, u10, u11, u12, u13, u14, u15, u16, u17, (by simp only [acts1, List.setIfInBounds_toArray, List.set_cons_zero, List.set_cons_succ]), H.out.s0 HL.out HII.out hB⟩
      · clear hi11 hi
        subst ha
        refine wpOp_step (o := _) rfl (fun K hK => ?_)
        have HK := Lib.hid hK; clear hK
        simp only [acts1, List.setIfInBounds_toArray, List.set_cons_zero, List.set_cons_succ]
        go_simp
        exact HK.out _ _ ⟨u7, u9, .pointer (some ⟨w.heap.size, 4, none⟩), u11, u12, u13, u14, u15, u16, u17, (by simp only [acts1, List.setIfInBounds_toArray, List.set_cons_zero, List.set_cons_succ]), H.out.s1 HL.out HII.out⟩
      · clear hi11 hi
        subst ha
        obtain rfl := H.out.f1 (ready_on HI.out (show Region.waitsFor .any _ 2 1 = true by kernel_rfl))
        obtain ⟨⟨-, hc4⟩, -⟩ := STH.out wr H.out.low
        refine wpOp_step (o := _) rfl (fun K hK => ?_)
        have HK := Lib.hid hK; clear hK
        simp only [acts1, List.setIfInBounds_toArray, List.set_cons_zero, List.set_cons_succ]
        go_simp
        exact HK.out _ _ ⟨u7, u9, .pointer (some ⟨w.heap.size, 4, none⟩), .slice A' ks.length c', u12, u13, u14, u15, u16, u17, (by simp only [acts1, List.setIfInBounds_toArray, List.set_cons_zero, List.set_cons_succ]), H.out.s2 HL.out HII.out⟩
      · clear hi11 hi
        have HA := Lib.hid ha; clear ha
        obtain rfl := H.out.f2 (ready_on HI.out (show Region.waitsFor .any _ 3 2 = true by kernel_rfl))
        obtain ⟨g, rfl, h0⟩ := H.out.f0 (ready_on HI.out (show Region.waitsFor .any _ 3 0 = true by kernel_rfl)) HNO.out
        refine wpOp_at (fun o => o.guard = none ∧ o.dst = some 12 ∧ o.op = .call { callee := .builtin .append, args := #[.tmp 9, .tmp 11], argTypes := #[23, 23] }) ⟨_, rfl, rfl, rfl, rfl⟩ (fun o ⟨hog, hod, hop⟩ K hK => ?_)
        have HK := Lib.hid hK; clear hK
        refine step_append_opt hog (.tmp 9) (.tmp 11) 23 hop W3.heap.size 9 j0 _ 1 16 Tryd.underlying23 hj hy0 hy1 hy2 rfl (by decide) (.slice (some ⟨g, 0, none⟩) 0 0) 0 [] (by rw [HA.out]; simp only [acts1, List.setIfInBounds_toArray, List.set_cons_zero, List.set_cons_succ]; rfl) h0 A' ks.length c' (ksCells ks) (by rw [HA.out]; simp only [acts1, List.setIfInBounds_toArray, List.set_cons_zero, List.set_cons_succ]; rfl) (by simp [ksCells]) (by rcases HKC.out with h | ⟨ad, e1, e2⟩; exact Or.inl h; exact Or.inr ⟨ad, e1, fun j u hu => e2 _ H.out.low j u hu⟩) (ks_one ks) (by unfold maxLen; omega) (by omega) hB ?_
        intro v' w1 hK3 gK at3
        rw [Nat.zero_add, List.nil_append] at hK3
        rw [hod]
        exact HK.out _ _ ⟨u7, .slice (some ⟨g, 0, none⟩) 0 0, u10, .slice A' ks.length c', v', u13, u14, u15, u16, u17, (by rw [HA.out]; simp only [acts1, Act.put, List.setIfInBounds_toArray, List.set_cons_zero, List.set_cons_succ]), H.out.s3 HL.out HII.out h0 hB hK3 gK (fun h => HNO.out (HC.out.on (show Region.waitsFor .any _ 8 3 = true by kernel_rfl) h)) (fun h => HNO.out (HC.out.on (show Region.waitsFor .any _ 10 3 = true by kernel_rfl) h))⟩
      · clear hi11 hi
        subst ha
        refine wpOp_step (o := _) rfl (fun K hK => ?_)
        have HK := Lib.hid hK; clear hK
        simp only [acts1, List.setIfInBounds_toArray, List.set_cons_zero, List.set_cons_succ]
        go_simp
        exact HK.out _ _ ⟨u7, u9, u10, u11, u12, .slice (some ⟨wr.heap.size, 0, none⟩) 0 0, u14, u15, u16, u17, (by simp only [acts1, List.setIfInBounds_toArray, List.set_cons_zero, List.set_cons_succ]), H.out.s4 HL.out HII.out hB (fun h => HNO.out (HC.out.on (show Region.waitsFor .any _ 7 4 = true by kernel_rfl) h))⟩
      · clear hi11 hi
        subst ha
        refine wpOp_step (o := _) rfl (fun K hK => ?_)
        have HK := Lib.hid hK; clear hK
        simp only [acts1, List.setIfInBounds_toArray, List.set_cons_zero, List.set_cons_succ]
        go_simp
        exact HK.out _ _ ⟨u7, u9, u10, u11, u12, u13, .pointer (some ⟨w.heap.size, 3, none⟩), u15, u16, u17, (by simp only [acts1, List.setIfInBounds_toArray, List.set_cons_zero, List.set_cons_succ]), H.out.s5 HL.out HII.out⟩
      · clear hi11 hi
        subst ha
        obtain rfl := H.out.f5 (ready_on HI.out (show Region.waitsFor .any _ 6 5 = true by kernel_rfl))
        obtain ⟨⟨hc3, -⟩, -⟩ := STH.out wr H.out.low
        refine wpOp_step (o := _) rfl (fun K hK => ?_)
        have HK := Lib.hid hK; clear hK
        simp only [acts1, List.setIfInBounds_toArray, List.set_cons_zero, List.set_cons_succ]
        go_simp
        exact HK.out _ _ ⟨u7, u9, u10, u11, u12, u13, .pointer (some ⟨w.heap.size, 3, none⟩), .slice A l.length c, u16, u17, (by simp only [acts1, List.setIfInBounds_toArray, List.set_cons_zero, List.set_cons_succ]), H.out.s6 HL.out HII.out⟩
      · clear hi11 hi
        have HA := Lib.hid ha; clear ha
        obtain rfl := H.out.f6 (ready_on HI.out (show Region.waitsFor .any _ 7 6 = true by kernel_rfl))
        have d4 := (ready_on HI.out (show Region.waitsFor .any _ 7 4 = true by kernel_rfl))
        obtain ⟨g, rfl, h4⟩ := H.out.f4 d4 HNO.out
        refine wpOp_at (fun o => o.guard = none ∧ o.dst = some 16 ∧ o.op = .call { callee := .builtin .append, args := #[.tmp 13, .tmp 15], argTypes := #[22, 22] }) ⟨_, rfl, rfl, rfl, rfl⟩ (fun o ⟨hog, hod, hop⟩ K hK => ?_)
        have HK := Lib.hid hK; clear hK
        refine step_append_opt hog (.tmp 13) (.tmp 15) 22 hop W3.heap.size 25 i0 _ 5 80 Tryd.underlying22 hI0 hz0 hz1 hz2 rfl (by decide) (.slice (some ⟨g, 0, none⟩) 0 0) 0 [] (by rw [HA.out]; simp only [acts1, List.setIfInBounds_toArray, List.set_cons_zero, List.set_cons_succ]; rfl) h4 A l.length c xs (by rw [HA.out]; simp only [acts1, List.setIfInBounds_toArray, List.set_cons_zero, List.set_cons_succ]; rfl) HXL.out (by rcases HXC.out with h | ⟨ad, e1, e2⟩; exact Or.inl h; exact Or.inr ⟨ad, e1, fun j u hu => e2 _ H.out.low j u hu⟩) HX1.out (by unfold maxLen; omega) (by omega) hB ?_
        intro v' w1 hL7 gL at7
        rw [Nat.zero_add, List.nil_append] at hL7
        rw [hod]
        exact HK.out _ _ ⟨u7, u9, u10, u11, u12, .slice (some ⟨g, 0, none⟩) 0 0, u14, .slice A l.length c, v', u17, (by rw [HA.out]; simp only [acts1, Act.put, List.setIfInBounds_toArray, List.set_cons_zero, List.set_cons_succ]), H.out.s7 HL.out HII.out h4 d4 HNO.out hB hL7 gL at7 (fun h => HNO.out (HC.out.on (show Region.waitsFor .any _ 8 7 = true by kernel_rfl) h)) (fun h => HNO.out (HC.out.on (show Region.waitsFor .any _ 10 7 = true by kernel_rfl) h))⟩
      · clear hi11 hi
        subst ha
        obtain ⟨K1, k1, rfl⟩ := own_formR (H.out.f3 (ready_on HI.out (show Region.waitsFor .any _ 8 3 = true by kernel_rfl)))
        obtain ⟨L1, l1, rfl⟩ := own_formR (H.out.f7 (ready_on HI.out (show Region.waitsFor .any _ 8 7 = true by kernel_rfl)))
        refine wpOp_step (o := _) rfl (fun K hK => ?_)
        have HK := Lib.hid hK; clear hK
        simp only [acts1, List.setIfInBounds_toArray, List.set_cons_zero, List.set_cons_succ]
        go_simp
        exact HK.out _ _ ⟨u7, u9, u10, u11, _, u13, u14, u15, _, _, (by simp only [acts1, List.setIfInBounds_toArray, List.set_cons_zero, List.set_cons_succ]), H.out.s8 HL.out HII.out⟩
      · clear hi11 hi
        subst ha
        refine wpOp_step (o := _) rfl (fun K hK => ?_)
        have HK := Lib.hid hK; clear hK
        simp only [acts1, List.setIfInBounds_toArray, List.set_cons_zero, List.set_cons_succ]
        go_simp
        exact HK.out _ _ ⟨.pointer (some ⟨wr.heap.size, 0, none⟩), u9, u10, u11, u12, u13, u14, u15, u16, u17, (by simp only [acts1, List.setIfInBounds_toArray, List.set_cons_zero, List.set_cons_succ]), H.out.s9 HL.out HII.out hB (fun h => HNO.out (HC.out.on (show Region.waitsFor .any _ 10 9 = true by kernel_rfl) h))⟩
      · clear hi11 hi
        subst ha
        have d3 := HC.out.on (show Region.waitsFor .any _ 8 3 = true by kernel_rfl) (ready_on HI.out (show Region.waitsFor .any _ 10 8 = true by kernel_rfl))
        have d7 := HC.out.on (show Region.waitsFor .any _ 8 7 = true by kernel_rfl) (ready_on HI.out (show Region.waitsFor .any _ 10 8 = true by kernel_rfl))
        have d9 := (ready_on HI.out (show Region.waitsFor .any _ 10 9 = true by kernel_rfl))
        obtain ⟨K1, k1, rfl⟩ := own_formR (H.out.f3 d3)
        obtain ⟨L1, l1, rfl⟩ := own_formR (H.out.f7 d7)
        obtain rfl := H.out.f8 (ready_on HI.out (show Region.waitsFor .any _ 10 8 = true by kernel_rfl))
        obtain ⟨p, rfl, hp, ⟨cs, hv, z1, -⟩, -, -⟩ := H.out.f9 d9
        rw [z1 HNO.out] at hv
        obtain ⟨⟨p0, p1, p2, p3, p4⟩, q0, q1, q2, q3, q4⟩ := box_of hv
        refine wpOp_step (o := _) rfl (fun K hK => ?_)
        have HK := Lib.hid hK; clear hK
        simp only [acts1, List.setIfInBounds_toArray, List.set_cons_zero, List.set_cons_succ]
        go_simp
        exact HK.out _ _ ⟨.pointer (some ⟨p, 0, none⟩), u9, u10, u11, _, u13, u14, u15, _, _, (by simp only [acts1, List.setIfInBounds_toArray, List.set_cons_zero, List.set_cons_succ]), H.out.s10 HL.out HII.out d3 d7 d9 HNO.out rfl⟩
    case hend =>
      rintro listed a' wr hall ⟨u7, u9, u10, u11, u12, u13, u14, u15, u16, u17, rfl, h⟩
      obtain ⟨p, rfl, hp, ⟨cs, hv, -, z2⟩, -, q2⟩ := h.f9 (hall 9 (by decide))
      obtain rfl := z2 (hall 10 (by decide))
      have hst : OSt W3.heap.size p L0 N0 W3 wr u16 u12 l ks xs := ⟨hv, h.f7 (hall 7 (by decide)), h.f3 (hall 3 (by decide)), q2 (hall 7 (by decide)), HXE.out, h.low⟩
      clear h hall z2 q2 hv
      simp only [acts1, List.setIfInBounds_toArray, List.set_cons_zero, List.set_cons_succ]
      go_wp2_with fail
      go_meet
      exact ⟨p, _, _, rfl, hp, hst⟩
  case rest =>
    obtain ⟨p, lv, kv, rfl, hp, hst⟩ := hcut
    obtain ⟨LA, lc, rfl⟩ := own_formR hst.rowL
    obtain ⟨KA, kc, rfl⟩ := own_formR hst.rowK
    have hps := (Array.getElem?_eq_some_iff.1 hst.var).1
    have hz := Z3.out
    have z3x : wc.heap[w.heap.size + 2]? = some (.cells #[.int .i64 0, .int .i64 0, .string ⟨#[]⟩, .slice none 0 0, .slice none 0 0] 25 (0, 0)) := (hst.low.block _ (by omega)).trans Y3.out
    have x3x : wc.heap[w.heap.size + 1]? = some (.cells #[x0, x1, x2, x3, x4] 25 (0, 0)) := (hst.low.block _ (by omega)).trans Y2.out
    have hkc : ∀ j (h : j < ks.length), ∃ g, KA = some ⟨g, 0, none⟩ ∧ wc.cell? ⟨g, j, none⟩ = some (.string ⟨ks[j].toArray⟩) := fun j h => by
      rcases hst.rowK.2 with ⟨_, h0⟩ | ⟨g, cap, cur, hv, _⟩
      · omega
      · injection hv with e1 e2 e3
        refine ⟨g, e1, ?_⟩
        have := World.ownsRow.cells (g := g) hst.rowK (by rw [e1]; rfl) j (.string ⟨ks[j].toArray⟩) (by unfold ksCells; rw [List.getElem?_map, List.getElem?_eq_getElem h]; rfl)
        rwa [Addr.add_lit, Nat.zero_add] at this
    obtain ⟨⟨p0, p1, p2, p3, p4⟩, q0, q1, q2, q3, q4⟩ := box_of hst.var
    have HST := Lib.hid hst; have Z3X := Lib.hid z3x; have X3X := Lib.hid x3x; have KC := Lib.hid hkc
    clear hst z3x x3x hkc hz
    obtain ⟨hjk1, hjk2⟩ := hjk
    have HJ2 := Lib.hid hjk2; clear hjk2
    go_wp2
    go_loop [8] (fun i => ∃ j : Nat, j ≤ jj ∧ i = .int .i64 j) (fun i => jj - (intOf i).toNat)
    case atStart => exact ⟨0, Nat.zero_le _, rfl⟩
    case round =>
      obtain ⟨j, hjk, rfl⟩ := hrel
      have hlk : j < ks.length := by omega
      obtain ⟨g, rfl, hc⟩ := KC.out j hlk
      have hj0 : (0 : Int) ≤ j := by omega
      have hj1 : (j : Int) < ks.length := by omega
      by_cases hlt : j < jj
      · have hkn : ks[j] ≠ key := HNE.out j hlk hlt
        generalize ks[j] = y at *
        have hbe : (y == key) = false := by rw [beq_eq_false_iff_ne]; exact hkn
        clear hkn
        go_wp2
        go_round
        case rel => exact ⟨j + 1, by omega, by go_num⟩
        case measure => simp [intOf]; omega
      · obtain rfl : j = jj := by omega
        have hkn : ks[j] = key := HJ2.out
        generalize ks[j] = y at *
        have hbe : (y == key) = true := by rw [beq_iff_eq]; exact hkn
        clear hkn
        have hj2 : (j : Int) < l.length := by omega
        obtain ⟨gL, rfl⟩ : ∃ gL, LA = some ⟨gL, 0, none⟩ := by
          rcases HST.out.rowL.2 with ⟨_, h0⟩ | ⟨gL, cap, cur, hv, _⟩
          · omega
          · injection hv with e1 _ _; exact ⟨gL, e1⟩
        obtain ⟨⟨r0, r1, r2, r3, r4⟩, -⟩ := box_of X3X.out
        have hxl : xs.length = l.length * 5 := HST.out.rowL.1
        have hcl : ∀ k, k < 5 → ∃ u, wc.cell? ⟨gL, j * 5 + k, none⟩ = some u := fun k hk => by
          have := World.ownsRow.cells (g := gL) HST.out.rowL rfl (j * 5 + k) (xs[j * 5 + k]'(by omega)) (List.getElem?_eq_getElem _)
          rw [Addr.add_lit, Nat.zero_add] at this
          exact ⟨_, this⟩
        obtain ⟨s0, c0⟩ := hcl 0 (by decide)
        obtain ⟨s1, c1⟩ := hcl 1 (by decide)
        obtain ⟨s2, c2⟩ := hcl 2 (by decide)
        obtain ⟨s3, c3⟩ := hcl 3 (by decide)
        obtain ⟨s4, c4⟩ := hcl 4 (by decide)
        have f0 := HST.out.rowL.frozenAt (j * 5)
        have f1 := HST.out.rowL.frozenAt (j * 5 + 1)
        have f2 := HST.out.rowL.frozenAt (j * 5 + 2)
        have f3 := HST.out.rowL.frozenAt (j * 5 + 3)
        have f4 := HST.out.rowL.frozenAt (j * 5 + 4)
        have hx5 : ∀ u ∈ [x0, x1, x2, x3, x4], u.oneCell' = true := five_oneR HX.out
        have o0 := hx5 x0 (by simp); have o1 := hx5 x1 (by simp); have o2 := hx5 x2 (by simp); have o3 := hx5 x3 (by simp); have o4 := hx5 x4 (by simp)
        clear hcl hxl hx5
        rw [Nat.add_zero] at c0
        have hxf := HX.out.form
        obtain ⟨z1, z2, z3, z4, hz⟩ := hxf
        simp only [List.cons.injEq, and_true] at hz
        obtain ⟨rfl, rfl, rfl, rfl, rfl⟩ := hz
        obtain ⟨X2, hX2⟩ : ∃ D : ByteArray, (⟨x.text.toArray⟩ : ByteArray) = D := ⟨_, rfl⟩
        have hput := HST.out.put j hjl x HX.out
        obtain ⟨wp, hwp⟩ : ∃ wp, wp = set5 wc gL (j * 5) (.int .i64 x.kind) (.int .i64 x.num) (.string ⟨x.text.toArray⟩) (.slice z1 x.list.length z2) (.slice z3 x.keys.length z4) := ⟨_, rfl⟩
        rw [← hwp] at hput
        have HPUT := Lib.hid hput; have HWP := Lib.hid hwp
        clear hput hwp hX2
        go_upto_region 7 with fail
        change Code.wp _ _ _ _ (set5 wc gL (j * 5) (.int .i64 x.kind) (.int .i64 x.num) (.string ⟨x.text.toArray⟩) (.slice z1 x.list.length z2) (.slice z3 x.keys.length z4))
        rw [← HWP.out]
        have hz3 := Z3.out
        have hgL : W3.heap.size ≤ gL := (HST.out.rowL.lt gL rfl).1
        have zp : wp.heap[w.heap.size + 2]? = some (.cells #[.int .i64 0, .int .i64 0, .string ⟨#[]⟩, .slice none 0 0, .slice none 0 0] 25 (0, 0)) := by
          rw [HWP.out]; exact (set5_there (by omega)).trans Z3X.out
        clear p0 p1 p2 p3 p4 q0 q1 q2 q3 q4 c0 c1 c2 c3 c4 f0 f1 f2 f3 f4 r0 r1 r2 r3 r4 hc
        obtain ⟨⟨p0, p1, p2, p3, p4⟩, -⟩ := box_of HPUT.out.var
        obtain ⟨⟨r0, r1, r2, r3, r4⟩, t0, t1, t2, t3, t4⟩ := box_of zp
        have ZP := Lib.hid zp
        clear zp
        go_wp2
        obtain ⟨wf, hwf⟩ : ∃ wf, wf = set5 wp (w.heap.size + 2) 0 (.int .i64 6) (.int .i64 0) (.string ⟨#[]⟩) (.slice (some ⟨gL, 0, none⟩) l.length lc) (.slice (some ⟨g, 0, none⟩) ks.length kc) := ⟨_, rfl⟩
        change bodyPost _ _ _ _ _ (set5 wp (w.heap.size + 2) 0 (.int .i64 6) (.int .i64 0) (.string ⟨#[]⟩) (.slice (some ⟨gL, 0, none⟩) l.length lc) (.slice (some ⟨g, 0, none⟩) ks.length kc))
        rw [← hwf]
        have hxr : wf.heap[w.heap.size + 2]? = some (.cells #[.int .i64 6, .int .i64 0, .string ⟨#[]⟩, .slice (some ⟨gL, 0, none⟩) l.length lc, .slice (some ⟨g, 0, none⟩) ks.length kc] 25 (0, 0)) := by
          have := set5_here (o := 0) (c0 := .int .i64 6) (c1 := .int .i64 0) (c2 := .string ⟨#[]⟩) (c3 := .slice (some ⟨gL, 0, none⟩) l.length lc) (c4 := .slice (some ⟨g, 0, none⟩) ks.length kc) ZP.out
          rw [hwf]; simpa using this
        have hvf := HPUT.out.done hp (by omega) (by omega) (show w.heap.size + 2 < W3.heap.size by omega) (by omega) (by simp; omega) (by omega) HZ.out
          (wf := wf) (fun b hb => by rw [hwf]; exact set5_there hb) (by rw [hwf, set5_size])
        have hbf : Below w.heap.size w wf := by rw [hwf]; exact (B3.out.trans (HPUT.out.low.mono (by omega))).trans (set5_below (by omega))
        obtain ⟨⟨y0, y1, y2, y3, y4⟩, -⟩ := box_of hxr
        have rl := HPUT.out.rowL
        have rk := HPUT.out.rowK
        rw [List.length_set] at rl
        have hcl : PutCells w wf A l.length (fun xs => put5 xs (j * 5) (.int .i64 x.kind) (.int .i64 x.num) (.string ⟨x.text.toArray⟩) (.slice z1 x.list.length z2) (.slice z3 x.keys.length z4)) (.slice (some ⟨gL, 0, none⟩) l.length lc) l.length (.slice (some ⟨g, 0, none⟩) ks.length kc) ks :=
          ⟨xs, HXL.out, HXW.out, own_base (own_kept rl fun g' hg => by rw [hwf]; exact set5_there (by have := (rl.lt g' hg).1; omega)) (by omega), own_base (own_kept rk fun g' hg => by rw [hwf]; exact set5_there (by have := (rk.lt g' hg).1; omega)) (by omega)⟩
        have HCL := Lib.hid hcl
        clear rl rk hcl
        have HVF := Lib.hid hvf; have HBF := Lib.hid hbf
        clear hvf hbf hxr hwf p0 p1 p2 p3 p4 r0 r1 r2 r3 r4 t0 t1 t2 t3 t4
        refine bodyPost_ret (v := .agg #[.int .i64 6, .int .i64 0, .string ⟨#[]⟩, .slice (some ⟨gL, 0, none⟩) l.length lc, .slice (some ⟨g, 0, none⟩) ks.length kc]) (by simp [results, Tryd.results16, go_sem, y0, y1, y2, y3, y4]) rfl ?_
        exact ⟨_, _, _, _, rfl, HVF.out, HBF.out, HCL.out⟩
theorem refPut_old : PutOld := fun k n t l ks key x w L N L0 N0 A A' c c' x0 x1 x2 x3 x4 jj hl hk hz hkz hjl hjk hne hN hN0 hL0 hnil hit hx =>
  (refPut_oldX k n t l ks key x w L N L0 N0 A A' c c' x0 x1 x2 x3 x4 jj hl hk hz hkz hjl hjk hne hN hN0 hL0 hnil hit hx).mono fun e w' ⟨B, b, B', b', he, hv, hb, _⟩ => ⟨B, b, B', b', he, hv, hb⟩
end Go.Proofs.YtobicmpgfiddhaaDoor
namespace Go.Proofs.YtobicmpgfiddhaaDoor
open Go.RowKit
set_option linter.unusedVariables false
set_option linter.unusedSimpArgs false

/-- an object whose rows lie from block B on; each of its values lies there too, or below H -/
def OutIs (w : World) (H B : Nat) (v : V) (ds : List Value) : Prop :=
  ∃ l ks A c A' c', v = .mk 6 0 [] l ks ∧ l.length = ks.length ∧ ds = [.int .i64 6, .int .i64 0, .string ⟨#[]⟩, .slice A l.length c, .slice A' ks.length c'] ∧
    ((A = none ∧ A' = none ∧ l = [] ∧ ks = [] ∧ c = 0 ∧ c' = 0) ∨ ∃ g g', A = some ⟨g, 0, none⟩ ∧ A' = some ⟨g', 0, none⟩ ∧ B ≤ g ∧ g < w.heap.size ∧ B ≤ g' ∧ g' < w.heap.size ∧
      (∀ i (h : i < l.length), ∃ cs, Five w g (i * 5) cs ∧ (VIs w 0 H l[i] cs ∨ VIs w B w.heap.size l[i] cs)) ∧ KIs w B w.heap.size ks g' 0)
theorem outIs_empty (w : World) (H B : Nat) : OutIs w H B emptyO [.int .i64 6, .int .i64 0, .string ⟨#[]⟩, .slice none 0 0, .slice none 0 0] :=
  ⟨[], [], none, 0, none, 0, rfl, rfl, rfl, .inl ⟨rfl, rfl, rfl, rfl, rfl, rfl⟩⟩
theorem OutIs.keep {w w' : World} {H B : Nat} {v : V} {ds : List Value} (h : OutIs w H B v ds) (hk : ∀ p : Addr, p.block < H ∨ (B ≤ p.block ∧ p.block < w.heap.size) → w'.cell? p = w.cell? p) (hs : w.heap.size ≤ w'.heap.size) : OutIs w' H B v ds := by
  obtain ⟨l, ks, A, c, A', c', e1, e2, e3, h⟩ := h
  refine ⟨l, ks, A, c, A', c', e1, e2, e3, ?_⟩
  rcases h with h | ⟨g, g', rfl, rfl, h1, h2, h3, h4, h5, h6⟩
  · exact .inl h
  · refine .inr ⟨g, g', rfl, rfl, h1, Nat.lt_of_lt_of_le h2 hs, h3, Nat.lt_of_lt_of_le h4 hs, fun i hi => ?_, (h6.keep2 fun p q1 q2 => hk p (.inr ⟨q1, q2⟩)).more (Nat.le_refl _) hs⟩
    obtain ⟨cs, ⟨c0, c1, c2, c3, c4, e, m0, m1, m2, m3, m4⟩, hv⟩ := h5 i hi
    have hg := fun o => hk ⟨g, o, none⟩ (.inr ⟨h1, h2⟩)
    refine ⟨cs, ⟨c0, c1, c2, c3, c4, e, (hg _).trans m0, (hg _).trans m1, (hg _).trans m2, (hg _).trans m3, (hg _).trans m4⟩, ?_⟩
    rcases hv with hv | hv
    · exact .inl (hv.keep fun p q => hk p (.inl q))
    · exact .inr ((hv.keep2 fun p q1 q2 => hk p (.inr ⟨q1, q2⟩)).more (Nat.le_refl _) hs)
theorem OutIs.below {w w' : World} {H B : Nat} {v : V} {ds : List Value} (h : OutIs w H B v ds) (hH : H ≤ w.heap.size) (hb : Below w.heap.size w w') : OutIs w' H B v ds :=
  h.keep (fun p hp => hb.cell (p := p) (by rcases hp with hp | hp <;> omega)) hb.size
theorem OutIs.form {w : World} {H B : Nat} {v : V} {ds : List Value} (h : OutIs w H B v ds) : ∃ A c A' c', ds = [.int .i64 6, .int .i64 0, .string ⟨#[]⟩, .slice A v.list.length c, .slice A' v.keys.length c'] := by
  obtain ⟨l, ks, A, c, A', c', rfl, _, rfl, _⟩ := h
  exact ⟨A, c, A', c', rfl⟩
/-- it reads as its value -/
theorem OutIs.is {w : World} {H B : Nat} {v : V} {ds : List Value} (h : OutIs w H B v ds) (hH : H ≤ w.heap.size) (hl : v.keys.length ≤ 9223372036854775807) (hz : ∀ x ∈ v.keys, x.length ≤ 9223372036854775807) : VIs w 0 w.heap.size v ds := by
  obtain ⟨l, ks, A, c, A', c', rfl, e2, rfl, h⟩ := h
  have hl : ks.length ≤ 9223372036854775807 := hl
  refine VIs.mk (t := []) ⟨by omega, hl, by simp, hz⟩ ?_ ?_
  · rcases h with ⟨_, _, _, h, _⟩ | ⟨g, g', rfl, rfl, h1, h2, h3, h4, h5, h6⟩
    · exact .inl h
    · exact .inr ⟨_, _, rfl, h6.more (Nat.zero_le _) (Nat.le_refl _)⟩
  · rcases h with ⟨_, _, h, _⟩ | ⟨g, g', rfl, rfl, h1, h2, h3, h4, h5, h6⟩
    · exact .inl h
    · refine .inr ⟨_, _, rfl, LIs.of (Nat.zero_le _) h2 fun i hi => ?_⟩
      obtain ⟨cs, hf, hv⟩ := h5 i hi
      refine ⟨cs, by rw [Nat.zero_add]; exact hf, ?_⟩
      rcases hv with hv | hv
      · exact hv.more (Nat.le_refl _) hH
      · exact hv.more (Nat.zero_le _) (Nat.le_refl _)
/-- what Put's rows read as -/
theorem row_five {w : World} {B n : Nat} {C : Option Addr} {c : Nat} {ys : List Value} (h : w.ownsRow B 25 5 (.slice C n c) n ys) (hn : 0 < n) : ∃ g, C = some ⟨g, 0, none⟩ ∧ B ≤ g ∧ g < w.heap.size ∧ ∀ j u, ys[j]? = some u → w.cell? ⟨g, j, none⟩ = some u := by
  have hc := fun g => World.ownsRow.cells (g := g) h
  rcases h.2 with ⟨_, h0⟩ | ⟨g, cap, cur, hv, hB, hg, _⟩
  · omega
  · injection hv with e1 _ _
    refine ⟨g, e1, hB, (Array.getElem?_eq_some_iff.1 hg).1, fun j u hu => ?_⟩
    have := hc g (by rw [e1]; rfl) j u hu
    rwa [Addr.add_lit, Nat.zero_add] at this
theorem row_keys {w : World} {B : Nat} {C : Option Addr} {c : Nat} {ks : List (List UInt8)} {n : Nat} (h : w.ownsRow B 9 1 (.slice C n c) ks.length (ksCells ks)) (hn : 0 < ks.length) : ∃ g, C = some ⟨g, 0, none⟩ ∧ n = ks.length ∧ B ≤ g ∧ g < w.heap.size ∧ KIs w B w.heap.size ks g 0 := by
  have hc := fun g => World.ownsRow.cells (g := g) h
  rcases h.2 with ⟨_, h0⟩ | ⟨g, cap, cur, hv, hB, hg, _⟩
  · omega
  · injection hv with e1 e2 _
    have hgs := (Array.getElem?_eq_some_iff.1 hg).1
    refine ⟨g, e1, e2, hB, hgs, KIs.of hB hgs fun i hi => ?_⟩
    have := hc g (by rw [e1]; rfl) i (.string ⟨ks[i].toArray⟩) (by unfold ksCells; rw [List.getElem?_map, List.getElem?_eq_getElem hi]; rfl)
    rwa [Addr.add_lit] at this
theorem refPut_out {w : World} {H B : Nat} {v : V} {ds : List Value} (h : OutIs w H B v ds) (hH : H ≤ w.heap.size) (hB : B ≤ w.heap.size) (key : List UInt8) (x : V) (x0 x1 x2 x3 x4 : Value) (hl : v.keys.length ≤ 100000) (hz : ∀ y ∈ v.keys, y.length ≤ 9223372036854775807) (hkz : key.length ≤ 9223372036854775807)
    (hx : VIs w 0 H x [x0, x1, x2, x3, x4] ∨ VIs w B w.heap.size x [x0, x1, x2, x3, x4]) :
    Calls Tryd.prog 16 #[.agg ds.toArray, .string ⟨key.toArray⟩, .agg #[x0, x1, x2, x3, x4]] w fun e w' => ∃ C n c C' n' c', e = .returned (.agg #[.int .i64 6, .int .i64 0, .string ⟨#[]⟩, .slice C n c, .slice C' n' c']) ∧
      OutIs w' H B (putV v key x) [.int .i64 6, .int .i64 0, .string ⟨#[]⟩, .slice C n c, .slice C' n' c'] ∧ Below w.heap.size w w' := by
  have hread := h.is hH (by omega) hz
  obtain ⟨l, ks, A, c, A', c', rfl, e2, rfl, h⟩ := h
  have hl : ks.length ≤ 100000 := hl
  have hz : ∀ y ∈ ks, y.length ≤ 9223372036854775807 := hz
  have hx0 : VIs w 0 w.heap.size x [x0, x1, x2, x3, x4] := by
    rcases hx with hx | hx
    · exact hx.more (Nat.le_refl _) hH
    · exact hx.more (Nat.zero_le _) (Nat.le_refl _)
  have hnil : (A = none ∧ A' = none ∧ l = [] ∧ ks = [] ∧ c = 0 ∧ c' = 0) ∨ ∃ b o b' o', A = some ⟨b, o, none⟩ ∧ A' = some ⟨b', o', none⟩ ∧ LIs w 0 w.heap.size l b o ∧ KIs w 0 w.heap.size ks b' o' := by
    rcases h with h | ⟨g, g', rfl, rfl, h1, h2, h3, h4, h5, h6⟩
    · exact .inl h
    · refine .inr ⟨g, 0, g', 0, rfl, rfl, LIs.of (Nat.zero_le _) h2 fun i hi => ?_, h6.more (Nat.zero_le _) (Nat.le_refl _)⟩
      obtain ⟨cs, hf, hv⟩ := h5 i hi
      refine ⟨cs, by rw [Nat.zero_add]; exact hf, ?_⟩
      rcases hv with hv | hv
      · exact hv.more (Nat.le_refl _) hH
      · exact hv.more (Nat.zero_le _) (Nat.le_refl _)
  -- the old row's cells
  have old : ∀ (w' : World) (xs : List Value), Below w.heap.size w w' → xs.length = l.length * 5 → (∀ b o, A = some ⟨b, o, none⟩ → ∀ j u, xs[j]? = some u → w.cell? ⟨b, o + j, none⟩ = some u) → ∀ i (hi : i < l.length), ∃ c0 c1 c2 c3 c4,
      xs[i * 5]? = some c0 ∧ xs[i * 5 + 1]? = some c1 ∧ xs[i * 5 + 2]? = some c2 ∧ xs[i * 5 + 3]? = some c3 ∧ xs[i * 5 + 4]? = some c4 ∧ (VIs w' 0 H l[i] [c0, c1, c2, c3, c4] ∨ VIs w' B w'.heap.size l[i] [c0, c1, c2, c3, c4]) := fun w' xs hb hn hx i hi => by
    rcases h with ⟨_, _, h, _⟩ | ⟨g, g', rfl, rfl, h1, h2, h3, h4, h5, h6⟩
    · subst h; exact absurd hi (Nat.not_lt_zero _)
    · obtain ⟨cs, ⟨c0, c1, c2, c3, c4, rfl, m0, m1, m2, m3, m4⟩, hv⟩ := h5 i hi
      have key : ∀ k u, k < 5 → w.cell? ⟨g, i * 5 + k, none⟩ = some u → xs[i * 5 + k]? = some u := fun k u hk hu => by
        have hlt : i * 5 + k < xs.length := by omega
        have := hx g 0 rfl (i * 5 + k) _ (List.getElem?_eq_getElem hlt)
        rw [Nat.zero_add, hu] at this
        rw [List.getElem?_eq_getElem hlt]; exact this.symm
      refine ⟨c0, c1, c2, c3, c4, key 0 c0 (by decide) m0, key 1 c1 (by decide) m1, key 2 c2 (by decide) m2, key 3 c3 (by decide) m3, key 4 c4 (by decide) m4, ?_⟩
      rcases hv with hv | hv
      · exact .inl (hv.below (hb.mono hH))
      · exact .inr ((hv.below hb).more (Nat.le_refl _) hb.size)
  have new : ∀ w' : World, Below w.heap.size w w' → VIs w' 0 H x [x0, x1, x2, x3, x4] ∨ VIs w' B w'.heap.size x [x0, x1, x2, x3, x4] := fun w' hb => by
    rcases hx with hx | hx
    · exact .inl (hx.below (hb.mono hH))
    · exact .inr ((hx.below hb).more (Nat.le_refl _) hb.size)
  have hput : putV (.mk 6 0 [] l ks) key x = if keyAt key ks < ks.length then .mk 6 0 [] (l.set (keyAt key ks) x) ks else .mk 6 0 [] (l ++ [x]) (ks ++ [key]) := rfl
  rw [hput]
  by_cases hi : keyAt key ks < ks.length
  · rw [if_pos hi]
    refine (refPut_oldX 6 0 [] l ks key x w 0 w.heap.size 0 w.heap.size A A' c c' x0 x1 x2 x3 x4 (keyAt key ks) (by omega) hl hz hkz (by omega) ⟨hi, keyAt_hit key ks hi⟩ (fun i h hlt => keyAt_ahead key ks i h hlt) (Nat.le_refl _) (Nat.le_refl _) (Nat.zero_le _) hnil (fun i hi cs hv => hv) hx0).mono ?_
    rintro e w' ⟨C, b, C', b', rfl, _, hb, xs, hn, hxs, rl, rk⟩
    obtain ⟨g1, rfl, q1, q2, q3⟩ := row_five rl (by omega)
    obtain ⟨g2, rfl, q4, q5, q6, q7⟩ := row_keys rk (by omega)
    have hsz := hb.size
    refine ⟨_, _, _, _, _, _, rfl, ⟨_, _, _, _, _, _, rfl, by rw [List.length_set]; exact e2, by rw [List.length_set], .inr ⟨g1, g2, rfl, rfl, by omega, q2, by omega, q6, fun i hi2 => ?_, q7.more (by omega) (Nat.le_refl _)⟩⟩, hb⟩
    rw [List.length_set] at hi2
    have hc : ∀ d0 d1 d2 d3 d4, (put5 xs (keyAt key ks * 5) x0 x1 x2 x3 x4)[i * 5]? = some d0 → (put5 xs (keyAt key ks * 5) x0 x1 x2 x3 x4)[i * 5 + 1]? = some d1 → (put5 xs (keyAt key ks * 5) x0 x1 x2 x3 x4)[i * 5 + 2]? = some d2 → (put5 xs (keyAt key ks * 5) x0 x1 x2 x3 x4)[i * 5 + 3]? = some d3 → (put5 xs (keyAt key ks * 5) x0 x1 x2 x3 x4)[i * 5 + 4]? = some d4 → Five w' g1 (i * 5) [d0, d1, d2, d3, d4] :=
      fun d0 d1 d2 d3 d4 f0 f1 f2 f3 f4 => ⟨d0, d1, d2, d3, d4, rfl, q3 _ _ f0, q3 _ _ f1, q3 _ _ f2, q3 _ _ f3, q3 _ _ f4⟩
    by_cases hij : i = keyAt key ks
    · subst hij
      obtain ⟨f0, f1, f2, f3, f4⟩ := put5_at (xs := xs) (j := keyAt key ks * 5) (by omega) x0 x1 x2 x3 x4
      refine ⟨_, hc _ _ _ _ _ f0 f1 f2 f3 f4, ?_⟩
      rw [List.getElem_set_self]
      exact new w' hb
    · obtain ⟨d0, d1, d2, d3, d4, f0, f1, f2, f3, f4, hv⟩ := old w' xs hb hn hxs i hi2
      have ho : ∀ k, k < 5 → (put5 xs (keyAt key ks * 5) x0 x1 x2 x3 x4)[i * 5 + k]? = xs[i * 5 + k]? := fun k hk => put5_other (by omega) x0 x1 x2 x3 x4
      refine ⟨_, hc _ _ _ _ _ ((ho 0 (by decide)).trans f0) ((ho 1 (by decide)).trans f1) ((ho 2 (by decide)).trans f2) ((ho 3 (by decide)).trans f3) ((ho 4 (by decide)).trans f4), ?_⟩
      rw [List.getElem_set_ne (Ne.symm hij)]
      exact hv
  · rw [if_neg hi]
    have hnot : key ∉ ks := fun hm => by
      obtain ⟨i, hi2, e⟩ := List.getElem_of_mem hm
      have h7 := keyAt_ahead key ks i hi2
      have h8 := keyAt_le key ks
      exact h7 (by omega) e
    refine (refPut_newX 6 0 [] l ks key x w 0 w.heap.size 0 w.heap.size A A' c c' x0 x1 x2 x3 x4 (by omega) hl hz hkz hnot (Nat.le_refl _) (Nat.le_refl _) (Nat.zero_le _) hnil (fun i hi cs hv => hv) hx0).mono ?_
    rintro e w' ⟨C, b, C', b', rfl, _, hb, xs, hn, hxs, rl, rk⟩
    obtain ⟨g1, rfl, q1, q2, q3⟩ := row_five rl (by omega)
    obtain ⟨g2, rfl, q4, q5, q6, q7⟩ := row_keys rk (by simp)
    have hsz := hb.size
    refine ⟨_, _, _, _, _, _, rfl, ⟨_, _, _, _, _, _, rfl, by rw [List.length_append, List.length_append, e2]; rfl, by rw [List.length_append, List.length_append]; rfl, .inr ⟨g1, g2, rfl, rfl, by omega, q2, by omega, q6, fun i hi2 => ?_, q7.more (by omega) (Nat.le_refl _)⟩⟩, hb⟩
    rw [List.length_append, List.length_singleton] at hi2
    rcases Nat.lt_or_ge i l.length with hil | hil
    · obtain ⟨d0, d1, d2, d3, d4, f0, f1, f2, f3, f4, hv⟩ := old w' xs hb hn hxs i hil
      have ho : ∀ k, k < 5 → (xs ++ [x0, x1, x2, x3, x4])[i * 5 + k]? = xs[i * 5 + k]? := fun k hk => List.getElem?_append_left (by omega)
      refine ⟨[d0, d1, d2, d3, d4], ⟨d0, d1, d2, d3, d4, rfl, q3 _ _ ((ho 0 (by decide)).trans f0), q3 _ _ ((ho 1 (by decide)).trans f1), q3 _ _ ((ho 2 (by decide)).trans f2), q3 _ _ ((ho 3 (by decide)).trans f3), q3 _ _ ((ho 4 (by decide)).trans f4)⟩, ?_⟩
      rw [List.getElem_append_left hil]
      exact hv
    · obtain rfl : i = l.length := by omega
      refine ⟨[x0, x1, x2, x3, x4], ⟨x0, x1, x2, x3, x4, rfl, q3 _ _ (app_at hn _ _ _ _ _ (k := 0) (by decide)), q3 _ _ (app_at hn _ _ _ _ _ (k := 1) (by decide)), q3 _ _ (app_at hn _ _ _ _ _ (k := 2) (by decide)), q3 _ _ (app_at hn _ _ _ _ _ (k := 3) (by decide)), q3 _ _ (app_at hn _ _ _ _ _ (k := 4) (by decide))⟩, ?_⟩
      have hgl : (l ++ [x])[l.length] = x := by simp
      rw [hgl]
      exact new w' hb
end Go.Proofs.YtobicmpgfiddhaaDoor
