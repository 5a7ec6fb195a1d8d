/- Texts merged by program, in build order: FramePure, Cellar, RdAt, Turn, Arr. -/
import Derived.Test.YtklhdffbaglkdaaDoorG01
import Derived.Maps.AppendAt
import Derived.Laws.AppendOwnNone
import Derived.Deep.WholeRow
import Derived.WalkKit
import Derived.Laws.Tables
import Derived.Deep.Draws
import Derived.Deep.MidRow
namespace Go.Proofs.YtklhdffbaglkdaaDoor

/-- a number in four bytes, the highest first -/
def four (n : Nat) : List UInt8 := [UInt8.ofNat (n / 16777216), UInt8.ofNat (n / 65536), UInt8.ofNat (n / 256), UInt8.ofNat n]
def b4 (l : List UInt8) (i : Nat) : Nat := (l.getD i 0).toNat
/-- the number in the first four -/
def num4 (l : List UInt8) : Nat := b4 l 0 * 16777216 + b4 l 1 * 65536 + b4 l 2 * 256 + b4 l 3
theorem four_len (n : Nat) : (four n).length = 4 := rfl
theorem num4_four (n : Nat) (t : List UInt8) (h : n < 4294967296) : num4 (four n ++ t) = n := by
  unfold num4 four b4
  simp only [List.cons_append, List.getD_cons_zero, List.getD_cons_succ, UInt8.toNat_ofNat']
  omega
theorem num4_lt (l : List UInt8) : num4 l < 4294967296 := by
  unfold num4 b4
  have h := fun i => (l.getD i 0).toNat_lt
  have := h 0; have := h 1; have := h 2; have := h 3
  omega
theorem num4_take (l : List UInt8) (k : Nat) (h : 4 ≤ k) : num4 (l.take k) = num4 l := by
  have e : ∀ i, i < 4 → b4 (l.take k) i = b4 l i := fun i hi => by
    unfold b4
    rw [List.getD_eq_getElem?_getD, List.getD_eq_getElem?_getD, List.getElem?_take, if_pos (by omega)]
  unfold num4
  rw [e 0 (by omega), e 1 (by omega), e 2 (by omega), e 3 (by omega)]
def markF (b : List UInt8) : List UInt8 := (sumL (four b.length ++ b)).take 4
theorem sum_len (l : List UInt8) : (sumL l).length = 32 := rfl
theorem markF_len (b : List UInt8) : (markF b).length = 4 := by unfold markF; rw [List.length_take, sum_len]; rfl
def frameL (b : List UInt8) : List UInt8 := four b.length ++ markF b ++ b
theorem frameL_len (b : List UInt8) : (frameL b).length = 8 + b.length := by
  unfold frameL
  rw [List.length_append, List.length_append, markF_len, four_len]
theorem frameL_drop (b : List UInt8) : (frameL b).drop 8 = b := by
  unfold frameL
  exact List.drop_left' (by rw [List.length_append, markF_len, four_len])
theorem num4_frame (b t : List UInt8) (h : b.length < 4294967296) : num4 (frameL b ++ t) = b.length := by
  unfold frameL
  rw [List.append_assoc, List.append_assoc]
  exact num4_four _ _ h
/-- how many bytes the frame at the front has in it -/
def firstL (l : List UInt8) : Option Nat :=
  if 8 ≤ l.length ∧ num4 l ≤ 32768 ∧ num4 l ≤ l.length - 8 ∧ frameL ((l.drop 8).take (num4 l)) = l.take (8 + num4 l) then some (num4 l) else none
theorem firstL_some {l : List UInt8} {n : Nat} (h : firstL l = some n) : 8 + n ≤ l.length ∧ n ≤ 32768 ∧ n = num4 l ∧ frameL ((l.drop 8).take n) = l.take (8 + n) := by
  unfold firstL at h
  split at h
  · rename_i hc
    obtain ⟨h1, h2, h3, h4⟩ := hc
    injection h with h
    subst h
    exact ⟨by omega, h2, rfl, h4⟩
  · cases h
def splitF : Nat → List UInt8 → List (List UInt8) × Nat
  | 0, _ => ([], 0)
  | f + 1, l => match firstL l with
    | none => ([], 0)
    | some n => ((l.drop 8).take n :: (splitF f (l.drop (8 + n))).1, 8 + n + (splitF f (l.drop (8 + n))).2)
theorem splitF_fuel : ∀ (f g : Nat) (l : List UInt8), l.length ≤ f → l.length ≤ g → splitF f l = splitF g l
  | 0, 0, _, _, _ => rfl
  | 0, g + 1, l, hf, _ => by
    have : firstL l = none := by
      cases h : firstL l with
      | none => rfl
      | some n => have := (firstL_some h).1; omega
    simp [splitF, this]
  | f + 1, 0, l, _, hg => by
    have : firstL l = none := by
      cases h : firstL l with
      | none => rfl
      | some n => have := (firstL_some h).1; omega
    simp [splitF, this]
  | f + 1, g + 1, l, hf, hg => by
    unfold splitF
    cases h : firstL l with
    | none => rfl
    | some n =>
      have := (firstL_some h).1
      dsimp only
      rw [splitF_fuel f g (l.drop (8 + n)) (by rw [List.length_drop]; omega) (by rw [List.length_drop]; omega)]
/-- what frames at the front have in them, and how many bytes they take -/
def splitL (l : List UInt8) : List (List UInt8) × Nat := splitF l.length l
theorem splitL_none {l : List UInt8} (h : firstL l = none) : splitL l = ([], 0) := by
  unfold splitL
  rw [splitF_fuel l.length (l.length + 1) l (Nat.le_refl _) (by omega)]
  unfold splitF
  rw [h]
theorem splitL_some {l : List UInt8} {n : Nat} (h : firstL l = some n) : splitL l = ((l.drop 8).take n :: (splitL (l.drop (8 + n))).1, 8 + n + (splitL (l.drop (8 + n))).2) := by
  have hs : splitL l = splitF (l.length + 1) l := splitF_fuel l.length (l.length + 1) l (Nat.le_refl _) (by omega)
  rw [hs]
  have h8 : splitF l.length (l.drop (8 + n)) = splitL (l.drop (8 + n)) := splitF_fuel _ _ _ (by rw [List.length_drop]; omega) (Nat.le_refl _)
  show (match firstL l with
    | none => ([], 0)
    | some n => ((l.drop 8).take n :: (splitF l.length (l.drop (8 + n))).1, 8 + n + (splitF l.length (l.drop (8 + n))).2)) = _
  rw [h]
  dsimp only
  rw [h8]
theorem splitF_few : ∀ (f : Nat) (l : List UInt8), (splitF f l).1.length ≤ l.length
  | 0, _ => Nat.zero_le _
  | f + 1, l => by
    unfold splitF
    cases h : firstL l with
    | none => exact Nat.zero_le _
    | some n =>
      have h1 := (firstL_some h).1
      have h2 := splitF_few f (l.drop (8 + n))
      rw [List.length_drop] at h2
      show (splitF f (l.drop (8 + n))).1.length + 1 ≤ _
      omega
theorem splitL_few (l : List UInt8) : (splitL l).1.length ≤ l.length := splitF_few _ _
theorem first_frame (b t : List UInt8) (h : b.length ≤ 32768) : firstL (frameL b ++ t) = some b.length := by
  have hn := num4_frame b t (by omega)
  have hl : (frameL b ++ t).length = 8 + b.length + t.length := by rw [List.length_append, frameL_len]
  have hd : ((frameL b ++ t).drop 8).take b.length = b := by
    rw [List.drop_append_of_le_length (by rw [frameL_len]; omega), frameL_drop, List.take_left' rfl]
  have ht : (frameL b ++ t).take (8 + b.length) = frameL b := List.take_left' (frameL_len b)
  unfold firstL
  rw [hn, hl, hd, ht, if_pos ⟨by omega, h, by omega, rfl⟩]
def framesL (ls : List (List UInt8)) : List UInt8 := (ls.map frameL).flatten
theorem framesL_nil : framesL [] = [] := rfl
theorem framesL_cons (b : List UInt8) (r : List (List UInt8)) : framesL (b :: r) = frameL b ++ framesL r := rfl
theorem framesL_snoc (r : List (List UInt8)) (b : List UInt8) : framesL (r ++ [b]) = framesL r ++ frameL b := by simp [framesL]
theorem framesL_app (r s : List (List UInt8)) : framesL (r ++ s) = framesL r ++ framesL s := by simp [framesL]
theorem split_frames (t : List UInt8) : ∀ (ls : List (List UInt8)), (∀ b ∈ ls, b.length ≤ 32768) → splitL (framesL ls ++ t) = (ls ++ (splitL t).1, (framesL ls).length + (splitL t).2)
  | [], _ => by simp [framesL_nil]
  | b :: r, h => by
    have hb := h b (List.mem_cons_self ..)
    have ih := split_frames t r (fun x hx => h x (List.mem_cons_of_mem _ hx))
    rw [framesL_cons, List.append_assoc, splitL_some (first_frame b _ hb)]
    have hd : (frameL b ++ (framesL r ++ t)).drop (8 + b.length) = framesL r ++ t := List.drop_left' (frameL_len b)
    have hd2 : ((frameL b ++ (framesL r ++ t)).drop 8).take b.length = b := by
      rw [List.drop_append_of_le_length (by rw [frameL_len]; omega), frameL_drop, List.take_left' rfl]
    rw [hd, hd2, ih]
    simp only [List.cons_append, List.length_append, frameL_len, Prod.mk.injEq, true_and]
    omega
theorem split_nil : splitL [] = ([], 0) := rfl
theorem split_whole (ls : List (List UInt8)) (h : ∀ b ∈ ls, b.length ≤ 32768) : splitL (framesL ls) = (ls, (framesL ls).length) := by
  have := split_frames [] ls h
  rw [List.append_nil, split_nil] at this
  rw [this]; simp
/-- a frame that is cut off is none -/
theorem first_cut (b : List UInt8) (k : Nat) (h : b.length ≤ 32768) (hk : k < 8 + b.length) : firstL ((frameL b).take k) = none := by
  cases hf : firstL ((frameL b).take k) with
  | none => rfl
  | some n =>
    have h1 := firstL_some hf
    have hl : ((frameL b).take k).length = k := by rw [List.length_take, frameL_len]; omega
    rw [hl] at h1
    have hn := num4_frame b [] (by omega)
    rw [List.append_nil] at hn
    rw [num4_take _ _ (by omega), hn] at h1
    omega
theorem split_cut (pre : List (List UInt8)) (x : List UInt8) (post : List (List UInt8)) (k : Nat) (h : ∀ b ∈ pre ++ x :: post, b.length ≤ 32768) (h1 : (framesL pre).length ≤ k) (h2 : k < (framesL (pre ++ [x])).length) :
    splitL ((framesL (pre ++ x :: post)).take k) = (pre, (framesL pre).length) := by
  have hx := h x (by simp)
  have hp : ∀ b ∈ pre, b.length ≤ 32768 := fun b hb => h b (by simp [hb])
  rw [framesL_snoc, List.length_append, frameL_len] at h2
  have e : (framesL (pre ++ x :: post)).take k = framesL pre ++ (frameL x).take (k - (framesL pre).length) := by
    rw [framesL_app, framesL_cons, List.take_append, List.take_of_length_le h1, List.take_append, show k - (framesL pre).length - (frameL x).length = 0 by rw [frameL_len]; omega]
    simp
  rw [e, split_frames _ pre hp, splitL_none (first_cut x _ hx (by omega))]
  simp
/-- a frame of which a byte is another one is not there -/
theorem turned_not (a x y : List UInt8) (hl : x.length = 8 + a.length) (hne : x ≠ frameL a) : (splitL (x ++ y)).1.head? ≠ some a := by
  cases hf : firstL (x ++ y) with
  | none => rw [splitL_none hf]; simp
  | some n =>
    rw [splitL_some hf]
    simp only [List.head?_cons, ne_eq, Option.some.injEq]
    intro he
    have h1 := firstL_some hf
    have hn : n = a.length := by
      rw [← he, List.length_take, List.length_drop]
      omega
    rw [he, hn] at h1
    have h4 := h1.2.2.2
    rw [List.take_left' hl] at h4
    exact hne h4.symm
end Go.Proofs.YtklhdffbaglkdaaDoor
namespace Go.Proofs.YtklhdffbaglkdaaDoor
open Go.RowKit
set_option linter.unusedVariables false
set_option linter.unusedSimpArgs false

theorem set_here {w : World} {b o : Nat} {C : Array Value} {t : TypeId} {fr : Nat × Nat} (h : w.heap[b]? = some (.cells C t fr)) (v : Value) : (w.setCell ⟨b, o, none⟩ v).heap[b]? = some (.cells (C.setIfInBounds o v) t fr) := by
  unfold World.setCell
  simp only [Array.getElem?_modify, if_true]
  rw [h]; rfl
theorem set_there {w : World} {b o b' : Nat} (v : Value) (h : b' ≠ b) : (w.setCell ⟨b, o, none⟩ v).heap[b']? = w.heap[b']? := Below.heap_setCell w ⟨b, o, none⟩ v b' h
theorem set_size (w : World) (a : Addr) (v : Value) : (w.setCell a v).heap.size = w.heap.size := by unfold World.setCell; simp
theorem cell_here {w : World} {b o : Nat} {C : Array Value} {t : TypeId} {fr : Nat × Nat} (h : w.heap[b]? = some (.cells C t fr)) : w.cell? ⟨b, o, none⟩ = C[o]? := by
  unfold World.cell?; simp only [h]; rfl
theorem cell_block {w w' : World} {b o : Nat} (h : w'.heap[b]? = w.heap[b]?) : w'.cell? ⟨b, o, none⟩ = w.cell? ⟨b, o, none⟩ := by unfold World.cell?; simp only [h]
theorem frozen_here {w : World} {b : Nat} {C : Array Value} {t : TypeId} (h : w.heap[b]? = some (.cells C t (0, 0))) (o : Nat) : w.frozen? ⟨b, o, none⟩ = false := by
  unfold World.frozen?; simp only [h]; simp
theorem own_below {w w' : World} {B size n : Nat} {e : TypeId} {v : Value} {xs : List Value} (h : w.ownsRow B e size v n xs) (hb : Below w.heap.size w w') : w'.ownsRow B e size v n xs :=
  World.ownsRow.kept (row := none) h ⟨hb.os, hb.tape, hb.output, hb.size, fun k hk _ => hb.block k hk⟩ (by
    rcases h.2 with ⟨rfl, _⟩ | ⟨g, cap, cur, rfl, _⟩
    · exact .inl rfl
    · exact .inr (by simp [Value.ownBlock]))
theorem own_kept {w w' : World} {B size n : Nat} {e : TypeId} {v : Value} {xs : List Value} (h : w.ownsRow B e size v n xs) (hb : ∀ g, v.ownBlock = some g → w'.heap[g]? = w.heap[g]?) : w'.ownsRow B e size v n xs := by
  refine ⟨h.1, ?_⟩
  rcases h.2 with h' | ⟨g, cap, cur, hv, hB, hg, r⟩
  · exact .inl h'
  · exact .inr ⟨g, cap, cur, hv, hB, by rw [hb g (by rw [hv]; rfl)]; exact hg, r⟩
theorem own_apart {w : World} {B B' s s' n n' : Nat} {e e' : TypeId} {v v' : Value} {xs xs' : List Value} (h : w.ownsRow B e s v n xs) (h' : w.ownsRow B' e' s' v' n' xs') (he : e ≠ e') (g : Nat) (hv : v.ownBlock = some g) (hv' : v'.ownBlock = some g) : False := by
  rcases h.2 with ⟨rfl, _⟩ | ⟨k, cap, cur, rfl, _, hg, _⟩
  · cases hv
  rcases h'.2 with ⟨rfl, _⟩ | ⟨k', cap', cur', rfl, _, hg', _⟩
  · cases hv'
  · injection hv with hv; injection hv' with hv'
    subst hv; subst hv'
    rw [hg] at hg'
    injection hg' with hg'
    injection hg' with _ e
    exact he e
/-- append onto a row of the call's own, of a slice that may be nil, as one step of a region that draws its order; where the new row lies -/
theorem step_append_opt {P : Program} {w : World} {ops : Array Oper} {o : Oper} {a : Act} {K : Act → World → Prop} {Q : Exit → Act → World → Prop} {E : Prop} (hgd : o.guard = none) (s x : Operand) (t : TypeId)
    (ho : o.op = .call { callee := .builtin .append, args := #[s, x], argTypes := #[t, t] })
    (base : Nat) (e : TypeId) (i : TypeInfo) (z : Value) (size bytes : Nat) (ht : P.underlying t = some (.slice e)) (hi : P.info? e = some i) (hz : i.zero = some z)
    (hsize : i.size = size) (hby : i.bytes = bytes) (hzs : z.cells.size = size) (hsz : 0 < size)
    (v : Value) (n : Nat) (xs : List Value) (hs : a.eval s = v) (hown : w.ownsRow base e size v n xs)
    (A : Option Addr) (m c : Nat) (news : List Value) (hx : a.eval x = .slice A m c) (hl : news.length = m * size)
    (hnews : (A = none ∧ m = 0 ∧ c = 0) ∨ ∃ ad, A = some ad ∧ ∀ j u, news[j]? = some u → w.cell? (ad.add j) = some u) (h1 : ∀ u ∈ news, u.oneCell' = true)
    (h63 : n + m ≤ maxLen) (hbytes : (n + m) * bytes ≤ 140737488355328) (hbase : base ≤ w.heap.size)
    (h : ∀ v' w', w'.ownsRow base e size v' (n + m) (xs ++ news) → w.grownBy w' v.ownBlock → (v'.ownBlock = v.ownBlock ∨ v'.ownBlock = some w.heap.size) → K (a.put o.dst v') w') :
    if Region.wanted o (yielded ops a.tmps) = true then Oper.wp P o a w K Q else E := by
  have hw : Region.wanted o (yielded ops a.tmps) = true := by simp [Region.wanted, hgd]
  rw [if_pos hw]
  obtain ⟨v', w', hr, h2, h3, h4⟩ : ∃ v' w', (Builtin.append_ #[t, t] o.type #[v, .slice A m c]).run P w = .ok v' w' ∧ w'.ownsRow base e size v' (n + m) (xs ++ news) ∧ w.grownBy w' v.ownBlock ∧ (v'.ownBlock = v.ownBlock ∨ v'.ownBlock = some w.heap.size) := by
    rcases hnews with ⟨rfl, rfl, rfl⟩ | ⟨ad, rfl, hnews⟩
    · have hn : news = [] := List.eq_nil_of_length_eq_zero (by simpa using hl)
      subst hn
      refine ⟨v, w, run_append_owned_none (P := P) (w := w) base t o.type e i size ht hi v n xs hown, ?_, ⟨rfl, rfl, rfl, Nat.le_refl _, fun _ _ _ => rfl⟩, .inl rfl⟩
      simpa using hown
    · obtain ⟨v', w', hr, h2, h3, _, h5⟩ := run_append_own_at (P := P) w base t o.type e i z size bytes ht hi hz hsize hby hzs hsz v n xs hown ad m c news hl hnews h1 h63 hbytes hbase
      exact ⟨v', w', hr, h2, h3, h5⟩
  unfold Oper.wp execOp
  simp only [ho, resolve, invoke, builtin, Sem.run_bind, Sem.run_pure, Result.andThen_ok, List.map_toArray, List.map_cons, List.map_nil, hs, hx, hr]
  exact h v' w' h2 h3 h4
theorem blk_below {w w' : World} {b : Nat} {o : Obj} (h : w.heap[b]? = some o) (hb : Below w.heap.size w w') : w'.heap[b]? = some o :=
  (hb.block b (Array.getElem?_eq_some_iff.1 h).1).trans h
/-- a block that a row's growth does not touch -/
theorem grown_block {w w' : World} {row : Option Nat} {b : Nat} {o : Obj} (h : w.grownBy w' row) (hb : w.heap[b]? = some o) (hne : row ≠ some b) : w'.heap[b]? = some o :=
  (h.block b (Array.getElem?_eq_some_iff.1 hb).1 (fun e => hne e.symm)).trans hb
theorem alloc_block {w : World} {b : Nat} {o x : Obj} (hb : w.heap[b]? = some o) : (w.alloc x).heap[b]? = some o := (Below.heap_alloc _ _ _ (Array.getElem?_eq_some_iff.1 hb).1).trans hb
theorem own_not {w : World} {B size n b : Nat} {e t : TypeId} {v : Value} {xs : List Value} {C : Array Value} {fr : Nat × Nat} (h : w.ownsRow B e size v n xs) (hb : w.heap[b]? = some (.cells C t fr)) (he : e ≠ t) : v.ownBlock ≠ some b := by
  rcases h.2 with ⟨rfl, _⟩ | ⟨g, cap, cur, rfl, _, hg, _⟩
  · intro e; cases e
  · intro e
    injection e with e
    subst e
    rw [hb] at hg
    injection hg with hg
    injection hg with _ e'
    exact he e'.symm
theorem own_formR {w : World} {B size n : Nat} {e : TypeId} {v : Value} {xs : List Value} (h : w.ownsRow B e size v n xs) : ∃ A c, v = .slice A n c := by
  rcases h.2 with ⟨hv, h0⟩ | ⟨g, cap, cur, hv, _⟩
  · exact ⟨none, 0, by rw [hv, h0]⟩
  · exact ⟨_, _, hv⟩
/-- a row that has just been made, of no elements -/
theorem own_fresh (w : World) (B : Nat) (e : TypeId) (size : Nat) (hB : B ≤ w.heap.size) : (w.alloc (.cells #[] e)).ownsRow B e size (.slice (some ⟨w.heap.size, 0, none⟩) 0 0) 0 [] :=
  ⟨by simp, .inr ⟨w.heap.size, 0, #[], rfl, hB, heap_alloc_last w _, Nat.le_refl _, by unfold maxLen; decide, by simp, by simp⟩⟩
theorem own_freshAt (w : World) (B : Nat) (e : TypeId) (size g : Nat) (hg : g = w.heap.size) (hB : B ≤ w.heap.size) : (w.alloc (.cells #[] e)).ownsRow B e size (.slice (some ⟨g, 0, none⟩) 0 0) 0 [] := by
  subst hg; exact own_fresh w B e size hB
theorem own_grown {w w' : World} {B size n m c g k : Nat} {e : TypeId} {xs : List Value} (h : w.ownsRow B e size (.slice (some ⟨g, 0, none⟩) m c) n xs) (hg : w.grownBy w' (some k)) (hne : k ≠ g) : w'.ownsRow B e size (.slice (some ⟨g, 0, none⟩) m c) n xs :=
  own_kept h fun b hb => by
    obtain rfl : g = b := by injection hb
    exact hg.block g ((h.lt g rfl).2) (fun e => hne (by injection e with e; exact e.symm))
theorem own_other {w w' : World} {B B' s s' n m : Nat} {e e' : TypeId} {kv v : Value} {xs ys : List Value} (hK : w.ownsRow B e s kv n xs) (hL : w.ownsRow B' e' s' v m ys) (he : e ≠ e') (hg : w.grownBy w' v.ownBlock) : w'.ownsRow B e s kv n xs :=
  own_kept hK fun b hb => hg.block b (hK.lt b hb).2 fun h => own_apart hK hL he b hb h.symm
theorem far_of {X w : World} {B s n g p : Nat} {e : TypeId} {lv : Value} {xs : List Value} (hL : w.ownsRow B e s lv n xs) (hat : lv.ownBlock = some g ∨ lv.ownBlock = some X.heap.size) (h1 : g ≠ p) (h2 : p < X.heap.size ∨ w.heap.size ≤ p) : lv.ownBlock ≠ some p := fun e => by
  have h3 := (hL.lt _ e).2
  rcases hat with h | h
  · rw [h] at e; injection e with e; exact h1 e
  · rw [h] at e; injection e with e; omega
theorem intro_fact {p q : Prop} (h : p) (k : p → q) : q := k h
theorem one_at {w : World} {b : Nat} {v : Value} {t : TypeId} {fr : Nat × Nat} (h : w.heap[b]? = some (.cells #[v] t fr)) : ∀ j u, [v][j]? = some u → w.cell? ((⟨b, 0, none⟩ : Addr).add j) = some u := by
  intro j u hu
  rw [Addr.add_lit, Nat.zero_add, cell_here h]
  simpa using hu
theorem five_at {w : World} {b : Nat} {v0 v1 v2 v3 v4 : Value} {t : TypeId} {fr : Nat × Nat} (h : w.heap[b]? = some (.cells #[v0, v1, v2, v3, v4] t fr)) : ∀ j u, [v0, v1, v2, v3, v4][j]? = some u → w.cell? ((⟨b, 0, none⟩ : Addr).add j) = some u := by
  intro j u hu
  rw [Addr.add_lit, Nat.zero_add, cell_here h]
  simpa using hu
theorem far_of2 {X w : World} {B s n p : Nat} {e : TypeId} {lv lv0 : Value} {xs : List Value} (hL : w.ownsRow B e s lv n xs) (hat : lv.ownBlock = lv0.ownBlock ∨ lv.ownBlock = some X.heap.size) (h1 : lv0.ownBlock ≠ some p) (h2 : p < X.heap.size) : lv.ownBlock ≠ some p := fun e => by
  rcases hat with h | h
  · rw [h] at e; exact h1 e
  · rw [h] at e; injection e with e; omega
theorem fresh_at {w : World} {b : Nat} (o : Obj) (h : b = w.heap.size) : (w.alloc o).heap[b]? = some o := by subst h; exact heap_alloc_last w o
theorem drew_block {w : World} {b : Nat} {o : Obj} (h : w.heap[b]? = some o) : w.drew.heap[b]? = some o := h
theorem own_form {w : World} {B size n : Nat} {e : TypeId} {v : Value} {xs : List Value} (h : w.ownsRow B e size v n xs) : ∃ A c, v = .slice A n c := by
  rcases h.2 with ⟨hv, h0⟩ | ⟨g, cap, cur, hv, _⟩
  · exact ⟨none, 0, by rw [hv, h0]⟩
  · exact ⟨_, _, hv⟩
theorem own_base {w : World} {B B' size n : Nat} {e : TypeId} {v : Value} {xs : List Value} (h : w.ownsRow B e size v n xs) (hB : B' ≤ B) : w.ownsRow B' e size v n xs := by
  refine ⟨h.1, ?_⟩
  rcases h.2 with h' | ⟨g, cap, cur, hv, hb, r⟩
  · exact .inl h'
  · exact .inr ⟨g, cap, cur, hv, Nat.le_trans hB hb, r⟩
/-- append onto a row of the call's own, of a slice that may be nil -/
theorem wpList_append_opt {P : Program} {w : World} {ops : Array Oper} {rest : List Oper} {o : Oper} {a : Act} {Q : Exit → Act → World → Prop} (hgd : o.guard = none) (s x : Operand) (t : TypeId)
    (ho : o.op = .call { callee := .builtin .append, args := #[s, x], argTypes := #[t, t] })
    (base : Nat) (e : TypeId) (i : TypeInfo) (z : Value) (size bytes : Nat) (ht : P.underlying t = some (.slice e)) (hi : P.info? e = some i) (hz : i.zero = some z)
    (hsize : i.size = size) (hby : i.bytes = bytes) (hzs : z.cells.size = size) (hsz : 0 < size)
    (v : Value) (n : Nat) (xs : List Value) (hs : a.eval s = v) (hown : w.ownsRow base e size v n xs)
    (A : Option Addr) (m c : Nat) (news : List Value) (hx : a.eval x = .slice A m c) (hl : news.length = m * size)
    (hnews : (A = none ∧ m = 0 ∧ c = 0) ∨ ∃ ad, A = some ad ∧ ∀ j u, news[j]? = some u → w.cell? (ad.add j) = some u) (h1 : ∀ u ∈ news, u.oneCell' = true)
    (h63 : n + m ≤ maxLen) (hbytes : (n + m) * bytes ≤ 140737488355328) (hbase : base ≤ w.heap.size)
    (h : ∀ v' w', w'.ownsRow base e size v' (n + m) (xs ++ news) → w.grownBy w' v.ownBlock → (v'.ownBlock = v.ownBlock ∨ v'.ownBlock = some w.heap.size) → wpList P ops Q rest (a.put o.dst v') w') : wpList P ops Q (o :: rest) a w :=
  wpList_step fun _ hK => step_append_opt hgd s x t ho base e i z size bytes ht hi hz hsize hby hzs hsz v n xs hs hown A m c news hx hl hnews h1 h63 hbytes hbase fun v' w' h2 h3 h4 => hK _ _ (h v' w' h2 h3 h4)
/-- behind a new block, and draws -/
theorem bel_new (w W : World) (o : Obj) (h1 : W.os = w.os) (h2 : W.tape = w.tape) (h3 : W.output = w.output) (h : W.heap = (w.alloc o).heap) : Below w.heap.size w W := by
  have hb := (Below.refl w.heap.size w).alloc (Nat.le_refl _) o
  exact ⟨h1, h2, h3, by rw [h]; exact hb.size, fun k hk => by rw [h]; exact hb.block k hk⟩
theorem own_newH (w W : World) (B g : Nat) (e : TypeId) (size : Nat) (h : W.heap = (w.alloc (.cells #[] e)).heap) (hg : g = w.heap.size) (hB : B ≤ w.heap.size) : W.ownsRow B e size (.slice (some ⟨g, 0, none⟩) 0 0) 0 [] := by
  subst hg
  refine ⟨by simp, .inr ⟨w.heap.size, 0, #[], rfl, hB, ?_, Nat.le_refl _, by unfold maxLen; decide, by simp, by simp⟩⟩
  rw [h]; exact heap_alloc_last w _
end Go.Proofs.YtklhdffbaglkdaaDoor
namespace Go.Proofs.YtklhdffbaglkdaaDoor
open Go.RowKit
set_option linter.unusedVariables false
set_option linter.unusedSimpArgs false

/-- a slice of bytes reads as these -/
def RdAt (w : World) (v : Value) (l : List UInt8) : Prop :=
  ∃ A c, v = .slice A l.length c ∧ l.length ≤ c ∧ c ≤ 9223372036854775807 ∧ ((A = none ∧ l.length = 0 ∧ c = 0) ∨ ∃ g o, A = some ⟨g, o, none⟩ ∧ g < w.heap.size ∧ ∀ j u, (cells l)[j]? = some u → w.cell? ((⟨g, o, none⟩ : Addr).add j) = some u)
/-- only blocks of S, and new ones, are other ones -/
structure Only (S : Nat → Prop) (w w' : World) : Prop where
  os : w'.os = w.os
  tape : w'.tape = w.tape
  output : w'.output = w.output
  size : w.heap.size ≤ w'.heap.size
  block : ∀ k, k < w.heap.size → ¬ S k → w'.heap[k]? = w.heap[k]?
theorem Only.refl (S : Nat → Prop) (w : World) : Only S w w := ⟨rfl, rfl, rfl, Nat.le_refl _, fun _ _ _ => rfl⟩
theorem Only.trans {S : Nat → Prop} {a b c : World} (h : Only S a b) (k : Only S b c) : Only S a c :=
  ⟨k.os.trans h.os, k.tape.trans h.tape, k.output.trans h.output, Nat.le_trans h.size k.size, fun i hi hn => (k.block i (by have := h.size; omega) hn).trans (h.block i hi hn)⟩
/-- what the second may write, but for what was new, the first one may -/
theorem Only.then {S S' : Nat → Prop} {a b c : World} (h : Only S a b) (k : Only S' b c) (hs : ∀ i, S' i → i < a.heap.size → S i) : Only S a c :=
  ⟨k.os.trans h.os, k.tape.trans h.tape, k.output.trans h.output, Nat.le_trans h.size k.size, fun i hi hn => (k.block i (by have := h.size; omega) (fun e => hn (hs i e hi))).trans (h.block i hi hn)⟩
theorem Only.mono {S S' : Nat → Prop} {w w' : World} (h : Only S w w') (hs : ∀ i, i < w.heap.size → S i → S' i) : Only S' w w' := ⟨h.os, h.tape, h.output, h.size, fun i hi hn => h.block i hi (fun e => hn (hs i hi e))⟩
theorem Only.below {S : Nat → Prop} {w w' : World} {B : Nat} (h : Only S w w') (hB : B ≤ w.heap.size) (hs : ∀ i, S i → B ≤ i) : Below B w w' := ⟨h.os, h.tape, h.output, h.size, fun i hi => h.block i (by omega) (fun e => by have := hs i e; omega)⟩
theorem Only.of_below {S : Nat → Prop} {w w' : World} (h : Below w.heap.size w w') : Only S w w' := ⟨h.os, h.tape, h.output, h.size, fun i hi _ => h.block i hi⟩
theorem Only.of_grown {S : Nat → Prop} {w w' : World} {row : Option Nat} (h : w.grownBy w' row) (hs : ∀ i, row = some i → S i) : Only S w w' := ⟨h.os, h.tape, h.output, h.size, fun i hi hn => h.block i hi (fun e => hn (hs i e.symm))⟩
theorem Only.set {S : Nat → Prop} {w w' : World} {b o : Nat} (h : Only S w w') (hb : S b) (v : Value) : Only S w (w'.setCell ⟨b, o, none⟩ v) :=
  ⟨h.os, h.tape, h.output, by rw [set_size]; exact h.size, fun i hi hn => (set_there v (fun e => hn (by rw [e]; exact hb))).trans (h.block i hi hn)⟩
theorem Only.alloc {S : Nat → Prop} {w w' : World} (h : Only S w w') (x : Obj) : Only S w (w'.alloc x) :=
  ⟨h.os, h.tape, h.output, by simp; have := h.size; omega, fun i hi hn => (Below.heap_alloc _ _ _ (by have := h.size; omega)).trans (h.block i hi hn)⟩
theorem Only.drewN {S : Nat → Prop} {w w' : World} (h : Only S w w') (n : Nat) : Only S w (w'.drewN n) := ⟨h.os, h.tape, h.output, h.size, h.block⟩
theorem Only.drew {S : Nat → Prop} {w w' : World} (h : Only S w w') : Only S w w'.drew := ⟨h.os, h.tape, h.output, h.size, h.block⟩

theorem RdAt.keep {w w' : World} {v : Value} {l : List UInt8} (h : RdAt w v l) (hs : w.heap.size ≤ w'.heap.size) (hb : ∀ g, v.ownBlock = some g → w'.heap[g]? = w.heap[g]?) : RdAt w' v l := by
  obtain ⟨A, c, rfl, h1, h2, h3⟩ := h
  refine ⟨A, c, rfl, h1, h2, ?_⟩
  rcases h3 with h3 | ⟨g, o, rfl, hg, h3⟩
  · exact .inl h3
  · refine .inr ⟨g, o, rfl, by omega, fun j u hu => ?_⟩
    rw [← h3 j u hu]
    exact World.cell?_of_block (by rw [Addr.add_lit]; exact hb g rfl)
theorem RdAt.lt {w : World} {v : Value} {l : List UInt8} (h : RdAt w v l) {g : Nat} (hg : v.ownBlock = some g) : g < w.heap.size := by
  obtain ⟨A, c, rfl, h1, h2, h3⟩ := h
  rcases h3 with ⟨rfl, _⟩ | ⟨g', o, rfl, hg', _⟩
  · cases hg
  · injection hg with hg; rw [← hg]; exact hg'
theorem RdAt.only {S : Nat → Prop} {w w' : World} {v : Value} {l : List UInt8} (h : RdAt w v l) (ho : Only S w w') (hb : ∀ g, v.ownBlock = some g → ¬ S g) : RdAt w' v l :=
  h.keep ho.size fun g hg => ho.block g (h.lt hg) (hb g hg)
theorem RdAt.below {w w' : World} {v : Value} {l : List UInt8} (h : RdAt w v l) (hb : Below w.heap.size w w') : RdAt w' v l := h.keep hb.size fun g hg => hb.block g (h.lt hg)
theorem RdAt.nil (w : World) : RdAt w (.slice none 0 0) [] := ⟨none, 0, rfl, Nat.le_refl _, Nat.zero_le _, .inl ⟨rfl, rfl, rfl⟩⟩
/-- the first n of them -/
theorem cells_take (l : List UInt8) (n j : Nat) (u : Value) (h : (cells (l.take n))[j]? = some u) : (cells l)[j]? = some u := by
  unfold cells at h ⊢
  rw [List.getElem?_map] at h ⊢
  rw [List.getElem?_take] at h
  split at h
  · exact h
  · cases h
theorem RdAt.take {w : World} {A : Option Addr} {c : Nat} {l : List UInt8} (h : RdAt w (.slice A l.length c) l) (n : Nat) (hn : n ≤ l.length) : RdAt w (.slice A n c) (l.take n) := by
  obtain ⟨A', c', e, h1, h2, h3⟩ := h
  cases e
  have hl : (l.take n).length = n := by rw [List.length_take]; omega
  refine ⟨A, c, by rw [hl], by omega, h2, ?_⟩
  rcases h3 with ⟨rfl, h4, h5⟩ | ⟨g, o, rfl, hg, h3⟩
  · exact .inl ⟨rfl, by omega, h5⟩
  · exact .inr ⟨g, o, rfl, hg, fun j u hu => h3 j u (cells_take l n j u hu)⟩
/-- a row of the call's own reads as its bytes -/
theorem Buf.rd {w : World} {B : Nat} {v : Value} {l : List UInt8} (h : Buf w B v l) : RdAt w v l := by
  have hc := fun g => World.ownsRow.cells (g := g) h
  rcases h.2 with ⟨rfl, h0⟩ | ⟨g, cap, cur, rfl, hB, hg, h4, h5, _⟩
  · obtain rfl := List.length_eq_zero_iff.1 h0
    exact RdAt.nil w
  · refine ⟨_, cap, rfl, ?_, ?_, .inr ⟨g, 0, rfl, (Array.getElem?_eq_some_iff.1 hg).1, hc g rfl⟩⟩
    · omega
    · unfold maxLen at *; omega
/-- an empty literal -/
theorem own_empty (w : World) : (w.alloc (.cells #[] 5)).ownsRow w.heap.size 5 1 (.slice (some ⟨w.heap.size, 0, none⟩) 0 0) 0 [] := ⟨by simp, Or.inr ⟨w.heap.size, 0, #[], rfl, Nat.le_refl _, heap_alloc_last w _, Nat.le_refl _, by unfold maxLen; decide, by simp, by simp⟩⟩
/-- what an append takes of it -/
theorem RdAt.news {w : World} {v : Value} {l : List UInt8} (h : RdAt w v l) : ∃ A c, v = .slice A l.length c ∧ ((A = none ∧ l.length = 0 ∧ c = 0) ∨ ∃ ad, A = some ad ∧ ∀ j u, (cells l)[j]? = some u → w.cell? (ad.add j) = some u) := by
  obtain ⟨A, c, rfl, h1, h2, h3⟩ := h
  refine ⟨A, c, rfl, ?_⟩
  rcases h3 with h3 | ⟨g, o, rfl, hg, h3⟩
  · exact .inl h3
  · exact .inr ⟨_, rfl, h3⟩
/-- 'string(b)' -/
theorem RdAt.text {w : World} {v : Value} {l : List UInt8} (h : RdAt w v l) : (convert 40 9 v).run Tryd.prog w = .ok (.string ⟨l.toArray⟩) w := by
  obtain ⟨A, c, rfl, h1, h2, h3⟩ := h
  rcases h3 with ⟨rfl, h0, rfl⟩ | ⟨g, o, rfl, hg, h3⟩
  · obtain rfl : l = [] := List.length_eq_zero_iff.1 h0
    show (convert 40 9 (.slice none 0 0)).run Tryd.prog w = _
    rw [run_convert_bytes_string (P := Tryd.prog) w 40 9 5 none 0 0 Tryd.underlying40 Tryd.underlying5 Tryd.underlying9]
    rfl
  · exact run_convert_bytes_back (P := Tryd.prog) w 40 9 5 ⟨g, o, none⟩ c l Tryd.underlying40 Tryd.underlying5 Tryd.underlying9 (fun j hj => h3 j _ (by simp [cells, hj]))

/-! ### bytes within an argument: where there is no room at all, nothing is known of the block -/
def rdBlock : Value → Option Nat
  | .slice (some a) _ c => if c = 0 then none else some a.block
  | _ => none
def RdW (w : World) (v : Value) (l : List UInt8) : Prop :=
  ∃ A c, v = .slice A l.length c ∧ l.length ≤ c ∧ c ≤ 9223372036854775807 ∧ ((l.length = 0 ∧ c = 0) ∨ ∃ g o, A = some ⟨g, o, none⟩ ∧ g < w.heap.size ∧ ∀ j u, (cells l)[j]? = some u → w.cell? ((⟨g, o, none⟩ : Addr).add j) = some u)
theorem RdAt.weak {w : World} {v : Value} {l : List UInt8} (h : RdAt w v l) : RdW w v l := by
  obtain ⟨A, c, rfl, h1, h2, h3⟩ := h
  exact ⟨A, c, rfl, h1, h2, h3.imp (fun h => h.2) id⟩
theorem rdBlock_own {v : Value} {g : Nat} (h : rdBlock v = some g) : v.ownBlock = some g := by
  unfold rdBlock at h
  split at h
  · split at h
    · cases h
    · exact h
  · cases h
theorem RdW.lt {w : World} {v : Value} {l : List UInt8} (h : RdW w v l) {g : Nat} (hg : rdBlock v = some g) : g < w.heap.size := by
  obtain ⟨A, c, rfl, h1, h2, h3⟩ := h
  rcases h3 with ⟨_, rfl⟩ | ⟨g', o, rfl, hg', _⟩
  · cases A <;> simp [rdBlock] at hg
  · have hg := rdBlock_own hg
    injection hg with hg
    rw [← hg]
    exact hg'
theorem RdW.keep {w w' : World} {v : Value} {l : List UInt8} (h : RdW w v l) (hs : w.heap.size ≤ w'.heap.size) (hb : ∀ g, rdBlock v = some g → w'.heap[g]? = w.heap[g]?) : RdW w' v l := by
  obtain ⟨A, c, rfl, h1, h2, h3⟩ := h
  refine ⟨A, c, rfl, h1, h2, ?_⟩
  by_cases hc : c = 0
  · exact .inl ⟨by omega, hc⟩
  rcases h3 with h3 | ⟨g, o, rfl, hg, h3⟩
  · exact .inl h3
  · refine .inr ⟨g, o, rfl, by omega, fun j u hu => ?_⟩
    rw [← h3 j u hu]
    exact World.cell?_of_block (by rw [Addr.add_lit]; exact hb g (by simp [rdBlock, hc]))
theorem RdW.below {w w' : World} {v : Value} {l : List UInt8} (h : RdW w v l) (hb : Below w.heap.size w w') : RdW w' v l := h.keep hb.size fun g hg => hb.block g (h.lt hg)
theorem RdW.only {S : Nat → Prop} {w w' : World} {v : Value} {l : List UInt8} (h : RdW w v l) (ho : Only S w w') (hb : ∀ g, rdBlock v = some g → ¬ S g) : RdW w' v l :=
  h.keep ho.size fun g hg => ho.block g (h.lt hg) (hb g hg)
theorem RdW.take {w : World} {A : Option Addr} {c : Nat} {l : List UInt8} (h : RdW w (.slice A l.length c) l) (n : Nat) (hn : n ≤ l.length) : RdW w (.slice A n c) (l.take n) := by
  obtain ⟨A', c', e, h1, h2, h3⟩ := h
  cases e
  have hl : (l.take n).length = n := by rw [List.length_take]; omega
  refine ⟨A, c, by rw [hl], by omega, h2, ?_⟩
  rcases h3 with ⟨h4, h5⟩ | ⟨g, o, rfl, hg, h3⟩
  · exact .inl ⟨by omega, h5⟩
  · exact .inr ⟨g, o, rfl, hg, fun j u hu => h3 j u (cells_take l n j u hu)⟩
theorem RdW.news {w : World} {v : Value} {l : List UInt8} (h : RdW w v l) : ∃ A c, v = .slice A l.length c ∧ ((A = none ∧ l.length = 0 ∧ c = 0) ∨ ∃ ad, A = some ad ∧ ∀ j u, (cells l)[j]? = some u → w.cell? (ad.add j) = some u) := by
  obtain ⟨A, c, rfl, h1, h2, h3⟩ := h
  refine ⟨A, c, rfl, ?_⟩
  rcases h3 with h3 | ⟨g, o, rfl, hg, h3⟩
  · cases A with
    | none => exact .inl ⟨rfl, h3.1, h3.2⟩
    | some ad => exact .inr ⟨ad, rfl, fun j u hu => by
        obtain rfl : l = [] := List.length_eq_zero_iff.1 h3.1
        simp [cells] at hu⟩
  · exact .inr ⟨_, rfl, h3⟩
end Go.Proofs.YtklhdffbaglkdaaDoor
namespace Go.Proofs.YtklhdffbaglkdaaDoor
open Go.RowKit

/-- a callee that leaves the world alone, in a second quiet region -/
theorem quiet_more {P : Program} {f : FuncId} {args : Array Value} {w : World} {a n : Nat} {v : Value} (h : Calls P f args (w.drewN (a + n)) fun e w' => e = .returned v ∧ w' = w.drewN (a + n)) :
    Calls P f args (w.drewN (a + n)) fun e w'' => e = .returned v ∧ ∃ m, w'' = w.drewN (a + m) := h.mono fun _ _ ⟨he, hm⟩ => ⟨he, n, hm⟩
theorem rotr_int (x : UInt32) (n : Nat) : bits .or .u32 ((x.toNat : Int) / 2 ^ n) ((x.toNat : Int) * 2 ^ (32 - n) % 4294967296) = ((rotr x n).toNat : Int) := by
  have h1 : (x.toNat : Int) / 2 ^ n = ((x.toNat / 2 ^ n : Nat) : Int) := by rw [Int.natCast_ediv, Int.natCast_pow]; rfl
  have h2 : (x.toNat : Int) * 2 ^ (32 - n) % 4294967296 = ((x.toNat * 2 ^ (32 - n) % 4294967296 : Nat) : Int) := by rw [Int.natCast_emod, Int.natCast_mul, Int.natCast_pow]; rfl
  rw [rotr_nat, h1, h2]
  exact bits_word_or _ _ (Nat.lt_of_le_of_lt (Nat.div_le_self _ _) (w_lt x)) (Nat.mod_lt _ (by decide))
theorem turn_any (x : UInt32) (n : Nat) (hn : n ≤ 32) (w : World) :
    Calls Tryd.prog 73 #[.int .u32 (x.toNat : Int), .int .u64 (n : Int)] w fun e w' => e = .returned (.int .u32 ((rotr x n).toNat : Int)) ∧ w = w' := by
  have hx := w_lt x
  go_enter Tryd.func73, Tryd.ntmps73
  go_wp2
  go_ret
  exact ⟨ret_int (rotr_int x n), rfl⟩
theorem turn_quiet (x : UInt32) (n : Nat) (hn : n ≤ 32) (w : World) :
    Calls Tryd.prog 73 #[.int .u32 (x.toNat : Int), .int .u64 (n : Int)] w fun e w' => e = .returned (.int .u32 ((rotr x n).toNat : Int)) ∧ w' = w := (turn_any x n hn w).mono fun _ _ h => ⟨h.1, h.2.symm⟩
theorem turn_q (x : UInt32) (n : Int) (h0 : 0 ≤ n) (hn : n ≤ 32) (w : World) :
    Calls Tryd.prog 73 #[.int .u32 (x.toNat : Int), .int .u64 n] w fun e w' => e = .returned (.int .u32 ((rotr x n.toNat).toNat : Int)) ∧ w' = w := by
  have h : (n.toNat : Int) = n := by omega
  have := turn_quiet x n.toNat (by omega) w
  rw [h] at this; exact this
end Go.Proofs.YtklhdffbaglkdaaDoor
namespace Go.Proofs.YtklhdffbaglkdaaDoor
open Go.RowKit

theorem run_alloc_new {P : Program} (w : World) (t : TypeId) (z : Value) (hz : ∀ w, (zeroValue t).run P w = .ok z w) :
    (Instr.alloc t true (.tuple #[])).run P w = .ok (.pointer (some ⟨w.heap.size, 0, none⟩)) (w.alloc (.cells z.cells t)) := by
  simp [Instr.alloc, Sem.run_bind, hz, newVar, newRow]
theorem wp_alloc_var {P : Program} {o : Oper} {a : Act} {w : World} {K : Act → World → Prop} {Q : Exit → Act → World → Prop} (t : TypeId) (z : Value) (ho : o.op = .alloc t)
    (hz : ∀ w, (zeroValue t).run P w = .ok z w) (h : K (a.put o.dst (.pointer (some ⟨w.heap.size, 0, none⟩))) (w.alloc (.cells z.cells t))) : o.wp P a w K Q := by
  unfold Oper.wp execOp
  simp only [ho, Sem.run_bind, run_alloc_new w t z hz, Result.andThen_ok]
  exact h
theorem wp_store_new {P : Program} {o : Oper} {a : Act} {w : World} {K : Act → World → Prop} {Q : Exit → Act → World → Prop} (t : TypeId) (p x : Operand) (c c' : Array Value) (ho : o.op = .store t p x)
    (hp : a.eval p = .pointer (some ⟨w.heap.size, 0, none⟩)) (hx : a.eval x = .agg c') (hi : (P.info? t).map (·.size) = some c'.size) (hs : c.size = c'.size) (h1 : c'.all (·.oneCell') = true)
    (h : K (a.put o.dst undef) (w.alloc (.cells c' t))) : o.wp P a (w.alloc (.cells c t)) K Q := by
  unfold Oper.wp execOp
  simp only [ho, hp, hx, Sem.run_bind, run_storeAt_new w t c c' hi hs h1, Result.andThen_ok]
  exact h
theorem wp_build_is {P : Program} {o : Oper} {a : Act} {w : World} {K : Act → World → Prop} {Q : Exit → Act → World → Prop} (t : TypeId) (parts : Array (Nat × Operand)) (cells : Array Value) (ho : o.op = .build t parts)
    (hc : P.built t (parts.map fun (i, x) => (i, a.eval x)).toList = some cells) (h : K (a.put o.dst (.agg cells)) w) : o.wp P a w K Q :=
  wp_build t parts ho (by rw [hc]; rfl) (by rw [hc]; exact h)
theorem wpList_alloc_var {P : Program} (t : TypeId) (z : Value) {ops : Array Oper} {rest : List Oper} {d : Option Tmp} {ty : TypeId} {pos : String} {after : Array Edge} {a : Act} {w : World} {Q : Exit → Act → World → Prop}
    (hz : ∀ w, (zeroValue t).run P w = .ok z w) (h : wpList P ops Q rest (a.put d (.pointer (some ⟨w.heap.size, 0, none⟩))) (w.alloc (.cells z.cells t))) :
    wpList P ops Q ({ dst := d, op := .alloc t, type := ty, pos := pos, after := after, guard := none } :: rest) a w :=
  wpList_plain rfl fun _ hK => wp_alloc_var t z rfl hz (hK _ _ h)
theorem wpList_store_new {P : Program} {ops : Array Oper} {rest : List Oper} {o : Oper} {a : Act} {w : World} {Q : Exit → Act → World → Prop} (hgd : o.guard = none) (t : TypeId) (p x : Operand) (c c' : Array Value) (ho : o.op = .store t p x)
    (hp : a.eval p = .pointer (some ⟨w.heap.size, 0, none⟩)) (hx : a.eval x = .agg c') (hi : (P.info? t).map (·.size) = some c'.size) (hs : c.size = c'.size) (h1 : c'.all (·.oneCell') = true)
    (h : wpList P ops Q rest (a.put o.dst undef) (w.alloc (.cells c' t))) : wpList P ops Q (o :: rest) a (w.alloc (.cells c t)) :=
  wpList_plain hgd fun _ hK => wp_store_new t p x c c' ho hp hx hi hs h1 (hK _ _ h)
theorem arr_store (w : World) (C : Array Value) (t : TypeId) (q k : Nat) (v : Value) : (((w.alloc (.cells C t)).drewN q).setCell ⟨w.heap.size, k, none⟩ v) = (w.alloc (.cells (C.setIfInBounds k v) t)).drewN q := by
  rw [setCell_eq_setRow (((w.alloc (.cells C t)).drewN q)) w.heap.size k C t (0, 0) v (heap_alloc_last w _)]
  have := World.setRow_alloc_new w C (C.setIfInBounds k v) t
  rw [← this]; rfl
/-- a result that lies in memory -/
theorem results_cell {P : Program} {fn : Func} {t : Tmp} {ty : TypeId} (h : fn.results = #[.cell t ty]) (tmps : Array Value) (w : World) (b : Nat) (cs : List Value) (d : TypeDesc) (hp : tmps.getD t undef = .pointer (some ⟨b, 0, none⟩)) (hc : w.rangeAt b 0 cs)
    (hu : P.underlying ty = some d) (hd : d.isRow = true) (hi : (P.info? ty).map (·.size) = some cs.length) : (results fn tmps).run P w = .ok (.agg cs.toArray) w := by
  have hl := run_loadVar_mid (P := P) w b 0 ty cs d hc hu hd hi
  simp only [Array.getD_eq_getD_getElem?] at hp
  simp [results, h, hp, hl, asAddr]
theorem range_new (w : World) (cs : List Value) (t : TypeId) : (w.alloc (.cells cs.toArray t)).rangeAt w.heap.size 0 cs := fun j v hv => by
  show (match (w.alloc _).heap[w.heap.size]? with | some (.cells c _ _) => c[0 + j]? | _ => none) = _
  rw [heap_alloc_last]; simpa using hv
end Go.Proofs.YtklhdffbaglkdaaDoor
