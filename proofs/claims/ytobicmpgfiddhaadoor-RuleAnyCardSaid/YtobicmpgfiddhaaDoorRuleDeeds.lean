/- The landed rules: what each does. -/
import Derived.Test.YtobicmpgfiddhaaDoorRuleTells
import Derived.Test.YtobicmpgfiddhaaDoorJsonField
import Derived.Deep.Cut
namespace Go.Proofs.YtobicmpgfiddhaaDoor
open Go.RowKit
set_option linter.unusedVariables false
set_option linter.unusedSimpArgs false

theorem put_any (B p : Nat) (w : World) (lv kv : Value) (l : List V) (ks : List (List UInt8)) (xs : List Value) (key : List UInt8) (x : V) (cs : List Value) (hR : ROut B p w lv kv l ks xs) (hB : B ≤ w.heap.size) (hlk : l.length = ks.length) (hl : ks.length ≤ 100000) (hx : ApV B w p lv kv x cs) :
    Calls Tryd.prog 41 #[.pointer (some ⟨p, 0, none⟩), .string ⟨key.toArray⟩, .agg cs.toArray] w (PutSays B p w l ks key x) := by
  obtain ⟨A, c, hkv, hk⟩ := hR.keysIs
  obtain ⟨XA, xc, XA', xc', rfl⟩ := hx.form
  refine put_at B p w lv kv l ks xs key x _ _ _ _ _ hR hB hlk hl hx fun wq hq => ?_
  rw [hkv]
  exact index_any ks A c 0 w.heap.size key wq (by omega) (by
    rcases hk with h | ⟨b, o, e, h⟩
    · exact .inl h
    · exact .inr ⟨b, o, e, h.below hq⟩)
/-- what the rules work on: claims in their variable C, the object in its own p, a pointer to it in P -/
structure DeedAt (B p C P N : Nat) (w : World) (c : V) (cs : List Value) (lv kv : Value) (l : List V) (ks : List (List UInt8)) (xs : List Value) : Prop where
  obj : ROut B p w lv kv l ks xs
  box : w.heap[C]? = some (.cells cs.toArray 25 (0, 0))
  ptr : w.heap[P]? = some (.cells #[.pointer (some ⟨p, 0, none⟩)] 57 (0, 0))
  cv : VIs w 0 N c cs
  low : N ≤ B ∧ B ≤ w.heap.size ∧ C < B ∧ P < B ∧ p < B ∧ C ≠ p ∧ P ≠ p ∧ N ≤ p
  num : l.length = ks.length
theorem DeedAt.keep {B p C P N : Nat} {w w' : World} {c : V} {cs : List Value} {lv kv : Value} {l : List V} {ks : List (List UInt8)} {xs : List Value} (h : DeedAt B p C P N w c cs lv kv l ks xs) (hb : Below w.heap.size w w') : DeedAt B p C P N w' c cs lv kv l ks xs := by
  obtain ⟨h1, h2, h3, h4, h5, h6⟩ := h
  have := hb.size
  exact ⟨h1.keep hb, blk_below h2 hb, blk_below h3 hb, h4.below (hb.mono (by omega)), by omega, h6⟩
theorem DeedAt.put {B p C P N : Nat} {w w' : World} {c : V} {cs : List Value} {lv kv lv' kv' : Value} {l l' : List V} {ks ks' : List (List UInt8)} {xs xs' : List Value} (h : DeedAt B p C P N w c cs lv kv l ks xs) (hb : ButO B p w w') (ho : ROut B p w' lv' kv' l' ks' xs') (hn : l'.length = ks'.length) : DeedAt B p C P N w' c cs lv' kv' l' ks' xs' := by
  obtain ⟨h1, h2, h3, h4, h5, h6⟩ := h
  have := hb.size
  exact ⟨ho, (hb.block C (by omega) (by omega)).trans h2, (hb.block P (by omega) (by omega)).trans h3, h4.below (hb.low (by omega) (by omega)), by omega, hn⟩
/-- what a rule leaves -/
def DeedSays (B p : Nat) (w : World) (c : V) (l : List V) (ks : List (List UInt8)) (r : RU) (e : Ending) (w' : World) : Prop :=
  ButO B p w w' ∧ ((stepR c (.mk 6 0 [] l ks) r = none ∧ e = .returned (.bool false)) ∨
    ∃ lv' kv' l' ks' xs', stepR c (.mk 6 0 [] l ks) r = some (.mk 6 0 [] l' ks') ∧ l'.length = ks'.length ∧ ks'.length ≤ ks.length + 1 ∧ ROut B p w' lv' kv' l' ks' xs' ∧ e = .returned (.bool true))
theorem step_set {c out : V} {a0 a1 : List UInt8} : stepR c out ⟨opSet, [a0, a1]⟩ = match fieldV a1 c with | some x => some (putV out a0 x) | none => some out := by
  unfold stepR; dsimp only; rw [if_pos rfl]; rfl
theorem step_text {c out : V} {a0 a1 : List UInt8} : stepR c out ⟨opText, [a0, a1]⟩ = some (putV out a0 (wordV a1)) := by
  unfold stepR; dsimp only; rw [if_neg (by decide), if_pos rfl]; rfl
theorem step_join {c out : V} {a0 a1 a2 : List UInt8} : stepR c out ⟨opJoin, [a0, a1, a2]⟩ = if ((fieldV a1 c).getD V.zero).kind = 4 ∧ ((fieldV a2 c).getD V.zero).kind = 4 then some (putV out a0 (wordV (((fieldV a1 c).getD V.zero).text ++ [46] ++ ((fieldV a2 c).getD V.zero).text))) else none := by
  unfold stepR; dsimp only; rw [if_neg (by decide), if_neg (by decide), if_pos rfl]; rfl
theorem step_need {c out : V} {a0 a1 : List UInt8} : stepR c out ⟨opNeed, [a0, a1]⟩ = if needB ((fieldV a0 c).getD V.zero) a1 = true then some out else none := by
  unfold stepR; dsimp only; rw [if_neg (by decide), if_neg (by decide), if_neg (by decide), if_pos rfl]; rfl
theorem step_only {c out : V} {a0 a1 a2 : List UInt8} : stepR c out ⟨opOnly, [a0, a1, a2]⟩ = some (putV out a0 (listV (onlyL ((fieldV a1 c).getD V.zero) a2))) := by
  unfold stepR; dsimp only; rw [if_neg (by decide), if_neg (by decide), if_neg (by decide), if_neg (by decide), if_pos rfl]; rfl
theorem deed_put {B p : Nat} {w w1 w2 : World} {c x : V} {l : List V} {ks : List (List UInt8)} {r : RU} {key : List UInt8} (hB : B ≤ w.heap.size) (hb1 : Below w.heap.size w w1) (hb2 : ButO B p w1 w2) (hs : stepR c (.mk 6 0 [] l ks) r = some (putV (.mk 6 0 [] l ks) key x))
    (hp : ∃ lv' kv' l' ks' xs', putV (.mk 6 0 [] l ks) key x = .mk 6 0 [] l' ks' ∧ l'.length = ks'.length ∧ ks'.length ≤ ks.length + 1 ∧ ROut B p w2 lv' kv' l' ks' xs') : DeedSays B p w c l ks r (.returned (.bool true)) w2 := by
  obtain ⟨lv', kv', l', ks', xs', e, h1, h2, h3⟩ := hp
  exact ⟨(ButO.of (hb1.mono hB)).trans hb2, .inr ⟨lv', kv', l', ks', xs', by rw [hs, e], h1, h2, h3, rfl⟩⟩
theorem deed_same {B p : Nat} {w w1 : World} {c : V} {lv kv : Value} {l : List V} {ks : List (List UInt8)} {xs : List Value} {r : RU} (hB : B ≤ w.heap.size) (hb1 : Below w.heap.size w w1) (hs : stepR c (.mk 6 0 [] l ks) r = some (.mk 6 0 [] l ks)) (hn : l.length = ks.length) (ho : ROut B p w lv kv l ks xs) : DeedSays B p w c l ks r (.returned (.bool true)) w1 :=
  ⟨ButO.of (hb1.mono hB), .inr ⟨lv, kv, l, ks, xs, hs, hn, Nat.le_succ _, ho.keep hb1, rfl⟩⟩
theorem deed_no {B p : Nat} {w w1 : World} {c : V} {l : List V} {ks : List (List UInt8)} {r : RU} (hB : B ≤ w.heap.size) (hb1 : ButO B p w w1) (hs : stepR c (.mk 6 0 [] l ks) r = none) : DeedSays B p w c l ks r (.returned (.bool false)) w1 :=
  ⟨hb1, .inl ⟨hs, rfl⟩⟩
set_option maxRecDepth 100000 in
set_option maxHeartbeats 8000000 in
theorem deedText_any {B p C P N : Nat} {w : World} {c : V} {cs : List Value} {lv kv : Value} {l : List V} {ks : List (List UInt8)} {xs : List Value} (h : DeedAt B p C P N w c cs lv kv l ks xs) (hk : ks.length ≤ 90000) (a0 a1 : List UInt8) (h1 : a1.length ≤ 1000000000) (A : Option Addr) (cp : Nat) (ha : RdT w (.slice A 2 cp) [a0, a1]) :
    Calls Tryd.prog 42 #[.slice A 2 cp, .pointer (some ⟨P, 0, none⟩)] w (DeedSays B p w c l ks ⟨opText, [a0, a1]⟩) := by
  obtain ⟨g, o, rfl, hg, c0⟩ := ha.at 0 (by simp)
  obtain ⟨g', o', e, _, c1⟩ := ha.at 1 (by simp)
  injection e with e; injection e with e1 e2 _; subst e1; subst e2
  replace c0 : w.cell? ⟨g, o, none⟩ = some (.string ⟨a0.toArray⟩) := c0
  replace c1 : w.cell? ⟨g, o + 1, none⟩ = some (.string ⟨a1.toArray⟩) := c1
  have htv := fun W => textValue_any ⟨a1.toArray⟩ W
  have hpt := fun W (hW : Below w.heap.size w W) => put_any B p W lv kv l ks xs a0 (wordV a1) _ (h.obj.keep hW) (by have := hW.size; have := h.low; omega) h.num (by omega) (⟨0, 0, .inl rfl, Nat.zero_le _, fun g _ h => absurd h (Nat.not_lt_zero _), word_is W 0 0 a1 (by omega) _ rfl⟩)
  have hst : ∀ W, Below w.heap.size w W → W.cell? ⟨P, 0, none⟩ = some (.pointer (some ⟨p, 0, none⟩)) ∧ W.cell? ⟨g, o, none⟩ = some (.string ⟨a0.toArray⟩) ∧ W.cell? ⟨g, o + 1, none⟩ = some (.string ⟨a1.toArray⟩) := fun W hW =>
    ⟨by rw [cell_here (blk_below h.ptr hW)]; rfl, (hW.cell (p := ⟨g, o, none⟩) hg).trans c0, (hW.cell (p := ⟨g, o + 1, none⟩) hg).trans c1⟩
  obtain ⟨X0, hX0⟩ : ∃ z : ByteArray, (⟨a0.toArray⟩ : ByteArray) = z := ⟨_, rfl⟩
  obtain ⟨X1, hX1⟩ : ∃ z : ByteArray, (⟨a1.toArray⟩ : ByteArray) = z := ⟨_, rfl⟩
  rw [hX0, hX1] at hst
  rw [hX1] at htv hpt
  rw [hX0] at hpt
  obtain ⟨e0, e1, e2⟩ := hst w (Below.refl _ _)
  have HTV := Lib.hid htv; have HPT := Lib.hid hpt; have HST := Lib.hid hst; have HB := Lib.hid h.low
  have HE := Lib.hid (@step_text c (.mk 6 0 [] l ks) a0 a1)
  clear htv hpt hst hX0 hX1 h ha c0 c1
  go_enter Tryd.func42, Tryd.ntmps42
  go_upto_region 1 with fail
  go_region_law (first
    | (go_simp; go_at_call 43; (with_reducible refine (HTV.out _).mono ?_); rintro e1 w1 ⟨rfl, hb1⟩; have hb1' := (below_drew2 _ _ hb1); obtain ⟨m0, m1, m2⟩ := HST.out w1 hb1'; dsimp only)
    | (go_simp; go_at_call 41; (with_reducible refine (HPT.out _ hb1').mono ?_); rintro e2 w2 ⟨⟨v2, rfl⟩, hp2, hb2⟩; dsimp only))
  all_goals
    have HF := Lib.hid (deed_put HB.out.2.1 hb1' hb2 HE.out hp2)
    clear m0 m1 m2 hb1 hb1' hb2 hp2 e0 e1 e2
    go_wp2
    go_ret
    exact HF.out
/-- Field, of claims that lie as they lay -/
theorem field_at (c : V) (key : List UInt8) (w : World) (N : Nat) (cs : List Value) (hs : c.slim 1000000) (hd : c.depth ≤ 65537) (hv : VIs w 0 N c cs) (hN : N ≤ w.heap.size) : ∃ xk xn xt xl xm, xk = ((fieldV key c).getD V.zero).kind ∧ xt = (⟨((fieldV key c).getD V.zero).text.toArray⟩ : ByteArray) ∧
    ∀ W, Below w.heap.size w W → Calls Tryd.prog 40 #[.agg cs.toArray, .string ⟨key.toArray⟩] W fun e w' => (∃ A a A' a', e = .returned (.tuple #[.agg #[.int .i64 xk, .int .i64 xn, .string xt, .slice A xl a, .slice A' xm a'], .bool (fieldV key c).isSome]) ∧
      VIs w' W.heap.size w'.heap.size ((fieldV key c).getD V.zero) [.int .i64 xk, .int .i64 xn, .string xt, .slice A xl a, .slice A' xm a']) ∧ Below W.heap.size W w' := by
  refine ⟨_, ((fieldV key c).getD V.zero).num, _, ((fieldV key c).getD V.zero).list.length, ((fieldV key c).getD V.zero).keys.length, rfl, rfl, fun W hW => (field_any c key W 0 N cs hs hd (hv.below (hW.mono hN)) (by have := hW.size; omega)).mono ?_⟩
  rintro e w' ⟨⟨ds, rfl, h1, _⟩, h2⟩
  obtain ⟨A, a, A', a', rfl⟩ := h1.form
  exact ⟨⟨A, a, A', a', rfl, h1⟩, h2⟩
/-- a claim that was read, in a variable of its own -/
def GotV (w wx : World) (b : Nat) (x : V) (xk xn : Int) (xt : ByteArray) (A : Option Addr) (xl a : Nat) (A' : Option Addr) (xm a' : Nat) : Prop :=
  Below w.heap.size w wx ∧ wx.heap[b]? = some (.cells #[.int .i64 xk, .int .i64 xn, .string xt, .slice A xl a, .slice A' xm a'] 25 (0, 0)) ∧ ∃ L N, w.heap.size ≤ L ∧ N ≤ wx.heap.size ∧ VIs wx L N x [.int .i64 xk, .int .i64 xn, .string xt, .slice A xl a, .slice A' xm a']
theorem gotV_call {w w1 : World} {x : V} {xk xn : Int} {xt : ByteArray} {A : Option Addr} {xl a : Nat} {A' : Option Addr} {xm a' : Nat} (hb : Below w.drew.heap.size w.drew w1) (hv : VIs w1 w.drew.heap.size w1.heap.size x [.int .i64 xk, .int .i64 xn, .string xt, .slice A xl a, .slice A' xm a']) :
    GotV w (w1.alloc (.cells #[.int .i64 xk, .int .i64 xn, .string xt, .slice A xl a, .slice A' xm a'] 25)) w1.heap.size x xk xn xt A xl a A' xm a' := by
  have h1 : Below w.heap.size w w1 := below_drew2 _ _ hb
  have h2 : Below w1.heap.size w1 (w1.alloc (.cells #[.int .i64 xk, .int .i64 xn, .string xt, .slice A xl a, .slice A' xm a'] 25)) := (Below.refl _ _).alloc (Nat.le_refl _) _
  exact ⟨h1.chain h2, heap_alloc_last _ _, _, _, Nat.le_refl _, h2.size, hv.below h2⟩
theorem gotV_alloc {w w1 : World} {x : V} {xk xn : Int} {xt : ByteArray} {A : Option Addr} {xl a : Nat} {A' : Option Addr} {xm a' : Nat} (hb : Below (w.alloc (.cells #[.int .i64 0, .int .i64 0, .string ⟨#[]⟩, .slice none 0 0, .slice none 0 0] 25)).drew.heap.size (w.alloc (.cells #[.int .i64 0, .int .i64 0, .string ⟨#[]⟩, .slice none 0 0, .slice none 0 0] 25)).drew w1)
    (hv : VIs w1 (w.alloc (.cells #[.int .i64 0, .int .i64 0, .string ⟨#[]⟩, .slice none 0 0, .slice none 0 0] 25)).drew.heap.size w1.heap.size x [.int .i64 xk, .int .i64 xn, .string xt, .slice A xl a, .slice A' xm a'])
    (hq : w1.heap[w.heap.size]? = some (.cells #[.int .i64 0, .int .i64 0, .string ⟨#[]⟩, .slice none 0 0, .slice none 0 0] 25 (0, 0))) :
    GotV w (set5 w1 w.heap.size 0 (.int .i64 xk) (.int .i64 xn) (.string xt) (.slice A xl a) (.slice A' xm a')) w.heap.size x xk xn xt A xl a A' xm a' := by
  have hz : (w.alloc (.cells #[.int .i64 0, .int .i64 0, .string ⟨#[]⟩, .slice none 0 0, .slice none 0 0] 25)).drew.heap.size = w.heap.size + 1 := World.size_alloc _ _
  have h0 : Below w.heap.size w (w.alloc (.cells #[.int .i64 0, .int .i64 0, .string ⟨#[]⟩, .slice none 0 0, .slice none 0 0] 25)).drew := ((Below.refl _ _).alloc (Nat.le_refl _) _).drew
  have h1 : Below w.heap.size w w1 := h0.chain hb
  have := hb.size
  refine ⟨h1.trans (set5_below (Nat.le_refl _)), by simpa using set5_here (o := 0) hq, _, _, by rw [hz]; exact Nat.le_succ _, by rw [set5_size]; exact Nat.le_refl _, hv.keep2 fun q q1 q2 => World.cell?_of_block (w := w1) (set5_there (by rw [hz] at q1; omega))⟩
set_option maxRecDepth 100000 in
set_option maxHeartbeats 8000000 in
theorem deedSet_any {B p C P N : Nat} {w : World} {c : V} {cs : List Value} {lv kv : Value} {l : List V} {ks : List (List UInt8)} {xs : List Value} (h : DeedAt B p C P N w c cs lv kv l ks xs) (hs : c.slim 1000000) (hd : c.depth ≤ 65537) (hk : ks.length ≤ 90000) (a0 a1 : List UInt8) (A : Option Addr) (cp : Nat) (ha : RdT w (.slice A 2 cp) [a0, a1]) :
    Calls Tryd.prog 39 #[.slice A 2 cp, .pointer (some ⟨C, 0, none⟩), .pointer (some ⟨P, 0, none⟩)] w (DeedSays B p w c l ks ⟨opSet, [a0, a1]⟩) := by
  obtain ⟨g, o, rfl, hg, c0⟩ := ha.at 0 (by simp)
  obtain ⟨g', o', e, _, c1⟩ := ha.at 1 (by simp)
  injection e with e; injection e with e1 e2 _; subst e1; subst e2
  replace c0 : w.cell? ⟨g, o, none⟩ = some (.string ⟨a0.toArray⟩) := c0
  replace c1 : w.cell? ⟨g, o + 1, none⟩ = some (.string ⟨a1.toArray⟩) := c1
  obtain ⟨xk, xn, xt, xl, xm, hxk, hxt, hfd⟩ := field_at c a1 w N cs hs hd h.cv (by have := h.low; omega)
  obtain ⟨CA, cc, CA', cc', hcs⟩ := h.cv.form
  obtain ⟨ck, hck⟩ : ∃ z, c.kind = z := ⟨_, rfl⟩
  obtain ⟨cn, hcn⟩ : ∃ z, c.num = z := ⟨_, rfl⟩
  obtain ⟨ct, hct⟩ : ∃ z : ByteArray, (⟨c.text.toArray⟩ : ByteArray) = z := ⟨_, rfl⟩
  obtain ⟨cl, hcl⟩ : ∃ z, c.list.length = z := ⟨_, rfl⟩
  obtain ⟨cm, hcm⟩ : ∃ z, c.keys.length = z := ⟨_, rfl⟩
  rw [hck, hcn, hct, hcl, hcm] at hcs
  clear hck hcn hct hcl hcm
  subst hcs
  have hpt := fun W (hW : Below w.heap.size w W) x (xs : List Value) (hx : ApV B W p lv kv x xs) => put_any B p W lv kv l ks _ a0 x xs (h.obj.keep hW) (by have := hW.size; have := h.low; omega) h.num (by omega) hx
  have hst : ∀ W, Below w.heap.size w W → (W.cell? ⟨C, 0, none⟩ = some (.int .i64 ck) ∧ W.cell? ⟨C, 1, none⟩ = some (.int .i64 cn) ∧ W.cell? ⟨C, 2, none⟩ = some (.string ct) ∧ W.cell? ⟨C, 3, none⟩ = some (.slice CA cl cc) ∧ W.cell? ⟨C, 4, none⟩ = some (.slice CA' cm cc')) ∧ W.cell? ⟨P, 0, none⟩ = some (.pointer (some ⟨p, 0, none⟩)) ∧ W.cell? ⟨g, o, none⟩ = some (.string ⟨a0.toArray⟩) ∧ W.cell? ⟨g, o + 1, none⟩ = some (.string ⟨a1.toArray⟩) := fun W hW =>
    ⟨(box_of (blk_below h.box hW)).1, by rw [cell_here (blk_below h.ptr hW)]; rfl, (hW.cell (p := ⟨g, o, none⟩) hg).trans c0, (hW.cell (p := ⟨g, o + 1, none⟩) hg).trans c1⟩
  obtain ⟨F, hF⟩ : ∃ F, fieldV a1 c = F := ⟨_, rfl⟩
  have hstep := @step_set c (.mk 6 0 [] l ks) a0 a1
  rw [hF] at hstep hfd hxk hxt
  obtain ⟨X0, hX0⟩ : ∃ z : ByteArray, (⟨a0.toArray⟩ : ByteArray) = z := ⟨_, rfl⟩
  obtain ⟨X1, hX1⟩ : ∃ z : ByteArray, (⟨a1.toArray⟩ : ByteArray) = z := ⟨_, rfl⟩
  rw [hX0, hX1] at hst
  rw [hX1] at hfd
  rw [hX0] at hpt
  obtain ⟨Z, hZ⟩ : ∃ Z, Z = Obj.cells #[.int .i64 0, .int .i64 0, .string ⟨#[]⟩, .slice none 0 0, .slice none 0 0] 25 := ⟨_, rfl⟩
  obtain ⟨⟨e0, e1, e2, e3, e4⟩, e5, e6, e7⟩ := hst w (Below.refl _ _)
  obtain ⟨⟨i0, i1, i2, i3, i4⟩, i5, i6, i7⟩ := hst (w.alloc (.cells #[.int .i64 0, .int .i64 0, .string ⟨#[]⟩, .slice none 0 0, .slice none 0 0] 25)) ((Below.refl _ _).alloc (Nat.le_refl _) _)
  have HPT := Lib.hid hpt; have HST := Lib.hid hst; have HB := Lib.hid h.low; have HFD := Lib.hid hfd; have HE := Lib.hid hstep; have HO := Lib.hid h.obj; have HN := Lib.hid h.num
  clear hpt hst hX0 hX1 h ha c0 c1 hfd hF hstep hZ hxk hxt
  go_enter Tryd.func39, Tryd.ntmps39
  go_upto_region 1 with fail
  go_cut [5, 6] from 7 (fun s5 s6 wx => ∃ b A a A' a', s5 = .pointer (some ⟨b, 0, none⟩) ∧ s6 = .bool F.isSome ∧ Hid (GotV w wx b (F.getD V.zero) xk xn xt A xl a A' xm a'))
  case first =>
    go_region_law (first
      | (go_simp; go_at_call 40; (with_reducible refine (HFD.out _ ((Below.refl w.heap.size w).alloc (Nat.le_refl _) (.cells #[.int .i64 0, .int .i64 0, .string ⟨#[]⟩, .slice none 0 0, .slice none 0 0] 25)).drew).mono ?_); rintro e1 w1 ⟨⟨A5, a5, A6, a6, rfl, hv1⟩, hb1⟩; have hq1 := (hb1.block w.heap.size (by simp)).trans (heap_alloc_last w (.cells #[.int .i64 0, .int .i64 0, .string ⟨#[]⟩, .slice none 0 0, .slice none 0 0] 25)); obtain ⟨⟨n0, n1, n2, n3, n4⟩, f0, f1, f2, f3, f4⟩ := box_of hq1; dsimp only)
      | (go_simp; go_at_call 40; (with_reducible refine (HFD.out _ (Below.refl w.heap.size w).drew).mono ?_); rintro e1 w1 ⟨⟨A5, a5, A6, a6, rfl, hv1⟩, hb1⟩; dsimp only))
    all_goals first
      | (have HG := Lib.hid (gotV_alloc hb1 hv1 hq1)
         clear hb1 hv1 hq1 n0 n1 n2 n3 n4 f0 f1 f2 f3 f4
         go_wp2
         go_meet
         case rel => exact ⟨_, _, _, _, _, rfl, rfl, HG⟩)
      | (have HG := Lib.hid (gotV_call hb1 hv1)
         clear hb1 hv1
         go_wp2
         go_meet
         case rel => exact ⟨_, _, _, _, _, rfl, rfl, HG⟩)
  case rest =>
    obtain ⟨b, A5, a5, A6, a6, rfl, rfl, HG⟩ := hcut
    have hbw := HG.out.1
    have HBW := Lib.hid hbw
    cases F with
    | none =>
      have HF := Lib.hid (deed_same (c := c) (r := ⟨opSet, [a0, a1]⟩) HB.out.2.1 hbw HE.out HN.out HO.out)
      clear HG hbw
      go_wp2
      go_ret
      exact HF.out
    | some x =>
      obtain ⟨_, hbx, L, N', hL, hN', hvx⟩ := HG.out
      have hpt := HPT.out wc.drew hbw.drew x _ (HO.out.fresh (w' := wc.drew) HB.out.2.1 hL hN' (hvx.below (Below.refl _ _).drew))
      obtain ⟨-, m5, m6, -⟩ := HST.out wc hbw
      obtain ⟨⟨b0, b1, b2, b3, b4⟩, -⟩ := box_of hbx
      have HPP := Lib.hid hpt
      clear hpt hbw HG hvx hbx e0 e1 e2 e3 e4 e5 e6 e7 i0 i1 i2 i3 i4 i5 i6 i7 hL hN'
      go_upto_region 3 with fail
      go_region_law (first
        | (go_simp; go_at_call 41; (with_reducible refine HPP.out.mono ?_); rintro e2 w2 ⟨⟨v2, rfl⟩, hp2, hb2⟩; dsimp only))
      all_goals
        have HF := Lib.hid (deed_put HB.out.2.1 HBW.out.drew hb2 HE.out hp2)
        clear hb2 hp2 m5 m6 b0 b1 b2 b3 b4
        go_wp2
        go_ret
        exact HF.out
end Go.Proofs.YtobicmpgfiddhaaDoor
