/- Texts merged by program, in build order: JsonClone, JsonField, RuleDeeds. -/
import Derived.Test.YtobicmpgfiddhaaDoorG08
import Derived.Test.YtobicmpgfiddhaaDoorG05
import Derived.Test.YtobicmpgfiddhaaDoorG02
import Derived.Deep.RegionWith
import Derived.Deep.CutRange
import Derived.Test.YtobicmpgfiddhaaDoorG03
import Derived.Deep.Cut
namespace Go.Proofs.YtobicmpgfiddhaaDoor
open Go.RowKit

mutual
/-- no list in a value, nor of keys, is longer than m -/
def V.slim (m : Nat) : V → Prop
  | .mk _ _ _ l ks => l.length ≤ m ∧ ks.length ≤ m ∧ V.slims m l
def V.slims (m : Nat) : List V → Prop
  | [] => True
  | v :: r => v.slim m ∧ V.slims m r
end
theorem slims_get {m : Nat} : ∀ {l : List V}, V.slims m l → ∀ i (h : i < l.length), l[i].slim m
  | [], _, i, h => absurd h (Nat.not_lt_zero _)
  | v :: r, hs, 0, _ => by unfold V.slims at hs; exact hs.1
  | v :: r, hs, i + 1, h => by unfold V.slims at hs; exact slims_get hs.2 i (by simpa using h)
theorem slim_mk {m : Nat} {k n : Int} {t : List UInt8} {l : List V} {ks : List (List UInt8)} (h : (V.mk k n t l ks).slim m) : l.length ≤ m ∧ ks.length ≤ m ∧ ∀ i (h : i < l.length), l[i].slim m := by
  unfold V.slim at h
  exact ⟨h.1, h.2.1, slims_get h.2.2⟩
def strsOf (ks : List (List UInt8)) : List ByteArray := ks.map fun t => ⟨t.toArray⟩
theorem strsOf_len (ks : List (List UInt8)) : (strsOf ks).length = ks.length := by simp [strsOf]
theorem strsOf_getD (ks : List (List UInt8)) (j : Nat) (h : j < ks.length) : (strsOf ks).getD j ByteArray.empty = ⟨ks[j].toArray⟩ := by
  unfold strsOf List.getD
  rw [List.getElem?_map, List.getElem?_eq_getElem h]; rfl
theorem cloneK_any (ks : List (List UInt8)) (A : Option Addr) (c L N : Nat) (w : World) (hl : ks.length ≤ 1000000) (h : ks = [] ∨ ∃ b o, A = some ⟨b, o, none⟩ ∧ KIs w L N ks b o) :
    Calls Tryd.prog 71 #[.slice A ks.length c] w fun e w' => (∃ A' c', e = .returned (.slice A' ks.length c') ∧ (ks = [] ∨ ∃ b, A' = some ⟨b, 0, none⟩ ∧ KIs w' w.heap.size w'.heap.size ks b 0)) ∧ Below w.heap.size w w' := by
  rcases h with rfl | ⟨b, o, rfl, h⟩
  · cases A with
    | none => exact (Tryd.slices_Clone_string_nil 0 c w).mono fun e w' ⟨he, hw⟩ => by subst hw; exact ⟨⟨none, 0, he, .inl rfl⟩, Below.refl _ _⟩
    | some a =>
      refine (Tryd.slices_Clone_string_zero a c w).mono fun e w' ⟨v', he, hr, hn, hb⟩ => ?_
      rcases hr.2 with ⟨hv, _⟩ | ⟨g, cap, cur, hv, _⟩
      · exact absurd hv hn
      · exact ⟨⟨_, _, by rw [he, hv]; rfl, .inl rfl⟩, hb⟩
  · refine (Tryd.slices_Clone_string b o ks.length c (strsOf ks) w (by rw [strsOf_len]; exact Nat.le_refl _) (by omega) (fun j hj => ?_)).mono fun e w' ⟨v', he, hr, hn, hb⟩ => ?_
    · rw [strsOf_len] at hj
      rw [strsOf_getD ks j hj]
      exact (h.get j hj).2.2
    · rcases hr.2 with ⟨hv, _⟩ | ⟨g, cap, cur, hv, hB, hg, _⟩
      · exact absurd hv hn
      · refine ⟨⟨_, _, by rw [he, hv], .inr ⟨g, rfl, ?_⟩⟩, hb⟩
        refine KIs.of hB (Array.getElem?_eq_some_iff.1 hg).1 fun i hi => ?_
        rw [Nat.zero_add]
        subst hv
        have hcell := hr.cells (g := g) rfl i (.string ⟨ks[i].toArray⟩)
        rw [Addr.add_lit, Nat.zero_add] at hcell
        refine hcell ?_
        have hlen : (strsOf ks).length = ks.length := strsOf_len ks
        rw [List.getElem?_map, List.take_of_length_le (by omega)]
        unfold strsOf
        rw [List.getElem?_map, List.getElem?_eq_getElem hi]; rfl
/-- what holds when j items of a value's list are cloned: R: the result's block, the clone's variable behind it -/
structure CSt (R s3 : Nat) (k n : Int) (t : List UInt8) (l : List V) (ks : List (List UInt8)) (A5 A3 : Option Addr) (c5 c3 : Nat) (w wr : World) (j : Nat) : Prop where
  var : wr.heap[R + 1]? = some (.cells #[.int .i64 k, .int .i64 n, .string ⟨t.toArray⟩, .slice A5 l.length c5, .slice A3 ks.length c3] 25 (0, 0))
  res : wr.heap[R]? = some (.cells #[.int .i64 0, .int .i64 0, .string ⟨#[]⟩, .slice none 0 0, .slice none 0 0] 25 (0, 0))
  key : ks = [] ∨ ∃ b, A3 = some ⟨b, 0, none⟩ ∧ KIs wr (R + 2) s3 ks b 0
  row : l = [] ∨ ∃ g, A5 = some ⟨g, 0, none⟩ ∧ VRow wr s3 g l.length ∧ ∀ i (h : i < l.length), i < j → ∃ ds, Five wr g (i * 5) ds ∧ VIs wr (g + 1) wr.heap.size l[i] ds
  low : Below R w wr
  size : s3 ≤ wr.heap.size
  two : R + 2 ≤ s3
/-- one item more -/
theorem CSt.next {R s3 : Nat} {k n : Int} {t : List UInt8} {l : List V} {ks : List (List UInt8)} {A5 A3 : Option Addr} {c5 c3 : Nat} {w wr w1 : World} {j g : Nat} {d0 d1 d2 d3 d4 : Value} (h : CSt R s3 k n t l ks A5 A3 c5 c3 w wr j)
    (hj : j < l.length) (hA : A5 = some ⟨g, 0, none⟩) (hb : Below wr.heap.size wr w1) (hv : VIs w1 wr.heap.size w1.heap.size l[j] [d0, d1, d2, d3, d4]) :
    CSt R s3 k n t l ks A5 A3 c5 c3 w (set5 w1 g (j * 5) d0 d1 d2 d3 d4) (j + 1) := by
  obtain ⟨hvar, hres, hkey, hrow, hlow, hsize, htwo⟩ := h
  rcases hrow with rfl | ⟨g', e, ⟨hg1, hg2, C, hg3, hg4⟩, hrow⟩
  · simp at hj
  obtain rfl : g = g' := by rw [hA] at e; injection e with e; injection e
  have hs := hb.size
  have hC1 : w1.heap[g]? = some (.cells C 25 (0, 0)) := (hb.block g hg2).trans hg3
  have hall : ∀ b', b' ≠ g → b' < wr.heap.size → (set5 w1 g (j * 5) d0 d1 d2 d3 d4).heap[b']? = wr.heap[b']? := fun b' h1 h2 => (set5_there h1).trans (hb.block b' h2)
  refine ⟨(hall _ (by omega) (by omega)).trans hvar, (hall _ (by omega) (by omega)).trans hres, ?_, .inr ⟨g, e, ⟨hg1, by rw [set5_size]; omega, _, set5_here hC1, by simpa using hg4⟩, ?_⟩, ?_, by rw [set5_size]; omega, htwo⟩
  · rcases hkey with h | ⟨b, e, h⟩
    · exact .inl h
    · exact .inr ⟨b, e, h.keep fun p hp => World.cell?_of_block (w := wr) (hall p.block (by omega) (by omega))⟩
  · intro i hi hij
    have hother : ∀ p : Addr, g + 1 ≤ p.block → (set5 w1 g (j * 5) d0 d1 d2 d3 d4).cell? p = w1.cell? p := fun p hp => by
      have hne : p.block ≠ g := by omega
      exact World.cell?_of_block (w := w1) (set5_there hne)
    rcases Nat.lt_succ_iff_lt_or_eq.1 hij with h' | h'
    · obtain ⟨ds, d5, dv⟩ := hrow i hi h'
      refine ⟨ds, five_other hC1 (d5.keep (N := wr.heap.size) hg2 fun p hp => hb.cell hp) (by omega), ?_⟩
      rw [set5_size]
      exact ((dv.below hb).keep2 fun p h1 h2 => hother p h1).more (Nat.le_refl _) hs
    · subst h'
      refine ⟨_, set5_five hC1 (by omega), ?_⟩
      rw [set5_size]
      exact (hv.more (show g + 1 ≤ wr.heap.size by omega) (Nat.le_refl _)).keep2 fun p h1 h2 => hother p h1
  · exact (hlow.trans (hb.mono (by omega))).trans (set5_below (by omega))
theorem two_keep {W W' : World} {b p o : Nat} {x y : Value} (hb1 : b < W.heap.size) (hp : p < W.heap.size) (hb : Below W.heap.size W W') (h : W.cell? ⟨b, 3, none⟩ = some x ∧ W.cell? ⟨p, o + 3, none⟩ = some y) : W'.cell? ⟨b, 3, none⟩ = some x ∧ W'.cell? ⟨p, o + 3, none⟩ = some y :=
  ⟨(hb.cell (p := ⟨b, _, none⟩) hb1).trans h.1, (hb.cell (p := ⟨p, _, none⟩) hp).trans h.2⟩
theorem two_set {W : World} {b p o g k0 k1 k2 k3 k4 : Nat} {x y c0 c1 c2 c3 c4 : Value} (hb : b ≠ g) (hp : p ≠ g) (h : W.cell? ⟨b, 3, none⟩ = some x ∧ W.cell? ⟨p, o + 3, none⟩ = some y) :
    (((((W.setCell ⟨g, k0, none⟩ c0).setCell ⟨g, k1, none⟩ c1).setCell ⟨g, k2, none⟩ c2).setCell ⟨g, k3, none⟩ c3).setCell ⟨g, k4, none⟩ c4).cell? ⟨b, 3, none⟩ = some x ∧ (((((W.setCell ⟨g, k0, none⟩ c0).setCell ⟨g, k1, none⟩ c1).setCell ⟨g, k2, none⟩ c2).setCell ⟨g, k3, none⟩ c3).setCell ⟨g, k4, none⟩ c4).cell? ⟨p, o + 3, none⟩ = some y := by
  rw [cell5 hb, cell5 hp]; exact h
/-- the list of these five cells lies in a new block that may be written -/
def Thaw (w : World) (B : Nat) (ds : List Value) (n : Nat) : Prop := n = 0 ∨ ∃ g c C, ds[3]? = some (.slice (some ⟨g, 0, none⟩) n c) ∧ B ≤ g ∧ w.heap[g]? = some (.cells C 25 (0, 0)) ∧ n * 5 ≤ C.size
set_option maxRecDepth 100000 in
set_option maxHeartbeats 2000000 in
theorem clone_at (m : Nat) : ∀ (v : V) (w : World) (L N p o : Nat) (cs : List Value), v.size ≤ m → v.slim 1000000 → Five w p o cs → p < N → VIs w L N v cs → N ≤ w.heap.size →
    Calls Tryd.prog 59 #[.pointer (some ⟨p, o, none⟩)] w fun e w' => (∃ ds, e = .returned (.agg ds.toArray) ∧ VIs w' w.heap.size w'.heap.size v ds ∧ Thaw w' w.heap.size ds v.list.length) ∧ Below w.heap.size w w' := by
  induction m with
  | zero => intro v w L N p o cs hm; exact absurd (size_pos v) (by omega)
  | succ m ih =>
  intro v w L N p o cs hm hsm h5 hpN hv hN
  obtain ⟨k, n, t, l, ks⟩ := v
  obtain ⟨hroom, A, c, A', c', rfl, h1, h2⟩ := hv.out
  obtain ⟨c0, c1, c2, c3, c4, e, m0, m1, m2, m3, m4⟩ := h5
  injection e with e0 e; injection e with e1 e; injection e with e2 e; injection e with e3 e; injection e with e4 e
  subst e0; subst e1; subst e2; subst e3; subst e4
  have hpw : p < w.heap.size := by omega
  obtain ⟨sl, sk, si⟩ := slim_mk hsm
  -- the two variables
  obtain ⟨R, hR⟩ : ∃ R, w.heap.size = R := ⟨_, rfl⟩
  obtain ⟨W2, hW2⟩ : ∃ W2, W2 = ((w.alloc (.cells #[.int .i64 0, .int .i64 0, .string ⟨#[]⟩, .slice none 0 0, .slice none 0 0] 25)).alloc (.cells #[.int .i64 k, .int .i64 n, .string ⟨t.toArray⟩, .slice A l.length c, .slice A' ks.length c'] 25)) := ⟨_, rfl⟩
  have b2 : Below R w W2 := by
    rw [hW2, ← hR]; exact ((Below.refl _ _).alloc (Nat.le_refl _) _).alloc (by simp) _
  have z2 : W2.heap.size = R + 2 := by rw [hW2, ← hR]; simp
  have r2 : W2.heap[R]? = some (.cells #[.int .i64 0, .int .i64 0, .string ⟨#[]⟩, .slice none 0 0, .slice none 0 0] 25 (0, 0)) := by
    rw [hW2, ← hR, Below.heap_alloc _ _ _ (by simp)]; exact heap_alloc_last w _
  have v2 : W2.heap[R + 1]? = some (.cells #[.int .i64 k, .int .i64 n, .string ⟨t.toArray⟩, .slice A l.length c, .slice A' ks.length c'] 25 (0, 0)) := by
    rw [hW2, ← hR]
    have := heap_alloc_last (w.alloc (.cells #[.int .i64 0, .int .i64 0, .string ⟨#[]⟩, .slice none 0 0, .slice none 0 0] 25)) (.cells #[.int .i64 k, .int .i64 n, .string ⟨t.toArray⟩, .slice A l.length c, .slice A' ks.length c'] 25)
    simpa using this
  have hck := cloneK_any ks A' c' L N W2 sk (by
    rcases h1 with h | ⟨b, o, e, h⟩
    · exact .inl h
    · exact .inr ⟨b, o, e, h.below (b2.mono (by omega))⟩)
  rw [hW2] at hck
  have HCK := Lib.hid hck; have B2 := Lib.hid b2; have Z2 := Lib.hid z2; have R2 := Lib.hid r2; have V2 := Lib.hid v2; have H1 := Lib.hid h1; have H2 := Lib.hid h2
  have HRR := Lib.hid hR; have HM := Lib.hid hm; have HS := Lib.hid si; have HV := Lib.hid hv; have HR := Lib.hid hroom
  clear hck b2 z2 r2 v2 h1 h2 hm hsm si hv hroom hR
  go_enter Tryd.func59, Tryd.ntmps59
  go_wp2_with fail
  refine HCK.out.mono ?_
  rintro e3 w3 ⟨⟨A3, c3, rfl, hk3⟩, b3⟩
  dsimp only
  rw [← hW2] at b3 hk3
  have z2 := Z2.out
  have hR := HRR.out
  rw [z2] at b3 hk3
  have z3 := b3.size; rw [z2] at z3
  have r3 := (b3.block R (by omega)).trans R2.out
  have v3 := (b3.block (R + 1) (by omega)).trans V2.out
  have q3 : w3.cell? ⟨R + 1, 4, none⟩ = some (.slice A' ks.length c') := cell_here v3
  have f3 : w3.frozen? ⟨R + 1, 4, none⟩ = false := frozen_here v3 4
  have p3 : w3.cell? ⟨p, o + 3, none⟩ = some (.slice A l.length c) := ((B2.out.trans (b3.mono (by omega))).cell (p := ⟨p, o + 3, none⟩) (by show p < _; omega)).trans m3
  have hne : p < R + 1 := by omega
  rw [hR]
  go_upto_region 3 with fail
  obtain ⟨w4, hw4⟩ : ∃ w4, w4 = w3.setCell ⟨R + 1, 4, none⟩ (.slice A3 ks.length c3) := ⟨_, rfl⟩
  rw [← hw4]
  have v4 : w4.heap[R + 1]? = some (.cells #[.int .i64 k, .int .i64 n, .string ⟨t.toArray⟩, .slice A l.length c, .slice A3 ks.length c3] 25 (0, 0)) := by rw [hw4]; exact set_here v3 _
  have r4 : w4.heap[R]? = some (.cells #[.int .i64 0, .int .i64 0, .string ⟨#[]⟩, .slice none 0 0, .slice none 0 0] 25 (0, 0)) := by rw [hw4, set_there _ (by omega)]; exact r3
  have z4 : w4.heap.size = w3.heap.size := by rw [hw4, set_size]
  have b4 : Below R w w4 := by rw [hw4]; exact (B2.out.trans (b3.mono (by omega))).setCell (p := ⟨R + 1, 4, none⟩) (by show R ≤ R + 1; omega) _
  have k4 : ks = [] ∨ ∃ b, A3 = some ⟨b, 0, none⟩ ∧ KIs w4 (R + 2) w3.heap.size ks b 0 := by
    rcases hk3 with h | ⟨b, e, h⟩
    · exact .inl h
    · exact .inr ⟨b, e, h.keep2 fun q h1 h2 => World.cell?_of_block (w := w3) (by rw [hw4]; exact set_there _ (by omega))⟩
  have p4 : w4.cell? ⟨p, o + 3, none⟩ = some (.slice A l.length c) := (b4.cell (p := ⟨p, o + 3, none⟩) (by show p < _; omega)).trans m3
  have hcv := cloneV_any l A c L N w4 sl (by omega) (by
    rcases H2.out with h | ⟨b, o, e, h⟩
    · exact .inl h
    · exact .inr ⟨b, o, e, h.below (b4.mono (by omega))⟩)
  have HCV := Lib.hid hcv; have V4 := Lib.hid v4; have R4 := Lib.hid r4; have K4 := Lib.hid k4; have B4 := Lib.hid b4
  clear hcv v4 r4 k4 b4 hk3 v3 r3 q3 f3 p3 hw4
  go_wp2_with (go_at_call 72; refine (HCV.out).mono ?_; rintro e5 w5 ⟨⟨A5, c5, rfl, hk5⟩, b5⟩; have v5 := (b5.block (R + 1) (by omega)).trans V4.out; have q5 : w5.cell? ⟨R + 1, 3, none⟩ = some (.slice A l.length c) := cell_here v5; have f5 : w5.frozen? ⟨R + 1, 3, none⟩ = false := frozen_here v5 3; have p5 := (b5.cell (p := ⟨p, o + 3, none⟩) (by show p < _; omega)).trans p4)
  have z5 := b5.size
  have cst : CSt R w3.heap.size k n t l ks A5 A3 c5 c3 w (w5.setCell ⟨R + 1, 3, none⟩ (.slice A5 l.length c5)) 0 := by
    refine ⟨set_here v5 _, (set_there _ (by omega)).trans ((b5.block R (by omega)).trans R4.out), ?_, ?_, (B4.out.trans (b5.mono (by omega))).setCell (p := ⟨R + 1, 3, none⟩) (by show R ≤ R + 1; omega) _, by rw [set_size]; omega, z3⟩
    · rcases K4.out with h | ⟨b, e, h⟩
      · exact .inl h
      · exact .inr ⟨b, e, (h.below (b5.mono (by omega))).keep2 fun q h1 h2 => World.cell?_of_block (w := w5) (set_there _ (by omega))⟩
    · rcases hk5 with h | ⟨g, e, ⟨h1, h2, C, h3, h4⟩⟩
      · exact .inl h
      · exact .inr ⟨g, e, ⟨by omega, by rw [set_size]; exact h2, C, by rw [set_there _ (by omega)]; exact h3, h4⟩, fun i hi hij => absurd hij (Nat.not_lt_zero _)⟩
  have CS := Lib.hid cst
  obtain ⟨nl, hnl⟩ : ∃ nl, l.length = nl := ⟨_, rfl⟩
  have NL := Lib.hid hnl
  have ml := HR.out.1
  rw [hnl] at ml ⊢
  rw [hnl] at m3
  clear cst hk5 v5 q5 f5 p5 z5 b5 hnl z4 z3 b3
  go_loopw [25] (fun i wr => ∃ j : Nat, j ≤ nl ∧ i = .int .i64 j ∧ CSt R w3.heap.size k n t l ks A5 A3 c5 c3 w wr j) (fun i _ => nl - (intOf i).toNat)
  case atStart => exact ⟨0, Nat.zero_le _, rfl, by rw [← NL.out]; exact CS.out⟩
  case round =>
    obtain ⟨j, hj, rfl, cst⟩ := hrel
    have C1 := Lib.hid cst
    have hlow := cst.low
    have hz := cst.size
    have h2 := cst.two
    have q3 : wr.cell? ⟨R + 1, 3, none⟩ = some (.slice A5 l.length c5) := cell_here cst.var
    have p3 := (hlow.cell (p := ⟨p, o + 3, none⟩) (by show p < _; omega)).trans m3
    rw [NL.out] at q3
    clear cst
    by_cases hlt : j < nl
    · have hjl : j < l.length := by have := NL.out; omega
      obtain ⟨q, r, rfl, _, hqN, xs, hx5, hxv⟩ := VIs.item H2.out j hjl
      obtain ⟨g, rfl, hrow⟩ : ∃ g, A5 = some ⟨g, 0, none⟩ ∧ VRow wr w3.heap.size g l.length := by
        rcases C1.out.row with h | ⟨g, e, h, _⟩
        · subst h; simp at hjl
        · exact ⟨g, e, h⟩
      obtain ⟨hg1, hg2, C, hg3, hg4⟩ := hrow
      have hR := HRR.out
      have hcl := fun wq (hwq : Below w.heap.size w wq) => ih l[j] wq L N q (r + j * 5) xs (by have := HM.out; have := size_get (k := k) (n := n) (t := t) (ks := ks) j hjl; omega) (HS.out j hjl) (hx5.keep hqN fun z hz => (hwq.mono hN).cell hz) hqN (hxv.below (hwq.mono hN)) (Nat.le_trans hN hwq.size)
      rw [hR] at hcl
      have T := Lib.hid (fun w1 (d0 d1 d2 d3 d4 : Value) hb hv => C1.out.next (w1 := w1) (d0 := d0) (d1 := d1) (d2 := d2) (d3 := d3) (d4 := d4) hjl rfl hb hv)
      have HC := Lib.hid hcl; have HL := Lib.hid hlow
      have hform := fun (w1 : World) (La Na : Nat) ds (h : VIs w1 La Na l[j] ds) => h.form
      generalize l[j] = x at *
      have FORM := Lib.hid hform
      have hS := And.intro q3 p3
      have hq1 : R + 1 < wr.heap.size := by omega
      have hq2 : p < wr.heap.size := by omega
      have hne1 : R + 1 ≠ g := by omega
      have hne2 : p ≠ g := by omega
      have hj0 : (0 : Int) ≤ j := by omega
      have hj1 : (j : Int) < nl := by omega
      rw [NL.out] at hg4
      have HG3 := Lib.hid hg3
      clear hcl hx5 hxv hform HR m0 m1 m2 m4 hR
      go_wp2_with fail
      go_region_with (go_at_call 59; with_reducible refine (HC.out _ HL.out.drew).mono ?_; rintro e1 w1 ⟨⟨ds, rfl, hv1, -⟩, hb1⟩; obtain ⟨u1, u2, u3, u4, rfl⟩ := FORM.out w1 _ _ ds hv1; have hC1 := ((below_drew2 _ _ hb1).block g hg2).trans HG3.out; obtain ⟨y0, y1, y2, y3, y4, n0, n1, n2, n3, n4⟩ := five_of hC1 (o := j * 5) (by omega); have f0 := frozen_here hC1 (j * 5); have f1 := frozen_here hC1 (j * 5 + 1); have f2 := frozen_here hC1 (j * 5 + 2); have f3 := frozen_here hC1 (j * 5 + 3); have f4 := frozen_here hC1 (j * 5 + 4); have n3 := ((below_drew2 _ _ hb1).cell (p := ⟨R + 1, 3, none⟩) hq1).trans q3)
      all_goals
        have hv2 : VIs w1 wr.heap.size w1.heap.size x [.int .i64 x.kind, .int .i64 x.num, .string ⟨x.text.toArray⟩, .slice u1 x.list.length u2, .slice u3 x.keys.length u4] := by
          have e : wr.drew.heap.size = wr.heap.size := rfl
          rw [e] at hv1; exact hv1
        have hnx := T.out w1 _ _ _ _ _ (below_drew2 _ _ hb1) hv2
        have NX := Lib.hid hnx
        clear hnx hv1 hv2 n0 n1 n2 n3 n4 f0 f1 f2 f3 f4 hC1 T hb1
        go_wp2
        go_roundw
        case rel => exact ⟨j + 1, by omega, by go_num, NX.out⟩
        case measure => simp [intOf]; omega
    · obtain rfl : nl = j := by omega
      obtain ⟨⟨g0, g1, g2, g3, g4⟩, -⟩ := box_of C1.out.var
      obtain ⟨⟨e0, e1, e2, e3, e4⟩, f0, f1, f2, f3, f4⟩ := box_of C1.out.res
      rw [NL.out] at g3
      have hRR : R < R + 1 := by omega
      go_wp2
      obtain ⟨wf, hwf⟩ : ∃ wf, wf = set5 wr R 0 (.int .i64 k) (.int .i64 n) (.string ⟨t.toArray⟩) (.slice A5 nl c5) (.slice A3 ks.length c3) := ⟨_, rfl⟩
      change bodyPost _ _ _ _ _ (set5 wr R 0 (.int .i64 k) (.int .i64 n) (.string ⟨t.toArray⟩) (.slice A5 nl c5) (.slice A3 ks.length c3))
      rw [← hwf]
      have hx : wf.heap[R]? = some (.cells #[.int .i64 k, .int .i64 n, .string ⟨t.toArray⟩, .slice A5 nl c5, .slice A3 ks.length c3] 25 (0, 0)) := by rw [hwf]; exact set5_here C1.out.res
      have hvf : VIs wf w.heap.size wf.heap.size (.mk k n t l ks) [.int .i64 k, .int .i64 n, .string ⟨t.toArray⟩, .slice A5 nl c5, .slice A3 ks.length c3] := by
        have hsf : wf.heap.size = wr.heap.size := by rw [hwf, set5_size]
        have hoth : ∀ q : Addr, R + 1 ≤ q.block → wf.cell? q = wr.cell? q := fun q hq => by
          have hne : q.block ≠ R := by omega
          exact World.cell?_of_block (w := wr) (by rw [hwf]; exact set5_there hne)
        rw [← NL.out]
        refine VIs.mk HR.out ?_ ?_
        · rcases C1.out.key with h | ⟨b, e, h⟩
          · exact .inl h
          · exact .inr ⟨b, 0, e, (h.keep2 fun q h1 h2 => hoth q (by omega)).more (by have := HRR.out; omega) (by omega)⟩
        · rcases C1.out.row with h | ⟨g, e, ⟨hg1, hg2, _⟩, hrow⟩
          · exact .inl h
          · refine .inr ⟨g, 0, e, LIs.of (by have := HRR.out; omega) (by omega) fun i hi => ?_⟩
            obtain ⟨ds, d5, dv⟩ := hrow i hi (by have := NL.out; omega)
            obtain ⟨y0, y1, y2, y3, y4, ey, n0, n1, n2, n3, n4⟩ := d5
            refine ⟨ds, ⟨y0, y1, y2, y3, y4, ey, ?_, ?_, ?_, ?_, ?_⟩, ?_⟩
            · rw [Nat.zero_add]; exact (hoth _ (by show R + 1 ≤ g; omega)).trans n0
            · rw [Nat.zero_add]; exact (hoth _ (by show R + 1 ≤ g; omega)).trans n1
            · rw [Nat.zero_add]; exact (hoth _ (by show R + 1 ≤ g; omega)).trans n2
            · rw [Nat.zero_add]; exact (hoth _ (by show R + 1 ≤ g; omega)).trans n3
            · rw [Nat.zero_add]; exact (hoth _ (by show R + 1 ≤ g; omega)).trans n4
            · rw [hsf]
              exact (dv.keep2 fun q h1 h2 => hoth q (by omega)).more (by have := HRR.out; omega) (Nat.le_refl _)
      have hbf : Below w.heap.size w wf := by
        have hR := HRR.out
        rw [hwf, hR]; exact C1.out.low.trans (set5_below (Nat.le_refl _))
      obtain ⟨⟨x0, x1, x2, x3, x4⟩, -⟩ := box_of hx
      have htf : Thaw wf w.heap.size [.int .i64 k, .int .i64 n, .string ⟨t.toArray⟩, .slice A5 nl c5, .slice A3 ks.length c3] nl := by
        rcases C1.out.row with h | ⟨g, e, ⟨hg1, hg2, C, hg3, hg4⟩, _⟩
        · exact .inl (by rw [← NL.out, h]; rfl)
        · have h2 := C1.out.two
          have hR := HRR.out
          refine .inr ⟨g, c5, C, by rw [e]; rfl, by omega, ?_, by rw [← NL.out]; exact hg4⟩
          rw [hwf]; exact (set5_there (by omega)).trans hg3
      have HVF := Lib.hid hvf; have HBF := Lib.hid hbf; have HTF := Lib.hid htf
      clear hvf hbf htf hwf hx g0 g1 g2 g3 g4 e0 e1 e2 e3 e4 f0 f1 f2 f3 f4
      refine bodyPost_ret (v := .agg #[.int .i64 k, .int .i64 n, .string ⟨t.toArray⟩, .slice A5 nl c5, .slice A3 ks.length c3]) (by simp [results, Tryd.results59, go_sem, x0, x1, x2, x3, x4]) rfl ?_
      have NLo := NL.out
      exact ⟨⟨_, rfl, HVF.out, by show Thaw _ _ _ l.length; rw [NLo]; exact HTF.out⟩, HBF.out⟩
end Go.Proofs.YtobicmpgfiddhaaDoor
namespace Go.Proofs.YtobicmpgfiddhaaDoor
open Go.RowKit

theorem str_inj {a b : List UInt8} (h : (⟨a.toArray⟩ : ByteArray) = ⟨b.toArray⟩) : a = b := by
  injection h with h; simpa using h
theorem idx_key (ks : List (List UInt8)) (key : List UInt8) : Lib.idxOfS ((strsOf ks).take ks.length) ⟨key.toArray⟩ = if keyAt key ks < ks.length then (keyAt key ks : Int) else -1 := by
  by_cases h : keyAt key ks < ks.length
  · rw [if_pos h]
    refine Lib.idxOfS_hit (strsOf ks) ks.length (keyAt key ks) _ h (by rw [strsOf_len]; exact Nat.le_refl _) ?_ fun j hj => ?_
    · rw [strsOf_getD ks _ h, keyAt_hit key ks h]
    · rw [strsOf_getD ks _ (by omega)]
      exact fun e => keyAt_ahead key ks j (by omega) hj (str_inj e)
  · rw [if_neg h]
    refine Lib.idxOfS_miss (strsOf ks) ks.length _ fun j hj => ?_
    rw [strsOf_getD ks _ hj]
    exact fun e => keyAt_ahead key ks j hj (by have := keyAt_le key ks; omega) (str_inj e)
theorem index_any (ks : List (List UInt8)) (A : Option Addr) (c L N : Nat) (key : List UInt8) (w : World) (hl : ks.length ≤ 9223372036854775807) (h : ks = [] ∨ ∃ b o, A = some ⟨b, o, none⟩ ∧ KIs w L N ks b o) :
    Calls Tryd.prog 58 #[.slice A ks.length c, .string ⟨key.toArray⟩] w fun e w' => e = .returned (.int .i64 (if keyAt key ks < ks.length then (keyAt key ks : Int) else -1)) ∧ w' = w := by
  rcases h with rfl | ⟨b, o, rfl, h⟩
  · exact (Tryd.slices_Index_string_empty A c ⟨key.toArray⟩ w).mono fun e w' ⟨he, hw⟩ => ⟨he, hw⟩
  · rw [← idx_key]
    refine Tryd.slices_Index_string b o ks.length c (strsOf ks) ⟨key.toArray⟩ w (by rw [strsOf_len]; exact Nat.le_refl _) hl fun j hj => ?_
    rw [strsOf_len] at hj
    rw [strsOf_getD ks j hj]
    exact (h.get j hj).2.2
theorem clone_any (v : V) (w : World) (L N p o : Nat) (cs : List Value) (hs : v.slim 1000000) (h5 : Five w p o cs) (hp : p < N) (hv : VIs w L N v cs) (hN : N ≤ w.heap.size) :
    Calls Tryd.prog 59 #[.pointer (some ⟨p, o, none⟩)] w fun e w' => (∃ ds, e = .returned (.agg ds.toArray) ∧ VIs w' w.heap.size w'.heap.size v ds ∧ Thaw w' w.heap.size ds v.list.length) ∧ Below w.heap.size w w' :=
  clone_at v.size v w L N p o cs (Nat.le_refl _) hs h5 hp hv hN
theorem zero_is (w : World) (L N : Nat) : VIs w L N V.zero [.int .i64 0, .int .i64 0, .string ⟨#[]⟩, .slice none 0 0, .slice none 0 0] := by
  have h := VIs.mk (w := w) (L := L) (N := N) (k := 0) (n := 0) (t := []) (l := []) (ks := []) (A := none) (A' := none) (c := 0) (c' := 0) ⟨by simp, by simp, by simp, by simp⟩ (.inl rfl) (.inl rfl)
  exact h
set_option maxRecDepth 100000 in
set_option maxHeartbeats 2000000 in
theorem field_any (v : V) (key : List UInt8) (w : World) (L N : Nat) (cs : List Value) (hs : v.slim 1000000) (hd : v.depth ≤ 65537) (hv : VIs w L N v cs) (hN : N ≤ w.heap.size) :
    Calls Tryd.prog 40 #[.agg cs.toArray, .string ⟨key.toArray⟩] w fun e w' => (∃ ds, e = .returned (.tuple #[.agg ds.toArray, .bool (fieldV key v).isSome]) ∧ VIs w' w.heap.size w'.heap.size ((fieldV key v).getD V.zero) ds ∧ Thaw w' w.heap.size ds ((fieldV key v).getD V.zero).list.length) ∧ Below w.heap.size w w' := by
  obtain ⟨k, n, t, l, ks⟩ := v
  obtain ⟨sl, sk, si⟩ := slim_mk hs
  obtain ⟨hroom, A, c, A', c', rfl, h1, h2⟩ := hv.out
  have hb0 := ((Below.refl w.heap.size w).alloc (Nat.le_refl _) (.cells #[.int .i64 k, .int .i64 n, .string ⟨t.toArray⟩, .slice A l.length c, .slice A' ks.length c'] 25)).alloc (by simp) (.cells #[.int .i64 0, .int .i64 0, .string ⟨#[]⟩, .slice none 0 0, .slice none 0 0] 25)
  have hs2 : ((w.alloc (.cells #[.int .i64 k, .int .i64 n, .string ⟨t.toArray⟩, .slice A l.length c, .slice A' ks.length c'] 25)).alloc (.cells #[.int .i64 0, .int .i64 0, .string ⟨#[]⟩, .slice none 0 0, .slice none 0 0] 25)).heap.size = w.heap.size + 2 := by simp
  have hix := fun wq (hb : Below w.heap.size w wq) => index_any ks A' c' L N key wq (by omega) (by
    rcases h1 with h | ⟨b, o, e, h⟩
    · exact .inl h
    · exact .inr ⟨b, o, e, h.below (hb.mono hN)⟩)
  obtain ⟨F, hF⟩ : ∃ F, fieldV key (.mk k n t l ks) = F := ⟨_, rfl⟩
  have hF2 : F = if k = 6 ∧ keyAt key ks < ks.length then l[keyAt key ks]? else none := by rw [← hF]; rfl
  rw [hF]
  have hle := keyAt_le key ks
  obtain ⟨nk, hnk⟩ : ∃ nk, ks.length = nk := ⟨_, rfl⟩
  obtain ⟨nl, hnl⟩ : ∃ nl, l.length = nl := ⟨_, rfl⟩
  obtain ⟨ix, hixx⟩ : ∃ ix, keyAt key ks = ix := ⟨_, rfl⟩
  rw [hixx] at hF2 hix hle
  rw [hnk] at hF2 hix hle sk hb0 hs2 ⊢
  rw [hnl] at sl hb0 hs2 ⊢
  have HIX := Lib.hid hix; have HB0 := Lib.hid hb0; have HF := Lib.hid hF2; have H2 := Lib.hid h2; have NL := Lib.hid hnl; have HS2 := Lib.hid hs2; have HSI := Lib.hid si; have HD := Lib.hid hd
  clear hix hb0 hF2 h1 h2 hnl hnk hixx hF hs hv hroom hs2 si hd
  by_cases hk6 : k = 6
  · subst hk6
    by_cases hi : ix < nk
    · have hie : (if ix < nk then (ix : Int) else -1) = ix := if_pos hi
      rw [hie] at HIX
      have t1 : decide ((ix : Int) < 0) = false := by simp
      by_cases hil : ix < nl
      · have t2 : decide ((nl : Int) ≤ (ix : Int)) = false := by simp; omega
        have hjl : ix < l.length := by have := NL.out; omega
        have hFs : F = some l[ix] := HF.out.trans (by rw [if_pos ⟨rfl, hi⟩]; exact List.getElem?_eq_getElem hjl)
        subst hFs
        obtain ⟨q, r, rfl, _, hqN, xs, hx5, hxv⟩ := VIs.item H2.out ix hjl
        have hdx : l[ix].depth ≤ 65537 := by
          have h := HD.out
          rw [depth_mk] at h
          exact (depths_iff l 65537).1 (by omega) ix hjl
        have hsx := HSI.out ix hjl
        generalize l[ix] = x at *
        have hw1 : ∀ wq, Below w.heap.size w wq → Calls Tryd.prog 37 #[.pointer (some ⟨q, r + ix * 5, none⟩), .int .i64 65537] wq fun e w' => e = .returned (.bool true) ∧ Below wq.heap.size wq w' := fun wq hb =>
          (within_any x 65537 wq L N q (r + ix * 5) xs (by decide) (hx5.keep hqN fun z hz => (hb.mono hN).cell hz) hqN (hxv.below (hb.mono hN)) (Nat.le_trans hN hb.size)).mono fun e w' ⟨h1, h2⟩ => ⟨by rw [h1, decide_eq_true hdx], h2⟩
        have hcl := fun wq (hb : Below w.heap.size w wq) => clone_any x wq L N q (r + ix * 5) xs hsx (hx5.keep hqN fun z hz => (hb.mono hN).cell hz) hqN (hxv.below (hb.mono hN)) (Nat.le_trans hN hb.size)
        have HW := Lib.hid hw1; have HC := Lib.hid hcl
        have hform := fun (w1 : World) (La Na : Nat) ds (h : VIs w1 La Na x ds) => h.form
        have FORM := Lib.hid hform
        obtain ⟨W2, hW2⟩ : ∃ W2, W2 = ((w.alloc (.cells #[.int .i64 6, .int .i64 n, .string ⟨t.toArray⟩, .slice (some ⟨q, r, none⟩) nl c, .slice A' nk c'] 25)).alloc (.cells #[.int .i64 0, .int .i64 0, .string ⟨#[]⟩, .slice none 0 0, .slice none 0 0] 25)) := ⟨_, rfl⟩
        have bx : W2.cell? ⟨w.heap.size, 3, none⟩ = some (.slice (some ⟨q, r, none⟩) nl c) := by rw [hW2]; simp
        have rx : W2.heap[w.heap.size + 1]? = some (.cells #[.int .i64 0, .int .i64 0, .string ⟨#[]⟩, .slice none 0 0, .slice none 0 0] 25 (0, 0)) := by
          rw [hW2]
          have := heap_alloc_last (w.alloc (.cells #[.int .i64 6, .int .i64 n, .string ⟨t.toArray⟩, .slice (some ⟨q, r, none⟩) nl c, .slice A' nk c'] 25)) (.cells #[.int .i64 0, .int .i64 0, .string ⟨#[]⟩, .slice none 0 0, .slice none 0 0] 25)
          simpa using this
        have hz2 := HS2.out
        have hb0 := HB0.out
        rw [← hW2] at hz2 hb0
        have BX := Lib.hid bx; have RX := Lib.hid rx; have Z2 := Lib.hid hz2; have B0 := Lib.hid hb0; have HWW := Lib.hid hW2
        have hj0 : (0 : Int) ≤ ix := by omega
        have hj1 : (ix : Int) < nl := by omega
        clear hw1 hcl hform bx rx hz2 hb0 hW2 hx5 hxv hdx hsx HB0 HS2
        go_enter Tryd.func40, Tryd.ntmps40
        go_wp2_with (go_at_call 58; refine (HIX.out _ (by rw [← HWW.out]; exact B0.out)).mono ?_; rintro e1 w1 ⟨rfl, rfl⟩)
        rw [← HWW.out]
        refine (HW.out _ B0.out).mono ?_
        rintro e3 w3 ⟨rfl, hb3⟩
        dsimp only
        have z2 := Z2.out
        have z3 := hb3.size
        have bx3 : w3.cell? ⟨w.heap.size, 3, none⟩ = some (.slice (some ⟨q, r, none⟩) nl c) := (hb3.cell (p := ⟨w.heap.size, 3, none⟩) (by show w.heap.size < _; omega)).trans BX.out
        have hb3' : Below w.heap.size w w3 := B0.out.trans (hb3.mono (by omega))
        have hb33 : Below W2.heap.size W2 w3 := hb3
        clear hb3
        go_wp2_with (go_at_call 59; refine (HC.out _ hb3').mono ?_; rintro e4 w4 ⟨⟨ds, rfl, hv4, ht4⟩, hb4⟩; obtain ⟨u1, u2, u3, u4, rfl⟩ := FORM.out w4 _ _ ds hv4; have hr4 := (hb4.block (w.heap.size + 1) (by omega)).trans ((hb33.block (w.heap.size + 1) (by omega)).trans RX.out); obtain ⟨⟨e0, e1, e2, e3, e4⟩, f0, f1, f2, f3, f4⟩ := box_of hr4)
        have hsz := hb4.size
        have hz3 := z3
        obtain ⟨wf, hwf⟩ : ∃ wf, wf = set5 w4 (w.heap.size + 1) 0 (.int .i64 x.kind) (.int .i64 x.num) (.string ⟨x.text.toArray⟩) (.slice u1 x.list.length u2) (.slice u3 x.keys.length u4) := ⟨_, rfl⟩
        change bodyPost _ _ _ _ _ (set5 w4 (w.heap.size + 1) 0 (.int .i64 x.kind) (.int .i64 x.num) (.string ⟨x.text.toArray⟩) (.slice u1 x.list.length u2) (.slice u3 x.keys.length u4))
        rw [← hwf]
        have hx : wf.heap[w.heap.size + 1]? = some (.cells #[.int .i64 x.kind, .int .i64 x.num, .string ⟨x.text.toArray⟩, .slice u1 x.list.length u2, .slice u3 x.keys.length u4] 25 (0, 0)) := by rw [hwf]; exact set5_here hr4
        have hvf : VIs wf w.heap.size wf.heap.size x [.int .i64 x.kind, .int .i64 x.num, .string ⟨x.text.toArray⟩, .slice u1 x.list.length u2, .slice u3 x.keys.length u4] := by
          have hsf : wf.heap.size = w4.heap.size := by rw [hwf, set5_size]
          rw [hsf]
          refine (hv4.keep2 fun q h1 h2 => ?_).more (by omega) (Nat.le_refl _)
          have hne : q.block ≠ w.heap.size + 1 := by omega
          exact World.cell?_of_block (w := w4) (by rw [hwf]; exact set5_there hne)
        have hbf : Below w.heap.size w wf := by
          rw [hwf]; exact (hb3'.trans (hb4.mono (by omega))).trans (set5_below (by omega))
        obtain ⟨⟨x0, x1, x2, x3, x4⟩, -⟩ := box_of hx
        have htf : Thaw wf w.heap.size [.int .i64 x.kind, .int .i64 x.num, .string ⟨x.text.toArray⟩, .slice u1 x.list.length u2, .slice u3 x.keys.length u4] x.list.length := by
          rcases ht4 with h | ⟨g, c', C, e, hg1, hg2, hg3⟩
          · exact .inl h
          · refine .inr ⟨g, c', C, e, by omega, ?_, hg3⟩
            rw [hwf]; exact (set5_there (by omega)).trans hg2
        have HVF := Lib.hid hvf; have HBF := Lib.hid hbf; have HTF := Lib.hid htf
        clear hvf hbf htf ht4 hwf hx e0 e1 e2 e3 e4 f0 f1 f2 f3 f4 hv4
        refine bodyPost_ret (v := .tuple #[.agg #[.int .i64 x.kind, .int .i64 x.num, .string ⟨x.text.toArray⟩, .slice u1 x.list.length u2, .slice u3 x.keys.length u4], .bool true]) (by simp [results, Tryd.results40, go_sem, x0, x1, x2, x3, x4]) rfl ?_
        exact ⟨⟨[_, _, _, _, _], rfl, HVF.out, HTF.out⟩, HBF.out⟩
      · have t2 : decide ((nl : Int) ≤ (ix : Int)) = true := by simp; omega
        have hFn : F = none := HF.out.trans (by rw [if_pos ⟨rfl, hi⟩]; exact List.getElem?_eq_none (by have := NL.out; omega))
        subst hFn
        go_enter Tryd.func40, Tryd.ntmps40
        go_wp2_with (go_at_call 58; refine (HIX.out _ HB0.out).mono ?_; rintro e1 w1 ⟨rfl, rfl⟩)
        refine bodyPost_ret (v := .tuple #[.agg #[.int .i64 0, .int .i64 0, .string ⟨#[]⟩, .slice none 0 0, .slice none 0 0], .bool false]) (by simp [results, Tryd.results40, go_sem]) rfl ?_
        exact ⟨⟨[_, _, _, _, _], rfl, zero_is _ _ _, .inl rfl⟩, HB0.out⟩
    · have hie : (if ix < nk then (ix : Int) else -1) = -1 := if_neg hi
      rw [hie] at HIX
      have hFn : F = none := HF.out.trans (if_neg (fun h => hi h.2))
      subst hFn
      go_enter Tryd.func40, Tryd.ntmps40
      go_wp2_with (go_at_call 58; refine (HIX.out _ HB0.out).mono ?_; rintro e1 w1 ⟨rfl, rfl⟩)
      refine bodyPost_ret (v := .tuple #[.agg #[.int .i64 0, .int .i64 0, .string ⟨#[]⟩, .slice none 0 0, .slice none 0 0], .bool false]) (by simp [results, Tryd.results40, go_sem]) rfl ?_
      exact ⟨⟨[_, _, _, _, _], rfl, zero_is _ _ _, .inl rfl⟩, HB0.out⟩
  · have hk6' : (k == 6) = false := by simpa using hk6
    have hk7 : (k != 6) = true := by simpa using hk6
    have hFn : F = none := HF.out.trans (if_neg (fun h => hk6 h.1))
    subst hFn
    clear hk6
    obtain ⟨iv, hiv⟩ : ∃ iv : Int, (if ix < nk then (ix : Int) else -1) = iv := ⟨_, rfl⟩
    rw [hiv] at HIX
    go_enter Tryd.func40, Tryd.ntmps40
    go_wp2_with (go_at_call 58; refine (HIX.out _ HB0.out).mono ?_; rintro e1 w1 ⟨rfl, rfl⟩)
    refine bodyPost_ret (v := .tuple #[.agg #[.int .i64 0, .int .i64 0, .string ⟨#[]⟩, .slice none 0 0, .slice none 0 0], .bool false]) (by simp [results, Tryd.results40, go_sem]) rfl ?_
    exact ⟨⟨[_, _, _, _, _], rfl, zero_is _ _ _, .inl rfl⟩, HB0.out⟩
end Go.Proofs.YtobicmpgfiddhaaDoor
namespace Go.Proofs.YtobicmpgfiddhaaDoor
open Go.RowKit
set_option linter.unusedVariables false
set_option linter.unusedSimpArgs false

theorem put_any (B p : Nat) (w : World) (lv kv : Value) (l : List V) (ks : List (List UInt8)) (xs : List Value) (key : List UInt8) (x : V) (cs : List Value) (hR : ROut B p w lv kv l ks xs) (hB : B ≤ w.heap.size) (hlk : l.length = ks.length) (hl : ks.length ≤ 100000) (hx : ApV B w p lv kv x cs) :
    Calls Tryd.prog 41 #[.pointer (some ⟨p, 0, none⟩), .string ⟨key.toArray⟩, .agg cs.toArray] w (PutSays B p w l ks key x) := by
  obtain ⟨A, c, hkv, hk⟩ := hR.keysIs
  obtain ⟨XA, xc, XA', xc', rfl⟩ := hx.form
  refine put_at B p w lv kv l ks xs key x _ _ _ _ _ hR hB hlk hl hx fun wq hq => ?_
  rw [hkv]
  exact index_any ks A c 0 w.heap.size key wq (by omega) (by
    rcases hk with h | ⟨b, o, e, h⟩
    · exact .inl h
    · exact .inr ⟨b, o, e, h.below hq⟩)
/-- what the rules work on: claims in their variable C, the object in its own p, a pointer to it in P -/
structure DeedAt (B p C P N : Nat) (w : World) (c : V) (cs : List Value) (lv kv : Value) (l : List V) (ks : List (List UInt8)) (xs : List Value) : Prop where
  obj : ROut B p w lv kv l ks xs
  box : w.heap[C]? = some (.cells cs.toArray 25 (0, 0))
  ptr : w.heap[P]? = some (.cells #[.pointer (some ⟨p, 0, none⟩)] 57 (0, 0))
  cv : VIs w 0 N c cs
  low : N ≤ B ∧ B ≤ w.heap.size ∧ C < B ∧ P < B ∧ p < B ∧ C ≠ p ∧ P ≠ p ∧ N ≤ p
  num : l.length = ks.length
theorem DeedAt.keep {B p C P N : Nat} {w w' : World} {c : V} {cs : List Value} {lv kv : Value} {l : List V} {ks : List (List UInt8)} {xs : List Value} (h : DeedAt B p C P N w c cs lv kv l ks xs) (hb : Below w.heap.size w w') : DeedAt B p C P N w' c cs lv kv l ks xs := by
  obtain ⟨h1, h2, h3, h4, h5, h6⟩ := h
  have := hb.size
  exact ⟨h1.keep hb, blk_below h2 hb, blk_below h3 hb, h4.below (hb.mono (by omega)), by omega, h6⟩
theorem DeedAt.put {B p C P N : Nat} {w w' : World} {c : V} {cs : List Value} {lv kv lv' kv' : Value} {l l' : List V} {ks ks' : List (List UInt8)} {xs xs' : List Value} (h : DeedAt B p C P N w c cs lv kv l ks xs) (hb : ButO B p w w') (ho : ROut B p w' lv' kv' l' ks' xs') (hn : l'.length = ks'.length) : DeedAt B p C P N w' c cs lv' kv' l' ks' xs' := by
  obtain ⟨h1, h2, h3, h4, h5, h6⟩ := h
  have := hb.size
  exact ⟨ho, (hb.block C (by omega) (by omega)).trans h2, (hb.block P (by omega) (by omega)).trans h3, h4.below (hb.low (by omega) (by omega)), by omega, hn⟩
/-- what a rule leaves -/
def DeedSays (B p : Nat) (w : World) (c : V) (l : List V) (ks : List (List UInt8)) (r : RU) (e : Ending) (w' : World) : Prop :=
  ButO B p w w' ∧ ((stepR c (.mk 6 0 [] l ks) r = none ∧ e = .returned (.bool false)) ∨
    ∃ lv' kv' l' ks' xs', stepR c (.mk 6 0 [] l ks) r = some (.mk 6 0 [] l' ks') ∧ l'.length = ks'.length ∧ ks'.length ≤ ks.length + 1 ∧ ROut B p w' lv' kv' l' ks' xs' ∧ e = .returned (.bool true))
theorem step_set {c out : V} {a0 a1 : List UInt8} : stepR c out ⟨opSet, [a0, a1]⟩ = match fieldV a1 c with | some x => some (putV out a0 x) | none => some out := by
  unfold stepR; dsimp only; rw [if_pos rfl]; rfl
theorem step_text {c out : V} {a0 a1 : List UInt8} : stepR c out ⟨opText, [a0, a1]⟩ = some (putV out a0 (wordV a1)) := by
  unfold stepR; dsimp only; rw [if_neg (by decide), if_pos rfl]; rfl
theorem step_join {c out : V} {a0 a1 a2 : List UInt8} : stepR c out ⟨opJoin, [a0, a1, a2]⟩ = if ((fieldV a1 c).getD V.zero).kind = 4 ∧ ((fieldV a2 c).getD V.zero).kind = 4 then some (putV out a0 (wordV (((fieldV a1 c).getD V.zero).text ++ [46] ++ ((fieldV a2 c).getD V.zero).text))) else none := by
  unfold stepR; dsimp only; rw [if_neg (by decide), if_neg (by decide), if_pos rfl]; rfl
theorem step_need {c out : V} {a0 a1 : List UInt8} : stepR c out ⟨opNeed, [a0, a1]⟩ = if needB ((fieldV a0 c).getD V.zero) a1 = true then some out else none := by
  unfold stepR; dsimp only; rw [if_neg (by decide), if_neg (by decide), if_neg (by decide), if_pos rfl]; rfl
theorem step_only {c out : V} {a0 a1 a2 : List UInt8} : stepR c out ⟨opOnly, [a0, a1, a2]⟩ = some (putV out a0 (listV (onlyL ((fieldV a1 c).getD V.zero) a2))) := by
  unfold stepR; dsimp only; rw [if_neg (by decide), if_neg (by decide), if_neg (by decide), if_neg (by decide), if_pos rfl]; rfl
theorem deed_put {B p : Nat} {w w1 w2 : World} {c x : V} {l : List V} {ks : List (List UInt8)} {r : RU} {key : List UInt8} (hB : B ≤ w.heap.size) (hb1 : Below w.heap.size w w1) (hb2 : ButO B p w1 w2) (hs : stepR c (.mk 6 0 [] l ks) r = some (putV (.mk 6 0 [] l ks) key x))
    (hp : ∃ lv' kv' l' ks' xs', putV (.mk 6 0 [] l ks) key x = .mk 6 0 [] l' ks' ∧ l'.length = ks'.length ∧ ks'.length ≤ ks.length + 1 ∧ ROut B p w2 lv' kv' l' ks' xs') : DeedSays B p w c l ks r (.returned (.bool true)) w2 := by
  obtain ⟨lv', kv', l', ks', xs', e, h1, h2, h3⟩ := hp
  exact ⟨(ButO.of (hb1.mono hB)).trans hb2, .inr ⟨lv', kv', l', ks', xs', by rw [hs, e], h1, h2, h3, rfl⟩⟩
theorem deed_same {B p : Nat} {w w1 : World} {c : V} {lv kv : Value} {l : List V} {ks : List (List UInt8)} {xs : List Value} {r : RU} (hB : B ≤ w.heap.size) (hb1 : Below w.heap.size w w1) (hs : stepR c (.mk 6 0 [] l ks) r = some (.mk 6 0 [] l ks)) (hn : l.length = ks.length) (ho : ROut B p w lv kv l ks xs) : DeedSays B p w c l ks r (.returned (.bool true)) w1 :=
  ⟨ButO.of (hb1.mono hB), .inr ⟨lv, kv, l, ks, xs, hs, hn, Nat.le_succ _, ho.keep hb1, rfl⟩⟩
theorem deed_no {B p : Nat} {w w1 : World} {c : V} {l : List V} {ks : List (List UInt8)} {r : RU} (hB : B ≤ w.heap.size) (hb1 : ButO B p w w1) (hs : stepR c (.mk 6 0 [] l ks) r = none) : DeedSays B p w c l ks r (.returned (.bool false)) w1 :=
  ⟨hb1, .inl ⟨hs, rfl⟩⟩
set_option maxRecDepth 100000 in
set_option maxHeartbeats 8000000 in
theorem deedText_any {B p C P N : Nat} {w : World} {c : V} {cs : List Value} {lv kv : Value} {l : List V} {ks : List (List UInt8)} {xs : List Value} (h : DeedAt B p C P N w c cs lv kv l ks xs) (hk : ks.length ≤ 90000) (a0 a1 : List UInt8) (h1 : a1.length ≤ 1000000000) (A : Option Addr) (cp : Nat) (ha : RdT w (.slice A 2 cp) [a0, a1]) :
    Calls Tryd.prog 42 #[.slice A 2 cp, .pointer (some ⟨P, 0, none⟩)] w (DeedSays B p w c l ks ⟨opText, [a0, a1]⟩) := by
  obtain ⟨g, o, rfl, hg, c0⟩ := ha.at 0 (by simp)
  obtain ⟨g', o', e, _, c1⟩ := ha.at 1 (by simp)
  injection e with e; injection e with e1 e2 _; subst e1; subst e2
  replace c0 : w.cell? ⟨g, o, none⟩ = some (.string ⟨a0.toArray⟩) := c0
  replace c1 : w.cell? ⟨g, o + 1, none⟩ = some (.string ⟨a1.toArray⟩) := c1
  have htv := fun W => textValue_any ⟨a1.toArray⟩ W
  have hpt := fun W (hW : Below w.heap.size w W) => put_any B p W lv kv l ks xs a0 (wordV a1) _ (h.obj.keep hW) (by have := hW.size; have := h.low; omega) h.num (by omega) (⟨0, 0, .inl rfl, Nat.zero_le _, fun g _ h => absurd h (Nat.not_lt_zero _), word_is W 0 0 a1 (by omega) _ rfl⟩)
  have hst : ∀ W, Below w.heap.size w W → W.cell? ⟨P, 0, none⟩ = some (.pointer (some ⟨p, 0, none⟩)) ∧ W.cell? ⟨g, o, none⟩ = some (.string ⟨a0.toArray⟩) ∧ W.cell? ⟨g, o + 1, none⟩ = some (.string ⟨a1.toArray⟩) := fun W hW =>
    ⟨by rw [cell_here (blk_below h.ptr hW)]; rfl, (hW.cell (p := ⟨g, o, none⟩) hg).trans c0, (hW.cell (p := ⟨g, o + 1, none⟩) hg).trans c1⟩
  obtain ⟨X0, hX0⟩ : ∃ z : ByteArray, (⟨a0.toArray⟩ : ByteArray) = z := ⟨_, rfl⟩
  obtain ⟨X1, hX1⟩ : ∃ z : ByteArray, (⟨a1.toArray⟩ : ByteArray) = z := ⟨_, rfl⟩
  rw [hX0, hX1] at hst
  rw [hX1] at htv hpt
  rw [hX0] at hpt
  obtain ⟨e0, e1, e2⟩ := hst w (Below.refl _ _)
  have HTV := Lib.hid htv; have HPT := Lib.hid hpt; have HST := Lib.hid hst; have HB := Lib.hid h.low
  have HE := Lib.hid (@step_text c (.mk 6 0 [] l ks) a0 a1)
  clear htv hpt hst hX0 hX1 h ha c0 c1
  go_enter Tryd.func42, Tryd.ntmps42
  go_upto_region 1 with fail
  go_region_law (first
    | (go_simp; go_at_call 43; (with_reducible refine (HTV.out _).mono ?_); rintro e1 w1 ⟨rfl, hb1⟩; have hb1' := (below_drew2 _ _ hb1); obtain ⟨m0, m1, m2⟩ := HST.out w1 hb1'; dsimp only)
    | (go_simp; go_at_call 41; (with_reducible refine (HPT.out _ hb1').mono ?_); rintro e2 w2 ⟨⟨v2, rfl⟩, hp2, hb2⟩; dsimp only))
  all_goals
    have HF := Lib.hid (deed_put HB.out.2.1 hb1' hb2 HE.out hp2)
    clear m0 m1 m2 hb1 hb1' hb2 hp2 e0 e1 e2
    go_wp2
    go_ret
    exact HF.out
/-- Field, of claims that lie as they lay -/
theorem field_at (c : V) (key : List UInt8) (w : World) (N : Nat) (cs : List Value) (hs : c.slim 1000000) (hd : c.depth ≤ 65537) (hv : VIs w 0 N c cs) (hN : N ≤ w.heap.size) : ∃ xk xn xt xl xm, xk = ((fieldV key c).getD V.zero).kind ∧ xt = (⟨((fieldV key c).getD V.zero).text.toArray⟩ : ByteArray) ∧
    ∀ W, Below w.heap.size w W → Calls Tryd.prog 40 #[.agg cs.toArray, .string ⟨key.toArray⟩] W fun e w' => (∃ A a A' a', e = .returned (.tuple #[.agg #[.int .i64 xk, .int .i64 xn, .string xt, .slice A xl a, .slice A' xm a'], .bool (fieldV key c).isSome]) ∧
      VIs w' W.heap.size w'.heap.size ((fieldV key c).getD V.zero) [.int .i64 xk, .int .i64 xn, .string xt, .slice A xl a, .slice A' xm a']) ∧ Below W.heap.size W w' := by
  refine ⟨_, ((fieldV key c).getD V.zero).num, _, ((fieldV key c).getD V.zero).list.length, ((fieldV key c).getD V.zero).keys.length, rfl, rfl, fun W hW => (field_any c key W 0 N cs hs hd (hv.below (hW.mono hN)) (by have := hW.size; omega)).mono ?_⟩
  rintro e w' ⟨⟨ds, rfl, h1, _⟩, h2⟩
  obtain ⟨A, a, A', a', rfl⟩ := h1.form
  exact ⟨⟨A, a, A', a', rfl, h1⟩, h2⟩
/-- a claim that was read, in a variable of its own -/
def GotV (w wx : World) (b : Nat) (x : V) (xk xn : Int) (xt : ByteArray) (A : Option Addr) (xl a : Nat) (A' : Option Addr) (xm a' : Nat) : Prop :=
  Below w.heap.size w wx ∧ wx.heap[b]? = some (.cells #[.int .i64 xk, .int .i64 xn, .string xt, .slice A xl a, .slice A' xm a'] 25 (0, 0)) ∧ ∃ L N, w.heap.size ≤ L ∧ N ≤ wx.heap.size ∧ VIs wx L N x [.int .i64 xk, .int .i64 xn, .string xt, .slice A xl a, .slice A' xm a']
theorem gotV_call {w w1 : World} {x : V} {xk xn : Int} {xt : ByteArray} {A : Option Addr} {xl a : Nat} {A' : Option Addr} {xm a' : Nat} (hb : Below w.drew.heap.size w.drew w1) (hv : VIs w1 w.drew.heap.size w1.heap.size x [.int .i64 xk, .int .i64 xn, .string xt, .slice A xl a, .slice A' xm a']) :
    GotV w (w1.alloc (.cells #[.int .i64 xk, .int .i64 xn, .string xt, .slice A xl a, .slice A' xm a'] 25)) w1.heap.size x xk xn xt A xl a A' xm a' := by
  have h1 : Below w.heap.size w w1 := below_drew2 _ _ hb
  have h2 : Below w1.heap.size w1 (w1.alloc (.cells #[.int .i64 xk, .int .i64 xn, .string xt, .slice A xl a, .slice A' xm a'] 25)) := (Below.refl _ _).alloc (Nat.le_refl _) _
  exact ⟨h1.chain h2, heap_alloc_last _ _, _, _, Nat.le_refl _, h2.size, hv.below h2⟩
theorem gotV_alloc {w w1 : World} {x : V} {xk xn : Int} {xt : ByteArray} {A : Option Addr} {xl a : Nat} {A' : Option Addr} {xm a' : Nat} (hb : Below (w.alloc (.cells #[.int .i64 0, .int .i64 0, .string ⟨#[]⟩, .slice none 0 0, .slice none 0 0] 25)).drew.heap.size (w.alloc (.cells #[.int .i64 0, .int .i64 0, .string ⟨#[]⟩, .slice none 0 0, .slice none 0 0] 25)).drew w1)
    (hv : VIs w1 (w.alloc (.cells #[.int .i64 0, .int .i64 0, .string ⟨#[]⟩, .slice none 0 0, .slice none 0 0] 25)).drew.heap.size w1.heap.size x [.int .i64 xk, .int .i64 xn, .string xt, .slice A xl a, .slice A' xm a'])
    (hq : w1.heap[w.heap.size]? = some (.cells #[.int .i64 0, .int .i64 0, .string ⟨#[]⟩, .slice none 0 0, .slice none 0 0] 25 (0, 0))) :
    GotV w (set5 w1 w.heap.size 0 (.int .i64 xk) (.int .i64 xn) (.string xt) (.slice A xl a) (.slice A' xm a')) w.heap.size x xk xn xt A xl a A' xm a' := by
  have hz : (w.alloc (.cells #[.int .i64 0, .int .i64 0, .string ⟨#[]⟩, .slice none 0 0, .slice none 0 0] 25)).drew.heap.size = w.heap.size + 1 := World.size_alloc _ _
  have h0 : Below w.heap.size w (w.alloc (.cells #[.int .i64 0, .int .i64 0, .string ⟨#[]⟩, .slice none 0 0, .slice none 0 0] 25)).drew := ((Below.refl _ _).alloc (Nat.le_refl _) _).drew
  have h1 : Below w.heap.size w w1 := h0.chain hb
  have := hb.size
  refine ⟨h1.trans (set5_below (Nat.le_refl _)), by simpa using set5_here (o := 0) hq, _, _, by rw [hz]; exact Nat.le_succ _, by rw [set5_size]; exact Nat.le_refl _, hv.keep2 fun q q1 q2 => World.cell?_of_block (w := w1) (set5_there (by rw [hz] at q1; omega))⟩
set_option maxRecDepth 100000 in
set_option maxHeartbeats 8000000 in
theorem deedSet_any {B p C P N : Nat} {w : World} {c : V} {cs : List Value} {lv kv : Value} {l : List V} {ks : List (List UInt8)} {xs : List Value} (h : DeedAt B p C P N w c cs lv kv l ks xs) (hs : c.slim 1000000) (hd : c.depth ≤ 65537) (hk : ks.length ≤ 90000) (a0 a1 : List UInt8) (A : Option Addr) (cp : Nat) (ha : RdT w (.slice A 2 cp) [a0, a1]) :
    Calls Tryd.prog 39 #[.slice A 2 cp, .pointer (some ⟨C, 0, none⟩), .pointer (some ⟨P, 0, none⟩)] w (DeedSays B p w c l ks ⟨opSet, [a0, a1]⟩) := by
  obtain ⟨g, o, rfl, hg, c0⟩ := ha.at 0 (by simp)
  obtain ⟨g', o', e, _, c1⟩ := ha.at 1 (by simp)
  injection e with e; injection e with e1 e2 _; subst e1; subst e2
  replace c0 : w.cell? ⟨g, o, none⟩ = some (.string ⟨a0.toArray⟩) := c0
  replace c1 : w.cell? ⟨g, o + 1, none⟩ = some (.string ⟨a1.toArray⟩) := c1
  obtain ⟨xk, xn, xt, xl, xm, hxk, hxt, hfd⟩ := field_at c a1 w N cs hs hd h.cv (by have := h.low; omega)
  obtain ⟨CA, cc, CA', cc', hcs⟩ := h.cv.form
  obtain ⟨ck, hck⟩ : ∃ z, c.kind = z := ⟨_, rfl⟩
  obtain ⟨cn, hcn⟩ : ∃ z, c.num = z := ⟨_, rfl⟩
  obtain ⟨ct, hct⟩ : ∃ z : ByteArray, (⟨c.text.toArray⟩ : ByteArray) = z := ⟨_, rfl⟩
  obtain ⟨cl, hcl⟩ : ∃ z, c.list.length = z := ⟨_, rfl⟩
  obtain ⟨cm, hcm⟩ : ∃ z, c.keys.length = z := ⟨_, rfl⟩
  rw [hck, hcn, hct, hcl, hcm] at hcs
  clear hck hcn hct hcl hcm
  subst hcs
  have hpt := fun W (hW : Below w.heap.size w W) x (xs : List Value) (hx : ApV B W p lv kv x xs) => put_any B p W lv kv l ks _ a0 x xs (h.obj.keep hW) (by have := hW.size; have := h.low; omega) h.num (by omega) hx
  have hst : ∀ W, Below w.heap.size w W → (W.cell? ⟨C, 0, none⟩ = some (.int .i64 ck) ∧ W.cell? ⟨C, 1, none⟩ = some (.int .i64 cn) ∧ W.cell? ⟨C, 2, none⟩ = some (.string ct) ∧ W.cell? ⟨C, 3, none⟩ = some (.slice CA cl cc) ∧ W.cell? ⟨C, 4, none⟩ = some (.slice CA' cm cc')) ∧ W.cell? ⟨P, 0, none⟩ = some (.pointer (some ⟨p, 0, none⟩)) ∧ W.cell? ⟨g, o, none⟩ = some (.string ⟨a0.toArray⟩) ∧ W.cell? ⟨g, o + 1, none⟩ = some (.string ⟨a1.toArray⟩) := fun W hW =>
    ⟨(box_of (blk_below h.box hW)).1, by rw [cell_here (blk_below h.ptr hW)]; rfl, (hW.cell (p := ⟨g, o, none⟩) hg).trans c0, (hW.cell (p := ⟨g, o + 1, none⟩) hg).trans c1⟩
  obtain ⟨F, hF⟩ : ∃ F, fieldV a1 c = F := ⟨_, rfl⟩
  have hstep := @step_set c (.mk 6 0 [] l ks) a0 a1
  rw [hF] at hstep hfd hxk hxt
  obtain ⟨X0, hX0⟩ : ∃ z : ByteArray, (⟨a0.toArray⟩ : ByteArray) = z := ⟨_, rfl⟩
  obtain ⟨X1, hX1⟩ : ∃ z : ByteArray, (⟨a1.toArray⟩ : ByteArray) = z := ⟨_, rfl⟩
  rw [hX0, hX1] at hst
  rw [hX1] at hfd
  rw [hX0] at hpt
  obtain ⟨Z, hZ⟩ : ∃ Z, Z = Obj.cells #[.int .i64 0, .int .i64 0, .string ⟨#[]⟩, .slice none 0 0, .slice none 0 0] 25 := ⟨_, rfl⟩
  obtain ⟨⟨e0, e1, e2, e3, e4⟩, e5, e6, e7⟩ := hst w (Below.refl _ _)
  obtain ⟨⟨i0, i1, i2, i3, i4⟩, i5, i6, i7⟩ := hst (w.alloc (.cells #[.int .i64 0, .int .i64 0, .string ⟨#[]⟩, .slice none 0 0, .slice none 0 0] 25)) ((Below.refl _ _).alloc (Nat.le_refl _) _)
  have HPT := Lib.hid hpt; have HST := Lib.hid hst; have HB := Lib.hid h.low; have HFD := Lib.hid hfd; have HE := Lib.hid hstep; have HO := Lib.hid h.obj; have HN := Lib.hid h.num
  clear hpt hst hX0 hX1 h ha c0 c1 hfd hF hstep hZ hxk hxt
  go_enter Tryd.func39, Tryd.ntmps39
  go_upto_region 1 with fail
  go_cut [5, 6] from 7 (fun s5 s6 wx => ∃ b A a A' a', s5 = .pointer (some ⟨b, 0, none⟩) ∧ s6 = .bool F.isSome ∧ Hid (GotV w wx b (F.getD V.zero) xk xn xt A xl a A' xm a'))
  case first =>
    go_region_law (first
      | (go_simp; go_at_call 40; (with_reducible refine (HFD.out _ ((Below.refl w.heap.size w).alloc (Nat.le_refl _) (.cells #[.int .i64 0, .int .i64 0, .string ⟨#[]⟩, .slice none 0 0, .slice none 0 0] 25)).drew).mono ?_); rintro e1 w1 ⟨⟨A5, a5, A6, a6, rfl, hv1⟩, hb1⟩; have hq1 := (hb1.block w.heap.size (by simp)).trans (heap_alloc_last w (.cells #[.int .i64 0, .int .i64 0, .string ⟨#[]⟩, .slice none 0 0, .slice none 0 0] 25)); obtain ⟨⟨n0, n1, n2, n3, n4⟩, f0, f1, f2, f3, f4⟩ := box_of hq1; dsimp only)
      | (go_simp; go_at_call 40; (with_reducible refine (HFD.out _ (Below.refl w.heap.size w).drew).mono ?_); rintro e1 w1 ⟨⟨A5, a5, A6, a6, rfl, hv1⟩, hb1⟩; dsimp only))
    all_goals first
      | (have HG := Lib.hid (gotV_alloc hb1 hv1 hq1)
         clear hb1 hv1 hq1 n0 n1 n2 n3 n4 f0 f1 f2 f3 f4
         go_wp2
         go_meet
         case rel => exact ⟨_, _, _, _, _, rfl, rfl, HG⟩)
      | (have HG := Lib.hid (gotV_call hb1 hv1)
         clear hb1 hv1
         go_wp2
         go_meet
         case rel => exact ⟨_, _, _, _, _, rfl, rfl, HG⟩)
  case rest =>
    obtain ⟨b, A5, a5, A6, a6, rfl, rfl, HG⟩ := hcut
    have hbw := HG.out.1
    have HBW := Lib.hid hbw
    cases F with
    | none =>
      have HF := Lib.hid (deed_same (c := c) (r := ⟨opSet, [a0, a1]⟩) HB.out.2.1 hbw HE.out HN.out HO.out)
      clear HG hbw
      go_wp2
      go_ret
      exact HF.out
    | some x =>
      obtain ⟨_, hbx, L, N', hL, hN', hvx⟩ := HG.out
      have hpt := HPT.out wc.drew hbw.drew x _ (HO.out.fresh (w' := wc.drew) HB.out.2.1 hL hN' (hvx.below (Below.refl _ _).drew))
      obtain ⟨-, m5, m6, -⟩ := HST.out wc hbw
      obtain ⟨⟨b0, b1, b2, b3, b4⟩, -⟩ := box_of hbx
      have HPP := Lib.hid hpt
      clear hpt hbw HG hvx hbx e0 e1 e2 e3 e4 e5 e6 e7 i0 i1 i2 i3 i4 i5 i6 i7 hL hN'
      go_upto_region 3 with fail
      go_region_law (first
        | (go_simp; go_at_call 41; (with_reducible refine HPP.out.mono ?_); rintro e2 w2 ⟨⟨v2, rfl⟩, hp2, hb2⟩; dsimp only))
      all_goals
        have HF := Lib.hid (deed_put HB.out.2.1 HBW.out.drew hb2 HE.out hp2)
        clear hb2 hp2 m5 m6 b0 b1 b2 b3 b4
        go_wp2
        go_ret
        exact HF.out
end Go.Proofs.YtobicmpgfiddhaaDoor
