/- Texts merged by program, in build order: JsonClone, JsonUnlike, JsonFit, JsonWithin, JsonFits. -/
import Derived.Test.YtcbajbpdgmmaeaaDoorC04
import Derived.Test.YtcbajbpdgmmaeaaDoorC03
import Derived.Deep.RegionWith
import Derived.Deep.CutRange
import Derived.Test.YtcbajbpdgmmaeaaDoorC02
import Derived.Maps.OwnSet
import Derived.Deep.RegionHeld3
namespace Go.Proofs.YtcbajbpdgmmaeaaDoor
open Go.RowKit

mutual
/-- no list in a value, nor of keys, is longer than m -/
def V.slim (m : Nat) : V → Prop
  | .mk _ _ _ l ks => l.length ≤ m ∧ ks.length ≤ m ∧ V.slims m l
def V.slims (m : Nat) : List V → Prop
  | [] => True
  | v :: r => v.slim m ∧ V.slims m r
end
theorem slims_get {m : Nat} : ∀ {l : List V}, V.slims m l → ∀ i (h : i < l.length), l[i].slim m
  | [], _, i, h => absurd h (Nat.not_lt_zero _)
  | v :: r, hs, 0, _ => by unfold V.slims at hs; exact hs.1
  | v :: r, hs, i + 1, h => by unfold V.slims at hs; exact slims_get hs.2 i (by simpa using h)
theorem slim_mk {m : Nat} {k n : Int} {t : List UInt8} {l : List V} {ks : List (List UInt8)} (h : (V.mk k n t l ks).slim m) : l.length ≤ m ∧ ks.length ≤ m ∧ ∀ i (h : i < l.length), l[i].slim m := by
  unfold V.slim at h
  exact ⟨h.1, h.2.1, slims_get h.2.2⟩
def strsOf (ks : List (List UInt8)) : List ByteArray := ks.map fun t => ⟨t.toArray⟩
theorem strsOf_len (ks : List (List UInt8)) : (strsOf ks).length = ks.length := by simp [strsOf]
theorem strsOf_getD (ks : List (List UInt8)) (j : Nat) (h : j < ks.length) : (strsOf ks).getD j ByteArray.empty = ⟨ks[j].toArray⟩ := by
  unfold strsOf List.getD
  rw [List.getElem?_map, List.getElem?_eq_getElem h]; rfl
theorem cloneK_any (ks : List (List UInt8)) (A : Option Addr) (c L N : Nat) (w : World) (hl : ks.length ≤ 1000000) (h : ks = [] ∨ ∃ b o, A = some ⟨b, o, none⟩ ∧ KIs w L N ks b o) :
    Calls Tryd.prog 45 #[.slice A ks.length c] w fun e w' => (∃ A' c', e = .returned (.slice A' ks.length c') ∧ (ks = [] ∨ ∃ b, A' = some ⟨b, 0, none⟩ ∧ KIs w' w.heap.size w'.heap.size ks b 0)) ∧ Below w.heap.size w w' := by
  rcases h with rfl | ⟨b, o, rfl, h⟩
  · cases A with
    | none => exact (Tryd.slices_Clone_string_nil 0 c w).mono fun e w' ⟨he, hw⟩ => by subst hw; exact ⟨⟨none, 0, he, .inl rfl⟩, Below.refl _ _⟩
    | some a =>
      refine (Tryd.slices_Clone_string_zero a c w).mono fun e w' ⟨v', he, hr, hn, hb⟩ => ?_
      rcases hr.2 with ⟨hv, _⟩ | ⟨g, cap, cur, hv, _⟩
      · exact absurd hv hn
      · exact ⟨⟨_, _, by rw [he, hv]; rfl, .inl rfl⟩, hb⟩
  · refine (Tryd.slices_Clone_string b o ks.length c (strsOf ks) w (by rw [strsOf_len]; exact Nat.le_refl _) (by omega) (fun j hj => ?_)).mono fun e w' ⟨v', he, hr, hn, hb⟩ => ?_
    · rw [strsOf_len] at hj
      rw [strsOf_getD ks j hj]
      exact (h.get j hj).2.2
    · rcases hr.2 with ⟨hv, _⟩ | ⟨g, cap, cur, hv, hB, hg, _⟩
      · exact absurd hv hn
      · refine ⟨⟨_, _, by rw [he, hv], .inr ⟨g, rfl, ?_⟩⟩, hb⟩
        refine KIs.of hB (Array.getElem?_eq_some_iff.1 hg).1 fun i hi => ?_
        rw [Nat.zero_add]
        subst hv
        have hcell := hr.cells (g := g) rfl i (.string ⟨ks[i].toArray⟩)
        rw [Addr.add_lit, Nat.zero_add] at hcell
        refine hcell ?_
        have hlen : (strsOf ks).length = ks.length := strsOf_len ks
        rw [List.getElem?_map, List.take_of_length_le (by omega)]
        unfold strsOf
        rw [List.getElem?_map, List.getElem?_eq_getElem hi]; rfl
/-- what holds when j items of a value's list are cloned: R: the result's block, the clone's variable behind it -/
structure CSt (R s3 : Nat) (k n : Int) (t : List UInt8) (l : List V) (ks : List (List UInt8)) (A5 A3 : Option Addr) (c5 c3 : Nat) (w wr : World) (j : Nat) : Prop where
  var : wr.heap[R + 1]? = some (.cells #[.int .i64 k, .int .i64 n, .string ⟨t.toArray⟩, .slice A5 l.length c5, .slice A3 ks.length c3] 28 (0, 0))
  res : wr.heap[R]? = some (.cells #[.int .i64 0, .int .i64 0, .string ⟨#[]⟩, .slice none 0 0, .slice none 0 0] 28 (0, 0))
  key : ks = [] ∨ ∃ b, A3 = some ⟨b, 0, none⟩ ∧ KIs wr (R + 2) s3 ks b 0
  row : l = [] ∨ ∃ g, A5 = some ⟨g, 0, none⟩ ∧ VRow wr s3 g l.length ∧ ∀ i (h : i < l.length), i < j → ∃ ds, Five wr g (i * 5) ds ∧ VIs wr (g + 1) wr.heap.size l[i] ds
  low : Below R w wr
  size : s3 ≤ wr.heap.size
  two : R + 2 ≤ s3
/-- one item more -/
theorem CSt.next {R s3 : Nat} {k n : Int} {t : List UInt8} {l : List V} {ks : List (List UInt8)} {A5 A3 : Option Addr} {c5 c3 : Nat} {w wr w1 : World} {j g : Nat} {d0 d1 d2 d3 d4 : Value} (h : CSt R s3 k n t l ks A5 A3 c5 c3 w wr j)
    (hj : j < l.length) (hA : A5 = some ⟨g, 0, none⟩) (hb : Below wr.heap.size wr w1) (hv : VIs w1 wr.heap.size w1.heap.size l[j] [d0, d1, d2, d3, d4]) :
    CSt R s3 k n t l ks A5 A3 c5 c3 w (set5 w1 g (j * 5) d0 d1 d2 d3 d4) (j + 1) := by
  obtain ⟨hvar, hres, hkey, hrow, hlow, hsize, htwo⟩ := h
  rcases hrow with rfl | ⟨g', e, ⟨hg1, hg2, C, hg3, hg4⟩, hrow⟩
  · simp at hj
  obtain rfl : g = g' := by rw [hA] at e; injection e with e; injection e
  have hs := hb.size
  have hC1 : w1.heap[g]? = some (.cells C 28 (0, 0)) := (hb.block g hg2).trans hg3
  have hall : ∀ b', b' ≠ g → b' < wr.heap.size → (set5 w1 g (j * 5) d0 d1 d2 d3 d4).heap[b']? = wr.heap[b']? := fun b' h1 h2 => (set5_there h1).trans (hb.block b' h2)
  refine ⟨(hall _ (by omega) (by omega)).trans hvar, (hall _ (by omega) (by omega)).trans hres, ?_, .inr ⟨g, e, ⟨hg1, by rw [set5_size]; omega, _, set5_here hC1, by simpa using hg4⟩, ?_⟩, ?_, by rw [set5_size]; omega, htwo⟩
  · rcases hkey with h | ⟨b, e, h⟩
    · exact .inl h
    · exact .inr ⟨b, e, h.keep fun p hp => World.cell?_of_block (w := wr) (hall p.block (by omega) (by omega))⟩
  · intro i hi hij
    have hother : ∀ p : Addr, g + 1 ≤ p.block → (set5 w1 g (j * 5) d0 d1 d2 d3 d4).cell? p = w1.cell? p := fun p hp => by
      have hne : p.block ≠ g := by omega
      exact World.cell?_of_block (w := w1) (set5_there hne)
    rcases Nat.lt_succ_iff_lt_or_eq.1 hij with h' | h'
    · obtain ⟨ds, d5, dv⟩ := hrow i hi h'
      refine ⟨ds, five_other hC1 (d5.keep (N := wr.heap.size) hg2 fun p hp => hb.cell hp) (by omega), ?_⟩
      rw [set5_size]
      exact ((dv.below hb).keep2 fun p h1 h2 => hother p h1).more (Nat.le_refl _) hs
    · subst h'
      refine ⟨_, set5_five hC1 (by omega), ?_⟩
      rw [set5_size]
      exact (hv.more (show g + 1 ≤ wr.heap.size by omega) (Nat.le_refl _)).keep2 fun p h1 h2 => hother p h1
  · exact (hlow.trans (hb.mono (by omega))).trans (set5_below (by omega))
theorem two_keep {W W' : World} {b p o : Nat} {x y : Value} (hb1 : b < W.heap.size) (hp : p < W.heap.size) (hb : Below W.heap.size W W') (h : W.cell? ⟨b, 3, none⟩ = some x ∧ W.cell? ⟨p, o + 3, none⟩ = some y) : W'.cell? ⟨b, 3, none⟩ = some x ∧ W'.cell? ⟨p, o + 3, none⟩ = some y :=
  ⟨(hb.cell (p := ⟨b, _, none⟩) hb1).trans h.1, (hb.cell (p := ⟨p, _, none⟩) hp).trans h.2⟩
theorem two_set {W : World} {b p o g k0 k1 k2 k3 k4 : Nat} {x y c0 c1 c2 c3 c4 : Value} (hb : b ≠ g) (hp : p ≠ g) (h : W.cell? ⟨b, 3, none⟩ = some x ∧ W.cell? ⟨p, o + 3, none⟩ = some y) :
    (((((W.setCell ⟨g, k0, none⟩ c0).setCell ⟨g, k1, none⟩ c1).setCell ⟨g, k2, none⟩ c2).setCell ⟨g, k3, none⟩ c3).setCell ⟨g, k4, none⟩ c4).cell? ⟨b, 3, none⟩ = some x ∧ (((((W.setCell ⟨g, k0, none⟩ c0).setCell ⟨g, k1, none⟩ c1).setCell ⟨g, k2, none⟩ c2).setCell ⟨g, k3, none⟩ c3).setCell ⟨g, k4, none⟩ c4).cell? ⟨p, o + 3, none⟩ = some y := by
  rw [cell5 hb, cell5 hp]; exact h
/-- the list of these five cells lies in a new block that may be written -/
def Thaw (w : World) (B : Nat) (ds : List Value) (n : Nat) : Prop := n = 0 ∨ ∃ g c C, ds[3]? = some (.slice (some ⟨g, 0, none⟩) n c) ∧ B ≤ g ∧ w.heap[g]? = some (.cells C 28 (0, 0)) ∧ n * 5 ≤ C.size
set_option maxRecDepth 100000 in
set_option maxHeartbeats 2000000 in
theorem clone_at (m : Nat) : ∀ (v : V) (w : World) (L N p o : Nat) (cs : List Value), v.size ≤ m → v.slim 1000000 → Five w p o cs → p < N → VIs w L N v cs → N ≤ w.heap.size →
    Calls Tryd.prog 35 #[.pointer (some ⟨p, o, none⟩)] w fun e w' => (∃ ds, e = .returned (.agg ds.toArray) ∧ VIs w' w.heap.size w'.heap.size v ds ∧ Thaw w' w.heap.size ds v.list.length) ∧ Below w.heap.size w w' := by
  induction m with
  | zero => intro v w L N p o cs hm; exact absurd (size_pos v) (by omega)
  | succ m ih =>
  intro v w L N p o cs hm hsm h5 hpN hv hN
  obtain ⟨k, n, t, l, ks⟩ := v
  obtain ⟨hroom, A, c, A', c', rfl, h1, h2⟩ := hv.out
  obtain ⟨c0, c1, c2, c3, c4, e, m0, m1, m2, m3, m4⟩ := h5
  injection e with e0 e; injection e with e1 e; injection e with e2 e; injection e with e3 e; injection e with e4 e
  subst e0; subst e1; subst e2; subst e3; subst e4
  have hpw : p < w.heap.size := by omega
  obtain ⟨sl, sk, si⟩ := slim_mk hsm
  -- the two variables
  obtain ⟨R, hR⟩ : ∃ R, w.heap.size = R := ⟨_, rfl⟩
  obtain ⟨W2, hW2⟩ : ∃ W2, W2 = ((w.alloc (.cells #[.int .i64 0, .int .i64 0, .string ⟨#[]⟩, .slice none 0 0, .slice none 0 0] 28)).alloc (.cells #[.int .i64 k, .int .i64 n, .string ⟨t.toArray⟩, .slice A l.length c, .slice A' ks.length c'] 28)) := ⟨_, rfl⟩
  have b2 : Below R w W2 := by
    rw [hW2, ← hR]; exact ((Below.refl _ _).alloc (Nat.le_refl _) _).alloc (by simp) _
  have z2 : W2.heap.size = R + 2 := by rw [hW2, ← hR]; simp
  have r2 : W2.heap[R]? = some (.cells #[.int .i64 0, .int .i64 0, .string ⟨#[]⟩, .slice none 0 0, .slice none 0 0] 28 (0, 0)) := by
    rw [hW2, ← hR, Below.heap_alloc _ _ _ (by simp)]; exact heap_alloc_last w _
  have v2 : W2.heap[R + 1]? = some (.cells #[.int .i64 k, .int .i64 n, .string ⟨t.toArray⟩, .slice A l.length c, .slice A' ks.length c'] 28 (0, 0)) := by
    rw [hW2, ← hR]
    have := heap_alloc_last (w.alloc (.cells #[.int .i64 0, .int .i64 0, .string ⟨#[]⟩, .slice none 0 0, .slice none 0 0] 28)) (.cells #[.int .i64 k, .int .i64 n, .string ⟨t.toArray⟩, .slice A l.length c, .slice A' ks.length c'] 28)
    simpa using this
  have hck := cloneK_any ks A' c' L N W2 sk (by
    rcases h1 with h | ⟨b, o, e, h⟩
    · exact .inl h
    · exact .inr ⟨b, o, e, h.below (b2.mono (by omega))⟩)
  rw [hW2] at hck
  have HCK := Lib.hid hck; have B2 := Lib.hid b2; have Z2 := Lib.hid z2; have R2 := Lib.hid r2; have V2 := Lib.hid v2; have H1 := Lib.hid h1; have H2 := Lib.hid h2
  have HRR := Lib.hid hR; have HM := Lib.hid hm; have HS := Lib.hid si; have HV := Lib.hid hv; have HR := Lib.hid hroom
  clear hck b2 z2 r2 v2 h1 h2 hm hsm si hv hroom hR
  go_enter Tryd.func35, Tryd.ntmps35
  go_wp2_with fail
  refine HCK.out.mono ?_
  rintro e3 w3 ⟨⟨A3, c3, rfl, hk3⟩, b3⟩
  dsimp only
  rw [← hW2] at b3 hk3
  have z2 := Z2.out
  have hR := HRR.out
  rw [z2] at b3 hk3
  have z3 := b3.size; rw [z2] at z3
  have r3 := (b3.block R (by omega)).trans R2.out
  have v3 := (b3.block (R + 1) (by omega)).trans V2.out
  have q3 : w3.cell? ⟨R + 1, 4, none⟩ = some (.slice A' ks.length c') := cell_here v3
  have f3 : w3.frozen? ⟨R + 1, 4, none⟩ = false := frozen_here v3 4
  have p3 : w3.cell? ⟨p, o + 3, none⟩ = some (.slice A l.length c) := ((B2.out.trans (b3.mono (by omega))).cell (p := ⟨p, o + 3, none⟩) (by show p < _; omega)).trans m3
  have hne : p < R + 1 := by omega
  rw [hR]
  go_upto_region 3 with fail
  obtain ⟨w4, hw4⟩ : ∃ w4, w4 = w3.setCell ⟨R + 1, 4, none⟩ (.slice A3 ks.length c3) := ⟨_, rfl⟩
  rw [← hw4]
  have v4 : w4.heap[R + 1]? = some (.cells #[.int .i64 k, .int .i64 n, .string ⟨t.toArray⟩, .slice A l.length c, .slice A3 ks.length c3] 28 (0, 0)) := by rw [hw4]; exact set_here v3 _
  have r4 : w4.heap[R]? = some (.cells #[.int .i64 0, .int .i64 0, .string ⟨#[]⟩, .slice none 0 0, .slice none 0 0] 28 (0, 0)) := by rw [hw4, set_there _ (by omega)]; exact r3
  have z4 : w4.heap.size = w3.heap.size := by rw [hw4, set_size]
  have b4 : Below R w w4 := by rw [hw4]; exact (B2.out.trans (b3.mono (by omega))).setCell (p := ⟨R + 1, 4, none⟩) (by show R ≤ R + 1; omega) _
  have k4 : ks = [] ∨ ∃ b, A3 = some ⟨b, 0, none⟩ ∧ KIs w4 (R + 2) w3.heap.size ks b 0 := by
    rcases hk3 with h | ⟨b, e, h⟩
    · exact .inl h
    · exact .inr ⟨b, e, h.keep2 fun q h1 h2 => World.cell?_of_block (w := w3) (by rw [hw4]; exact set_there _ (by omega))⟩
  have p4 : w4.cell? ⟨p, o + 3, none⟩ = some (.slice A l.length c) := (b4.cell (p := ⟨p, o + 3, none⟩) (by show p < _; omega)).trans m3
  have hcv := cloneV_any l A c L N w4 sl (by omega) (by
    rcases H2.out with h | ⟨b, o, e, h⟩
    · exact .inl h
    · exact .inr ⟨b, o, e, h.below (b4.mono (by omega))⟩)
  have HCV := Lib.hid hcv; have V4 := Lib.hid v4; have R4 := Lib.hid r4; have K4 := Lib.hid k4; have B4 := Lib.hid b4
  clear hcv v4 r4 k4 b4 hk3 v3 r3 q3 f3 p3 hw4
  go_wp2_with (go_at_call 46; refine (HCV.out).mono ?_; rintro e5 w5 ⟨⟨A5, c5, rfl, hk5⟩, b5⟩; have v5 := (b5.block (R + 1) (by omega)).trans V4.out; have q5 : w5.cell? ⟨R + 1, 3, none⟩ = some (.slice A l.length c) := cell_here v5; have f5 : w5.frozen? ⟨R + 1, 3, none⟩ = false := frozen_here v5 3; have p5 := (b5.cell (p := ⟨p, o + 3, none⟩) (by show p < _; omega)).trans p4)
  have z5 := b5.size
  have cst : CSt R w3.heap.size k n t l ks A5 A3 c5 c3 w (w5.setCell ⟨R + 1, 3, none⟩ (.slice A5 l.length c5)) 0 := by
    refine ⟨set_here v5 _, (set_there _ (by omega)).trans ((b5.block R (by omega)).trans R4.out), ?_, ?_, (B4.out.trans (b5.mono (by omega))).setCell (p := ⟨R + 1, 3, none⟩) (by show R ≤ R + 1; omega) _, by rw [set_size]; omega, z3⟩
    · rcases K4.out with h | ⟨b, e, h⟩
      · exact .inl h
      · exact .inr ⟨b, e, (h.below (b5.mono (by omega))).keep2 fun q h1 h2 => World.cell?_of_block (w := w5) (set_there _ (by omega))⟩
    · rcases hk5 with h | ⟨g, e, ⟨h1, h2, C, h3, h4⟩⟩
      · exact .inl h
      · exact .inr ⟨g, e, ⟨by omega, by rw [set_size]; exact h2, C, by rw [set_there _ (by omega)]; exact h3, h4⟩, fun i hi hij => absurd hij (Nat.not_lt_zero _)⟩
  have CS := Lib.hid cst
  obtain ⟨nl, hnl⟩ : ∃ nl, l.length = nl := ⟨_, rfl⟩
  have NL := Lib.hid hnl
  have ml := HR.out.1
  rw [hnl] at ml ⊢
  rw [hnl] at m3
  clear cst hk5 v5 q5 f5 p5 z5 b5 hnl z4 z3 b3
  go_loopw [25] (fun i wr => ∃ j : Nat, j ≤ nl ∧ i = .int .i64 j ∧ CSt R w3.heap.size k n t l ks A5 A3 c5 c3 w wr j) (fun i _ => nl - (intOf i).toNat)
  case atStart => exact ⟨0, Nat.zero_le _, rfl, by rw [← NL.out]; exact CS.out⟩
  case round =>
    obtain ⟨j, hj, rfl, cst⟩ := hrel
    have C1 := Lib.hid cst
    have hlow := cst.low
    have hz := cst.size
    have h2 := cst.two
    have q3 : wr.cell? ⟨R + 1, 3, none⟩ = some (.slice A5 l.length c5) := cell_here cst.var
    have p3 := (hlow.cell (p := ⟨p, o + 3, none⟩) (by show p < _; omega)).trans m3
    rw [NL.out] at q3
    clear cst
    by_cases hlt : j < nl
    · have hjl : j < l.length := by have := NL.out; omega
      obtain ⟨q, r, rfl, _, hqN, xs, hx5, hxv⟩ := VIs.item H2.out j hjl
      obtain ⟨g, rfl, hrow⟩ : ∃ g, A5 = some ⟨g, 0, none⟩ ∧ VRow wr w3.heap.size g l.length := by
        rcases C1.out.row with h | ⟨g, e, h, _⟩
        · subst h; simp at hjl
        · exact ⟨g, e, h⟩
      obtain ⟨hg1, hg2, C, hg3, hg4⟩ := hrow
      have hR := HRR.out
      have hcl := fun wq (hwq : Below w.heap.size w wq) => ih l[j] wq L N q (r + j * 5) xs (by have := HM.out; have := size_get (k := k) (n := n) (t := t) (ks := ks) j hjl; omega) (HS.out j hjl) (hx5.keep hqN fun z hz => (hwq.mono hN).cell hz) hqN (hxv.below (hwq.mono hN)) (Nat.le_trans hN hwq.size)
      rw [hR] at hcl
      have T := Lib.hid (fun w1 (d0 d1 d2 d3 d4 : Value) hb hv => C1.out.next (w1 := w1) (d0 := d0) (d1 := d1) (d2 := d2) (d3 := d3) (d4 := d4) hjl rfl hb hv)
      have HC := Lib.hid hcl; have HL := Lib.hid hlow
      have hform := fun (w1 : World) (La Na : Nat) ds (h : VIs w1 La Na l[j] ds) => h.form
      generalize l[j] = x at *
      have FORM := Lib.hid hform
      have hS := And.intro q3 p3
      have hq1 : R + 1 < wr.heap.size := by omega
      have hq2 : p < wr.heap.size := by omega
      have hne1 : R + 1 ≠ g := by omega
      have hne2 : p ≠ g := by omega
      have hj0 : (0 : Int) ≤ j := by omega
      have hj1 : (j : Int) < nl := by omega
      rw [NL.out] at hg4
      have HG3 := Lib.hid hg3
      clear hcl hx5 hxv hform HR m0 m1 m2 m4 hR
      go_wp2_with fail
      go_region_with (go_at_call 35; with_reducible refine (HC.out _ HL.out.drew).mono ?_; rintro e1 w1 ⟨⟨ds, rfl, hv1, -⟩, hb1⟩; obtain ⟨u1, u2, u3, u4, rfl⟩ := FORM.out w1 _ _ ds hv1; have hC1 := ((below_drew2 _ _ hb1).block g hg2).trans HG3.out; obtain ⟨y0, y1, y2, y3, y4, n0, n1, n2, n3, n4⟩ := five_of hC1 (o := j * 5) (by omega); have f0 := frozen_here hC1 (j * 5); have f1 := frozen_here hC1 (j * 5 + 1); have f2 := frozen_here hC1 (j * 5 + 2); have f3 := frozen_here hC1 (j * 5 + 3); have f4 := frozen_here hC1 (j * 5 + 4); have n3 := ((below_drew2 _ _ hb1).cell (p := ⟨R + 1, 3, none⟩) hq1).trans q3)
      all_goals
        have hv2 : VIs w1 wr.heap.size w1.heap.size x [.int .i64 x.kind, .int .i64 x.num, .string ⟨x.text.toArray⟩, .slice u1 x.list.length u2, .slice u3 x.keys.length u4] := by
          have e : wr.drew.heap.size = wr.heap.size := rfl
          rw [e] at hv1; exact hv1
        have hnx := T.out w1 _ _ _ _ _ (below_drew2 _ _ hb1) hv2
        have NX := Lib.hid hnx
        clear hnx hv1 hv2 n0 n1 n2 n3 n4 f0 f1 f2 f3 f4 hC1 T hb1
        go_wp2
        go_roundw
        case rel => exact ⟨j + 1, by omega, by go_num, NX.out⟩
        case measure => simp [intOf]; omega
    · obtain rfl : nl = j := by omega
      obtain ⟨⟨g0, g1, g2, g3, g4⟩, -⟩ := box_of C1.out.var
      obtain ⟨⟨e0, e1, e2, e3, e4⟩, f0, f1, f2, f3, f4⟩ := box_of C1.out.res
      rw [NL.out] at g3
      have hRR : R < R + 1 := by omega
      go_wp2
      obtain ⟨wf, hwf⟩ : ∃ wf, wf = set5 wr R 0 (.int .i64 k) (.int .i64 n) (.string ⟨t.toArray⟩) (.slice A5 nl c5) (.slice A3 ks.length c3) := ⟨_, rfl⟩
      change bodyPost _ _ _ _ _ (set5 wr R 0 (.int .i64 k) (.int .i64 n) (.string ⟨t.toArray⟩) (.slice A5 nl c5) (.slice A3 ks.length c3))
      rw [← hwf]
      have hx : wf.heap[R]? = some (.cells #[.int .i64 k, .int .i64 n, .string ⟨t.toArray⟩, .slice A5 nl c5, .slice A3 ks.length c3] 28 (0, 0)) := by rw [hwf]; exact set5_here C1.out.res
      have hvf : VIs wf w.heap.size wf.heap.size (.mk k n t l ks) [.int .i64 k, .int .i64 n, .string ⟨t.toArray⟩, .slice A5 nl c5, .slice A3 ks.length c3] := by
        have hsf : wf.heap.size = wr.heap.size := by rw [hwf, set5_size]
        have hoth : ∀ q : Addr, R + 1 ≤ q.block → wf.cell? q = wr.cell? q := fun q hq => by
          have hne : q.block ≠ R := by omega
          exact World.cell?_of_block (w := wr) (by rw [hwf]; exact set5_there hne)
        rw [← NL.out]
        refine VIs.mk HR.out ?_ ?_
        · rcases C1.out.key with h | ⟨b, e, h⟩
          · exact .inl h
          · exact .inr ⟨b, 0, e, (h.keep2 fun q h1 h2 => hoth q (by omega)).more (by have := HRR.out; omega) (by omega)⟩
        · rcases C1.out.row with h | ⟨g, e, ⟨hg1, hg2, _⟩, hrow⟩
          · exact .inl h
          · refine .inr ⟨g, 0, e, LIs.of (by have := HRR.out; omega) (by omega) fun i hi => ?_⟩
            obtain ⟨ds, d5, dv⟩ := hrow i hi (by have := NL.out; omega)
            obtain ⟨y0, y1, y2, y3, y4, ey, n0, n1, n2, n3, n4⟩ := d5
            refine ⟨ds, ⟨y0, y1, y2, y3, y4, ey, ?_, ?_, ?_, ?_, ?_⟩, ?_⟩
            · rw [Nat.zero_add]; exact (hoth _ (by show R + 1 ≤ g; omega)).trans n0
            · rw [Nat.zero_add]; exact (hoth _ (by show R + 1 ≤ g; omega)).trans n1
            · rw [Nat.zero_add]; exact (hoth _ (by show R + 1 ≤ g; omega)).trans n2
            · rw [Nat.zero_add]; exact (hoth _ (by show R + 1 ≤ g; omega)).trans n3
            · rw [Nat.zero_add]; exact (hoth _ (by show R + 1 ≤ g; omega)).trans n4
            · rw [hsf]
              exact (dv.keep2 fun q h1 h2 => hoth q (by omega)).more (by have := HRR.out; omega) (Nat.le_refl _)
      have hbf : Below w.heap.size w wf := by
        have hR := HRR.out
        rw [hwf, hR]; exact C1.out.low.trans (set5_below (Nat.le_refl _))
      obtain ⟨⟨x0, x1, x2, x3, x4⟩, -⟩ := box_of hx
      have htf : Thaw wf w.heap.size [.int .i64 k, .int .i64 n, .string ⟨t.toArray⟩, .slice A5 nl c5, .slice A3 ks.length c3] nl := by
        rcases C1.out.row with h | ⟨g, e, ⟨hg1, hg2, C, hg3, hg4⟩, _⟩
        · exact .inl (by rw [← NL.out, h]; rfl)
        · have h2 := C1.out.two
          have hR := HRR.out
          refine .inr ⟨g, c5, C, by rw [e]; rfl, by omega, ?_, by rw [← NL.out]; exact hg4⟩
          rw [hwf]; exact (set5_there (by omega)).trans hg3
      have HVF := Lib.hid hvf; have HBF := Lib.hid hbf; have HTF := Lib.hid htf
      clear hvf hbf htf hwf hx g0 g1 g2 g3 g4 e0 e1 e2 e3 e4 f0 f1 f2 f3 f4
      refine bodyPost_ret (v := .agg #[.int .i64 k, .int .i64 n, .string ⟨t.toArray⟩, .slice A5 nl c5, .slice A3 ks.length c3]) (by simp [results, Tryd.results35, go_sem, x0, x1, x2, x3, x4]) rfl ?_
      have NLo := NL.out
      exact ⟨⟨_, rfl, HVF.out, by show Thaw _ _ _ l.length; rw [NLo]; exact HTF.out⟩, HBF.out⟩
end Go.Proofs.YtcbajbpdgmmaeaaDoor
namespace Go.Proofs.YtcbajbpdgmmaeaaDoor
open Go.RowKit Go.Maps

theorem Tryd.zeroUnit (w : World) : (zeroValue 53).run Tryd.prog w = .ok (.agg #[]) w := by kernel_rfl
theorem run_makeMapN {P : Program} (t k e : TypeId) (kd : IntKind) (n : Int) (ht : P.underlying t = some (.map k e)) (w : World) :
    (Instr.makeMap t (some (.int kd n))).run P w = .ok (.map (some w.heap.size)) (w.alloc (.map #[] 0)) := by
  simp [Instr.makeMap, run_underlying ht]; rfl
theorem Tryd.lawKey : Keyed Tryd.prog 9 := string_keyed Tryd.underlying9
def litsOf (ks : List (List UInt8)) : List Lit := ks.map Lit.string
theorem lits_key (ks : List (List UInt8)) : ∀ x ∈ litsOf ks, WideAt.IsKeyLit x := by
  intro x hx; obtain ⟨_, _, rfl⟩ := List.mem_map.1 hx; trivial
def keysAt (ks : List (List UInt8)) (k : Nat) : DataW Unit := setOf (.agg []) (litsOf (ks.take k))
theorem keysAt_next (ks : List (List UInt8)) (k : Nat) (h : k < ks.length) : keysAt ks (k + 1) = (keysAt ks k).put (.string ks[k]) (.agg []) := by
  unfold keysAt litsOf
  rw [List.take_succ_eq_append_getElem h, List.map_append, List.map_singleton, setOf_snoc]
theorem lit_same (a b : List UInt8) : (Lit.string a).sameKey (.string b) = decide (a = b) := by
  show (a == b) = _
  rw [Bool.eq_iff_iff]; simp
theorem keysAt_has (ks : List (List UInt8)) (k : Nat) (x : List UInt8) : Maps.has (keysAt ks k) (.string x) = decide (x ∈ ks.take k) := by
  unfold keysAt
  rw [has_setOf _ _ _ (lits_key _)]
  unfold litsOf
  rw [List.any_map, Bool.eq_iff_iff, List.any_eq_true, decide_eq_true_eq]
  constructor
  · rintro ⟨y, hy, he⟩
    have : y = x := by simpa [lit_same] using he
    rwa [← this]
  · intro h
    exact ⟨x, h, by simp [lit_same]⟩
/-- how many different keys there are -/
theorem keysAt_size (ks : List (List UInt8)) : ∀ k, k ≤ ks.length → Maps.size (keysAt ks k) ≤ k ∧ (Maps.size (keysAt ks k) = k ↔ (ks.take k).Nodup)
  | 0, _ => by
    have : Maps.size (keysAt ks 0) = 0 := rfl
    rw [this]; simp
  | k + 1, h => by
    have hk : k < ks.length := by omega
    obtain ⟨h1, h2⟩ := keysAt_size ks k (by omega)
    rw [keysAt_next ks k hk, size_put (show Tidy (keysAt ks k) from tidy_setOf _ _ (lits_key _)), keysAt_has, List.take_succ_eq_append_getElem hk, List.nodup_append]
    by_cases hm : ks[k] ∈ ks.take k
    · rw [if_pos (by simpa using hm)]
      refine ⟨by omega, ⟨fun h => by omega, fun h => ?_⟩⟩
      exact absurd rfl (h.2.2 _ hm _ (by simp))
    · rw [if_neg (by simpa using hm)]
      refine ⟨by omega, ⟨fun h => ⟨h2.1 (by omega), by simp, fun a ha b hb e => ?_⟩, fun h => by rw [h2.2 h.1]⟩⟩
      have : b = ks[k] := by simpa using hb
      subst this; subst e
      exact hm ha
theorem keysAt_all (ks : List (List UInt8)) : ((Maps.size (keysAt ks ks.length) : Int) == (ks.length : Int)) = unlikeB ks := by
  obtain ⟨h1, h2⟩ := keysAt_size ks ks.length (Nat.le_refl _)
  rw [List.take_length, ← unlike_nodup] at h2
  rw [Bool.eq_iff_iff, ← h2]
  simp; omega
set_option maxRecDepth 100000 in
set_option maxHeartbeats 1000000 in
theorem unlike_any (A : Option Addr) (c L N : Nat) (ks : List (List UInt8)) (hl : ks.length ≤ 9223372036854775807) (hz : ∀ x ∈ ks, x.length ≤ 9223372036854775807) (w : World) (hN : N ≤ w.heap.size) (hk : ks = [] ∨ ∃ b o, A = some ⟨b, o, none⟩ ∧ KIs w L N ks b o) :
    Calls Tryd.prog 57 #[.slice A ks.length c] w fun e w' => e = .returned (.bool (unlikeB ks)) ∧ Below w.heap.size w w' := by
  have hmm := fun n => @run_makeMapN Tryd.prog 52 9 53 .i64 n Tryd.underlying52
  have hall := keysAt_all ks
  obtain ⟨n, hn⟩ : ∃ n, ks.length = n := ⟨_, rfl⟩
  obtain ⟨R, hR⟩ : ∃ R, unlikeB ks = R := ⟨_, rfl⟩
  rw [hR] at hall ⊢
  rw [hn] at hl hall ⊢
  have HN := Lib.hid hn; have HZ := Lib.hid hz; have HA := Lib.hid hall; have HK := Lib.hid hk; clear hn hz hall hR hk
  go_enter Tryd.func57, Tryd.ntmps57
  go_wp2
  go_loopw [11] (fun i wr => ∃ k : Nat, k ≤ n ∧ i = .int .i64 k ∧ wr.ownsMap Tryd.prog 9 (unitElem (H := Unit)) w.heap.size k (keysAt ks k) ∧ Below w.heap.size w wr) (fun i _ => n - (intOf i).toNat)
  case atStart => exact ⟨0, Nat.zero_le _, rfl, World.ownsMap_made _ _ _ _, (Below.refl _ _).alloc (Nat.le_refl _) _⟩
  case round =>
    obtain ⟨k, hk, rfl, hown, hbw⟩ := hrel
    have hbs := hbw.size
    by_cases hlt : k < n
    · have hkl : k < ks.length := by have := HN.out; omega
      obtain ⟨b, o, rfl, _, hbN, h1⟩ := VIs.key HK.out k hkl
      have h1 := (hbw.cell (p := ⟨b, o + k, none⟩) (by show b < _; omega)).trans h1
      have hsz := HZ.out ks[k] (List.getElem_mem hkl)
      have g3 := keysAt_next ks k hkl
      have G3 := Lib.hid g3; clear g3 HK
      generalize ks[k] = x at *
      have hkey : keyOf Tryd.prog 9 (.string ⟨x.toArray⟩) = some (.string x) := WideMaps.keyOf_string_mk Tryd.underlying9 hsz
      go_wp2_with (at_mapUpdate; refine wpList_mapUpdate_own _ rfl _ _ _ 52 rfl 9 53 Tryd.lawKey Tryd.underlying52 (unitElem (H := Unit)) w.heap.size k _ rfl hown (by unfold maxLen; omega) _ _ _ rfl rfl hkey _ [] unitElem_mk ?_; intro w1 hown1 hgrow1)
      go_roundw
      case rel => exact ⟨k + 1, by omega, by go_num, by rw [G3.out]; exact hown1, hbw.grown hgrow1 (by omega) (fun j hj => by cases hj; exact Nat.le_refl _)⟩
      case measure => simp [intOf]; omega
    · obtain rfl : n = k := by omega
      go_wp2_with (at_len; go_loud (refine wpList_len_own _ rfl _ 52 rfl 9 53 Tryd.underlying52 _ w.heap.size n _ rfl hown ?_))
      go_ret
      exact ⟨ret_bool HA.out, hbw⟩
end Go.Proofs.YtcbajbpdgmmaeaaDoor
namespace Go.Proofs.YtcbajbpdgmmaeaaDoor
open Go.RowKit
set_option linter.unusedVariables false
set_option linter.unusedSimpArgs false

/-- what a value must be by itself, as the code reckons it -/
def headC (k n : Int) (t : List UInt8) (ll : Nat) (ks : List (List UInt8)) : Bool :=
  decide (1 ≤ k ∧ k ≤ 6) && decide ((if k = 3 then -9007199254740992 else 0) ≤ n) && decide (n ≤ (if k = 2 then 1 else if k = 3 then 9007199254740992 else 0)) && (t.isEmpty || decide (k = 4)) &&
  decide (ll ≤ (if k = 5 ∨ k = 6 then 64 else 0)) && decide (ks.length = (if k = 6 then ll else 0)) && unlikeB ks
theorem headC_eq (k n : Int) (t : List UInt8) (ll : Nat) (ks : List (List UInt8)) : headB k n t ll ks = headC k n t ll ks := by
  by_cases hk : 1 ≤ k ∧ k ≤ 6
  · have hk' : k = 1 ∨ k = 2 ∨ k = 3 ∨ k = 4 ∨ k = 5 ∨ k = 6 := by omega
    unfold headB headC
    rw [Bool.eq_iff_iff]
    generalize unlikeB ks = U
    simp only [Bool.and_eq_true, Bool.or_eq_true, decide_eq_true_eq, List.isEmpty_iff]
    cases ks with
    | nil =>
      cases t with
      | nil => rcases hk' with rfl | rfl | rfl | rfl | rfl | rfl <;> simp <;> omega
      | cons x r => rcases hk' with rfl | rfl | rfl | rfl | rfl | rfl <;> simp <;> omega
    | cons y s =>
      cases t with
      | nil => rcases hk' with rfl | rfl | rfl | rfl | rfl | rfl <;> simp <;> omega
      | cons x r => rcases hk' with rfl | rfl | rfl | rfl | rfl | rfl <;> simp <;> omega
  · unfold headB headC
    rw [decide_eq_false hk]; rfl
theorem head_t1 (n : Int) (t : List UInt8) (ll : Nat) (ks : List (List UInt8)) {k : Int} (h : ¬ (1 ≤ k ∧ k ≤ 6)) : headC k n t ll ks = false := by unfold headC; rw [decide_eq_false h]; rfl
set_option maxRecDepth 100000 in
set_option maxHeartbeats 4000000 in
theorem fieldsFit_any (v : V) (w : World) (L N b o : Nat) (cs : List Value) (h5 : Five w b o cs) (hbN : b < N) (hv : VIs w L N v cs) (hN : N ≤ w.heap.size) :
    Calls Tryd.prog 44 #[.pointer (some ⟨b, o, none⟩)] w fun e w' => e = .returned (.bool (headB v.kind v.num v.text v.list.length v.keys)) ∧ Below w.heap.size w w' := by
  obtain ⟨k, n, t, l, ks⟩ := v
  rw [headC_eq]
  show Calls Tryd.prog 44 #[.pointer (some ⟨b, o, none⟩)] w fun e w' => e = .returned (.bool (headC k n t l.length ks)) ∧ Below w.heap.size w w'
  obtain ⟨⟨ml, mk, mt, mx⟩, A, c, A', c', rfl, h1, h2⟩ := hv.out
  obtain ⟨c0, c1, c2, c3, c4, e, m0, m1, m2, m3, m4⟩ := h5
  injection e with e0 e; injection e with e1 e; injection e with e2 e; injection e with e3 e; injection e with e4 e
  subst e0; subst e1; subst e2; subst e3; subst e4
  have hun := fun wq (hb : Below w.heap.size w wq) => unlike_any A' c' L N ks mk mx wq (Nat.le_trans hN hb.size) (by
    rcases h1 with h | ⟨p, q, e, h⟩
    · exact .inl h
    · exact .inr ⟨p, q, e, h.below (hb.mono hN)⟩)
  generalize l.length = ll at *
  obtain ⟨U, hU⟩ : ∃ U, unlikeB ks = U := ⟨_, rfl⟩
  have hH : headC k n t ll ks = (decide (1 ≤ k ∧ k ≤ 6) && decide ((if k = 3 then -9007199254740992 else 0) ≤ n) && decide (n ≤ (if k = 2 then 1 else if k = 3 then 9007199254740992 else 0)) && (t.isEmpty || decide (k = 4)) && decide (ll ≤ (if k = 5 ∨ k = 6 then 64 else 0)) && decide (ks.length = (if k = 6 then ll else 0)) && U) := by rw [← hU]; rfl
  generalize headC k n t ll ks = H at *
  rw [hU] at hun
  generalize ks.length = lk at *
  have HUN := Lib.hid (fun wq hb => hun wq hb); have HH := Lib.hid hH
  clear hun hH h1 h2 hv hU mx
  have hbw := Below.refl w.heap.size w
  have HBW := Lib.hid hbw; clear hbw
  by_cases hk : 1 ≤ k ∧ k ≤ 6
  · have hk' : k = 1 ∨ k = 2 ∨ k = 3 ∨ k = 4 ∨ k = 5 ∨ k = 6 := by omega
    clear hk
    rcases hk' with rfl | rfl | rfl | rfl | rfl | rfl
    · -- kind 1
      by_cases q1 : (0 : Int) ≤ n
      · have d1 : decide ((0 : Int) ≤ n) = true := decide_eq_true q1
        by_cases q2 : n ≤ (0 : Int)
        · have d2 : decide (n ≤ (0 : Int)) = true := decide_eq_true q2
          obtain rfl : n = 0 := by omega
          clear d1 d2 q1 q2
          cases t with
          | nil =>
            cases ll with
            | succ ll =>
              have d4 : decide (((ll + 1 : Nat) : Int) ≤ 0) = false := decide_eq_false (by omega)
              go_enter Tryd.func44, Tryd.ntmps44
              go_wp2
              go_ret
              exact ⟨ret_bool (HH.out.trans (by clear HH; cases U <;> simp <;> omega)).symm, HBW.out⟩
            | zero =>
              cases lk with
              | succ lk =>
                have d5 : (((lk + 1 : Nat) : Int) == 0) = false := by simp; omega
                go_enter Tryd.func44, Tryd.ntmps44
                go_wp2
                go_ret
                exact ⟨ret_bool (HH.out.trans (by clear HH; cases U <;> simp <;> omega)).symm, HBW.out⟩
              | zero =>
                go_enter Tryd.func44, Tryd.ntmps44
                go_wp2_with (go_at_call 57; with_reducible refine (HUN.out _ (HBW.out)).mono ?_; rintro e1 w1 ⟨rfl, hb1⟩)
                go_ret
                exact ⟨ret_bool (HH.out.trans (by clear HH; cases U <;> simp <;> omega)).symm, hb1⟩
          | cons x r =>
            have d3 : ((x :: r) == ([] : List UInt8)) = false := rfl
            go_enter Tryd.func44, Tryd.ntmps44
            go_wp2
            go_ret
            exact ⟨ret_bool (HH.out.trans (by clear HH; cases U <;> simp <;> omega)).symm, HBW.out⟩
        · have d2 : decide (n ≤ (0 : Int)) = false := decide_eq_false q2
          go_enter Tryd.func44, Tryd.ntmps44
          go_wp2
          go_ret
          exact ⟨ret_bool (HH.out.trans (by clear HH; cases U <;> simp <;> omega)).symm, HBW.out⟩
      · have d1 : decide ((0 : Int) ≤ n) = false := decide_eq_false q1
        go_enter Tryd.func44, Tryd.ntmps44
        go_wp2
        go_ret
        exact ⟨ret_bool (HH.out.trans (by clear HH; cases U <;> simp <;> omega)).symm, HBW.out⟩
    · -- kind 2
      by_cases q1 : (0 : Int) ≤ n
      · have d1 : decide ((0 : Int) ≤ n) = true := decide_eq_true q1
        by_cases q2 : n ≤ (1 : Int)
        · have d2 : decide (n ≤ (1 : Int)) = true := decide_eq_true q2
          cases t with
          | nil =>
            cases ll with
            | succ ll =>
              have d4 : decide (((ll + 1 : Nat) : Int) ≤ 0) = false := decide_eq_false (by omega)
              go_enter Tryd.func44, Tryd.ntmps44
              go_wp2
              go_ret
              exact ⟨ret_bool (HH.out.trans (by clear HH; cases U <;> simp <;> omega)).symm, HBW.out⟩
            | zero =>
              cases lk with
              | succ lk =>
                have d5 : (((lk + 1 : Nat) : Int) == 0) = false := by simp; omega
                go_enter Tryd.func44, Tryd.ntmps44
                go_wp2
                go_ret
                exact ⟨ret_bool (HH.out.trans (by clear HH; cases U <;> simp <;> omega)).symm, HBW.out⟩
              | zero =>
                go_enter Tryd.func44, Tryd.ntmps44
                go_wp2_with (go_at_call 57; with_reducible refine (HUN.out _ (HBW.out)).mono ?_; rintro e1 w1 ⟨rfl, hb1⟩)
                go_ret
                exact ⟨ret_bool (HH.out.trans (by clear HH; cases U <;> simp <;> omega)).symm, hb1⟩
          | cons x r =>
            have d3 : ((x :: r) == ([] : List UInt8)) = false := rfl
            go_enter Tryd.func44, Tryd.ntmps44
            go_wp2
            go_ret
            exact ⟨ret_bool (HH.out.trans (by clear HH; cases U <;> simp <;> omega)).symm, HBW.out⟩
        · have d2 : decide (n ≤ (1 : Int)) = false := decide_eq_false q2
          go_enter Tryd.func44, Tryd.ntmps44
          go_wp2
          go_ret
          exact ⟨ret_bool (HH.out.trans (by clear HH; cases U <;> simp <;> omega)).symm, HBW.out⟩
      · have d1 : decide ((0 : Int) ≤ n) = false := decide_eq_false q1
        go_enter Tryd.func44, Tryd.ntmps44
        go_wp2
        go_ret
        exact ⟨ret_bool (HH.out.trans (by clear HH; cases U <;> simp <;> omega)).symm, HBW.out⟩
    · -- kind 3
      by_cases q1 : (-9007199254740992 : Int) ≤ n
      · have d1 : decide ((-9007199254740992 : Int) ≤ n) = true := decide_eq_true q1
        by_cases q2 : n ≤ (9007199254740992 : Int)
        · have d2 : decide (n ≤ (9007199254740992 : Int)) = true := decide_eq_true q2
          cases t with
          | nil =>
            cases ll with
            | succ ll =>
              have d4 : decide (((ll + 1 : Nat) : Int) ≤ 0) = false := decide_eq_false (by omega)
              go_enter Tryd.func44, Tryd.ntmps44
              go_wp2
              go_ret
              exact ⟨ret_bool (HH.out.trans (by clear HH; cases U <;> simp <;> omega)).symm, HBW.out⟩
            | zero =>
              cases lk with
              | succ lk =>
                have d5 : (((lk + 1 : Nat) : Int) == 0) = false := by simp; omega
                go_enter Tryd.func44, Tryd.ntmps44
                go_wp2
                go_ret
                exact ⟨ret_bool (HH.out.trans (by clear HH; cases U <;> simp <;> omega)).symm, HBW.out⟩
              | zero =>
                go_enter Tryd.func44, Tryd.ntmps44
                go_wp2_with (go_at_call 57; with_reducible refine (HUN.out _ (HBW.out)).mono ?_; rintro e1 w1 ⟨rfl, hb1⟩)
                go_ret
                exact ⟨ret_bool (HH.out.trans (by clear HH; cases U <;> simp <;> omega)).symm, hb1⟩
          | cons x r =>
            have d3 : ((x :: r) == ([] : List UInt8)) = false := rfl
            go_enter Tryd.func44, Tryd.ntmps44
            go_wp2
            go_ret
            exact ⟨ret_bool (HH.out.trans (by clear HH; cases U <;> simp <;> omega)).symm, HBW.out⟩
        · have d2 : decide (n ≤ (9007199254740992 : Int)) = false := decide_eq_false q2
          go_enter Tryd.func44, Tryd.ntmps44
          go_wp2
          go_ret
          exact ⟨ret_bool (HH.out.trans (by clear HH; cases U <;> simp <;> omega)).symm, HBW.out⟩
      · have d1 : decide ((-9007199254740992 : Int) ≤ n) = false := decide_eq_false q1
        go_enter Tryd.func44, Tryd.ntmps44
        go_wp2
        go_ret
        exact ⟨ret_bool (HH.out.trans (by clear HH; cases U <;> simp <;> omega)).symm, HBW.out⟩
    · -- kind 4
      by_cases q1 : (0 : Int) ≤ n
      · have d1 : decide ((0 : Int) ≤ n) = true := decide_eq_true q1
        by_cases q2 : n ≤ (0 : Int)
        · have d2 : decide (n ≤ (0 : Int)) = true := decide_eq_true q2
          obtain rfl : n = 0 := by omega
          clear d1 d2 q1 q2
          cases t with
          | nil =>
            cases ll with
            | succ ll =>
              have d4 : decide (((ll + 1 : Nat) : Int) ≤ 0) = false := decide_eq_false (by omega)
              go_enter Tryd.func44, Tryd.ntmps44
              go_wp2
              go_ret
              exact ⟨ret_bool (HH.out.trans (by clear HH; cases U <;> simp <;> omega)).symm, HBW.out⟩
            | zero =>
              cases lk with
              | succ lk =>
                have d5 : (((lk + 1 : Nat) : Int) == 0) = false := by simp; omega
                go_enter Tryd.func44, Tryd.ntmps44
                go_wp2
                go_ret
                exact ⟨ret_bool (HH.out.trans (by clear HH; cases U <;> simp <;> omega)).symm, HBW.out⟩
              | zero =>
                go_enter Tryd.func44, Tryd.ntmps44
                go_wp2_with (go_at_call 57; with_reducible refine (HUN.out _ (HBW.out)).mono ?_; rintro e1 w1 ⟨rfl, hb1⟩)
                go_ret
                exact ⟨ret_bool (HH.out.trans (by clear HH; cases U <;> simp <;> omega)).symm, hb1⟩
          | cons x r =>
            have d3 : ((x :: r) == ([] : List UInt8)) = false := rfl
            cases ll with
            | succ ll =>
              have d4 : decide (((ll + 1 : Nat) : Int) ≤ 0) = false := decide_eq_false (by omega)
              go_enter Tryd.func44, Tryd.ntmps44
              go_wp2
              go_ret
              exact ⟨ret_bool (HH.out.trans (by clear HH; cases U <;> simp <;> omega)).symm, HBW.out⟩
            | zero =>
              cases lk with
              | succ lk =>
                have d5 : (((lk + 1 : Nat) : Int) == 0) = false := by simp; omega
                go_enter Tryd.func44, Tryd.ntmps44
                go_wp2
                go_ret
                exact ⟨ret_bool (HH.out.trans (by clear HH; cases U <;> simp <;> omega)).symm, HBW.out⟩
              | zero =>
                go_enter Tryd.func44, Tryd.ntmps44
                go_wp2_with (go_at_call 57; with_reducible refine (HUN.out _ (HBW.out)).mono ?_; rintro e1 w1 ⟨rfl, hb1⟩)
                go_ret
                exact ⟨ret_bool (HH.out.trans (by clear HH; cases U <;> simp <;> omega)).symm, hb1⟩
        · have d2 : decide (n ≤ (0 : Int)) = false := decide_eq_false q2
          go_enter Tryd.func44, Tryd.ntmps44
          go_wp2
          go_ret
          exact ⟨ret_bool (HH.out.trans (by clear HH; cases U <;> simp <;> omega)).symm, HBW.out⟩
      · have d1 : decide ((0 : Int) ≤ n) = false := decide_eq_false q1
        go_enter Tryd.func44, Tryd.ntmps44
        go_wp2
        go_ret
        exact ⟨ret_bool (HH.out.trans (by clear HH; cases U <;> simp <;> omega)).symm, HBW.out⟩
    · -- kind 5
      by_cases q1 : (0 : Int) ≤ n
      · have d1 : decide ((0 : Int) ≤ n) = true := decide_eq_true q1
        by_cases q2 : n ≤ (0 : Int)
        · have d2 : decide (n ≤ (0 : Int)) = true := decide_eq_true q2
          obtain rfl : n = 0 := by omega
          clear d1 d2 q1 q2
          cases t with
          | nil =>
            by_cases q4 : ll ≤ 64
            rotate_left
            · have d4 : decide ((ll : Int) ≤ 64) = false := decide_eq_false (by omega)
              go_enter Tryd.func44, Tryd.ntmps44
              go_wp2
              go_ret
              exact ⟨ret_bool (HH.out.trans (by clear HH; cases U <;> simp <;> omega)).symm, HBW.out⟩
            · have d4 : decide ((ll : Int) ≤ 64) = true := decide_eq_true (by omega)
              cases lk with
              | succ lk =>
                have d5 : (((lk + 1 : Nat) : Int) == 0) = false := by simp; omega
                go_enter Tryd.func44, Tryd.ntmps44
                go_wp2
                go_ret
                exact ⟨ret_bool (HH.out.trans (by clear HH; cases U <;> simp <;> omega)).symm, HBW.out⟩
              | zero =>
                go_enter Tryd.func44, Tryd.ntmps44
                go_wp2_with (go_at_call 57; with_reducible refine (HUN.out _ (HBW.out)).mono ?_; rintro e1 w1 ⟨rfl, hb1⟩)
                go_ret
                exact ⟨ret_bool (HH.out.trans (by clear HH; cases U <;> simp <;> omega)).symm, hb1⟩
          | cons x r =>
            have d3 : ((x :: r) == ([] : List UInt8)) = false := rfl
            go_enter Tryd.func44, Tryd.ntmps44
            go_wp2
            go_ret
            exact ⟨ret_bool (HH.out.trans (by clear HH; cases U <;> simp <;> omega)).symm, HBW.out⟩
        · have d2 : decide (n ≤ (0 : Int)) = false := decide_eq_false q2
          go_enter Tryd.func44, Tryd.ntmps44
          go_wp2
          go_ret
          exact ⟨ret_bool (HH.out.trans (by clear HH; cases U <;> simp <;> omega)).symm, HBW.out⟩
      · have d1 : decide ((0 : Int) ≤ n) = false := decide_eq_false q1
        go_enter Tryd.func44, Tryd.ntmps44
        go_wp2
        go_ret
        exact ⟨ret_bool (HH.out.trans (by clear HH; cases U <;> simp <;> omega)).symm, HBW.out⟩
    · -- kind 6
      by_cases q1 : (0 : Int) ≤ n
      · have d1 : decide ((0 : Int) ≤ n) = true := decide_eq_true q1
        by_cases q2 : n ≤ (0 : Int)
        · have d2 : decide (n ≤ (0 : Int)) = true := decide_eq_true q2
          obtain rfl : n = 0 := by omega
          clear d1 d2 q1 q2
          cases t with
          | nil =>
            by_cases q4 : ll ≤ 64
            rotate_left
            · have d4 : decide ((ll : Int) ≤ 64) = false := decide_eq_false (by omega)
              go_enter Tryd.func44, Tryd.ntmps44
              go_wp2_with fail
              go_region
              all_goals
                go_wp2
                go_ret
                exact ⟨ret_bool (HH.out.trans (by clear HH; cases U <;> simp <;> omega)).symm, HBW.out.drew⟩
            · have d4 : decide ((ll : Int) ≤ 64) = true := decide_eq_true (by omega)
              by_cases q5 : lk = ll
              · subst q5
                go_enter Tryd.func44, Tryd.ntmps44
                go_wp2_with fail
                go_region
                all_goals
                  go_wp2_with (go_at_call 57; with_reducible refine (HUN.out _ (HBW.out.drew)).mono ?_; rintro e1 w1 ⟨rfl, hb1⟩)
                  go_ret
                  exact ⟨ret_bool (HH.out.trans (by clear HH; cases U <;> simp <;> omega)).symm, below_drew2 _ _ hb1⟩
              · have d5 : ((lk : Int) == (ll : Int)) = false := by simp; omega
                go_enter Tryd.func44, Tryd.ntmps44
                go_wp2_with fail
                go_region
                all_goals
                  go_wp2
                  go_ret
                  exact ⟨ret_bool (HH.out.trans (by clear HH; cases U <;> simp <;> omega)).symm, HBW.out.drew⟩
          | cons x r =>
            have d3 : ((x :: r) == ([] : List UInt8)) = false := rfl
            go_enter Tryd.func44, Tryd.ntmps44
            go_wp2_with fail
            go_region
            all_goals
              go_wp2
              go_ret
              exact ⟨ret_bool (HH.out.trans (by clear HH; cases U <;> simp <;> omega)).symm, HBW.out.drew⟩
        · have d2 : decide (n ≤ (0 : Int)) = false := decide_eq_false q2
          go_enter Tryd.func44, Tryd.ntmps44
          go_wp2_with fail
          go_region
          all_goals
            go_wp2
            go_ret
            exact ⟨ret_bool (HH.out.trans (by clear HH; cases U <;> simp <;> omega)).symm, HBW.out.drew⟩
      · have d1 : decide ((0 : Int) ≤ n) = false := decide_eq_false q1
        go_enter Tryd.func44, Tryd.ntmps44
        go_wp2_with fail
        go_region
        all_goals
          go_wp2
          go_ret
          exact ⟨ret_bool (HH.out.trans (by clear HH; cases U <;> simp <;> omega)).symm, HBW.out.drew⟩
  · have d1 : (k == 1) = false := by simp; omega
    have d2 : (k == 2) = false := by simp; omega
    have d3 : (k == 3) = false := by simp; omega
    have d4 : (k == 4) = false := by simp; omega
    have d5 : (k == 5) = false := by simp; omega
    have d6 : (k == 6) = false := by simp; omega
    have hK := Lib.hid hk; clear hk
    go_enter Tryd.func44, Tryd.ntmps44
    go_wp2
    go_ret
    exact ⟨ret_bool (HH.out.trans (by rw [decide_eq_false hK.out]; rfl)).symm, HBW.out⟩
end Go.Proofs.YtcbajbpdgmmaeaaDoor
namespace Go.Proofs.YtcbajbpdgmmaeaaDoor
open Go.RowKit

theorem depth_of (k n : Int) (t : List UInt8) (l : List V) (ks : List (List UInt8)) (lv : Nat) (h : ∀ i (h : i < l.length), l[i].depth ≤ lv) : decide ((V.mk k n t l ks).depth ≤ lv + 1) = true := by
  rw [depth_mk]; have := (depths_iff l lv).2 h; simp; omega
theorem depth_not (k n : Int) (t : List UInt8) (l : List V) (ks : List (List UInt8)) (lv i : Nat) (hi : i < l.length) (h : ¬ l[i].depth ≤ lv) : decide ((V.mk k n t l ks).depth ≤ lv + 1) = false := by
  rw [depth_mk]
  have : ¬ V.depths l ≤ lv := fun h' => h ((depths_iff l lv).1 h' i hi)
  simp; omega
set_option maxRecDepth 100000 in
set_option maxHeartbeats 1000000 in
theorem within_at (m : Nat) : ∀ (v : V) (lv : Nat) (w : World) (L N b o : Nat) (cs : List Value), v.size ≤ m → lv ≤ 1000000 → Five w b o cs → b < N → VIs w L N v cs → N ≤ w.heap.size →
    Calls Tryd.prog 33 #[.pointer (some ⟨b, o, none⟩), .int .i64 lv] w fun e w' => e = .returned (.bool (decide (v.depth ≤ lv))) ∧ Below w.heap.size w w' := by
  induction m with
  | zero => intro v lv w L N b o cs hm; exact absurd (size_pos v) (by omega)
  | succ m ih =>
  intro v lv w L N b o cs hm hlv h5 hbN hv hN
  obtain ⟨k, n, t, l, ks⟩ := v
  obtain ⟨⟨ml, mk, -, -⟩, A, c, A', c', rfl, h1, h2⟩ := hv.out
  obtain ⟨c0, c1, c2, c3, c4, e, m0, m1, m2, m3, m4⟩ := h5
  injection e with e0 e; injection e with e1 e; injection e with e2 e; injection e with e3 e; injection e with e4 e
  subst e0; subst e1; subst e2; subst e3; subst e4
  cases lv with
  | zero =>
    have hz : decide ((V.mk k n t l ks).depth ≤ 0) = false := by rw [depth_mk]; simp
    rw [hz]
    go_enter Tryd.func33, Tryd.ntmps33
    go_wp2
    go_ret
    exact ⟨rfl, Below.refl _ _⟩
  | succ lv =>
    have q1 : (((lv + 1 : Nat) : Int) == 0) = false := by simp; omega
    have q2 : ((lv + 1 : Nat) : Int) - 1 = (lv : Int) := by omega
    have q3 : IntKind.i64.wrap (lv : Int) = (lv : Int) := by rw [IntKind.wrap_i64]; omega
    obtain ⟨x, hx⟩ : ∃ x : Int, ((lv + 1 : Nat) : Int) = x := ⟨_, rfl⟩
    have DO := Lib.hid (depth_of k n t l ks lv); have DN := Lib.hid (depth_not k n t l ks lv)
    obtain ⟨R, hR⟩ : ∃ R, decide ((V.mk k n t l ks).depth ≤ lv + 1) = R := ⟨_, rfl⟩
    rw [hR] at DO DN ⊢
    rw [hx] at q1 q2 ⊢
    obtain ⟨nl, hnl⟩ : ∃ nl, l.length = nl := ⟨_, rfl⟩
    rw [hnl] at ml m3
    have NL := Lib.hid hnl; have HM := Lib.hid hm; have H2 := Lib.hid h2
    clear hnl hx hR hv h1 h2 hm
    go_enter Tryd.func33, Tryd.ntmps33
    go_wp2_with fail
    go_loopw [13] (fun i wr => ∃ j : Nat, j ≤ nl ∧ i = .int .i64 j ∧ (∀ i (h : i < l.length), i < j → l[i].depth ≤ lv) ∧ Below w.heap.size w wr) (fun i _ => nl - (intOf i).toNat)
    case atStart => exact ⟨0, Nat.zero_le _, rfl, fun _ _ h => absurd h (Nat.not_lt_zero _), Below.refl _ _⟩
    case round =>
      obtain ⟨j, hj, rfl, hd, hb⟩ := hrel
      have HD := Lib.hid hd; have hs := hb.size; clear hd
      have m3' := (hb.cell (p := ⟨b, o + 3, none⟩) (by show b < _; omega)).trans m3
      by_cases hlt : j < nl
      · have hjl : j < l.length := by have := NL.out; omega
        obtain ⟨p, q, rfl, _, hpN, xs, hx5, hxv⟩ := VIs.item H2.out j hjl
        have hbN' := hb.mono hN
        have hc := fun wq (hwq : Below w.heap.size w wq) => ih l[j] lv wq L N p (q + j * 5) xs (by have := HM.out; have := size_get (k := k) (n := n) (t := t) (ks := ks) j hjl; omega) (by omega) (hx5.keep hpN (fun r hr => (hwq.mono hN).cell hr)) hpN (hxv.below (hwq.mono hN)) (Nat.le_trans hN hwq.size)
        have HC := Lib.hid hc; have HBW := Lib.hid hb
        have T2 := Lib.hid (DN.out j hjl)
        have T1 := Lib.hid (fun (h : l[j].depth ≤ lv) => show ∀ i (h : i < l.length), i < j + 1 → l[i].depth ≤ lv from fun i hi hij => by
          rcases Nat.lt_succ_iff_lt_or_eq.1 hij with h' | h'
          · exact HD.out i hi h'
          · subst h'; exact h)
        clear hc hx5 hxv hbN'
        generalize l[j] = x at *
        by_cases hxd : x.depth ≤ lv
        · have T3 := Lib.hid (T1.out hxd)
          have qd : decide (x.depth ≤ lv) = true := by simpa using hxd
          rw [qd] at HC
          clear T1 T2 hxd
          go_wp2_with (go_at_call 33; with_reducible refine (HC.out _ HBW.out).mono ?_; rintro e1 w1 ⟨rfl, hb1⟩)
          go_roundw
          case rel => exact ⟨j + 1, by omega, by go_num, T3.out, HBW.out.trans (hb1.mono hs)⟩
          case measure => simp [intOf]; omega
        · have T3 := Lib.hid (T2.out hxd)
          have qd : decide (x.depth ≤ lv) = false := by simpa using hxd
          rw [qd] at HC
          clear T1 T2 hxd
          go_wp2_with (go_at_call 33; with_reducible refine (HC.out _ HBW.out).mono ?_; rintro e1 w1 ⟨rfl, hb1⟩)
          go_ret
          exact ⟨ret_bool T3.out.symm, HBW.out.trans (hb1.mono hs)⟩
      · obtain rfl : nl = j := by omega
        have T3 := Lib.hid (DO.out fun i hi => HD.out i hi (by have := NL.out; omega))
        clear DO DN HD NL
        go_wp2
        go_ret
        exact ⟨ret_bool T3.out.symm, hb⟩
end Go.Proofs.YtcbajbpdgmmaeaaDoor
namespace Go.Proofs.YtcbajbpdgmmaeaaDoor
open Go.RowKit

set_option maxRecDepth 100000 in
set_option maxHeartbeats 1000000 in
theorem fits_at (m : Nat) : ∀ (v : V) (w : World) (L N b o : Nat) (cs : List Value), v.size ≤ m → Five w b o cs → b < N → VIs w L N v cs → N ≤ w.heap.size →
    Calls Tryd.prog 32 #[.pointer (some ⟨b, o, none⟩)] w fun e w' => e = .returned (.bool v.good) ∧ Below w.heap.size w w' := by
  induction m with
  | zero => intro v w L N b o cs hm; exact absurd (size_pos v) (by omega)
  | succ m ih =>
  intro v w L N b o cs hm h5 hbN hv hN
  have hff := fieldsFit_any v w L N b o cs h5 hbN hv hN
  obtain ⟨k, n, t, l, ks⟩ := v
  rw [good_mk]
  change Calls Tryd.prog _ _ _ (fun e w' => e = .returned (.bool (headB k n t l.length ks)) ∧ _) at hff
  obtain ⟨⟨ml, mk, -, -⟩, A, c, A', c', rfl, h1, h2⟩ := hv.out
  obtain ⟨c0, c1, c2, c3, c4, e, m0, m1, m2, m3, m4⟩ := h5
  injection e with e0 e; injection e with e1 e; injection e with e2 e; injection e with e3 e; injection e with e4 e
  subst e0; subst e1; subst e2; subst e3; subst e4
  have HF := Lib.hid hff
  cases hh : headB k n t l.length ks with
  | false =>
    rw [hh] at HF
    clear hff
    go_enter Tryd.func32, Tryd.ntmps32
    go_wp2_with (go_at_call 44; with_reducible refine (HF.out).mono ?_; rintro e1 w1 ⟨rfl, hb1⟩)
    go_ret
    exact ⟨rfl, hb1⟩
  | true =>
    rw [hh] at HF
    obtain ⟨R, hR⟩ : ∃ R, (true && V.goods l) = R := ⟨_, rfl⟩
    rw [hR]
    have DO := Lib.hid (fun (h : ∀ i (h : i < l.length), l[i].good = true) => show R = true by rw [← hR, (goods_iff l).2 h]; rfl)
    have DN := Lib.hid (fun (i : Nat) (hi : i < l.length) (h : l[i].good = false) => show R = false by
      rw [← hR]
      cases hg : V.goods l with
      | false => rfl
      | true => rw [(goods_iff l).1 hg i hi] at h; cases h)
    obtain ⟨nl, hnl⟩ : ∃ nl, l.length = nl := ⟨_, rfl⟩
    rw [hnl] at ml m3
    have NL := Lib.hid hnl; have HM := Lib.hid hm; have H2 := Lib.hid h2
    clear hnl hR hv h1 h2 hm hff hh
    go_enter Tryd.func32, Tryd.ntmps32
    go_wp2_with (go_at_call 44; with_reducible refine (HF.out).mono ?_; rintro e1 w1 ⟨rfl, hb1⟩; have m3x := (hb1.cell (p := ⟨b, o + 3, none⟩) (by show b < _; omega)).trans m3)
    go_loopw [12] (fun i wr => ∃ j : Nat, j ≤ nl ∧ i = .int .i64 j ∧ (∀ i (h : i < l.length), i < j → l[i].good = true) ∧ Below w.heap.size w wr) (fun i _ => nl - (intOf i).toNat)
    case atStart => exact ⟨0, Nat.zero_le _, rfl, fun _ _ h => absurd h (Nat.not_lt_zero _), hb1⟩
    case round =>
      obtain ⟨j, hj, rfl, hd, hb⟩ := hrel
      have HD := Lib.hid hd; have hs := hb.size; clear hd
      have m3' := (hb.cell (p := ⟨b, o + 3, none⟩) (by show b < _; omega)).trans m3
      by_cases hlt : j < nl
      · have hjl : j < l.length := by have := NL.out; omega
        obtain ⟨p, q, rfl, _, hpN, xs, hx5, hxv⟩ := VIs.item H2.out j hjl
        have hc := fun wq (hwq : Below w.heap.size w wq) => ih l[j] wq L N p (q + j * 5) xs (by have := HM.out; have := size_get (k := k) (n := n) (t := t) (ks := ks) j hjl; omega) (hx5.keep hpN (fun r hr => (hwq.mono hN).cell hr)) hpN (hxv.below (hwq.mono hN)) (Nat.le_trans hN hwq.size)
        have HC := Lib.hid hc; have HBW := Lib.hid hb
        have T2 := Lib.hid (DN.out j hjl)
        have T1 := Lib.hid (fun (h : l[j].good = true) => show ∀ i (h : i < l.length), i < j + 1 → l[i].good = true from fun i hi hij => by
          rcases Nat.lt_succ_iff_lt_or_eq.1 hij with h' | h'
          · exact HD.out i hi h'
          · subst h'; exact h)
        clear hc hx5 hxv
        generalize l[j] = x at *
        cases hg : x.good with
        | true =>
          have T3 := Lib.hid (T1.out hg)
          rw [hg] at HC
          clear T1 T2 hg
          go_wp2_with (go_at_call 32; with_reducible refine (HC.out _ HBW.out).mono ?_; rintro e2 w2 ⟨rfl, hb2⟩)
          go_roundw
          case rel => exact ⟨j + 1, by omega, by go_num, T3.out, HBW.out.trans (hb2.mono hs)⟩
          case measure => simp [intOf]; omega
        | false =>
          have T3 := Lib.hid (T2.out hg)
          rw [hg] at HC
          clear T1 T2 hg
          go_wp2_with (go_at_call 32; with_reducible refine (HC.out _ HBW.out).mono ?_; rintro e2 w2 ⟨rfl, hb2⟩)
          go_ret
          exact ⟨ret_bool T3.out.symm, HBW.out.trans (hb2.mono hs)⟩
      · obtain rfl : nl = j := by omega
        have T3 := Lib.hid (DO.out fun i hi => HD.out i hi (by have := NL.out; omega))
        clear DO DN HD NL
        go_wp2
        go_ret
        exact ⟨ret_bool T3.out.symm, hb⟩
theorem within_any (v : V) (lv : Nat) (w : World) (L N b o : Nat) (cs : List Value) (hlv : lv ≤ 1000000) (h5 : Five w b o cs) (hbN : b < N) (hv : VIs w L N v cs) (hN : N ≤ w.heap.size) :
    Calls Tryd.prog 33 #[.pointer (some ⟨b, o, none⟩), .int .i64 lv] w fun e w' => e = .returned (.bool (decide (v.depth ≤ lv))) ∧ Below w.heap.size w w' :=
  within_at v.size v lv w L N b o cs (Nat.le_refl _) hlv h5 hbN hv hN
theorem fits_any (v : V) (w : World) (L N b o : Nat) (cs : List Value) (h5 : Five w b o cs) (hbN : b < N) (hv : VIs w L N v cs) (hN : N ≤ w.heap.size) :
    Calls Tryd.prog 32 #[.pointer (some ⟨b, o, none⟩)] w fun e w' => e = .returned (.bool v.good) ∧ Below w.heap.size w w' :=
  fits_at v.size v w L N b o cs (Nat.le_refl _) h5 hbN hv hN
/-- a value's five cells in a new block -/
theorem five_new {w : World} {L N : Nat} {v : V} {cs : List Value} (hv : VIs w L N v cs) (t : TypeId) : Five (w.alloc (.cells cs.toArray t)) w.heap.size 0 cs := by
  obtain ⟨k, n, t', l, ks⟩ := v
  obtain ⟨-, A, c, A', c', rfl, -, -⟩ := hv.out
  refine ⟨_, _, _, _, _, rfl, ?_, ?_, ?_, ?_, ?_⟩ <;> simp
end Go.Proofs.YtcbajbpdgmmaeaaDoor
