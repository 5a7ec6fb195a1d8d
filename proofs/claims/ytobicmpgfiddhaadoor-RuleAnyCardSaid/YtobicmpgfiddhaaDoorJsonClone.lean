/- JSON: the code's clone. -/
import Derived.Test.YtobicmpgfiddhaaDoorJsonCloneV
import Derived.Test.YtobicmpgfiddhaaDoorShelf
import Derived.Test.YtobicmpgfiddhaaDoorJsonSet
import Derived.Deep.RegionWith
import Derived.Deep.CutRange
namespace Go.Proofs.YtobicmpgfiddhaaDoor
open Go.RowKit

mutual
/-- no list in a value, nor of keys, is longer than m -/
def V.slim (m : Nat) : V → Prop
  | .mk _ _ _ l ks => l.length ≤ m ∧ ks.length ≤ m ∧ V.slims m l
def V.slims (m : Nat) : List V → Prop
  | [] => True
  | v :: r => v.slim m ∧ V.slims m r
end
theorem slims_get {m : Nat} : ∀ {l : List V}, V.slims m l → ∀ i (h : i < l.length), l[i].slim m
  | [], _, i, h => absurd h (Nat.not_lt_zero _)
  | v :: r, hs, 0, _ => by unfold V.slims at hs; exact hs.1
  | v :: r, hs, i + 1, h => by unfold V.slims at hs; exact slims_get hs.2 i (by simpa using h)
theorem slim_mk {m : Nat} {k n : Int} {t : List UInt8} {l : List V} {ks : List (List UInt8)} (h : (V.mk k n t l ks).slim m) : l.length ≤ m ∧ ks.length ≤ m ∧ ∀ i (h : i < l.length), l[i].slim m := by
  unfold V.slim at h
  exact ⟨h.1, h.2.1, slims_get h.2.2⟩
def strsOf (ks : List (List UInt8)) : List ByteArray := ks.map fun t => ⟨t.toArray⟩
theorem strsOf_len (ks : List (List UInt8)) : (strsOf ks).length = ks.length := by simp [strsOf]
theorem strsOf_getD (ks : List (List UInt8)) (j : Nat) (h : j < ks.length) : (strsOf ks).getD j ByteArray.empty = ⟨ks[j].toArray⟩ := by
  unfold strsOf List.getD
  rw [List.getElem?_map, List.getElem?_eq_getElem h]; rfl
theorem cloneK_any (ks : List (List UInt8)) (A : Option Addr) (c L N : Nat) (w : World) (hl : ks.length ≤ 1000000) (h : ks = [] ∨ ∃ b o, A = some ⟨b, o, none⟩ ∧ KIs w L N ks b o) :
    Calls Tryd.prog 71 #[.slice A ks.length c] w fun e w' => (∃ A' c', e = .returned (.slice A' ks.length c') ∧ (ks = [] ∨ ∃ b, A' = some ⟨b, 0, none⟩ ∧ KIs w' w.heap.size w'.heap.size ks b 0)) ∧ Below w.heap.size w w' := by
  rcases h with rfl | ⟨b, o, rfl, h⟩
  · cases A with
    | none => exact (Tryd.slices_Clone_string_nil 0 c w).mono fun e w' ⟨he, hw⟩ => by subst hw; exact ⟨⟨none, 0, he, .inl rfl⟩, Below.refl _ _⟩
    | some a =>
      refine (Tryd.slices_Clone_string_zero a c w).mono fun e w' ⟨v', he, hr, hn, hb⟩ => ?_
      rcases hr.2 with ⟨hv, _⟩ | ⟨g, cap, cur, hv, _⟩
      · exact absurd hv hn
      · exact ⟨⟨_, _, by rw [he, hv]; rfl, .inl rfl⟩, hb⟩
  · refine (Tryd.slices_Clone_string b o ks.length c (strsOf ks) w (by rw [strsOf_len]; exact Nat.le_refl _) (by omega) (fun j hj => ?_)).mono fun e w' ⟨v', he, hr, hn, hb⟩ => ?_
    · rw [strsOf_len] at hj
      rw [strsOf_getD ks j hj]
      exact (h.get j hj).2.2
    · rcases hr.2 with ⟨hv, _⟩ | ⟨g, cap, cur, hv, hB, hg, _⟩
      · exact absurd hv hn
      · refine ⟨⟨_, _, by rw [he, hv], .inr ⟨g, rfl, ?_⟩⟩, hb⟩
        refine KIs.of hB (Array.getElem?_eq_some_iff.1 hg).1 fun i hi => ?_
        rw [Nat.zero_add]
        subst hv
        have hcell := hr.cells (g := g) rfl i (.string ⟨ks[i].toArray⟩)
        rw [Addr.add_lit, Nat.zero_add] at hcell
        refine hcell ?_
        have hlen : (strsOf ks).length = ks.length := strsOf_len ks
        rw [List.getElem?_map, List.take_of_length_le (by omega)]
        unfold strsOf
        rw [List.getElem?_map, List.getElem?_eq_getElem hi]; rfl
/-- what holds when j items of a value's list are cloned: R: the result's block, the clone's variable behind it -/
structure CSt (R s3 : Nat) (k n : Int) (t : List UInt8) (l : List V) (ks : List (List UInt8)) (A5 A3 : Option Addr) (c5 c3 : Nat) (w wr : World) (j : Nat) : Prop where
  var : wr.heap[R + 1]? = some (.cells #[.int .i64 k, .int .i64 n, .string ⟨t.toArray⟩, .slice A5 l.length c5, .slice A3 ks.length c3] 25 (0, 0))
  res : wr.heap[R]? = some (.cells #[.int .i64 0, .int .i64 0, .string ⟨#[]⟩, .slice none 0 0, .slice none 0 0] 25 (0, 0))
  key : ks = [] ∨ ∃ b, A3 = some ⟨b, 0, none⟩ ∧ KIs wr (R + 2) s3 ks b 0
  row : l = [] ∨ ∃ g, A5 = some ⟨g, 0, none⟩ ∧ VRow wr s3 g l.length ∧ ∀ i (h : i < l.length), i < j → ∃ ds, Five wr g (i * 5) ds ∧ VIs wr (g + 1) wr.heap.size l[i] ds
  low : Below R w wr
  size : s3 ≤ wr.heap.size
  two : R + 2 ≤ s3
/-- one item more -/
theorem CSt.next {R s3 : Nat} {k n : Int} {t : List UInt8} {l : List V} {ks : List (List UInt8)} {A5 A3 : Option Addr} {c5 c3 : Nat} {w wr w1 : World} {j g : Nat} {d0 d1 d2 d3 d4 : Value} (h : CSt R s3 k n t l ks A5 A3 c5 c3 w wr j)
    (hj : j < l.length) (hA : A5 = some ⟨g, 0, none⟩) (hb : Below wr.heap.size wr w1) (hv : VIs w1 wr.heap.size w1.heap.size l[j] [d0, d1, d2, d3, d4]) :
    CSt R s3 k n t l ks A5 A3 c5 c3 w (set5 w1 g (j * 5) d0 d1 d2 d3 d4) (j + 1) := by
  obtain ⟨hvar, hres, hkey, hrow, hlow, hsize, htwo⟩ := h
  rcases hrow with rfl | ⟨g', e, ⟨hg1, hg2, C, hg3, hg4⟩, hrow⟩
  · simp at hj
  obtain rfl : g = g' := by rw [hA] at e; injection e with e; injection e
  have hs := hb.size
  have hC1 : w1.heap[g]? = some (.cells C 25 (0, 0)) := (hb.block g hg2).trans hg3
  have hall : ∀ b', b' ≠ g → b' < wr.heap.size → (set5 w1 g (j * 5) d0 d1 d2 d3 d4).heap[b']? = wr.heap[b']? := fun b' h1 h2 => (set5_there h1).trans (hb.block b' h2)
  refine ⟨(hall _ (by omega) (by omega)).trans hvar, (hall _ (by omega) (by omega)).trans hres, ?_, .inr ⟨g, e, ⟨hg1, by rw [set5_size]; omega, _, set5_here hC1, by simpa using hg4⟩, ?_⟩, ?_, by rw [set5_size]; omega, htwo⟩
  · rcases hkey with h | ⟨b, e, h⟩
    · exact .inl h
    · exact .inr ⟨b, e, h.keep fun p hp => World.cell?_of_block (w := wr) (hall p.block (by omega) (by omega))⟩
  · intro i hi hij
    have hother : ∀ p : Addr, g + 1 ≤ p.block → (set5 w1 g (j * 5) d0 d1 d2 d3 d4).cell? p = w1.cell? p := fun p hp => by
      have hne : p.block ≠ g := by omega
      exact World.cell?_of_block (w := w1) (set5_there hne)
    rcases Nat.lt_succ_iff_lt_or_eq.1 hij with h' | h'
    · obtain ⟨ds, d5, dv⟩ := hrow i hi h'
      refine ⟨ds, five_other hC1 (d5.keep (N := wr.heap.size) hg2 fun p hp => hb.cell hp) (by omega), ?_⟩
      rw [set5_size]
      exact ((dv.below hb).keep2 fun p h1 h2 => hother p h1).more (Nat.le_refl _) hs
    · subst h'
      refine ⟨_, set5_five hC1 (by omega), ?_⟩
      rw [set5_size]
      exact (hv.more (show g + 1 ≤ wr.heap.size by omega) (Nat.le_refl _)).keep2 fun p h1 h2 => hother p h1
  · exact (hlow.trans (hb.mono (by omega))).trans (set5_below (by omega))
theorem two_keep {W W' : World} {b p o : Nat} {x y : Value} (hb1 : b < W.heap.size) (hp : p < W.heap.size) (hb : Below W.heap.size W W') (h : W.cell? ⟨b, 3, none⟩ = some x ∧ W.cell? ⟨p, o + 3, none⟩ = some y) : W'.cell? ⟨b, 3, none⟩ = some x ∧ W'.cell? ⟨p, o + 3, none⟩ = some y :=
  ⟨(hb.cell (p := ⟨b, _, none⟩) hb1).trans h.1, (hb.cell (p := ⟨p, _, none⟩) hp).trans h.2⟩
theorem two_set {W : World} {b p o g k0 k1 k2 k3 k4 : Nat} {x y c0 c1 c2 c3 c4 : Value} (hb : b ≠ g) (hp : p ≠ g) (h : W.cell? ⟨b, 3, none⟩ = some x ∧ W.cell? ⟨p, o + 3, none⟩ = some y) :
    (((((W.setCell ⟨g, k0, none⟩ c0).setCell ⟨g, k1, none⟩ c1).setCell ⟨g, k2, none⟩ c2).setCell ⟨g, k3, none⟩ c3).setCell ⟨g, k4, none⟩ c4).cell? ⟨b, 3, none⟩ = some x ∧ (((((W.setCell ⟨g, k0, none⟩ c0).setCell ⟨g, k1, none⟩ c1).setCell ⟨g, k2, none⟩ c2).setCell ⟨g, k3, none⟩ c3).setCell ⟨g, k4, none⟩ c4).cell? ⟨p, o + 3, none⟩ = some y := by
  rw [cell5 hb, cell5 hp]; exact h
/-- the list of these five cells lies in a new block that may be written -/
def Thaw (w : World) (B : Nat) (ds : List Value) (n : Nat) : Prop := n = 0 ∨ ∃ g c C, ds[3]? = some (.slice (some ⟨g, 0, none⟩) n c) ∧ B ≤ g ∧ w.heap[g]? = some (.cells C 25 (0, 0)) ∧ n * 5 ≤ C.size
set_option maxRecDepth 100000 in
set_option maxHeartbeats 2000000 in
theorem clone_at (m : Nat) : ∀ (v : V) (w : World) (L N p o : Nat) (cs : List Value), v.size ≤ m → v.slim 1000000 → Five w p o cs → p < N → VIs w L N v cs → N ≤ w.heap.size →
    Calls Tryd.prog 59 #[.pointer (some ⟨p, o, none⟩)] w fun e w' => (∃ ds, e = .returned (.agg ds.toArray) ∧ VIs w' w.heap.size w'.heap.size v ds ∧ Thaw w' w.heap.size ds v.list.length) ∧ Below w.heap.size w w' := by
  induction m with
  | zero => intro v w L N p o cs hm; exact absurd (size_pos v) (by omega)
  | succ m ih =>
  intro v w L N p o cs hm hsm h5 hpN hv hN
  obtain ⟨k, n, t, l, ks⟩ := v
  obtain ⟨hroom, A, c, A', c', rfl, h1, h2⟩ := hv.out
  obtain ⟨c0, c1, c2, c3, c4, e, m0, m1, m2, m3, m4⟩ := h5
  injection e with e0 e; injection e with e1 e; injection e with e2 e; injection e with e3 e; injection e with e4 e
  subst e0; subst e1; subst e2; subst e3; subst e4
  have hpw : p < w.heap.size := by omega
  obtain ⟨sl, sk, si⟩ := slim_mk hsm
  -- the two variables
  obtain ⟨R, hR⟩ : ∃ R, w.heap.size = R := ⟨_, rfl⟩
  obtain ⟨W2, hW2⟩ : ∃ W2, W2 = ((w.alloc (.cells #[.int .i64 0, .int .i64 0, .string ⟨#[]⟩, .slice none 0 0, .slice none 0 0] 25)).alloc (.cells #[.int .i64 k, .int .i64 n, .string ⟨t.toArray⟩, .slice A l.length c, .slice A' ks.length c'] 25)) := ⟨_, rfl⟩
  have b2 : Below R w W2 := by
    rw [hW2, ← hR]; exact ((Below.refl _ _).alloc (Nat.le_refl _) _).alloc (by simp) _
  have z2 : W2.heap.size = R + 2 := by rw [hW2, ← hR]; simp
  have r2 : W2.heap[R]? = some (.cells #[.int .i64 0, .int .i64 0, .string ⟨#[]⟩, .slice none 0 0, .slice none 0 0] 25 (0, 0)) := by
    rw [hW2, ← hR, Below.heap_alloc _ _ _ (by simp)]; exact heap_alloc_last w _
  have v2 : W2.heap[R + 1]? = some (.cells #[.int .i64 k, .int .i64 n, .string ⟨t.toArray⟩, .slice A l.length c, .slice A' ks.length c'] 25 (0, 0)) := by
    rw [hW2, ← hR]
    have := heap_alloc_last (w.alloc (.cells #[.int .i64 0, .int .i64 0, .string ⟨#[]⟩, .slice none 0 0, .slice none 0 0] 25)) (.cells #[.int .i64 k, .int .i64 n, .string ⟨t.toArray⟩, .slice A l.length c, .slice A' ks.length c'] 25)
    simpa using this
  have hck := cloneK_any ks A' c' L N W2 sk (by
    rcases h1 with h | ⟨b, o, e, h⟩
    · exact .inl h
    · exact .inr ⟨b, o, e, h.below (b2.mono (by omega))⟩)
  rw [hW2] at hck
  have HCK := Lib.hid hck; have B2 := Lib.hid b2; have Z2 := Lib.hid z2; have R2 := Lib.hid r2; have V2 := Lib.hid v2; have H1 := Lib.hid h1; have H2 := Lib.hid h2
  have HRR := Lib.hid hR; have HM := Lib.hid hm; have HS := Lib.hid si; have HV := Lib.hid hv; have HR := Lib.hid hroom
  clear hck b2 z2 r2 v2 h1 h2 hm hsm si hv hroom hR
  go_enter Tryd.func59, Tryd.ntmps59
  go_wp2_with fail
  refine HCK.out.mono ?_
  rintro e3 w3 ⟨⟨A3, c3, rfl, hk3⟩, b3⟩
  dsimp only
  rw [← hW2] at b3 hk3
  have z2 := Z2.out
  have hR := HRR.out
  rw [z2] at b3 hk3
  have z3 := b3.size; rw [z2] at z3
  have r3 := (b3.block R (by omega)).trans R2.out
  have v3 := (b3.block (R + 1) (by omega)).trans V2.out
  have q3 : w3.cell? ⟨R + 1, 4, none⟩ = some (.slice A' ks.length c') := cell_here v3
  have f3 : w3.frozen? ⟨R + 1, 4, none⟩ = false := frozen_here v3 4
  have p3 : w3.cell? ⟨p, o + 3, none⟩ = some (.slice A l.length c) := ((B2.out.trans (b3.mono (by omega))).cell (p := ⟨p, o + 3, none⟩) (by show p < _; omega)).trans m3
  have hne : p < R + 1 := by omega
  rw [hR]
  go_upto_region 3 with fail
  obtain ⟨w4, hw4⟩ : ∃ w4, w4 = w3.setCell ⟨R + 1, 4, none⟩ (.slice A3 ks.length c3) := ⟨_, rfl⟩
  rw [← hw4]
  have v4 : w4.heap[R + 1]? = some (.cells #[.int .i64 k, .int .i64 n, .string ⟨t.toArray⟩, .slice A l.length c, .slice A3 ks.length c3] 25 (0, 0)) := by rw [hw4]; exact set_here v3 _
  have r4 : w4.heap[R]? = some (.cells #[.int .i64 0, .int .i64 0, .string ⟨#[]⟩, .slice none 0 0, .slice none 0 0] 25 (0, 0)) := by rw [hw4, set_there _ (by omega)]; exact r3
  have z4 : w4.heap.size = w3.heap.size := by rw [hw4, set_size]
  have b4 : Below R w w4 := by rw [hw4]; exact (B2.out.trans (b3.mono (by omega))).setCell (p := ⟨R + 1, 4, none⟩) (by show R ≤ R + 1; omega) _
  have k4 : ks = [] ∨ ∃ b, A3 = some ⟨b, 0, none⟩ ∧ KIs w4 (R + 2) w3.heap.size ks b 0 := by
    rcases hk3 with h | ⟨b, e, h⟩
    · exact .inl h
    · exact .inr ⟨b, e, h.keep2 fun q h1 h2 => World.cell?_of_block (w := w3) (by rw [hw4]; exact set_there _ (by omega))⟩
  have p4 : w4.cell? ⟨p, o + 3, none⟩ = some (.slice A l.length c) := (b4.cell (p := ⟨p, o + 3, none⟩) (by show p < _; omega)).trans m3
  have hcv := cloneV_any l A c L N w4 sl (by omega) (by
    rcases H2.out with h | ⟨b, o, e, h⟩
    · exact .inl h
    · exact .inr ⟨b, o, e, h.below (b4.mono (by omega))⟩)
  have HCV := Lib.hid hcv; have V4 := Lib.hid v4; have R4 := Lib.hid r4; have K4 := Lib.hid k4; have B4 := Lib.hid b4
  clear hcv v4 r4 k4 b4 hk3 v3 r3 q3 f3 p3 hw4
  go_wp2_with (go_at_call 72; refine (HCV.out).mono ?_; rintro e5 w5 ⟨⟨A5, c5, rfl, hk5⟩, b5⟩; have v5 := (b5.block (R + 1) (by omega)).trans V4.out; have q5 : w5.cell? ⟨R + 1, 3, none⟩ = some (.slice A l.length c) := cell_here v5; have f5 : w5.frozen? ⟨R + 1, 3, none⟩ = false := frozen_here v5 3; have p5 := (b5.cell (p := ⟨p, o + 3, none⟩) (by show p < _; omega)).trans p4)
  have z5 := b5.size
  have cst : CSt R w3.heap.size k n t l ks A5 A3 c5 c3 w (w5.setCell ⟨R + 1, 3, none⟩ (.slice A5 l.length c5)) 0 := by
    refine ⟨set_here v5 _, (set_there _ (by omega)).trans ((b5.block R (by omega)).trans R4.out), ?_, ?_, (B4.out.trans (b5.mono (by omega))).setCell (p := ⟨R + 1, 3, none⟩) (by show R ≤ R + 1; omega) _, by rw [set_size]; omega, z3⟩
    · rcases K4.out with h | ⟨b, e, h⟩
      · exact .inl h
      · exact .inr ⟨b, e, (h.below (b5.mono (by omega))).keep2 fun q h1 h2 => World.cell?_of_block (w := w5) (set_there _ (by omega))⟩
    · rcases hk5 with h | ⟨g, e, ⟨h1, h2, C, h3, h4⟩⟩
      · exact .inl h
      · exact .inr ⟨g, e, ⟨by omega, by rw [set_size]; exact h2, C, by rw [set_there _ (by omega)]; exact h3, h4⟩, fun i hi hij => absurd hij (Nat.not_lt_zero _)⟩
  have CS := Lib.hid cst
  obtain ⟨nl, hnl⟩ : ∃ nl, l.length = nl := ⟨_, rfl⟩
  have NL := Lib.hid hnl
  have ml := HR.out.1
  rw [hnl] at ml ⊢
  rw [hnl] at m3
  clear cst hk5 v5 q5 f5 p5 z5 b5 hnl z4 z3 b3
  go_loopw [25] (fun i wr => ∃ j : Nat, j ≤ nl ∧ i = .int .i64 j ∧ CSt R w3.heap.size k n t l ks A5 A3 c5 c3 w wr j) (fun i _ => nl - (intOf i).toNat)
  case atStart => exact ⟨0, Nat.zero_le _, rfl, by rw [← NL.out]; exact CS.out⟩
  case round =>
    obtain ⟨j, hj, rfl, cst⟩ := hrel
    have C1 := Lib.hid cst
    have hlow := cst.low
    have hz := cst.size
    have h2 := cst.two
    have q3 : wr.cell? ⟨R + 1, 3, none⟩ = some (.slice A5 l.length c5) := cell_here cst.var
    have p3 := (hlow.cell (p := ⟨p, o + 3, none⟩) (by show p < _; omega)).trans m3
    rw [NL.out] at q3
    clear cst
    by_cases hlt : j < nl
    · have hjl : j < l.length := by have := NL.out; omega
      obtain ⟨q, r, rfl, _, hqN, xs, hx5, hxv⟩ := VIs.item H2.out j hjl
      obtain ⟨g, rfl, hrow⟩ : ∃ g, A5 = some ⟨g, 0, none⟩ ∧ VRow wr w3.heap.size g l.length := by
        rcases C1.out.row with h | ⟨g, e, h, _⟩
        · subst h; simp at hjl
        · exact ⟨g, e, h⟩
      obtain ⟨hg1, hg2, C, hg3, hg4⟩ := hrow
      have hR := HRR.out
      have hcl := fun wq (hwq : Below w.heap.size w wq) => ih l[j] wq L N q (r + j * 5) xs (by have := HM.out; have := size_get (k := k) (n := n) (t := t) (ks := ks) j hjl; omega) (HS.out j hjl) (hx5.keep hqN fun z hz => (hwq.mono hN).cell hz) hqN (hxv.below (hwq.mono hN)) (Nat.le_trans hN hwq.size)
      rw [hR] at hcl
      have T := Lib.hid (fun w1 (d0 d1 d2 d3 d4 : Value) hb hv => C1.out.next (w1 := w1) (d0 := d0) (d1 := d1) (d2 := d2) (d3 := d3) (d4 := d4) hjl rfl hb hv)
      have HC := Lib.hid hcl; have HL := Lib.hid hlow
      have hform := fun (w1 : World) (La Na : Nat) ds (h : VIs w1 La Na l[j] ds) => h.form
      generalize l[j] = x at *
      have FORM := Lib.hid hform
      have hS := And.intro q3 p3
      have hq1 : R + 1 < wr.heap.size := by omega
      have hq2 : p < wr.heap.size := by omega
      have hne1 : R + 1 ≠ g := by omega
      have hne2 : p ≠ g := by omega
      have hj0 : (0 : Int) ≤ j := by omega
      have hj1 : (j : Int) < nl := by omega
      rw [NL.out] at hg4
      have HG3 := Lib.hid hg3
      clear hcl hx5 hxv hform HR m0 m1 m2 m4 hR
      go_wp2_with fail
      go_region_with (go_at_call 59; with_reducible refine (HC.out _ HL.out.drew).mono ?_; rintro e1 w1 ⟨⟨ds, rfl, hv1, -⟩, hb1⟩; obtain ⟨u1, u2, u3, u4, rfl⟩ := FORM.out w1 _ _ ds hv1; have hC1 := ((below_drew2 _ _ hb1).block g hg2).trans HG3.out; obtain ⟨y0, y1, y2, y3, y4, n0, n1, n2, n3, n4⟩ := five_of hC1 (o := j * 5) (by omega); have f0 := frozen_here hC1 (j * 5); have f1 := frozen_here hC1 (j * 5 + 1); have f2 := frozen_here hC1 (j * 5 + 2); have f3 := frozen_here hC1 (j * 5 + 3); have f4 := frozen_here hC1 (j * 5 + 4); have n3 := ((below_drew2 _ _ hb1).cell (p := ⟨R + 1, 3, none⟩) hq1).trans q3)
      all_goals
        have hv2 : VIs w1 wr.heap.size w1.heap.size x [.int .i64 x.kind, .int .i64 x.num, .string ⟨x.text.toArray⟩, .slice u1 x.list.length u2, .slice u3 x.keys.length u4] := by
          have e : wr.drew.heap.size = wr.heap.size := rfl
          rw [e] at hv1; exact hv1
        have hnx := T.out w1 _ _ _ _ _ (below_drew2 _ _ hb1) hv2
        have NX := Lib.hid hnx
        clear hnx hv1 hv2 n0 n1 n2 n3 n4 f0 f1 f2 f3 f4 hC1 T hb1
        go_wp2
        go_roundw
        case rel => exact ⟨j + 1, by omega, by go_num, NX.out⟩
        case measure => simp [intOf]; omega
    · obtain rfl : nl = j := by omega
      obtain ⟨⟨g0, g1, g2, g3, g4⟩, -⟩ := box_of C1.out.var
      obtain ⟨⟨e0, e1, e2, e3, e4⟩, f0, f1, f2, f3, f4⟩ := box_of C1.out.res
      rw [NL.out] at g3
      have hRR : R < R + 1 := by omega
      go_wp2
      obtain ⟨wf, hwf⟩ : ∃ wf, wf = set5 wr R 0 (.int .i64 k) (.int .i64 n) (.string ⟨t.toArray⟩) (.slice A5 nl c5) (.slice A3 ks.length c3) := ⟨_, rfl⟩
      change bodyPost _ _ _ _ _ (set5 wr R 0 (.int .i64 k) (.int .i64 n) (.string ⟨t.toArray⟩) (.slice A5 nl c5) (.slice A3 ks.length c3))
      rw [← hwf]
      have hx : wf.heap[R]? = some (.cells #[.int .i64 k, .int .i64 n, .string ⟨t.toArray⟩, .slice A5 nl c5, .slice A3 ks.length c3] 25 (0, 0)) := by rw [hwf]; exact set5_here C1.out.res
      have hvf : VIs wf w.heap.size wf.heap.size (.mk k n t l ks) [.int .i64 k, .int .i64 n, .string ⟨t.toArray⟩, .slice A5 nl c5, .slice A3 ks.length c3] := by
        have hsf : wf.heap.size = wr.heap.size := by rw [hwf, set5_size]
        have hoth : ∀ q : Addr, R + 1 ≤ q.block → wf.cell? q = wr.cell? q := fun q hq => by
          have hne : q.block ≠ R := by omega
          exact World.cell?_of_block (w := wr) (by rw [hwf]; exact set5_there hne)
        rw [← NL.out]
        refine VIs.mk HR.out ?_ ?_
        · rcases C1.out.key with h | ⟨b, e, h⟩
          · exact .inl h
          · exact .inr ⟨b, 0, e, (h.keep2 fun q h1 h2 => hoth q (by omega)).more (by have := HRR.out; omega) (by omega)⟩
        · rcases C1.out.row with h | ⟨g, e, ⟨hg1, hg2, _⟩, hrow⟩
          · exact .inl h
          · refine .inr ⟨g, 0, e, LIs.of (by have := HRR.out; omega) (by omega) fun i hi => ?_⟩
            obtain ⟨ds, d5, dv⟩ := hrow i hi (by have := NL.out; omega)
            obtain ⟨y0, y1, y2, y3, y4, ey, n0, n1, n2, n3, n4⟩ := d5
            refine ⟨ds, ⟨y0, y1, y2, y3, y4, ey, ?_, ?_, ?_, ?_, ?_⟩, ?_⟩
            · rw [Nat.zero_add]; exact (hoth _ (by show R + 1 ≤ g; omega)).trans n0
            · rw [Nat.zero_add]; exact (hoth _ (by show R + 1 ≤ g; omega)).trans n1
            · rw [Nat.zero_add]; exact (hoth _ (by show R + 1 ≤ g; omega)).trans n2
            · rw [Nat.zero_add]; exact (hoth _ (by show R + 1 ≤ g; omega)).trans n3
            · rw [Nat.zero_add]; exact (hoth _ (by show R + 1 ≤ g; omega)).trans n4
            · rw [hsf]
              exact (dv.keep2 fun q h1 h2 => hoth q (by omega)).more (by have := HRR.out; omega) (Nat.le_refl _)
      have hbf : Below w.heap.size w wf := by
        have hR := HRR.out
        rw [hwf, hR]; exact C1.out.low.trans (set5_below (Nat.le_refl _))
      obtain ⟨⟨x0, x1, x2, x3, x4⟩, -⟩ := box_of hx
      have htf : Thaw wf w.heap.size [.int .i64 k, .int .i64 n, .string ⟨t.toArray⟩, .slice A5 nl c5, .slice A3 ks.length c3] nl := by
        rcases C1.out.row with h | ⟨g, e, ⟨hg1, hg2, C, hg3, hg4⟩, _⟩
        · exact .inl (by rw [← NL.out, h]; rfl)
        · have h2 := C1.out.two
          have hR := HRR.out
          refine .inr ⟨g, c5, C, by rw [e]; rfl, by omega, ?_, by rw [← NL.out]; exact hg4⟩
          rw [hwf]; exact (set5_there (by omega)).trans hg3
      have HVF := Lib.hid hvf; have HBF := Lib.hid hbf; have HTF := Lib.hid htf
      clear hvf hbf htf hwf hx g0 g1 g2 g3 g4 e0 e1 e2 e3 e4 f0 f1 f2 f3 f4
      refine bodyPost_ret (v := .agg #[.int .i64 k, .int .i64 n, .string ⟨t.toArray⟩, .slice A5 nl c5, .slice A3 ks.length c3]) (by simp [results, Tryd.results59, go_sem, x0, x1, x2, x3, x4]) rfl ?_
      have NLo := NL.out
      exact ⟨⟨_, rfl, HVF.out, by show Thaw _ _ _ l.length; rw [NLo]; exact HTF.out⟩, HBF.out⟩
end Go.Proofs.YtobicmpgfiddhaaDoor
