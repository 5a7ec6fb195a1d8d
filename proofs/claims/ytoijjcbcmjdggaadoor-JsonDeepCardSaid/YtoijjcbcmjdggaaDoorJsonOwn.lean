/- JSON: the law JsonOwn. -/
import Derived.Test.YtoijjcbcmjdggaaDoorJsonField
import Derived.Test.YtoijjcbcmjdggaaDoorJsonKit
namespace Go.Proofs.YtoijjcbcmjdggaaDoor
open Go.RowKit

def ownX (n : Int) : V := .mk 5 0 [] [.mk 3 n [] [] []] []
def ownV (key : List UInt8) (n : Int) : V := .mk 6 0 [] [ownX n] [key]
theorem own_field (key : List UInt8) (n : Int) : fieldV key (ownV key n) = some (ownX n) := by
  simp [fieldV, ownV, keyAt]
theorem own_slim (key : List UInt8) (n : Int) : (ownV key n).slim 1000000 := by
  simp [ownV, ownX, V.slim, V.slims]
theorem own_depth (key : List UInt8) (n : Int) : (ownV key n).depth ≤ 65537 := by
  simp [ownV, ownX, depth_mk, depths_cons, depths_nil]
theorem heap_old {w : World} {b : Nat} (o : Obj) (h : b < w.heap.size) : (w.alloc o).heap[b]? = w.heap[b]? := Below.heap_alloc _ _ _ h
/-- four blocks: a key, a number, a list of it, an object of both -/
def ownW (key : List UInt8) (n : Int) (w : World) : World :=
  ((((w.alloc (.cells #[.string ⟨key.toArray⟩] 9)).alloc (.cells #[.int .i64 3, .int .i64 n, .string ⟨#[]⟩, .slice none 0 0, .slice none 0 0] 25)).alloc
    (.cells #[.int .i64 5, .int .i64 0, .string ⟨#[]⟩, .slice (some ⟨w.heap.size + 1, 0, none⟩) 1 1, .slice none 0 0] 25)).alloc
    (.cells #[.int .i64 6, .int .i64 0, .string ⟨#[]⟩, .slice (some ⟨w.heap.size + 1 + 1, 0, none⟩) 1 1, .slice (some ⟨w.heap.size, 0, none⟩) 1 1] 25))
theorem ownW_size (key : List UInt8) (n : Int) (w : World) : (ownW key n w).heap.size = w.heap.size + 4 := by unfold ownW; simp
theorem ownW_below (key : List UInt8) (n : Int) (w : World) : Below w.heap.size w (ownW key n w) := by
  unfold ownW
  exact ((((Below.refl _ _).alloc (Nat.le_refl _) _).alloc (by simp) _).alloc (by simp; omega) _).alloc (by simp; omega) _
theorem ownW_0 (key : List UInt8) (n : Int) (w : World) : (ownW key n w).heap[w.heap.size]? = some (.cells #[.string ⟨key.toArray⟩] 9 (0, 0)) := by
  unfold ownW
  rw [heap_old _ (by simp; omega), heap_old _ (by simp; omega), heap_old _ (by simp)]
  exact heap_alloc_last w _
theorem ownW_1 (key : List UInt8) (n : Int) (w : World) : (ownW key n w).heap[w.heap.size + 1]? = some (.cells #[.int .i64 3, .int .i64 n, .string ⟨#[]⟩, .slice none 0 0, .slice none 0 0] 25 (0, 0)) := by
  unfold ownW
  rw [heap_old _ (by simp), heap_old _ (by simp)]
  have := heap_alloc_last (w.alloc (.cells #[.string ⟨key.toArray⟩] 9)) (.cells #[.int .i64 3, .int .i64 n, .string ⟨#[]⟩, .slice none 0 0, .slice none 0 0] 25)
  simpa using this
theorem ownW_2 (key : List UInt8) (n : Int) (w : World) : (ownW key n w).heap[w.heap.size + 2]? = some (.cells #[.int .i64 5, .int .i64 0, .string ⟨#[]⟩, .slice (some ⟨w.heap.size + 1, 0, none⟩) 1 1, .slice none 0 0] 25 (0, 0)) := by
  unfold ownW
  rw [heap_old _ (by simp)]
  have := heap_alloc_last ((w.alloc (.cells #[.string ⟨key.toArray⟩] 9)).alloc (.cells #[.int .i64 3, .int .i64 n, .string ⟨#[]⟩, .slice none 0 0, .slice none 0 0] 25)) (.cells #[.int .i64 5, .int .i64 0, .string ⟨#[]⟩, .slice (some ⟨w.heap.size + 1, 0, none⟩) 1 1, .slice none 0 0] 25)
  simpa using this
theorem ownW_3 (key : List UInt8) (n : Int) (w : World) : (ownW key n w).heap[w.heap.size + 3]? = some (.cells #[.int .i64 6, .int .i64 0, .string ⟨#[]⟩, .slice (some ⟨w.heap.size + 1 + 1, 0, none⟩) 1 1, .slice (some ⟨w.heap.size, 0, none⟩) 1 1] 25 (0, 0)) := by
  unfold ownW
  have := heap_alloc_last (((w.alloc (.cells #[.string ⟨key.toArray⟩] 9)).alloc (.cells #[.int .i64 3, .int .i64 n, .string ⟨#[]⟩, .slice none 0 0, .slice none 0 0] 25)).alloc (.cells #[.int .i64 5, .int .i64 0, .string ⟨#[]⟩, .slice (some ⟨w.heap.size + 1, 0, none⟩) 1 1, .slice none 0 0] 25)) (.cells #[.int .i64 6, .int .i64 0, .string ⟨#[]⟩, .slice (some ⟨w.heap.size + 1 + 1, 0, none⟩) 1 1, .slice (some ⟨w.heap.size, 0, none⟩) 1 1] 25)
  simpa using this
theorem five_box {w : World} {b : Nat} {c0 c1 c2 c3 c4 : Value} {t : TypeId} {fr : Nat × Nat} (h : w.heap[b]? = some (.cells #[c0, c1, c2, c3, c4] t fr)) : Five w b 0 [c0, c1, c2, c3, c4] :=
  ⟨_, _, _, _, _, rfl, cell_here h, cell_here h, cell_here h, cell_here h, cell_here h⟩
theorem ownW_is (key : List UInt8) (n : Int) (w : World) (hk : key.length ≤ 100) : VIs (ownW key n w) w.heap.size (w.heap.size + 4) (ownV key n)
    [.int .i64 6, .int .i64 0, .string ⟨#[]⟩, .slice (some ⟨w.heap.size + 1 + 1, 0, none⟩) 1 1, .slice (some ⟨w.heap.size, 0, none⟩) 1 1] := by
  have hn : VIs (ownW key n w) w.heap.size (w.heap.size + 4) (.mk 3 n [] [] []) [.int .i64 3, .int .i64 n, .string ⟨#[]⟩, .slice none 0 0, .slice none 0 0] :=
    VIs.mk (A := none) (A' := none) (c := 0) (c' := 0) ⟨by simp, by simp, by simp, by simp⟩ (.inl rfl) (.inl rfl)
  have hx : VIs (ownW key n w) w.heap.size (w.heap.size + 4) (ownX n) [.int .i64 5, .int .i64 0, .string ⟨#[]⟩, .slice (some ⟨w.heap.size + 1, 0, none⟩) 1 1, .slice none 0 0] :=
    VIs.mk (A := some ⟨w.heap.size + 1, 0, none⟩) (A' := none) (c := 1) (c' := 0) (l := [.mk 3 n [] [] []]) ⟨by simp, by simp, by simp, by simp⟩ (.inl rfl) (.inr ⟨_, _, rfl, LIs.of (by omega) (by omega) fun i hi => by
      obtain rfl : i = 0 := by simpa using hi
      exact ⟨_, five_box (ownW_1 key n w), hn⟩⟩)
  refine VIs.mk (A := some ⟨w.heap.size + 1 + 1, 0, none⟩) (A' := some ⟨w.heap.size, 0, none⟩) (c := 1) (c' := 1) (l := [ownX n]) (ks := [key]) ⟨by simp, by simp, by simp, by simp; omega⟩ (.inr ⟨_, _, rfl, ?_⟩) (.inr ⟨_, _, rfl, LIs.of (by omega) (by omega) fun i hi => ?_⟩)
  · refine KIs.of (Nat.le_refl _) (by omega) fun i hi => ?_
    obtain rfl : i = 0 := by simpa using hi
    exact cell_here (ownW_0 key n w)
  · obtain rfl : i = 0 := by simpa using hi
    exact ⟨_, five_box (ownW_2 key n w), hx⟩
/-- the cells of a list of one number, in a new block -/
theorem ownX_cells {w : World} {L N B : Nat} {n : Int} {ds : List Value} (h : VIs w L N (ownX n) ds) (ht : Thaw w B ds 1) :
    ∃ g c D' d' C, ds = [.int .i64 5, .int .i64 0, .string ⟨#[]⟩, .slice (some ⟨g, 0, none⟩) 1 c, .slice D' 0 d'] ∧ B ≤ g ∧ g < N ∧ w.heap[g]? = some (.cells C 25 (0, 0)) ∧ w.cell? ⟨g, 1, none⟩ = some (.int .i64 n) := by
  obtain ⟨-, A, c, A', c', rfl, -, h2⟩ := h.out
  rcases ht with ht | ⟨g, c2, C, e, hB, hg, -⟩
  · cases ht
  · simp at e
    obtain ⟨rfl, rfl⟩ := e
    obtain ⟨b, o, e, -, hN, cs, h5, hv⟩ := VIs.item h2 0 (by simp)
    injection e with e; injection e with e1 e2; subst e1; subst e2
    obtain ⟨-, B1, d, B1', d', rfl, -, -⟩ := hv.out
    obtain ⟨c0, c1, c2, c3, c4, e, m0, m1, m2, m3, m4⟩ := h5
    injection e with e0 e; injection e with e1 e; subst e1
    exact ⟨g, c, A', c', C, rfl, hB, hN, hg, m1⟩
set_option maxRecDepth 100000 in
set_option maxHeartbeats 20000000 in
theorem jsonOwn_at (hans : ∀ w, KitIn w.heap.size w → Calls Tryd.prog 10 #[] w fun e w' => e = .returned (.bool true) ∧ Below w.heap.size w w')
    (key : List UInt8) (n : Int) (w : World) (hk : KitIn w.heap.size w) : Calls Tryd.prog 8 #[.string ⟨key.toArray⟩, .int .i64 n] w fun e w' => e = .returned (.bool true) ∧ Below w.heap.size w w' := by
  have HK := Lib.hid hk
  have hsz : (⟨key.toArray⟩ : ByteArray).size = key.length := by show key.toArray.size = _; simp
  obtain ⟨S, hS⟩ : ∃ S : ByteArray, (⟨key.toArray⟩ : ByteArray) = S := ⟨_, rfl⟩
  rw [hS] at hsz
  by_cases hb : 100 < key.length ∨ n < 0 ∨ 1000 < n
  · have HA := Lib.hid (hans w hk)
    clear hans
    rw [hS]
    have hsz' := Lib.hid hsz
    clear hS
    by_cases t1 : 100 < S.size
    · have t1' : decide ((100 : Int) < (S.size : Int)) = true := by simp; omega
      clear hb hsz t1
      go_enter Tryd.func8, Tryd.ntmps8
      go_wp2_with (go_at_call 10; refine (HA.out).mono ?_; rintro e1 w1 ⟨rfl, hb1⟩)
      go_ret
      exact ⟨rfl, hb1⟩
    · have t1' : decide ((100 : Int) < (S.size : Int)) = false := by simp; omega
      by_cases t2 : n < 0
      · have t2' : decide (n < 0) = true := by simpa using t2
        clear hb hsz t1
        go_enter Tryd.func8, Tryd.ntmps8
        go_wp2_with (go_at_call 10; refine (HA.out).mono ?_; rintro e1 w1 ⟨rfl, hb1⟩)
        go_ret
        exact ⟨rfl, hb1⟩
      · have t2' : decide (n < 0) = false := by simpa using t2
        have t3' : decide (1000 < n) = true := by simp; omega
        clear hb hsz t1
        go_enter Tryd.func8, Tryd.ntmps8
        go_wp2_with (go_at_call 10; refine (HA.out).mono ?_; rintro e1 w1 ⟨rfl, hb1⟩)
        go_ret
        exact ⟨rfl, hb1⟩
  · have h1 : S.size ≤ 100 := by omega
    have h2 : 0 ≤ n := by omega
    have h3 : n ≤ 1000 := by omega
    have t1 : decide ((100 : Int) < (S.size : Int)) = false := by simp; omega
    have t2 : decide (n < 0) = false := by simp; omega
    have t3 : decide (1000 < n) = false := by simp; omega
    have h4 := ownW_is key n w (by omega)
    have hf := fun wq (hb : Below (ownW key n w).heap.size (ownW key n w) wq) => field_any (ownV key n) key wq _ _ _ (own_slim key n) (own_depth key n) (h4.below (by rw [ownW_size] at hb; exact hb)) (by have := hb.size; rw [ownW_size] at this; exact this)
    rw [own_field, hS] at hf
    have r3 := ownW_3 key n w
    have r2 := ownW_2 key n w
    have r1 := ownW_1 key n w
    have HF := Lib.hid hf; have H4 := Lib.hid h4; have R3 := Lib.hid r3; have R2 := Lib.hid r2; have R1 := Lib.hid r1; have HS := Lib.hid hS; have HANS := Lib.hid hans
    rw [hS]
    clear hf h4 r3 r2 r1 hb hans hS hsz hk
    go_enter Tryd.func8, Tryd.ntmps8
    go_wp2_with fail
    obtain ⟨W4, hW4⟩ : ∃ W4, ownW key n w = W4 := ⟨_, rfl⟩
    have hW : ownW key n w = ((((w.alloc (.cells #[.string S] 9)).alloc (.cells #[.int .i64 3, .int .i64 n, .string ⟨#[]⟩, .slice none 0 0, .slice none 0 0] 25)).alloc
      (.cells #[.int .i64 5, .int .i64 0, .string ⟨#[]⟩, .slice (some ⟨w.heap.size + 1, 0, none⟩) 1 1, .slice none 0 0] 25)).alloc
      (.cells #[.int .i64 6, .int .i64 0, .string ⟨#[]⟩, .slice (some ⟨w.heap.size + 1 + 1, 0, none⟩) 1 1, .slice (some ⟨w.heap.size, 0, none⟩) 1 1] 25)) := by unfold ownW; rw [HS.out]
    rw [← hW]
    refine (HF.out _ (Below.refl _ _)).mono ?_
    rintro e5 w5 ⟨⟨ds, rfl, hx, ht⟩, hb5⟩
    dsimp only
    obtain ⟨g, c, D', d', C, rfl, hg1, hg2, hg3, hg4⟩ := ownX_cells hx ht
    rw [ownW_size] at hg1
    have hs5 := hb5.size
    rw [ownW_size] at hs5
    have r5 := (hb5.block (w.heap.size + 3) (by rw [ownW_size]; omega)).trans R3.out
    obtain ⟨⟨e0, e1, e2, e3, e4⟩, -⟩ := box_of r5
    have hf5 := frozen_here hg3 1
    obtain ⟨b3, hb3⟩ : ∃ b3, w.heap.size + 1 + 1 + 1 = b3 := ⟨_, rfl⟩
    have hb3' : w.heap.size + 3 = b3 := hb3
    rw [hb3'] at e0 e1 e2 e3 e4
    rw [hb3]
    have hne : g ≠ b3 := by omega
    have hne3 : b3 ≠ g := by omega
    have hlt : b3 < w5.heap.size := by omega
    have hne2 : g ≠ w5.heap.size := by omega
    have HB5 := Lib.hid hb5; have HB3 := Lib.hid hb3
    clear hW hx ht hb5 r5 hb3 hb3'
    go_wp2_with fail
    obtain ⟨W6, hW6⟩ : ∃ W6, W6 = ((w5.setCell ⟨g, 1, none⟩ (.int .i64 (n + 1))).alloc (.cells #[.int .i64 5, .int .i64 0, .string ⟨#[]⟩, .slice (some ⟨g, 0, none⟩) 1 c, .slice D' 0 d'] 25)) := ⟨_, rfl⟩
    rw [← hW6]
    have hb6 : Below (ownW key n w).heap.size (ownW key n w) W6 := by
      rw [hW6]
      exact (HB5.out.setCell (p := ⟨g, 1, none⟩) (by rw [ownW_size]; exact hg1) _).alloc (by rw [set_size]; exact HB5.out.size) _
    have hz6 : W6.heap.size = w5.heap.size + 1 := by rw [hW6, World.size_alloc, set_size]
    refine (HF.out _ hb6).mono ?_
    rintro e7 w7 ⟨⟨ds, rfl, hy, ht7⟩, hb7⟩
    dsimp only
    obtain ⟨g2, c2, D2, d2, C2, rfl, hq1, hq2, hq3, hq4⟩ := ownX_cells hy ht7
    have hb8 := (hb6.trans (hb7.mono hb6.size)).alloc (Nat.le_trans hb6.size hb7.size) (.cells #[.int .i64 5, .int .i64 0, .string ⟨#[]⟩, .slice (some ⟨g2, 0, none⟩) 1 c2, .slice D2 0 d2] 25)
    obtain ⟨W8, hW8⟩ : ∃ W8, W8 = w7.alloc (.cells #[.int .i64 5, .int .i64 0, .string ⟨#[]⟩, .slice (some ⟨g2, 0, none⟩) 1 c2, .slice D2 0 d2] 25) := ⟨_, rfl⟩
    rw [← hW8] at hb8
    have hbw8 : Below w.heap.size w W8 := (ownW_below key n w).trans (hb8.mono (by rw [ownW_size]; omega))
    have hk8 := (HK.out.below hbw8).more hbw8.size
    have hz8 : W8.heap.size = w7.heap.size + 1 := by rw [hW8, World.size_alloc]
    have y8 : W8.heap[w7.heap.size]? = some (.cells #[.int .i64 5, .int .i64 0, .string ⟨#[]⟩, .slice (some ⟨g2, 0, none⟩) 1 c2, .slice D2 0 d2] 25 (0, 0)) := by rw [hW8]; exact heap_alloc_last w7 _
    have q8 : W8.cell? ⟨g2, 1, none⟩ = some (.int .i64 n) := by rw [hW8]; exact (cell_block (heap_old _ hq2)).trans hq4
    have ha := HANS.out W8 hk8
    have HA := Lib.hid ha; have HB8 := Lib.hid hb8; have Y8 := Lib.hid y8; have Q8 := Lib.hid q8; have Z8 := Lib.hid hz8; have Q2 := Lib.hid hq2; have Q1 := Lib.hid hq1; have HBW := Lib.hid hbw8
    have HW8 := Lib.hid hW8
    clear hb6 hz6 hb7 hb8 hbw8 hk8 y8 q8 ha hy ht7 hq3 hq4 hW6 e0 e1 e2 e3 e4 hf5 hg3 hg4 hne hne3 hlt hne2 hg1 hg2 hs5 hW8 hz8 hq1 hq2
    go_wp2_with fail
    rw [← HW8.out]
    refine (HA.out).mono ?_
    rintro e9 w9 ⟨rfl, hb9⟩
    dsimp only
    have z8 := Z8.out
    have zz := HB8.out.size
    rw [ownW_size] at zz
    have y9 := (hb9.block w7.heap.size (by omega)).trans Y8.out
    obtain ⟨⟨-, -, -, y3, -⟩, -⟩ := box_of y9
    have q9 := (hb9.cell (p := ⟨g2, 1, none⟩) (by have := Q2.out; show g2 < _; omega)).trans Q8.out
    have v9 := (hb9.block (w.heap.size + 3) (by omega)).trans ((HB8.out.block (w.heap.size + 3) (by rw [ownW_size]; omega)).trans R3.out)
    have u9 := (hb9.block (w.heap.size + 2) (by omega)).trans ((HB8.out.block (w.heap.size + 2) (by rw [ownW_size]; omega)).trans R2.out)
    have x9 := (hb9.block (w.heap.size + 1) (by omega)).trans ((HB8.out.block (w.heap.size + 1) (by rw [ownW_size]; omega)).trans R1.out)
    have hb3 : w.heap.size + 3 = b3 := HB3.out
    rw [hb3] at v9
    obtain ⟨⟨-, -, -, v3, -⟩, -⟩ := box_of v9
    obtain ⟨⟨-, -, -, u3, -⟩, -⟩ := box_of u9
    obtain ⟨⟨-, x1, -, -, -⟩, -⟩ := box_of x9
    have u3' : w9.cell? ⟨w.heap.size + 1 + 1, 3, none⟩ = some (.slice (some ⟨w.heap.size + 1, 0, none⟩) 1 1) := u3
    have HB9 := Lib.hid (HBW.out.trans (hb9.mono HBW.out.size))
    clear y9 v9 u9 x9 hb3 u3 zz hb9 z8
    go_wp2_with fail
    go_ret
    exact ⟨rfl, HB9.out⟩
end Go.Proofs.YtoijjcbcmjdggaaDoor
