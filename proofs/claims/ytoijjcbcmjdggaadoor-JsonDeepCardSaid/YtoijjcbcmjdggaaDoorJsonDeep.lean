/- JSON: the law JsonDeep. -/
import Derived.Test.YtoijjcbcmjdggaaDoorJsonDeepV
import Derived.Test.YtoijjcbcmjdggaaDoorJsonFits
import Derived.Test.YtoijjcbcmjdggaaDoorJsonKit
import Derived.Test.YtoijjcbcmjdggaaDoorJsonOwn
namespace Go.Proofs.YtoijjcbcmjdggaaDoor
open Go.RowKit

theorem nestV_list (j : Nat) : nestV j = .mk 5 0 [] (nestV j).list [] := by cases j <;> rfl
/-- the variable of a list, in block R -/
structure DSt (R : Nat) (w wr : World) (v : V) (A : Option Addr) (c : Nat) : Prop where
  var : wr.heap[R]? = some (.cells #[.int .i64 5, .int .i64 0, .string ⟨#[]⟩, .slice A v.list.length c, .slice none 0 0] 25 (0, 0))
  is : VIs wr (R + 1) wr.heap.size v [.int .i64 5, .int .i64 0, .string ⟨#[]⟩, .slice A v.list.length c, .slice none 0 0]
  size : R + 1 ≤ wr.heap.size
  low : Below R w wr
theorem DSt.begin (w : World) : DSt w.heap.size w (w.alloc (.cells #[.int .i64 5, .int .i64 0, .string ⟨#[]⟩, .slice none 0 0, .slice none 0 0] 25)) (nestV (0 - 1)) none 0 :=
  ⟨heap_alloc_last _ _, VIs.mk (A := none) (A' := none) (c := 0) (c' := 0) (t := []) (l := []) (ks := []) ⟨by simp, by simp, by simp, by simp⟩ (.inl rfl) (.inl rfl), by simp, (Below.refl _ _).alloc (Nat.le_refl _) _⟩
theorem DSt.next {R : Nat} {w wr : World} {l : List V} {A : Option Addr} {c : Nat} (h : DSt R w wr (.mk 5 0 [] l []) A c) :
    DSt R w ((set5 wr R 0 (.int .i64 5) (.int .i64 0) (.string ⟨#[]⟩) (.slice (some ⟨wr.heap.size, 0, none⟩) 1 1) (.slice none 0 0)).alloc (.cells #[.int .i64 5, .int .i64 0, .string ⟨#[]⟩, .slice A l.length c, .slice none 0 0] 25))
      (.mk 5 0 [] [.mk 5 0 [] l []] []) (some ⟨wr.heap.size, 0, none⟩) 1 := by
  obtain ⟨h1, h2, h3, h4⟩ := h
  have hb : Below (R + 1) (wr) wr := Below.refl _ _
  have e1 := set5_here (o := 0) (c0 := .int .i64 5) (c1 := .int .i64 0) (c2 := .string ⟨#[]⟩) (c3 := .slice (some ⟨wr.heap.size, 0, none⟩) 1 1) (c4 := .slice none 0 0) h1
  have hsz : (set5 wr R 0 (.int .i64 5) (.int .i64 0) (.string ⟨#[]⟩) (.slice (some ⟨wr.heap.size, 0, none⟩) 1 1) (.slice none 0 0)).heap.size = wr.heap.size := set5_size _ _ _ _ _ _ _ _
  have hk : ∀ q : Addr, R + 1 ≤ q.block → q.block < wr.heap.size → ((set5 wr R 0 (.int .i64 5) (.int .i64 0) (.string ⟨#[]⟩) (.slice (some ⟨wr.heap.size, 0, none⟩) 1 1) (.slice none 0 0)).alloc (.cells #[.int .i64 5, .int .i64 0, .string ⟨#[]⟩, .slice A l.length c, .slice none 0 0] 25)).cell? q = wr.cell? q := fun q h1 h2 =>
    World.cell?_of_block (w := wr) ((heap_old _ (by rw [hsz]; exact h2)).trans (set5_there (by omega)))
  have hv := (h2.keep2 hk).more (Nat.le_refl _) (show wr.heap.size ≤ wr.heap.size + 1 by omega)
  refine ⟨(heap_old _ (by rw [hsz]; omega)).trans e1, ?_, by rw [World.size_alloc, hsz]; omega, (h4.trans (set5_below (Nat.le_refl _))).alloc (by rw [hsz]; omega) _⟩
  rw [World.size_alloc, hsz]
  refine VIs.mk (A := some ⟨wr.heap.size, 0, none⟩) (A' := none) (c := 1) (c' := 0) (l := [.mk 5 0 [] l []]) (ks := []) (t := []) ⟨by simp, by simp, by simp, by simp⟩ (.inl rfl) (.inr ⟨_, _, rfl, LIs.of (by omega) (by omega) fun i hi => ?_⟩)
  obtain rfl : i = 0 := by simpa using hi
  refine ⟨_, five_box (t := 25) (fr := (0, 0)) ?_, hv⟩
  have := heap_alloc_last (set5 wr R 0 (.int .i64 5) (.int .i64 0) (.string ⟨#[]⟩) (.slice (some ⟨wr.heap.size, 0, none⟩) 1 1) (.slice none 0 0)) (.cells #[.int .i64 5, .int .i64 0, .string ⟨#[]⟩, .slice A l.length c, .slice none 0 0] 25)
  rw [hsz] at this
  exact this
theorem nestV_pred {j : Nat} (h : j ≠ 0) : nestV (j + 1 - 1) = .mk 5 0 [] [nestV (j - 1)] [] := by
  obtain ⟨i, rfl⟩ : ∃ i, j = i + 1 := ⟨j - 1, by omega⟩
  rfl
theorem DSt.round {w wr : World} {j : Nat} {A : Option Addr} {c : Nat} (h : DSt w.heap.size w wr (nestV (j - 1)) A c) (hj : j ≠ 0) :
    DSt w.heap.size w ((set5 wr w.heap.size 0 (.int .i64 5) (.int .i64 0) (.string ⟨#[]⟩) (.slice (some ⟨wr.heap.size, 0, none⟩) 1 1) (.slice none 0 0)).alloc (.cells #[.int .i64 5, .int .i64 0, .string ⟨#[]⟩, .slice A (nestV (j - 1)).list.length c, .slice none 0 0] 25))
      (nestV (j + 1 - 1)) (some ⟨wr.heap.size, 0, none⟩) 1 := by
  rw [nestV_pred hj]
  have e := nestV_list (j - 1)
  generalize nestV (j - 1) = v at *
  rw [e] at h ⊢
  exact h.next
/-- a row of values of which the first j are nothing's -/
structure NRow (C : Array Value) (q j : Nat) : Prop where
  size : C.size = q * 5
  at' : ∀ r, r < q → C[r * 5]? = some (.int .i64 (if r < j then 1 else 0)) ∧ C[r * 5 + 1]? = some (.int .i64 0) ∧ C[r * 5 + 2]? = some (.string ⟨#[]⟩) ∧ C[r * 5 + 3]? = some (.slice none 0 0) ∧ C[r * 5 + 4]? = some (.slice none 0 0)
theorem made_at (z : Array Value) (n i : Nat) (h : i < n) : (madeCells z n)[i]? = some (z[i % z.size]!) := by
  unfold madeCells
  rw [Array.getElem?_map, Array.getElem?_range]
  simp [h]
theorem NRow.begin (q : Nat) : NRow (madeCells #[.int .i64 0, .int .i64 0, .string ⟨#[]⟩, .slice none 0 0, .slice none 0 0] (q * 5)) q 0 := by
  refine ⟨size_madeCells _ _, fun r hr => ?_⟩
  rw [made_at _ _ _ (by omega), made_at _ _ _ (by omega), made_at _ _ _ (by omega), made_at _ _ _ (by omega), made_at _ _ _ (by omega)]
  have h : (#[Value.int .i64 0, .int .i64 0, .string ⟨#[]⟩, .slice none 0 0, .slice none 0 0] : Array Value).size = 5 := rfl
  rw [h, show r * 5 % 5 = 0 by omega, show (r * 5 + 1) % 5 = 1 by omega, show (r * 5 + 2) % 5 = 2 by omega, show (r * 5 + 3) % 5 = 3 by omega, show (r * 5 + 4) % 5 = 4 by omega]
  exact ⟨rfl, rfl, rfl, rfl, rfl⟩
theorem NRow.next {C : Array Value} {q j : Nat} (h : NRow C q j) (hj : j < q) : NRow (C.setIfInBounds (j * 5) (.int .i64 1)) q (j + 1) := by
  refine ⟨by rw [Array.size_setIfInBounds]; exact h.size, fun r hr => ?_⟩
  obtain ⟨a0, a1, a2, a3, a4⟩ := h.at' r hr
  have hs := h.size
  simp only [Array.getElem?_setIfInBounds]
  refine ⟨?_, by rw [if_neg (by omega)]; exact a1, by rw [if_neg (by omega)]; exact a2, by rw [if_neg (by omega)]; exact a3, by rw [if_neg (by omega)]; exact a4⟩
  by_cases hrj : j = r
  · subst hrj
    rw [if_pos rfl, if_pos (by omega), if_pos (by omega)]
  · rw [if_neg (by omega), a0]
    by_cases h2 : r < j
    · rw [if_pos h2, if_pos (by omega)]
    · rw [if_neg h2, if_neg (by omega)]
theorem NRow.whole {C : Array Value} {q g c : Nat} {wr : World} (h : NRow C q q) (hg : wr.heap[g]? = some (.cells C 25 (0, 0))) (hlt : g < wr.heap.size) (hq : q < 80) :
    VIs wr 0 wr.heap.size (nullsV q) [.int .i64 5, .int .i64 0, .string ⟨#[]⟩, .slice (some ⟨g, 0, none⟩) q c, .slice none 0 0] := by
  have hl : (List.replicate q nullV).length = q := List.length_replicate
  have := VIs.mk (w := wr) (L := 0) (N := wr.heap.size) (k := 5) (n := 0) (t := []) (l := List.replicate q nullV) (ks := []) (A := some ⟨g, 0, none⟩) (A' := none) (c := c) (c' := 0) ⟨by rw [hl]; omega, by simp, by simp, by simp⟩ (.inl rfl)
    (.inr ⟨g, 0, rfl, LIs.of (Nat.zero_le _) hlt fun i hi => by
      rw [hl] at hi
      obtain ⟨a0, a1, a2, a3, a4⟩ := h.at' i hi
      rw [if_pos hi] at a0
      rw [Nat.zero_add]
      refine ⟨_, ⟨_, _, _, _, _, rfl, (cell_here hg).trans a0, (cell_here hg).trans a1, (cell_here hg).trans a2, (cell_here hg).trans a3, (cell_here hg).trans a4⟩, ?_⟩
      rw [List.getElem_replicate]
      exact VIs.mk (A := none) (A' := none) (c := 0) (c' := 0) (t := []) (l := []) (ks := []) ⟨by simp, by simp, by simp, by simp⟩ (.inl rfl) (.inl rfl)⟩)
  rw [hl] at this
  exact this
set_option maxRecDepth 100000 in
set_option maxHeartbeats 20000000 in
theorem jsonDeep_at (hans : ∀ w, KitIn w.heap.size w → Calls Tryd.prog 10 #[] w fun e w' => e = .returned (.bool true) ∧ Below w.heap.size w w')
    (hparse : ∀ (s : List UInt8), s.length ≤ 140737488355328 → ∀ w, KitIn w.heap.size w → Calls Tryd.prog 15 #[.string ⟨s.toArray⟩] w fun e w' => (∃ cs, e = .returned (.tuple #[.agg cs.toArray, .int .i64 (parseV s).2]) ∧ VIs w' w.heap.size w'.heap.size (parseV s).1 cs) ∧ Below w.heap.size w w')
    (n m : Int) (hn : 0 ≤ n ∧ n < 256) (hm : 0 ≤ m ∧ m < 256) (w : World) (hk : KitIn w.heap.size w) : Calls Tryd.prog 7 #[.int .u8 n, .int .u8 m] w fun e w' => e = .returned (.bool true) ∧ Below w.heap.size w w' := by
  have HK := Lib.hid hk; have HANS := Lib.hid hans; have HP := Lib.hid hparse
  clear hk hans hparse
  obtain ⟨k, hk⟩ : ∃ k : Nat, n % 12 = k := ⟨(n % 12).toNat, by omega⟩
  obtain ⟨q, hq⟩ : ∃ q : Nat, m % 80 = q := ⟨(m % 80).toNat, by omega⟩
  have hk1 : k < 12 := by omega
  have hq1 : q < 80 := by omega
  obtain ⟨hn0, hn1⟩ := hn
  obtain ⟨hm0, hm1⟩ := hm
  have st0 := DSt.begin w
  have ST0 := Lib.hid st0
  clear st0
  obtain ⟨i0, hi, hz0, hz1, hz2⟩ := info_parts Tryd.infoValue
  obtain ⟨M, hM⟩ : ∃ M, M = madeCells #[.int .i64 0, .int .i64 0, .string ⟨#[]⟩, .slice none 0 0, .slice none 0 0] (q * 5) := ⟨_, rfl⟩
  have hmk : ∀ W, (Instr.makeSlice 22 (.int .i64 (q : Int)) (.int .i64 (q : Int))).run Tryd.prog W = .ok (.slice (some ⟨W.heap.size, 0, none⟩) q q) (W.alloc (.cells M 25)) := fun W => by
    have := run_makeSlice W 22 25 i0 _ Tryd.underlying22 hi hz0 .i64 .i64 (q : Int) (q : Int) (by omega) (Int.le_refl _) (by rw [hz1]; simp; omega) (by rw [hz2]; omega) (by omega)
    rw [hz1] at this
    have hcz : (Value.agg #[Value.int .i64 0, .int .i64 0, .string ⟨#[]⟩, .slice none 0 0, .slice none 0 0]).cells = #[Value.int .i64 0, .int .i64 0, .string ⟨#[]⟩, .slice none 0 0, .slice none 0 0] := by kernel_rfl
    rw [hcz] at this
    rw [hM]
    simpa using this
  have HM := Lib.hid hM
  clear hi hz0 hz1 hz2 hM
  go_enter Tryd.func7, Tryd.ntmps7
  go_wp2_with fail
  go_loopw [7, 9] (fun s i wr => ∃ (j : Nat) (A : Option Addr) (c : Nat), j ≤ k + 1 ∧ i = .int .i64 j ∧ s = .string ⟨(nestT j).toArray⟩ ∧ DSt w.heap.size w wr (nestV (j - 1)) A c) (fun _ i _ => k + 1 - (intOf i).toNat)
  case atStart => exact ⟨0, none, 0, Nat.zero_le _, rfl, rfl, ST0.out⟩
  case round =>
    obtain ⟨j, A, c, hj, rfl, rfl, st⟩ := hrel
    have ST := Lib.hid st
    by_cases hlt : j < k + 1
    · obtain ⟨S, hS⟩ : ∃ S : ByteArray, S = ⟨(nestT j).toArray⟩ := ⟨_, rfl⟩
      have hsz : S.size = 2 * j := by rw [hS, ← nestT_len j]; show (nestT j).toArray.size = _; simp
      have e1 : ∀ W, (Op.stringOp .add ⟨#[91]⟩ S).run Tryd.prog W = .ok (.string (⟨#[91]⟩ ++ S)) W := fun W => run_string_add_sum W _ _ (by show 1 + S.size ≤ _; omega)
      have e2 : ∀ W, (Op.stringOp .add (⟨#[91]⟩ ++ S) ⟨#[93]⟩).run Tryd.prog W = .ok (.string ((⟨#[91]⟩ ++ S) ++ ⟨#[93]⟩)) W := fun W => run_string_add_sum W _ _ (by rw [ByteArray.size_append]; show 1 + S.size + 1 ≤ _; omega)
      have e3 : (⟨#[91]⟩ ++ S) ++ ⟨#[93]⟩ = (⟨(nestT (j + 1)).toArray⟩ : ByteArray) := by
        rw [hS]; apply ByteArray.ext; simp [ByteArray.data_append, nestT]
      have E3 := Lib.hid e3
      rw [← hS]
      clear e3 hS
      by_cases hj0 : j = 0
      · subst hj0
        clear st
        go_wp2_with fail
        go_roundw
        case rel => exact ⟨1, A, c, by omega, rfl, by rw [E3.out], ST.out⟩
        case measure => simp [intOf]
      · have t1 : decide ((0 : Int) < (j : Int)) = true := by simp; omega
        obtain ⟨⟨x0, x1, x2, x3, x4⟩, f0, f1, f2, f3, f4⟩ := box_of st.var
        have hz : w.heap.size < wr.heap.size := st.size
        clear st
        go_wp2_with fail
        go_roundw
        case rel => exact ⟨j + 1, some ⟨wr.heap.size, 0, none⟩, 1, by omega, by go_num, by rw [E3.out], ST.out.round hj0⟩
        case measure => simp [intOf]; omega
    · obtain rfl : j = k + 1 := by omega
      obtain ⟨wp, rfl⟩ : ∃ wp, wp = wr := ⟨_, rfl⟩
      have hsl : (nestT (k + 1)).length = 2 * (k + 1) := nestT_len _
      obtain ⟨PV, hPV⟩ : ∃ PV, parseV (nestT (k + 1)) = PV := ⟨_, rfl⟩
      have hp := HP.out (nestT (k + 1)) (by omega) wp ((HK.out.below st.low).more (by have := st.size; omega))
      rw [hPV] at hp
      obtain ⟨S, hS⟩ : ∃ S : ByteArray, S = ⟨(nestT (k + 1)).toArray⟩ := ⟨_, rfl⟩
      rw [← hS] at hp ⊢
      have HPP := Lib.hid hp; have HPV := Lib.hid hPV; have HS := Lib.hid hS
      clear hp hPV hS hsl st
      go_wp2_with fail
      refine (HPP.out).mono ?_
      rintro e2 w2 ⟨⟨cs, rfl, hv2⟩, hb2⟩
      dsimp only
      obtain ⟨x1, x2, x3, x4, rfl⟩ := hv2.form
      have HB2 := Lib.hid hb2
      clear hv2 hb2
      go_wp2_with fail
      obtain ⟨W4, hW4⟩ : ∃ W4, W4 = (((w2.alloc (.cells #[.int .i64 PV.1.kind, .int .i64 PV.1.num, .string ⟨PV.1.text.toArray⟩, .slice x1 PV.1.list.length x2, .slice x3 PV.1.keys.length x4] 25)).alloc (.cells M 25)).alloc (.cells #[.int .i64 5, .int .i64 0, .string ⟨#[]⟩, .slice (some ⟨w2.heap.size + 1, 0, none⟩) q q, .slice none 0 0] 25)) := ⟨_, rfl⟩
      rw [← hW4]
      have g4 : W4.heap[w2.heap.size + 1]? = some (.cells M 25 (0, 0)) := by
        rw [hW4, heap_old _ (by simp)]
        have := heap_alloc_last (w2.alloc (.cells #[.int .i64 PV.1.kind, .int .i64 PV.1.num, .string ⟨PV.1.text.toArray⟩, .slice x1 PV.1.list.length x2, .slice x3 PV.1.keys.length x4] 25)) (.cells M 25)
        simpa using this
      have b4 : W4.heap[w2.heap.size + 1 + 1]? = some (.cells #[.int .i64 5, .int .i64 0, .string ⟨#[]⟩, .slice (some ⟨w2.heap.size + 1, 0, none⟩) q q, .slice none 0 0] 25 (0, 0)) := by
        rw [hW4]
        have := heap_alloc_last ((w2.alloc (.cells #[.int .i64 PV.1.kind, .int .i64 PV.1.num, .string ⟨PV.1.text.toArray⟩, .slice x1 PV.1.list.length x2, .slice x3 PV.1.keys.length x4] 25)).alloc (.cells M 25)) (.cells #[.int .i64 5, .int .i64 0, .string ⟨#[]⟩, .slice (some ⟨w2.heap.size + 1, 0, none⟩) q q, .slice none 0 0] 25)
        simpa using this
      have hw24 : Below w2.heap.size w2 W4 := by rw [hW4]; exact (((Below.refl _ _).alloc (Nat.le_refl _) _).alloc (by simp) _).alloc (by simp; omega) _
      have z4 : W4.heap.size = w2.heap.size + 3 := by rw [hW4]; simp
      have n4 : NRow M q 0 := by rw [HM.out]; exact NRow.begin q
      obtain ⟨g, hg⟩ : ∃ g, w2.heap.size + 1 = g := ⟨_, rfl⟩
      obtain ⟨b, hb⟩ : ∃ b, g + 1 = b := ⟨_, rfl⟩
      have Z4 := Lib.hid z4
      rw [hg] at g4 b4 ⊢
      rw [hb] at b4 ⊢
      have hgb : g ≠ b := by omega
      have hgs : b < W4.heap.size := by omega
      have G4 := Lib.hid g4; have B4 := Lib.hid b4; have W24 := Lib.hid hw24; have N4 := Lib.hid n4; have HG := Lib.hid hg; have HB := Lib.hid hb
      clear hW4 g4 b4 hw24 z4 n4 hg hb
      go_loopw [13] (fun i wr => ∃ (j : Nat) (C : Array Value), j ≤ q ∧ i = .int .i64 j ∧ wr.heap[g]? = some (.cells C 25 (0, 0)) ∧ NRow C q j ∧ wr.heap[b]? = some (.cells #[.int .i64 5, .int .i64 0, .string ⟨#[]⟩, .slice (some ⟨g, 0, none⟩) q q, .slice none 0 0] 25 (0, 0)) ∧ Below g W4 wr) (fun i _ => q - (intOf i).toNat)
      case atStart => exact ⟨0, M, Nat.zero_le _, rfl, G4.out, N4.out, B4.out, Below.refl _ _⟩
      case round =>
        obtain ⟨j, C, hj, rfl, hg, hn, hb, hbw⟩ := hrel
        by_cases hlt : j < q
        · have hj0 : (0 : Int) ≤ j := by omega
          have hj1 : (j : Int) < q := by omega
          obtain ⟨a0, -⟩ := hn.at' j hlt
          have c0 := (cell_here hg).trans a0
          have f0 := frozen_here hg (j * 5)
          obtain ⟨⟨-, -, -, e3, -⟩, -⟩ := box_of hb
          have HGG := Lib.hid hg; have HN := Lib.hid hn; have HBB := Lib.hid hb; have HBW := Lib.hid hbw
          clear hg hn hb hbw a0
          go_wp2_with fail
          go_roundw
          case rel => exact ⟨j + 1, _, by omega, by go_num, set_here HGG.out _, HN.out.next hlt, (set_there _ (fun e => hgb e.symm)).trans HBB.out, HBW.out.setCell (p := ⟨g, j * 5, none⟩) (Nat.le_refl _) _⟩
          case measure => simp [intOf]; omega
        · obtain rfl : j = q := by omega
          have hG := HG.out
          have hB := HB.out
          have hst := ST.out
          have hsz := hst.size
          have hb2 := HB2.out
          have hs2 := hb2.size
          have h24 := W24.out
          have hs4 := h24.size
          have hsq := hbw.size
          have hrq : Below wp.heap.size wp wr := (hb2.trans (h24.mono hs2)).trans (hbw.mono (by omega))
          have hwq : Below w.heap.size w wr := hst.low.trans (hrq.mono (by omega))
          have ha := HANS.out wr ((HK.out.below hwq).more hwq.size)
          have rq := (hrq.block w.heap.size (by omega)).trans hst.var
          have vq := hst.is.below hrq
          have lq := hn.whole (c := j) hg (by omega) (by omega)
          have hpv := HPV.out
          rw [nest_parse k hk1] at hpv
          have e1 : k + 1 - 1 = k := by omega
          rw [e1] at rq vq
          have HA := Lib.hid ha; have RQ := Lib.hid rq; have VQ := Lib.hid vq; have LQ := Lib.hid lq; have HWQ := Lib.hid hwq; have SQ := Lib.hid hsq; have BQ := Lib.hid hb; have RQ2 := Lib.hid hrq
          have hge : b < wr.heap.size := by omega
          have hge2 : wp.heap.size ≤ wr.heap.size := by omega
          have hge3 : w.heap.size < wr.heap.size := by omega
          clear ha rq vq lq hwq hst hb2 h24 hrq hg hn hb hbw e1 hsz hs2 hs4 hsq hG hB
          obtain ⟨d, hd⟩ : ∃ d : Bool, decide (k + 1 ≤ 8) = d := ⟨_, rfl⟩
          have t1 : decide ((k : Int) + 1 ≤ 8) = d := by rw [← hd]; exact decide_eq_decide.2 (by omega)
          obtain ⟨f, hf⟩ : ∃ f : Bool, decide (j ≤ 64) = f := ⟨_, rfl⟩
          have t2 : decide ((j : Int) ≤ 64) = f := by rw [← hf]; exact decide_eq_decide.2 (by omega)
          have hgv := fun w6 (hb6 : Below wr.heap.size wr w6) => good_any (nestV k) w6 _ _ _ (VQ.out.below (hb6.mono hge2)) (Nat.le_trans hge2 hb6.size)
          rw [nest_fits, hd] at hgv
          have hgl := fun w6 (hb6 : Below wr.heap.size wr w6) => good_any (nullsV j) w6 _ _ _ (LQ.out.below hb6) hb6.size
          rw [nulls_fits, hf] at hgl
          have HGV := Lib.hid hgv; have HGL := Lib.hid hgl
          have hpe : PV.2 = if d = true then 0 else 4 := by
            rw [← hpv]
            cases d with
            | true => rw [if_pos (of_decide_eq_true hd)]; rfl
            | false => rw [if_neg (of_decide_eq_false hd)]; rfl
          rw [hpe]
          clear hgv hgl hd hf hpe hpv
          cases d with
          | true =>
            rw [if_pos rfl]
            go_wp2_with fail
            refine (HA.out).mono ?_
            rintro e6 w6 ⟨rfl, hb6⟩
            dsimp only
            have r6 := (hb6.block w.heap.size hge3).trans RQ.out
            have g6 := HGV.out w6 hb6
            obtain ⟨⟨a0, a1, a2, a3, a4⟩, -⟩ := box_of r6
            have G6 := Lib.hid g6; have H6 := Lib.hid hb6
            clear r6 g6 hb6
            go_wp2_with fail
            refine (G6.out).mono ?_
            rintro e7 w7 ⟨rfl, hb7⟩
            dsimp only
            have hb7' := H6.out.trans (hb7.mono H6.out.size)
            have b7 := (hb7'.block b hge).trans BQ.out
            have g7 := HGL.out w7 hb7'
            clear a0 a1 a2 a3 a4
            obtain ⟨⟨a0, a1, a2, a3, a4⟩, -⟩ := box_of b7
            have G7 := Lib.hid g7; have H7 := Lib.hid hb7'
            clear b7 g7 hb7 hb7'
            go_wp2_with fail
            refine (G7.out).mono ?_
            rintro e8 w8 ⟨rfl, hb8⟩
            dsimp only
            have hb9 := H7.out.trans (hb8.mono H7.out.size)
            have H9 := Lib.hid (HWQ.out.trans (hb9.mono (Nat.le_of_lt hge3)))
            clear a0 a1 a2 a3 a4 hb8 hb9
            go_wp2_with fail
            go_ret
            exact ⟨rfl, H9.out⟩
          | false =>
            rw [if_neg (by decide)]
            go_wp2_with fail
            refine (HA.out).mono ?_
            rintro e6 w6 ⟨rfl, hb6⟩
            dsimp only
            have r6 := (hb6.block w.heap.size hge3).trans RQ.out
            have g6 := HGV.out w6 hb6
            obtain ⟨⟨a0, a1, a2, a3, a4⟩, -⟩ := box_of r6
            have G6 := Lib.hid g6; have H6 := Lib.hid hb6
            clear r6 g6 hb6
            go_wp2_with fail
            refine (G6.out).mono ?_
            rintro e7 w7 ⟨rfl, hb7⟩
            dsimp only
            have hb7' := H6.out.trans (hb7.mono H6.out.size)
            have b7 := (hb7'.block b hge).trans BQ.out
            have g7 := HGL.out w7 hb7'
            clear a0 a1 a2 a3 a4
            obtain ⟨⟨a0, a1, a2, a3, a4⟩, -⟩ := box_of b7
            have G7 := Lib.hid g7; have H7 := Lib.hid hb7'
            clear b7 g7 hb7 hb7'
            go_wp2_with fail
            refine (G7.out).mono ?_
            rintro e8 w8 ⟨rfl, hb8⟩
            dsimp only
            have hb9 := H7.out.trans (hb8.mono H7.out.size)
            have H9 := Lib.hid (HWQ.out.trans (hb9.mono (Nat.le_of_lt hge3)))
            clear a0 a1 a2 a3 a4 hb8 hb9
            go_wp2_with fail
            go_ret
            exact ⟨rfl, H9.out⟩
end Go.Proofs.YtoijjcbcmjdggaaDoor
