/- Texts merged by program, in build order: CliSeen. -/
import Derived.Test.YtiofgepfcacgjaaDoorG10
set_option linter.unusedVariables false
set_option linter.unusedSimpArgs false
namespace Go.Proofs.YtiofgepfcacgjaaDoor
open Go.RowKit Go.Shelf
set_option linter.unusedVariables false
set_option linter.unusedSimpArgs false

set_option maxRecDepth 100000 in
set_option maxHeartbeats 4000000 in
theorem clientSeen_any (K S : ByteArray) (A : Option Addr) (n c : Nat) (x : List UInt8) (hK : K = ⟨x.toArray⟩) (hx : x.length ≤ maxLen) (D : DataW Unit) (n0 : Nat) (hn0 : n0 < maxLen) (M I Q : Nat) (w : World) (hM : w.cell? ⟨M, 0, none⟩ = some (.map (some Q))) (hI : w.cell? ⟨I, 0, none⟩ = some (.func (.func 23) #[] #[])) (hMl : M < w.heap.size) (hIl : I < w.heap.size)
    (hMQ : M ≠ Q) (hIQ : I ≠ Q) (hown : w.ownsMap Tryd.prog 9 (unitElem (H := Unit)) Q n0 D) :
    Calls Tryd.prog 44 #[.agg #[.string K, .string S, .slice A n c], .pointer (some ⟨M, 0, none⟩), .pointer (some ⟨I, 0, none⟩)] w fun e w' => e = .returned (.bool (Maps.has D (.string x))) ∧ w'.ownsMap Tryd.prog 9 (unitElem (H := Unit)) Q (n0 + 1) (D.put (.string x) (.agg [])) ∧ ButO w.heap.size Q w w' := by
  have eg := enters_of Tryd.func23 (by kernel_rfl) rfl
  have hQl := hown.lt
  obtain ⟨W1, hW1⟩ : ∃ W1, W1 = w.alloc (.cells #[.string K, .string S, .slice A n c] 32) := ⟨_, rfl⟩
  have b1 : Below w.heap.size w W1 := by rw [hW1]; exact (Below.refl _ _).alloc (Nat.le_refl _) _
  have z1 : W1.heap.size = w.heap.size + 1 := by rw [hW1]; simp
  have k1 : W1.heap[w.heap.size]? = some (.cells #[.string K, .string S, .slice A n c] 32 (0, 0)) := by rw [hW1]; exact heap_alloc_last w _
  have own1 := seen_kept hown b1
  obtain ⟨h, hh⟩ : ∃ h, Maps.has D (.string x) = h := ⟨_, rfl⟩
  have ST : ∀ W, Below W1.heap.size W1 W → ((W.cell? ⟨w.heap.size, 0, none⟩ = some (.string K) ∧ W.cell? ⟨w.heap.size, 1, none⟩ = some (.string S) ∧ W.cell? ⟨w.heap.size, 2, none⟩ = some (.slice A n c) ∧ W.cell? ⟨M, 0, none⟩ = some (.map (some Q)) ∧ W.cell? ⟨I, 0, none⟩ = some (.func (.func 23) #[] #[])) ∧ (Instr.lookup 67 (.map (some Q)) (.string K) true).run Tryd.prog W = .ok (.tuple #[.agg #[], .bool h]) W) ∧ Below W1.heap.size W1 W := fun W hb =>
    ⟨⟨⟨(hb.cell (p := ⟨w.heap.size, 0, none⟩) (by show w.heap.size < _; omega)).trans (cell_here k1), (hb.cell (p := ⟨w.heap.size, 1, none⟩) (by show w.heap.size < _; omega)).trans (cell_here k1), (hb.cell (p := ⟨w.heap.size, 2, none⟩) (by show w.heap.size < _; omega)).trans (cell_here k1), (hb.cell (p := ⟨M, 0, none⟩) (by show M < _; omega)).trans ((b1.cell (p := ⟨M, 0, none⟩) hMl).trans hM), (hb.cell (p := ⟨I, 0, none⟩) (by show I < _; omega)).trans ((b1.cell (p := ⟨I, 0, none⟩) hIl).trans hI)⟩, by rw [← hh, hK]; exact seen_look (seen_kept own1 hb) x hx⟩, hb⟩
  have ST2 : ∀ W, ButO W1.heap.size Q W1 W → (W.cell? ⟨w.heap.size, 0, none⟩ = some (.string K) ∧ W.cell? ⟨w.heap.size, 1, none⟩ = some (.string S) ∧ W.cell? ⟨w.heap.size, 2, none⟩ = some (.slice A n c) ∧ W.cell? ⟨M, 0, none⟩ = some (.map (some Q)) ∧ W.cell? ⟨I, 0, none⟩ = some (.func (.func 23) #[] #[])) ∧ ButO W1.heap.size Q W1 W := fun W hb =>
    ⟨⟨(cell_block (hb.block _ (by omega) (by omega))).trans (cell_here k1), (cell_block (hb.block _ (by omega) (by omega))).trans (cell_here k1), (cell_block (hb.block _ (by omega) (by omega))).trans (cell_here k1), (cell_block (hb.block _ (by omega) hMQ)).trans ((b1.cell (p := ⟨M, 0, none⟩) hMl).trans hM), (cell_block (hb.block _ (by omega) hIQ)).trans ((b1.cell (p := ⟨I, 0, none⟩) hIl).trans hI)⟩, hb⟩
  have up : ∀ W, Below W1.heap.size W1 W → ∃ w', (Instr.mapUpdate 67 (.map (some Q)) (.string K) (.agg #[])).run Tryd.prog W = .ok () w' ∧ w'.ownsMap Tryd.prog 9 (unitElem (H := Unit)) Q (n0 + 1) (D.put (.string x) (.agg [])) ∧ ButO W.heap.size Q W w' := fun W hb => by rw [hK]; exact seen_put (seen_kept own1 hb) hn0 x hx
  have hc := fun W => clientID_any K S A n c W
  rw [hh]
  have STH := Lib.hid ST; have STH2 := Lib.hid ST2; have HC := Lib.hid hc; have HW := Lib.hid hW1; have HB1 := Lib.hid b1; have Z1 := Lib.hid z1; have UP := Lib.hid up
  clear ST ST2 hc hW1 b1 k1 z1 hM hI hMl hIl own1 hown hh up hK hx hn0 hQl hMQ hIQ
  go_enter Tryd.func44, Tryd.ntmps44
  go_upto_region 1 with fail
  rw [← HW.out]
  go_region_held3 (fun W => ((W.cell? ⟨w.heap.size, 0, none⟩ = some (.string K) ∧ W.cell? ⟨w.heap.size, 1, none⟩ = some (.string S) ∧ W.cell? ⟨w.heap.size, 2, none⟩ = some (.slice A n c) ∧ W.cell? ⟨M, 0, none⟩ = some (.map (some Q)) ∧ W.cell? ⟨I, 0, none⟩ = some (.func (.func 23) #[] #[])) ∧ (Instr.lookup 67 (.map (some Q)) (.string K) true).run Tryd.prog W = .ok (.tuple #[.agg #[], .bool h]) W) ∧ Below W1.heap.size W1 W)
    (first | exact STH.out _ (by repeat (first | (with_reducible exact Below.refl _ _) | (with_reducible apply Below.drew) | (with_reducible refine Below.alloc ?_ (by (first | omega | (simp only [World.size_alloc, World.size_drew, set_size]; omega) | (simp; omega))) _) | (with_reducible refine Below.setCell ?_ (by (first | omega | (simp only [World.size_alloc, World.size_drew, set_size]; omega) | (simp; omega))) _) | (with_reducible refine Below.chain ?_ hbx))))
    (first | (go_at_call 23; (with_reducible refine (HC.out _).mono ?_); rintro e wx ⟨rfl, hbx⟩; have hsx := hbx.size; (try simp only [World.size_alloc, World.size_drew] at hsx)))
  · have hbX : Below W1.heap.size W1 (wx.alloc (.cells #[] 68)) := (by repeat (first | (with_reducible exact Below.refl _ _) | (with_reducible apply Below.drew) | (with_reducible refine Below.alloc ?_ (by (first | omega | (simp only [World.size_alloc, World.size_drew, set_size]; omega) | (simp; omega))) _) | (with_reducible refine Below.setCell ?_ (by (first | omega | (simp only [World.size_alloc, World.size_drew, set_size]; omega) | (simp; omega))) _) | (with_reducible refine Below.chain ?_ hbx)))
    obtain ⟨X, hX⟩ : ∃ X, X = wx.alloc (.cells #[] 68) := ⟨_, rfl⟩
    rw [← hX] at hbX
    have HBX := Lib.hid hbX; have HX := Lib.hid hX
    clear hbX hX
    go_upto_region 2 with fail
    try rw [← HX.out]
    refine wp_region_held_drew (S := (fun W => (W.cell? ⟨w.heap.size, 0, none⟩ = some (.string K) ∧ W.cell? ⟨w.heap.size, 1, none⟩ = some (.string S) ∧ W.cell? ⟨w.heap.size, 2, none⟩ = some (.slice A n c) ∧ W.cell? ⟨M, 0, none⟩ = some (.map (some Q)) ∧ W.cell? ⟨I, 0, none⟩ = some (.func (.func 23) #[] #[])) ∧ ButO W1.heap.size Q W1 W)) (by kernel_rfl) (STH2.out _ (ButO.of HBX.out.drew)) (fun hHeld => ?_)
    refine wpAnyH_take (i := 0) (oi := _) (v := ?v1) (by simp only [List.getElem?_toArray, List.getElem?_cons_succ, List.getElem?_cons_zero]; rfl) (by kernel_rfl) (by kernel_rfl) (by kernel_rfl) (by exact fun _ _ _ h => h) (Or.inl ⟨by rfl, ?hy1⟩) (by assumption) ?rest1
    case hy1 => (intro w hSw; (try dsimp only at hSw); go_simp; try with_reducible rfl)
    try simp only [Act.put, List.setIfInBounds_toArray, List.set_cons_zero, List.set_cons_succ]
    refine wpAnyH_take (i := 1) (oi := _) (v := ?v2) (by simp only [List.getElem?_toArray, List.getElem?_cons_succ, List.getElem?_cons_zero]; rfl) (by kernel_rfl) (by kernel_rfl) (by kernel_rfl) (by exact fun _ _ _ h => h) (Or.inl ⟨by rfl, ?hy2⟩) (by assumption) ?rest2
    case hy2 => (intro w hSw; (try dsimp only at hSw); go_simp; try with_reducible rfl)
    try simp only [Act.put, List.setIfInBounds_toArray, List.set_cons_zero, List.set_cons_succ]
    refine wpAnyH_take (i := 2) (oi := _) (v := ?v3) (by simp only [List.getElem?_toArray, List.getElem?_cons_succ, List.getElem?_cons_zero]; rfl) (by kernel_rfl) (by kernel_rfl) (by kernel_rfl) (by exact fun _ _ _ h => h) (Or.inl ⟨by rfl, ?hy3⟩) (by assumption) ?rest3
    case hy3 => (intro w hSw; (try dsimp only at hSw); go_simp; try with_reducible rfl)
    try simp only [Act.put, List.setIfInBounds_toArray, List.set_cons_zero, List.set_cons_succ]
    refine wpAnyH_take (i := 4) (oi := _) (v := ?v4) (by simp only [List.getElem?_toArray, List.getElem?_cons_succ, List.getElem?_cons_zero]; rfl) (by kernel_rfl) (by kernel_rfl) (by kernel_rfl) (by exact fun _ _ _ h => h) (Or.inl ⟨by rfl, ?hy4⟩) (by assumption) ?rest4
    case hy4 => (intro w hSw; (try dsimp only at hSw); go_simp; try with_reducible rfl)
    try simp only [Act.put, List.setIfInBounds_toArray, List.set_cons_zero, List.set_cons_succ]
    refine wpAnyH_ready (rs := [3]) (by kernel_rfl) (by simp) ?_
    refine AllReadyH.cons (o := _) (by simp only [List.getElem?_toArray, List.getElem?_cons_succ, List.getElem?_cons_zero]; rfl) (fun K hK => ?_) AllReadyH.nil
    go_simp
    go_at_call 23
    (with_reducible refine (HC.out _).mono ?_)
    rintro e wx2 ⟨rfl, hbx2⟩
    have B2 := Lib.hid (HBX.out.chain ((Below.refl X.heap.size X).drew.chain hbx2))
    clear hbx2
    obtain ⟨w3, hr3, ho3, hb3⟩ := UP.out wx2 B2.out
    have O3 := Lib.hid ho3; have B3 := Lib.hid ((ButO.of B2.out).trans (hb3.mono B2.out.size))
    clear ho3 hb3
    dsimp only
    refine hK.out _ _ (STH2.out _ (ButO.of B2.out)) (fun hHeld => ?_)
    clear hK K
    try simp only [Act.put, List.setIfInBounds_toArray, List.set_cons_zero, List.set_cons_succ]
    refine wpAnyH_ready (rs := [5]) (by kernel_rfl) (by simp) ?_
    refine AllReadyH.cons (o := _) (by simp only [List.getElem?_toArray, List.getElem?_cons_succ, List.getElem?_cons_zero]; rfl) (fun K hK => ?_) AllReadyH.nil
    go_simp
    refine hK.out _ _ (STH2.out _ B3.out) (fun hHeld => ?_)
    clear hK K
    try simp only [Act.put, List.setIfInBounds_toArray, List.set_cons_zero, List.set_cons_succ]
    refine wpAnyH_done (by kernel_rfl) ?_ _
    go_wp2_with fail
    go_ret
    exact ⟨rfl, O3.out, ((ButO.of HB1.out).trans (B3.out.mono HB1.out.size))⟩
  · have hbX : Below W1.heap.size W1 (wx.alloc (.cells #[] 68)) := (by repeat (first | (with_reducible exact Below.refl _ _) | (with_reducible apply Below.drew) | (with_reducible refine Below.alloc ?_ (by (first | omega | (simp only [World.size_alloc, World.size_drew, set_size]; omega) | (simp; omega))) _) | (with_reducible refine Below.setCell ?_ (by (first | omega | (simp only [World.size_alloc, World.size_drew, set_size]; omega) | (simp; omega))) _) | (with_reducible refine Below.chain ?_ hbx)))
    obtain ⟨X, hX⟩ : ∃ X, X = wx.alloc (.cells #[] 68) := ⟨_, rfl⟩
    rw [← hX] at hbX
    have HBX := Lib.hid hbX; have HX := Lib.hid hX
    clear hbX hX
    go_upto_region 2 with fail
    try rw [← HX.out]
    refine wp_region_held_drew (S := (fun W => (W.cell? ⟨w.heap.size, 0, none⟩ = some (.string K) ∧ W.cell? ⟨w.heap.size, 1, none⟩ = some (.string S) ∧ W.cell? ⟨w.heap.size, 2, none⟩ = some (.slice A n c) ∧ W.cell? ⟨M, 0, none⟩ = some (.map (some Q)) ∧ W.cell? ⟨I, 0, none⟩ = some (.func (.func 23) #[] #[])) ∧ ButO W1.heap.size Q W1 W)) (by kernel_rfl) (STH2.out _ (ButO.of HBX.out.drew)) (fun hHeld => ?_)
    refine wpAnyH_take (i := 0) (oi := _) (v := ?v7) (by simp only [List.getElem?_toArray, List.getElem?_cons_succ, List.getElem?_cons_zero]; rfl) (by kernel_rfl) (by kernel_rfl) (by kernel_rfl) (by exact fun _ _ _ h => h) (Or.inl ⟨by rfl, ?hy7⟩) (by assumption) ?rest7
    case hy7 => (intro w hSw; (try dsimp only at hSw); go_simp; try with_reducible rfl)
    try simp only [Act.put, List.setIfInBounds_toArray, List.set_cons_zero, List.set_cons_succ]
    refine wpAnyH_take (i := 1) (oi := _) (v := ?v8) (by simp only [List.getElem?_toArray, List.getElem?_cons_succ, List.getElem?_cons_zero]; rfl) (by kernel_rfl) (by kernel_rfl) (by kernel_rfl) (by exact fun _ _ _ h => h) (Or.inl ⟨by rfl, ?hy8⟩) (by assumption) ?rest8
    case hy8 => (intro w hSw; (try dsimp only at hSw); go_simp; try with_reducible rfl)
    try simp only [Act.put, List.setIfInBounds_toArray, List.set_cons_zero, List.set_cons_succ]
    refine wpAnyH_take (i := 2) (oi := _) (v := ?v9) (by simp only [List.getElem?_toArray, List.getElem?_cons_succ, List.getElem?_cons_zero]; rfl) (by kernel_rfl) (by kernel_rfl) (by kernel_rfl) (by exact fun _ _ _ h => h) (Or.inl ⟨by rfl, ?hy9⟩) (by assumption) ?rest9
    case hy9 => (intro w hSw; (try dsimp only at hSw); go_simp; try with_reducible rfl)
    try simp only [Act.put, List.setIfInBounds_toArray, List.set_cons_zero, List.set_cons_succ]
    refine wpAnyH_take (i := 4) (oi := _) (v := ?v10) (by simp only [List.getElem?_toArray, List.getElem?_cons_succ, List.getElem?_cons_zero]; rfl) (by kernel_rfl) (by kernel_rfl) (by kernel_rfl) (by exact fun _ _ _ h => h) (Or.inl ⟨by rfl, ?hy10⟩) (by assumption) ?rest10
    case hy10 => (intro w hSw; (try dsimp only at hSw); go_simp; try with_reducible rfl)
    try simp only [Act.put, List.setIfInBounds_toArray, List.set_cons_zero, List.set_cons_succ]
    refine wpAnyH_ready (rs := [3]) (by kernel_rfl) (by simp) ?_
    refine AllReadyH.cons (o := _) (by simp only [List.getElem?_toArray, List.getElem?_cons_succ, List.getElem?_cons_zero]; rfl) (fun K hK => ?_) AllReadyH.nil
    go_simp
    go_at_call 23
    (with_reducible refine (HC.out _).mono ?_)
    rintro e wx2 ⟨rfl, hbx2⟩
    have B2 := Lib.hid (HBX.out.chain ((Below.refl X.heap.size X).drew.chain hbx2))
    clear hbx2
    obtain ⟨w3, hr3, ho3, hb3⟩ := UP.out wx2 B2.out
    have O3 := Lib.hid ho3; have B3 := Lib.hid ((ButO.of B2.out).trans (hb3.mono B2.out.size))
    clear ho3 hb3
    dsimp only
    refine hK.out _ _ (STH2.out _ (ButO.of B2.out)) (fun hHeld => ?_)
    clear hK K
    try simp only [Act.put, List.setIfInBounds_toArray, List.set_cons_zero, List.set_cons_succ]
    refine wpAnyH_ready (rs := [5]) (by kernel_rfl) (by simp) ?_
    refine AllReadyH.cons (o := _) (by simp only [List.getElem?_toArray, List.getElem?_cons_succ, List.getElem?_cons_zero]; rfl) (fun K hK => ?_) AllReadyH.nil
    go_simp
    refine hK.out _ _ (STH2.out _ B3.out) (fun hHeld => ?_)
    clear hK K
    try simp only [Act.put, List.setIfInBounds_toArray, List.set_cons_zero, List.set_cons_succ]
    refine wpAnyH_done (by kernel_rfl) ?_ _
    go_wp2_with fail
    go_ret
    exact ⟨rfl, O3.out, ((ButO.of HB1.out).trans (B3.out.mono HB1.out.size))⟩
  · have hbX : Below W1.heap.size W1 (wx) := (by repeat (first | (with_reducible exact Below.refl _ _) | (with_reducible apply Below.drew) | (with_reducible refine Below.alloc ?_ (by (first | omega | (simp only [World.size_alloc, World.size_drew, set_size]; omega) | (simp; omega))) _) | (with_reducible refine Below.setCell ?_ (by (first | omega | (simp only [World.size_alloc, World.size_drew, set_size]; omega) | (simp; omega))) _) | (with_reducible refine Below.chain ?_ hbx)))
    obtain ⟨X, hX⟩ : ∃ X, X = wx := ⟨_, rfl⟩
    rw [← hX] at hbX
    have HBX := Lib.hid hbX; have HX := Lib.hid hX
    clear hbX hX
    go_upto_region 2 with fail
    try rw [← HX.out]
    refine wp_region_held_drew (S := (fun W => (W.cell? ⟨w.heap.size, 0, none⟩ = some (.string K) ∧ W.cell? ⟨w.heap.size, 1, none⟩ = some (.string S) ∧ W.cell? ⟨w.heap.size, 2, none⟩ = some (.slice A n c) ∧ W.cell? ⟨M, 0, none⟩ = some (.map (some Q)) ∧ W.cell? ⟨I, 0, none⟩ = some (.func (.func 23) #[] #[])) ∧ ButO W1.heap.size Q W1 W)) (by kernel_rfl) (STH2.out _ (ButO.of HBX.out.drew)) (fun hHeld => ?_)
    refine wpAnyH_take (i := 0) (oi := _) (v := ?v13) (by simp only [List.getElem?_toArray, List.getElem?_cons_succ, List.getElem?_cons_zero]; rfl) (by kernel_rfl) (by kernel_rfl) (by kernel_rfl) (by exact fun _ _ _ h => h) (Or.inl ⟨by rfl, ?hy13⟩) (by assumption) ?rest13
    case hy13 => (intro w hSw; (try dsimp only at hSw); go_simp; try with_reducible rfl)
    try simp only [Act.put, List.setIfInBounds_toArray, List.set_cons_zero, List.set_cons_succ]
    refine wpAnyH_take (i := 1) (oi := _) (v := ?v14) (by simp only [List.getElem?_toArray, List.getElem?_cons_succ, List.getElem?_cons_zero]; rfl) (by kernel_rfl) (by kernel_rfl) (by kernel_rfl) (by exact fun _ _ _ h => h) (Or.inl ⟨by rfl, ?hy14⟩) (by assumption) ?rest14
    case hy14 => (intro w hSw; (try dsimp only at hSw); go_simp; try with_reducible rfl)
    try simp only [Act.put, List.setIfInBounds_toArray, List.set_cons_zero, List.set_cons_succ]
    refine wpAnyH_take (i := 2) (oi := _) (v := ?v15) (by simp only [List.getElem?_toArray, List.getElem?_cons_succ, List.getElem?_cons_zero]; rfl) (by kernel_rfl) (by kernel_rfl) (by kernel_rfl) (by exact fun _ _ _ h => h) (Or.inl ⟨by rfl, ?hy15⟩) (by assumption) ?rest15
    case hy15 => (intro w hSw; (try dsimp only at hSw); go_simp; try with_reducible rfl)
    try simp only [Act.put, List.setIfInBounds_toArray, List.set_cons_zero, List.set_cons_succ]
    refine wpAnyH_take (i := 4) (oi := _) (v := ?v16) (by simp only [List.getElem?_toArray, List.getElem?_cons_succ, List.getElem?_cons_zero]; rfl) (by kernel_rfl) (by kernel_rfl) (by kernel_rfl) (by exact fun _ _ _ h => h) (Or.inl ⟨by rfl, ?hy16⟩) (by assumption) ?rest16
    case hy16 => (intro w hSw; (try dsimp only at hSw); go_simp; try with_reducible rfl)
    try simp only [Act.put, List.setIfInBounds_toArray, List.set_cons_zero, List.set_cons_succ]
    refine wpAnyH_ready (rs := [3]) (by kernel_rfl) (by simp) ?_
    refine AllReadyH.cons (o := _) (by simp only [List.getElem?_toArray, List.getElem?_cons_succ, List.getElem?_cons_zero]; rfl) (fun K hK => ?_) AllReadyH.nil
    go_simp
    go_at_call 23
    (with_reducible refine (HC.out _).mono ?_)
    rintro e wx2 ⟨rfl, hbx2⟩
    have B2 := Lib.hid (HBX.out.chain ((Below.refl X.heap.size X).drew.chain hbx2))
    clear hbx2
    obtain ⟨w3, hr3, ho3, hb3⟩ := UP.out wx2 B2.out
    have O3 := Lib.hid ho3; have B3 := Lib.hid ((ButO.of B2.out).trans (hb3.mono B2.out.size))
    clear ho3 hb3
    dsimp only
    refine hK.out _ _ (STH2.out _ (ButO.of B2.out)) (fun hHeld => ?_)
    clear hK K
    try simp only [Act.put, List.setIfInBounds_toArray, List.set_cons_zero, List.set_cons_succ]
    refine wpAnyH_ready (rs := [5]) (by kernel_rfl) (by simp) ?_
    refine AllReadyH.cons (o := _) (by simp only [List.getElem?_toArray, List.getElem?_cons_succ, List.getElem?_cons_zero]; rfl) (fun K hK => ?_) AllReadyH.nil
    go_simp
    refine hK.out _ _ (STH2.out _ B3.out) (fun hHeld => ?_)
    clear hK K
    try simp only [Act.put, List.setIfInBounds_toArray, List.set_cons_zero, List.set_cons_succ]
    refine wpAnyH_done (by kernel_rfl) ?_ _
    go_wp2_with fail
    go_ret
    exact ⟨rfl, O3.out, ((ButO.of HB1.out).trans (B3.out.mono HB1.out.size))⟩
set_option maxRecDepth 100000 in
set_option maxHeartbeats 4000000 in
theorem connSeen_any (K S2 S3 S4 S5 : ByteArray) (b : Bool) (S7 : ByteArray) (x : List UInt8) (hK : K = ⟨x.toArray⟩) (hx : x.length ≤ maxLen) (D : DataW Unit) (n0 : Nat) (hn0 : n0 < maxLen) (M I Q : Nat) (w : World) (hM : w.cell? ⟨M, 0, none⟩ = some (.map (some Q))) (hI : w.cell? ⟨I, 0, none⟩ = some (.func (.func 27) #[] #[])) (hMl : M < w.heap.size) (hIl : I < w.heap.size)
    (hMQ : M ≠ Q) (hIQ : I ≠ Q) (hown : w.ownsMap Tryd.prog 9 (unitElem (H := Unit)) Q n0 D) :
    Calls Tryd.prog 48 #[.agg #[.string K, .string S2, .string S3, .string S4, .string S5, .bool b, .string S7], .pointer (some ⟨M, 0, none⟩), .pointer (some ⟨I, 0, none⟩)] w fun e w' => e = .returned (.bool (Maps.has D (.string x))) ∧ w'.ownsMap Tryd.prog 9 (unitElem (H := Unit)) Q (n0 + 1) (D.put (.string x) (.agg [])) ∧ ButO w.heap.size Q w w' := by
  have eg := enters_of Tryd.func27 (by kernel_rfl) rfl
  have hQl := hown.lt
  obtain ⟨W1, hW1⟩ : ∃ W1, W1 = w.alloc (.cells #[.string K, .string S2, .string S3, .string S4, .string S5, .bool b, .string S7] 36) := ⟨_, rfl⟩
  have b1 : Below w.heap.size w W1 := by rw [hW1]; exact (Below.refl _ _).alloc (Nat.le_refl _) _
  have z1 : W1.heap.size = w.heap.size + 1 := by rw [hW1]; simp
  have k1 : W1.heap[w.heap.size]? = some (.cells #[.string K, .string S2, .string S3, .string S4, .string S5, .bool b, .string S7] 36 (0, 0)) := by rw [hW1]; exact heap_alloc_last w _
  have own1 := seen_kept hown b1
  obtain ⟨h, hh⟩ : ∃ h, Maps.has D (.string x) = h := ⟨_, rfl⟩
  have ST : ∀ W, Below W1.heap.size W1 W → ((W.cell? ⟨w.heap.size, 0, none⟩ = some (.string K) ∧ W.cell? ⟨w.heap.size, 1, none⟩ = some (.string S2) ∧ W.cell? ⟨w.heap.size, 2, none⟩ = some (.string S3) ∧ W.cell? ⟨w.heap.size, 3, none⟩ = some (.string S4) ∧ W.cell? ⟨w.heap.size, 4, none⟩ = some (.string S5) ∧ W.cell? ⟨w.heap.size, 5, none⟩ = some (.bool b) ∧ W.cell? ⟨w.heap.size, 6, none⟩ = some (.string S7) ∧ W.cell? ⟨M, 0, none⟩ = some (.map (some Q)) ∧ W.cell? ⟨I, 0, none⟩ = some (.func (.func 27) #[] #[])) ∧ (Instr.lookup 67 (.map (some Q)) (.string K) true).run Tryd.prog W = .ok (.tuple #[.agg #[], .bool h]) W) ∧ Below W1.heap.size W1 W := fun W hb =>
    ⟨⟨⟨(hb.cell (p := ⟨w.heap.size, 0, none⟩) (by show w.heap.size < _; omega)).trans (cell_here k1), (hb.cell (p := ⟨w.heap.size, 1, none⟩) (by show w.heap.size < _; omega)).trans (cell_here k1), (hb.cell (p := ⟨w.heap.size, 2, none⟩) (by show w.heap.size < _; omega)).trans (cell_here k1), (hb.cell (p := ⟨w.heap.size, 3, none⟩) (by show w.heap.size < _; omega)).trans (cell_here k1), (hb.cell (p := ⟨w.heap.size, 4, none⟩) (by show w.heap.size < _; omega)).trans (cell_here k1), (hb.cell (p := ⟨w.heap.size, 5, none⟩) (by show w.heap.size < _; omega)).trans (cell_here k1), (hb.cell (p := ⟨w.heap.size, 6, none⟩) (by show w.heap.size < _; omega)).trans (cell_here k1), (hb.cell (p := ⟨M, 0, none⟩) (by show M < _; omega)).trans ((b1.cell (p := ⟨M, 0, none⟩) hMl).trans hM), (hb.cell (p := ⟨I, 0, none⟩) (by show I < _; omega)).trans ((b1.cell (p := ⟨I, 0, none⟩) hIl).trans hI)⟩, by rw [← hh, hK]; exact seen_look (seen_kept own1 hb) x hx⟩, hb⟩
  have ST2 : ∀ W, ButO W1.heap.size Q W1 W → (W.cell? ⟨w.heap.size, 0, none⟩ = some (.string K) ∧ W.cell? ⟨w.heap.size, 1, none⟩ = some (.string S2) ∧ W.cell? ⟨w.heap.size, 2, none⟩ = some (.string S3) ∧ W.cell? ⟨w.heap.size, 3, none⟩ = some (.string S4) ∧ W.cell? ⟨w.heap.size, 4, none⟩ = some (.string S5) ∧ W.cell? ⟨w.heap.size, 5, none⟩ = some (.bool b) ∧ W.cell? ⟨w.heap.size, 6, none⟩ = some (.string S7) ∧ W.cell? ⟨M, 0, none⟩ = some (.map (some Q)) ∧ W.cell? ⟨I, 0, none⟩ = some (.func (.func 27) #[] #[])) ∧ ButO W1.heap.size Q W1 W := fun W hb =>
    ⟨⟨(cell_block (hb.block _ (by omega) (by omega))).trans (cell_here k1), (cell_block (hb.block _ (by omega) (by omega))).trans (cell_here k1), (cell_block (hb.block _ (by omega) (by omega))).trans (cell_here k1), (cell_block (hb.block _ (by omega) (by omega))).trans (cell_here k1), (cell_block (hb.block _ (by omega) (by omega))).trans (cell_here k1), (cell_block (hb.block _ (by omega) (by omega))).trans (cell_here k1), (cell_block (hb.block _ (by omega) (by omega))).trans (cell_here k1), (cell_block (hb.block _ (by omega) hMQ)).trans ((b1.cell (p := ⟨M, 0, none⟩) hMl).trans hM), (cell_block (hb.block _ (by omega) hIQ)).trans ((b1.cell (p := ⟨I, 0, none⟩) hIl).trans hI)⟩, hb⟩
  have up : ∀ W, Below W1.heap.size W1 W → ∃ w', (Instr.mapUpdate 67 (.map (some Q)) (.string K) (.agg #[])).run Tryd.prog W = .ok () w' ∧ w'.ownsMap Tryd.prog 9 (unitElem (H := Unit)) Q (n0 + 1) (D.put (.string x) (.agg [])) ∧ ButO W.heap.size Q W w' := fun W hb => by rw [hK]; exact seen_put (seen_kept own1 hb) hn0 x hx
  have hc := fun W => connID_any K S2 S3 S4 S5 b S7 W
  rw [hh]
  have STH := Lib.hid ST; have STH2 := Lib.hid ST2; have HC := Lib.hid hc; have HW := Lib.hid hW1; have HB1 := Lib.hid b1; have Z1 := Lib.hid z1; have UP := Lib.hid up
  clear ST ST2 hc hW1 b1 k1 z1 hM hI hMl hIl own1 hown hh up hK hx hn0 hQl hMQ hIQ
  go_enter Tryd.func48, Tryd.ntmps48
  go_upto_region 1 with fail
  rw [← HW.out]
  go_region_held3 (fun W => ((W.cell? ⟨w.heap.size, 0, none⟩ = some (.string K) ∧ W.cell? ⟨w.heap.size, 1, none⟩ = some (.string S2) ∧ W.cell? ⟨w.heap.size, 2, none⟩ = some (.string S3) ∧ W.cell? ⟨w.heap.size, 3, none⟩ = some (.string S4) ∧ W.cell? ⟨w.heap.size, 4, none⟩ = some (.string S5) ∧ W.cell? ⟨w.heap.size, 5, none⟩ = some (.bool b) ∧ W.cell? ⟨w.heap.size, 6, none⟩ = some (.string S7) ∧ W.cell? ⟨M, 0, none⟩ = some (.map (some Q)) ∧ W.cell? ⟨I, 0, none⟩ = some (.func (.func 27) #[] #[])) ∧ (Instr.lookup 67 (.map (some Q)) (.string K) true).run Tryd.prog W = .ok (.tuple #[.agg #[], .bool h]) W) ∧ Below W1.heap.size W1 W)
    (first | exact STH.out _ (by repeat (first | (with_reducible exact Below.refl _ _) | (with_reducible apply Below.drew) | (with_reducible refine Below.alloc ?_ (by (first | omega | (simp only [World.size_alloc, World.size_drew, set_size]; omega) | (simp; omega))) _) | (with_reducible refine Below.setCell ?_ (by (first | omega | (simp only [World.size_alloc, World.size_drew, set_size]; omega) | (simp; omega))) _) | (with_reducible refine Below.chain ?_ hbx))))
    (first | (go_at_call 27; (with_reducible refine (HC.out _).mono ?_); rintro e wx ⟨rfl, hbx⟩; have hsx := hbx.size; (try simp only [World.size_alloc, World.size_drew] at hsx)))
  · have hbX : Below W1.heap.size W1 (wx.alloc (.cells #[] 68)) := (by repeat (first | (with_reducible exact Below.refl _ _) | (with_reducible apply Below.drew) | (with_reducible refine Below.alloc ?_ (by (first | omega | (simp only [World.size_alloc, World.size_drew, set_size]; omega) | (simp; omega))) _) | (with_reducible refine Below.setCell ?_ (by (first | omega | (simp only [World.size_alloc, World.size_drew, set_size]; omega) | (simp; omega))) _) | (with_reducible refine Below.chain ?_ hbx)))
    obtain ⟨X, hX⟩ : ∃ X, X = wx.alloc (.cells #[] 68) := ⟨_, rfl⟩
    rw [← hX] at hbX
    have HBX := Lib.hid hbX; have HX := Lib.hid hX
    clear hbX hX
    go_upto_region 2 with fail
    try rw [← HX.out]
    refine wp_region_held_drew (S := (fun W => (W.cell? ⟨w.heap.size, 0, none⟩ = some (.string K) ∧ W.cell? ⟨w.heap.size, 1, none⟩ = some (.string S2) ∧ W.cell? ⟨w.heap.size, 2, none⟩ = some (.string S3) ∧ W.cell? ⟨w.heap.size, 3, none⟩ = some (.string S4) ∧ W.cell? ⟨w.heap.size, 4, none⟩ = some (.string S5) ∧ W.cell? ⟨w.heap.size, 5, none⟩ = some (.bool b) ∧ W.cell? ⟨w.heap.size, 6, none⟩ = some (.string S7) ∧ W.cell? ⟨M, 0, none⟩ = some (.map (some Q)) ∧ W.cell? ⟨I, 0, none⟩ = some (.func (.func 27) #[] #[])) ∧ ButO W1.heap.size Q W1 W)) (by kernel_rfl) (STH2.out _ (ButO.of HBX.out.drew)) (fun hHeld => ?_)
    refine wpAnyH_take (i := 0) (oi := _) (v := ?v19) (by simp only [List.getElem?_toArray, List.getElem?_cons_succ, List.getElem?_cons_zero]; rfl) (by kernel_rfl) (by kernel_rfl) (by kernel_rfl) (by exact fun _ _ _ h => h) (Or.inl ⟨by rfl, ?hy19⟩) (by assumption) ?rest19
    case hy19 => (intro w hSw; (try dsimp only at hSw); go_simp; try with_reducible rfl)
    try simp only [Act.put, List.setIfInBounds_toArray, List.set_cons_zero, List.set_cons_succ]
    refine wpAnyH_take (i := 1) (oi := _) (v := ?v20) (by simp only [List.getElem?_toArray, List.getElem?_cons_succ, List.getElem?_cons_zero]; rfl) (by kernel_rfl) (by kernel_rfl) (by kernel_rfl) (by exact fun _ _ _ h => h) (Or.inl ⟨by rfl, ?hy20⟩) (by assumption) ?rest20
    case hy20 => (intro w hSw; (try dsimp only at hSw); go_simp; try with_reducible rfl)
    try simp only [Act.put, List.setIfInBounds_toArray, List.set_cons_zero, List.set_cons_succ]
    refine wpAnyH_take (i := 2) (oi := _) (v := ?v21) (by simp only [List.getElem?_toArray, List.getElem?_cons_succ, List.getElem?_cons_zero]; rfl) (by kernel_rfl) (by kernel_rfl) (by kernel_rfl) (by exact fun _ _ _ h => h) (Or.inl ⟨by rfl, ?hy21⟩) (by assumption) ?rest21
    case hy21 => (intro w hSw; (try dsimp only at hSw); go_simp; try with_reducible rfl)
    try simp only [Act.put, List.setIfInBounds_toArray, List.set_cons_zero, List.set_cons_succ]
    refine wpAnyH_take (i := 4) (oi := _) (v := ?v22) (by simp only [List.getElem?_toArray, List.getElem?_cons_succ, List.getElem?_cons_zero]; rfl) (by kernel_rfl) (by kernel_rfl) (by kernel_rfl) (by exact fun _ _ _ h => h) (Or.inl ⟨by rfl, ?hy22⟩) (by assumption) ?rest22
    case hy22 => (intro w hSw; (try dsimp only at hSw); go_simp; try with_reducible rfl)
    try simp only [Act.put, List.setIfInBounds_toArray, List.set_cons_zero, List.set_cons_succ]
    refine wpAnyH_ready (rs := [3]) (by kernel_rfl) (by simp) ?_
    refine AllReadyH.cons (o := _) (by simp only [List.getElem?_toArray, List.getElem?_cons_succ, List.getElem?_cons_zero]; rfl) (fun K hK => ?_) AllReadyH.nil
    go_simp
    go_at_call 27
    (with_reducible refine (HC.out _).mono ?_)
    rintro e wx2 ⟨rfl, hbx2⟩
    have B2 := Lib.hid (HBX.out.chain ((Below.refl X.heap.size X).drew.chain hbx2))
    clear hbx2
    obtain ⟨w3, hr3, ho3, hb3⟩ := UP.out wx2 B2.out
    have O3 := Lib.hid ho3; have B3 := Lib.hid ((ButO.of B2.out).trans (hb3.mono B2.out.size))
    clear ho3 hb3
    dsimp only
    refine hK.out _ _ (STH2.out _ (ButO.of B2.out)) (fun hHeld => ?_)
    clear hK K
    try simp only [Act.put, List.setIfInBounds_toArray, List.set_cons_zero, List.set_cons_succ]
    refine wpAnyH_ready (rs := [5]) (by kernel_rfl) (by simp) ?_
    refine AllReadyH.cons (o := _) (by simp only [List.getElem?_toArray, List.getElem?_cons_succ, List.getElem?_cons_zero]; rfl) (fun K hK => ?_) AllReadyH.nil
    go_simp
    refine hK.out _ _ (STH2.out _ B3.out) (fun hHeld => ?_)
    clear hK K
    try simp only [Act.put, List.setIfInBounds_toArray, List.set_cons_zero, List.set_cons_succ]
    refine wpAnyH_done (by kernel_rfl) ?_ _
    go_wp2_with fail
    go_ret
    exact ⟨rfl, O3.out, ((ButO.of HB1.out).trans (B3.out.mono HB1.out.size))⟩
  · have hbX : Below W1.heap.size W1 (wx.alloc (.cells #[] 68)) := (by repeat (first | (with_reducible exact Below.refl _ _) | (with_reducible apply Below.drew) | (with_reducible refine Below.alloc ?_ (by (first | omega | (simp only [World.size_alloc, World.size_drew, set_size]; omega) | (simp; omega))) _) | (with_reducible refine Below.setCell ?_ (by (first | omega | (simp only [World.size_alloc, World.size_drew, set_size]; omega) | (simp; omega))) _) | (with_reducible refine Below.chain ?_ hbx)))
    obtain ⟨X, hX⟩ : ∃ X, X = wx.alloc (.cells #[] 68) := ⟨_, rfl⟩
    rw [← hX] at hbX
    have HBX := Lib.hid hbX; have HX := Lib.hid hX
    clear hbX hX
    go_upto_region 2 with fail
    try rw [← HX.out]
    refine wp_region_held_drew (S := (fun W => (W.cell? ⟨w.heap.size, 0, none⟩ = some (.string K) ∧ W.cell? ⟨w.heap.size, 1, none⟩ = some (.string S2) ∧ W.cell? ⟨w.heap.size, 2, none⟩ = some (.string S3) ∧ W.cell? ⟨w.heap.size, 3, none⟩ = some (.string S4) ∧ W.cell? ⟨w.heap.size, 4, none⟩ = some (.string S5) ∧ W.cell? ⟨w.heap.size, 5, none⟩ = some (.bool b) ∧ W.cell? ⟨w.heap.size, 6, none⟩ = some (.string S7) ∧ W.cell? ⟨M, 0, none⟩ = some (.map (some Q)) ∧ W.cell? ⟨I, 0, none⟩ = some (.func (.func 27) #[] #[])) ∧ ButO W1.heap.size Q W1 W)) (by kernel_rfl) (STH2.out _ (ButO.of HBX.out.drew)) (fun hHeld => ?_)
    refine wpAnyH_take (i := 0) (oi := _) (v := ?v25) (by simp only [List.getElem?_toArray, List.getElem?_cons_succ, List.getElem?_cons_zero]; rfl) (by kernel_rfl) (by kernel_rfl) (by kernel_rfl) (by exact fun _ _ _ h => h) (Or.inl ⟨by rfl, ?hy25⟩) (by assumption) ?rest25
    case hy25 => (intro w hSw; (try dsimp only at hSw); go_simp; try with_reducible rfl)
    try simp only [Act.put, List.setIfInBounds_toArray, List.set_cons_zero, List.set_cons_succ]
    refine wpAnyH_take (i := 1) (oi := _) (v := ?v26) (by simp only [List.getElem?_toArray, List.getElem?_cons_succ, List.getElem?_cons_zero]; rfl) (by kernel_rfl) (by kernel_rfl) (by kernel_rfl) (by exact fun _ _ _ h => h) (Or.inl ⟨by rfl, ?hy26⟩) (by assumption) ?rest26
    case hy26 => (intro w hSw; (try dsimp only at hSw); go_simp; try with_reducible rfl)
    try simp only [Act.put, List.setIfInBounds_toArray, List.set_cons_zero, List.set_cons_succ]
    refine wpAnyH_take (i := 2) (oi := _) (v := ?v27) (by simp only [List.getElem?_toArray, List.getElem?_cons_succ, List.getElem?_cons_zero]; rfl) (by kernel_rfl) (by kernel_rfl) (by kernel_rfl) (by exact fun _ _ _ h => h) (Or.inl ⟨by rfl, ?hy27⟩) (by assumption) ?rest27
    case hy27 => (intro w hSw; (try dsimp only at hSw); go_simp; try with_reducible rfl)
    try simp only [Act.put, List.setIfInBounds_toArray, List.set_cons_zero, List.set_cons_succ]
    refine wpAnyH_take (i := 4) (oi := _) (v := ?v28) (by simp only [List.getElem?_toArray, List.getElem?_cons_succ, List.getElem?_cons_zero]; rfl) (by kernel_rfl) (by kernel_rfl) (by kernel_rfl) (by exact fun _ _ _ h => h) (Or.inl ⟨by rfl, ?hy28⟩) (by assumption) ?rest28
    case hy28 => (intro w hSw; (try dsimp only at hSw); go_simp; try with_reducible rfl)
    try simp only [Act.put, List.setIfInBounds_toArray, List.set_cons_zero, List.set_cons_succ]
    refine wpAnyH_ready (rs := [3]) (by kernel_rfl) (by simp) ?_
    refine AllReadyH.cons (o := _) (by simp only [List.getElem?_toArray, List.getElem?_cons_succ, List.getElem?_cons_zero]; rfl) (fun K hK => ?_) AllReadyH.nil
    go_simp
    go_at_call 27
    (with_reducible refine (HC.out _).mono ?_)
    rintro e wx2 ⟨rfl, hbx2⟩
    have B2 := Lib.hid (HBX.out.chain ((Below.refl X.heap.size X).drew.chain hbx2))
    clear hbx2
    obtain ⟨w3, hr3, ho3, hb3⟩ := UP.out wx2 B2.out
    have O3 := Lib.hid ho3; have B3 := Lib.hid ((ButO.of B2.out).trans (hb3.mono B2.out.size))
    clear ho3 hb3
    dsimp only
    refine hK.out _ _ (STH2.out _ (ButO.of B2.out)) (fun hHeld => ?_)
    clear hK K
    try simp only [Act.put, List.setIfInBounds_toArray, List.set_cons_zero, List.set_cons_succ]
    refine wpAnyH_ready (rs := [5]) (by kernel_rfl) (by simp) ?_
    refine AllReadyH.cons (o := _) (by simp only [List.getElem?_toArray, List.getElem?_cons_succ, List.getElem?_cons_zero]; rfl) (fun K hK => ?_) AllReadyH.nil
    go_simp
    refine hK.out _ _ (STH2.out _ B3.out) (fun hHeld => ?_)
    clear hK K
    try simp only [Act.put, List.setIfInBounds_toArray, List.set_cons_zero, List.set_cons_succ]
    refine wpAnyH_done (by kernel_rfl) ?_ _
    go_wp2_with fail
    go_ret
    exact ⟨rfl, O3.out, ((ButO.of HB1.out).trans (B3.out.mono HB1.out.size))⟩
  · have hbX : Below W1.heap.size W1 (wx) := (by repeat (first | (with_reducible exact Below.refl _ _) | (with_reducible apply Below.drew) | (with_reducible refine Below.alloc ?_ (by (first | omega | (simp only [World.size_alloc, World.size_drew, set_size]; omega) | (simp; omega))) _) | (with_reducible refine Below.setCell ?_ (by (first | omega | (simp only [World.size_alloc, World.size_drew, set_size]; omega) | (simp; omega))) _) | (with_reducible refine Below.chain ?_ hbx)))
    obtain ⟨X, hX⟩ : ∃ X, X = wx := ⟨_, rfl⟩
    rw [← hX] at hbX
    have HBX := Lib.hid hbX; have HX := Lib.hid hX
    clear hbX hX
    go_upto_region 2 with fail
    try rw [← HX.out]
    refine wp_region_held_drew (S := (fun W => (W.cell? ⟨w.heap.size, 0, none⟩ = some (.string K) ∧ W.cell? ⟨w.heap.size, 1, none⟩ = some (.string S2) ∧ W.cell? ⟨w.heap.size, 2, none⟩ = some (.string S3) ∧ W.cell? ⟨w.heap.size, 3, none⟩ = some (.string S4) ∧ W.cell? ⟨w.heap.size, 4, none⟩ = some (.string S5) ∧ W.cell? ⟨w.heap.size, 5, none⟩ = some (.bool b) ∧ W.cell? ⟨w.heap.size, 6, none⟩ = some (.string S7) ∧ W.cell? ⟨M, 0, none⟩ = some (.map (some Q)) ∧ W.cell? ⟨I, 0, none⟩ = some (.func (.func 27) #[] #[])) ∧ ButO W1.heap.size Q W1 W)) (by kernel_rfl) (STH2.out _ (ButO.of HBX.out.drew)) (fun hHeld => ?_)
    refine wpAnyH_take (i := 0) (oi := _) (v := ?v31) (by simp only [List.getElem?_toArray, List.getElem?_cons_succ, List.getElem?_cons_zero]; rfl) (by kernel_rfl) (by kernel_rfl) (by kernel_rfl) (by exact fun _ _ _ h => h) (Or.inl ⟨by rfl, ?hy31⟩) (by assumption) ?rest31
    case hy31 => (intro w hSw; (try dsimp only at hSw); go_simp; try with_reducible rfl)
    try simp only [Act.put, List.setIfInBounds_toArray, List.set_cons_zero, List.set_cons_succ]
    refine wpAnyH_take (i := 1) (oi := _) (v := ?v32) (by simp only [List.getElem?_toArray, List.getElem?_cons_succ, List.getElem?_cons_zero]; rfl) (by kernel_rfl) (by kernel_rfl) (by kernel_rfl) (by exact fun _ _ _ h => h) (Or.inl ⟨by rfl, ?hy32⟩) (by assumption) ?rest32
    case hy32 => (intro w hSw; (try dsimp only at hSw); go_simp; try with_reducible rfl)
    try simp only [Act.put, List.setIfInBounds_toArray, List.set_cons_zero, List.set_cons_succ]
    refine wpAnyH_take (i := 2) (oi := _) (v := ?v33) (by simp only [List.getElem?_toArray, List.getElem?_cons_succ, List.getElem?_cons_zero]; rfl) (by kernel_rfl) (by kernel_rfl) (by kernel_rfl) (by exact fun _ _ _ h => h) (Or.inl ⟨by rfl, ?hy33⟩) (by assumption) ?rest33
    case hy33 => (intro w hSw; (try dsimp only at hSw); go_simp; try with_reducible rfl)
    try simp only [Act.put, List.setIfInBounds_toArray, List.set_cons_zero, List.set_cons_succ]
    refine wpAnyH_take (i := 4) (oi := _) (v := ?v34) (by simp only [List.getElem?_toArray, List.getElem?_cons_succ, List.getElem?_cons_zero]; rfl) (by kernel_rfl) (by kernel_rfl) (by kernel_rfl) (by exact fun _ _ _ h => h) (Or.inl ⟨by rfl, ?hy34⟩) (by assumption) ?rest34
    case hy34 => (intro w hSw; (try dsimp only at hSw); go_simp; try with_reducible rfl)
    try simp only [Act.put, List.setIfInBounds_toArray, List.set_cons_zero, List.set_cons_succ]
    refine wpAnyH_ready (rs := [3]) (by kernel_rfl) (by simp) ?_
    refine AllReadyH.cons (o := _) (by simp only [List.getElem?_toArray, List.getElem?_cons_succ, List.getElem?_cons_zero]; rfl) (fun K hK => ?_) AllReadyH.nil
    go_simp
    go_at_call 27
    (with_reducible refine (HC.out _).mono ?_)
    rintro e wx2 ⟨rfl, hbx2⟩
    have B2 := Lib.hid (HBX.out.chain ((Below.refl X.heap.size X).drew.chain hbx2))
    clear hbx2
    obtain ⟨w3, hr3, ho3, hb3⟩ := UP.out wx2 B2.out
    have O3 := Lib.hid ho3; have B3 := Lib.hid ((ButO.of B2.out).trans (hb3.mono B2.out.size))
    clear ho3 hb3
    dsimp only
    refine hK.out _ _ (STH2.out _ (ButO.of B2.out)) (fun hHeld => ?_)
    clear hK K
    try simp only [Act.put, List.setIfInBounds_toArray, List.set_cons_zero, List.set_cons_succ]
    refine wpAnyH_ready (rs := [5]) (by kernel_rfl) (by simp) ?_
    refine AllReadyH.cons (o := _) (by simp only [List.getElem?_toArray, List.getElem?_cons_succ, List.getElem?_cons_zero]; rfl) (fun K hK => ?_) AllReadyH.nil
    go_simp
    refine hK.out _ _ (STH2.out _ B3.out) (fun hHeld => ?_)
    clear hK K
    try simp only [Act.put, List.setIfInBounds_toArray, List.set_cons_zero, List.set_cons_succ]
    refine wpAnyH_done (by kernel_rfl) ?_ _
    go_wp2_with fail
    go_ret
    exact ⟨rfl, O3.out, ((ButO.of HB1.out).trans (B3.out.mono HB1.out.size))⟩
end Go.Proofs.YtiofgepfcacgjaaDoor
