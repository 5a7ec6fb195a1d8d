/- The landed rules: whether a claim is a text, or a list with it. -/
import Derived.Test.YtobicmpgfiddhaaDoorRuleBits
import Derived.Deep.Cut
namespace Go.Proofs.YtobicmpgfiddhaaDoor
open Go.RowKit
set_option linter.unusedVariables false
set_option linter.unusedSimpArgs false

theorem isW_k {x : V} {s : List UInt8} (h : x.kind ≠ 4) : isW x s = false := by unfold isW; simp [h]
theorem isW_t {x : V} {s : List UInt8} (h : x.kind = 4) : isW x s = decide (x.text = s) := by unfold isW; simp [h]
theorem ba_eq (a b : List UInt8) : ((⟨a.toArray⟩ : ByteArray).toList == (⟨b.toArray⟩ : ByteArray).toList) = decide (a = b) := by
  rw [ByteArray.toList_eq, ByteArray.toList_eq]
  show (a == b) = _
  by_cases h : a = b <;> simp [h]
theorem any_take {l : List V} {p : V → Bool} {k : Nat} {x : V} (h : l[k]? = some x) : (l.take (k + 1)).any p = ((l.take k).any p || p x) := by
  rw [List.take_add_one, h, List.any_append]
  simp
theorem any_hit {l : List V} {p : V → Bool} {k : Nat} (hk : k < l.length) (h : p l[k] = true) : l.any p = true := List.any_eq_true.2 ⟨_, List.getElem_mem hk, h⟩
set_option maxRecDepth 100000 in
set_option maxHeartbeats 4000000 in
theorem tells1_any (x : V) (s : List UInt8) (W : World) (L N : Nat) (cs : List Value) (hv : VIs W L N x cs) (b : Nat) (hb : W.cell? ⟨b, 0, none⟩ = some (.string ⟨s.toArray⟩)) (hbs : b < W.heap.size) :
    Calls Tryd.prog 60 #[.agg cs.toArray, .pointer (some ⟨b, 0, none⟩)] W fun e w' => e = .returned (.bool (isW x s)) ∧ Below W.heap.size W w' := by
  obtain ⟨XA, xc, XA', xc', rfl⟩ := hv.form
  have hq := ba_eq x.text s
  have hk4 := @isW_k x s
  have ht4 := @isW_t x s
  obtain ⟨S, hS⟩ : ∃ z : ByteArray, (⟨s.toArray⟩ : ByteArray) = z := ⟨_, rfl⟩
  obtain ⟨TX, hTX⟩ : ∃ z : ByteArray, (⟨x.text.toArray⟩ : ByteArray) = z := ⟨_, rfl⟩
  obtain ⟨xk, hxk⟩ : ∃ z, x.kind = z := ⟨_, rfl⟩
  rw [hS] at hb hq
  rw [hTX] at hq ⊢
  rw [hxk] at hk4 ht4 ⊢
  have hb2 : (W.alloc (.cells #[.int .i64 xk, .int .i64 x.num, .string TX, .slice XA x.list.length xc, .slice XA' x.keys.length xc'] 25)).cell? ⟨b, 0, none⟩ = some (.string S) := by
    rw [World.cell?_of_block (w := W) (Below.heap_alloc _ _ _ hbs)]; exact hb
  obtain ⟨R, hR⟩ : ∃ r, isW x s = r := ⟨_, rfl⟩
  rw [hR] at hk4 ht4 ⊢
  have HK := Lib.hid hk4; have HT := Lib.hid ht4
  clear hk4 ht4 hS hTX hxk hR hv
  by_cases h4 : xk = 4
  · subst h4
    have hr := HT.out rfl
    rw [← hr] at hq
    have t1 : ((4 : Int) == 4) = true := rfl
    clear hr
    go_enter Tryd.func60, Tryd.ntmps60
    go_wp2
    go_ret
    exact ⟨rfl, (Below.refl _ _).alloc (Nat.le_refl _) _⟩
  · have hr := HK.out h4
    subst hr
    have t1 : (xk == 4) = false := by simpa using h4
    go_enter Tryd.func60, Tryd.ntmps60
    go_wp2
    go_ret
    exact ⟨rfl, (Below.refl _ _).alloc (Nat.le_refl _) _⟩
set_option maxRecDepth 100000 in
set_option maxHeartbeats 4000000 in
theorem indexFuncV_any (l : List V) (s : List UInt8) (A : Option Addr) (c L N : Nat) (w : World) (hl : l = [] ∨ ∃ b o, A = some ⟨b, o, none⟩ ∧ LIs w L N l b o) (hN : N ≤ w.heap.size) (hll : l.length ≤ 100000) (b : Nat) (hb : w.cell? ⟨b, 0, none⟩ = some (.string ⟨s.toArray⟩)) (hbs : b < w.heap.size) :
    Calls Tryd.prog 73 #[.slice A l.length c, .func (.func 60) #[] #[.pointer (some ⟨b, 0, none⟩)]] w fun e w' => (∃ i : Int, e = .returned (.int .i64 i) ∧ decide (0 ≤ i) = l.any (isW · s)) ∧ Below w.heap.size w w' := by
  obtain ⟨n, hn⟩ : ∃ n, l.length = n := ⟨_, rfl⟩
  have hcl := fun (x : V) (W : World) (cs : List Value) (hW : Below w.heap.size w W) (hv : VIs W L N x cs) => tells1_any x s W L N cs hv b ((hW.cell (p := ⟨b, 0, none⟩) hbs).trans hb) (by have := hW.size; omega)
  rw [hn]
  have H := Lib.hid hl; have HC := Lib.hid hcl; have HN := Lib.hid hn
  clear hl hcl hb
  go_enter Tryd.func73, Tryd.ntmps73
  go_wp2_with fail
  go_loopw [8] (fun i wr => ∃ k : Nat, k ≤ n ∧ i = .int .i64 k ∧ (l.take k).any (isW · s) = false ∧ Below w.heap.size w wr) (fun i _ => n - (intOf i).toNat)
  case atStart => exact ⟨0, Nat.zero_le _, rfl, rfl, Below.refl _ _⟩
  case round =>
    obtain ⟨k, hkn, rfl, hp, hbw⟩ := hrel
    have HP := Lib.hid hp; clear hp
    by_cases hlt : k < n
    · have hkl : k < l.length := by rw [HN.out]; exact hlt
      obtain ⟨q, r, rfl, _, hqN, ys, hx5, hxv⟩ := VIs.item H.out k hkl
      have hat := any_take (p := (isW · s)) (List.getElem?_eq_getElem hkl)
      have hhit := any_hit (p := (isW · s)) hkl
      have hx5' := hx5.keep hqN fun z hz => (hbw.mono hN).cell hz
      have hxv' := hxv.below (hbw.mono hN)
      obtain ⟨XA, xc, XA', xc', rfl⟩ := hxv'.form
      obtain ⟨y0, y1, y2, y3, y4, hye, m0, m1, m2, m3, m4⟩ := hx5'
      simp only [List.cons.injEq, and_true] at hye
      obtain ⟨rfl, rfl, rfl, rfl, rfl⟩ := hye
      have hc := HC.out l[k] wr _ hbw hxv'
      generalize l[k] = x at *
      have hk0 : (0 : Int) ≤ k := by omega
      have hk1 : (k : Int) < n := by omega
      obtain ⟨Z, hZ⟩ : ∃ z, isW x s = z := ⟨_, rfl⟩
      rw [hZ] at hc hat hhit
      have HCC := Lib.hid hc; have HAT := Lib.hid hat; have HH := Lib.hid hhit; have HBW := Lib.hid hbw
      clear hc hat hhit hxv hxv' hx5 hZ hbw
      cases Z with
      | true =>
        go_wp2_with (go_at_call 60; (with_reducible refine HCC.out.mono ?_); rintro e1 w1 ⟨rfl, hb1⟩; have HB1 := Lib.hid (HBW.out.chain hb1); clear hb1; dsimp only)
        go_ret
        exact ⟨⟨k, rfl, by rw [HH.out trivial]; simp⟩, HB1.out⟩
      | false =>
        go_wp2_with (go_at_call 60; (with_reducible refine HCC.out.mono ?_); rintro e1 w1 ⟨rfl, hb1⟩; have HB1 := Lib.hid (HBW.out.chain hb1); clear hb1; dsimp only)
        go_roundw
        case rel => exact ⟨k + 1, by omega, by go_num, by rw [HAT.out, HP.out]; rfl, HB1.out⟩
        case measure => simp [intOf]; omega
    · obtain rfl : k = n := by omega
      have hall : l.take k = l := by rw [← HN.out, List.take_length]
      have HA := Lib.hid hall; have HBW := Lib.hid hbw
      clear hall hbw
      go_wp2
      go_ret
      exact ⟨⟨-1, rfl, by rw [← HA.out, HP.out]; rfl⟩, HBW.out⟩
set_option maxRecDepth 100000 in
set_option maxHeartbeats 4000000 in
theorem containsFuncV_any (l : List V) (s : List UInt8) (A : Option Addr) (c L N : Nat) (w : World) (hl : l = [] ∨ ∃ b o, A = some ⟨b, o, none⟩ ∧ LIs w L N l b o) (hN : N ≤ w.heap.size) (hll : l.length ≤ 100000) (b : Nat) (hb : w.cell? ⟨b, 0, none⟩ = some (.string ⟨s.toArray⟩)) (hbs : b < w.heap.size) :
    Calls Tryd.prog 61 #[.slice A l.length c, .func (.func 60) #[] #[.pointer (some ⟨b, 0, none⟩)]] w fun e w' => e = .returned (.bool (l.any (isW · s))) ∧ Below w.heap.size w w' := by
  have h := indexFuncV_any l s A c L N w hl hN hll b hb hbs
  obtain ⟨B, hB⟩ : ∃ B, l.any (isW · s) = B := ⟨_, rfl⟩
  rw [hB] at h ⊢
  have H := Lib.hid h
  clear h hl hb hB
  go_enter Tryd.func61, Tryd.ntmps61
  go_wp2_with (go_at_call 73; (with_reducible refine H.out.mono ?_); rintro e1 w1 ⟨⟨i, rfl, hi⟩, hb1⟩; have HB1 := Lib.hid hb1; have HI := Lib.hid hi; clear hb1 hi; dsimp only)
  go_ret
  exact ⟨ret_bool HI.out, HB1.out⟩
theorem need_w {v : V} {s : List UInt8} (h : isW v s = true) : needB v s = true := by unfold needB; rw [h]; rfl
theorem need_5 {v : V} {s : List UInt8} (h : isW v s = false) (h5 : v.kind = 5) : needB v s = v.list.any (isW · s) := by unfold needB; rw [h, h5]; rfl
theorem need_o {v : V} {s : List UInt8} (h : isW v s = false) (h5 : v.kind ≠ 5) : needB v s = false := by unfold needB; rw [h]; simp [h5]
set_option maxRecDepth 100000 in
set_option maxHeartbeats 4000000 in
theorem tells_any (v : V) (s : List UInt8) (w : World) (L N : Nat) (cs : List Value) (hv : VIs w L N v cs) (hN : N ≤ w.heap.size) (hll : v.list.length ≤ 100000) :
    Calls Tryd.prog 46 #[.agg cs.toArray, .string ⟨s.toArray⟩] w fun e w' => e = .returned (.bool (needB v s)) ∧ Below w.heap.size w w' := by
  obtain ⟨vk, vn, vt, vl, vks⟩ := v
  obtain ⟨_, A, c, A', c', rfl, h1, h2⟩ := hv.out
  have hll : vl.length ≤ 100000 := hll
  have hnw := @need_w (.mk vk vn vt vl vks) s
  have hn5 := @need_5 (.mk vk vn vt vl vks) s
  have hno := @need_o (.mk vk vn vt vl vks) s
  obtain ⟨S, hS⟩ : ∃ z : ByteArray, z = ⟨s.toArray⟩ := ⟨_, rfl⟩
  obtain ⟨T, hT⟩ : ∃ z : ByteArray, z = ⟨vt.toArray⟩ := ⟨_, rfl⟩
  rw [← hS, ← hT]
  rw [← hT] at hv
  obtain ⟨W2, hW2⟩ : ∃ W2, W2 = (w.alloc (.cells #[.int .i64 vk, .int .i64 vn, .string T, .slice A vl.length c, .slice A' vks.length c'] 25)).alloc (.cells #[.string S] 9) := ⟨_, rfl⟩
  have b2 : Below w.heap.size w W2 := by rw [hW2]; exact ((Below.refl _ _).alloc (Nat.le_refl _) _).alloc (by simp) _
  have z2 : W2.heap.size = w.heap.size + 2 := by rw [hW2]; simp
  have q2 : W2.heap[w.heap.size]? = some (.cells #[.int .i64 vk, .int .i64 vn, .string T, .slice A vl.length c, .slice A' vks.length c'] 25 (0, 0)) := by rw [hW2]; exact alloc_block (heap_alloc_last w _)
  have s2 : W2.heap[w.heap.size + 1]? = some (.cells #[.string S] 9 (0, 0)) := by rw [hW2]; exact fresh_at _ (by simp)
  have hc1 := fun W (hW : Below W2.heap.size W2 W) => tells1_any (.mk vk vn vt vl vks) s W L N _ (hv.below ((b2.chain hW).mono hN)) (w.heap.size + 1) (by rw [cell_here (blk_below s2 hW), ← hS]; rfl) (by have := hW.size; omega)
  have hc2 := fun W (hW : Below W2.heap.size W2 W) => containsFuncV_any vl s A c L N W (by
    rcases h2 with h | ⟨b, o, e, h⟩
    · exact .inl h
    · exact .inr ⟨b, o, e, h.below ((b2.chain hW).mono hN)⟩) (by have := hW.size; omega) hll (w.heap.size + 1) (by rw [cell_here (blk_below s2 hW), ← hS]; rfl) (by have := hW.size; omega)
  have hbx := fun W (hW : Below W2.heap.size W2 W) => (box_of (blk_below q2 hW)).1
  obtain ⟨n, hn⟩ : ∃ n, vl.length = n := ⟨_, rfl⟩
  obtain ⟨m, hm⟩ : ∃ m, vks.length = m := ⟨_, rfl⟩
  rw [hn, hm] at hW2 hbx hc1 ⊢
  rw [hn] at hc2
  obtain ⟨NB, hNB⟩ : ∃ B, needB (.mk vk vn vt vl vks) s = B := ⟨_, rfl⟩
  obtain ⟨IW, hIW⟩ : ∃ B, isW (.mk vk vn vt vl vks) s = B := ⟨_, rfl⟩
  obtain ⟨AN, hAN⟩ : ∃ B, vl.any (isW · s) = B := ⟨_, rfl⟩
  rw [hNB, hIW] at hnw hn5 hno
  rw [hIW] at hc1
  rw [hNB]
  have hn5 : IW = false → vk = 5 → NB = AN := fun h1 h2 => (hn5 h1 h2).trans hAN
  have hno : IW = false → vk ≠ 5 → NB = false := hno
  rw [hAN] at hc2
  have HW2 := Lib.hid hW2; have B2 := Lib.hid b2; have HC1 := Lib.hid hc1; have HC2 := Lib.hid hc2; have HBX := Lib.hid hbx; have HNW := Lib.hid hnw; have HN5 := Lib.hid hn5; have HNO := Lib.hid hno
  clear hW2 b2 z2 q2 s2 hc1 hc2 hbx hn hm hNB hIW hAN hnw hn5 hno hv h1 h2 hS hT
  cases IW with
  | true =>
    obtain rfl := HNW.out rfl
    go_enter Tryd.func46, Tryd.ntmps46
    go_wp2_with (go_at_call 60; rw [← HW2.out]; (with_reducible refine (HC1.out _ (Below.refl _ _)).mono ?_); rintro e1 w1 ⟨rfl, hb1⟩; have HB1 := Lib.hid (B2.out.chain hb1); clear hb1; dsimp only)
    go_ret
    exact ⟨rfl, HB1.out⟩
  | false =>
    by_cases h5 : vk = 5
    · subst h5
      obtain rfl := HN5.out rfl rfl
      have t1 : ((5 : Int) == 5) = true := rfl
      go_enter Tryd.func46, Tryd.ntmps46
      go_wp2_with (first
        | (go_at_call 60; rw [← HW2.out]; (with_reducible refine (HC1.out _ (Below.refl _ _)).mono ?_); rintro e1 w1 ⟨rfl, hb1⟩; have HB1 := Lib.hid hb1; obtain ⟨a0, a1, a2, a3, a4⟩ := HBX.out w1 hb1; clear hb1; dsimp only)
        | (go_at_call 61; (with_reducible refine (HC2.out _ HB1.out).mono ?_); rintro e2 w2 ⟨rfl, hb2⟩; have HB2 := Lib.hid (B2.out.chain (HB1.out.chain hb2)); clear hb2; dsimp only))
      go_ret
      exact ⟨rfl, HB2.out⟩
    · have t1 : (vk == 5) = false := by simpa using h5
      obtain rfl := HNO.out rfl h5
      go_enter Tryd.func46, Tryd.ntmps46
      go_wp2_with (go_at_call 60; rw [← HW2.out]; (with_reducible refine (HC1.out _ (Below.refl _ _)).mono ?_); rintro e1 w1 ⟨rfl, hb1⟩; have HB1 := Lib.hid (B2.out.chain hb1); obtain ⟨a0, a1, a2, a3, a4⟩ := HBX.out w1 hb1; clear hb1; dsimp only)
      go_ret
      exact ⟨rfl, HB1.out⟩
end Go.Proofs.YtobicmpgfiddhaaDoor
