/- JSON: the code's Field. -/
import Derived.Test.YtobicmpgfiddhaaDoorJsonClone
import Derived.Test.YtobicmpgfiddhaaDoorJsonFits
import Derived.Test.YtobicmpgfiddhaaDoorKeyAt
namespace Go.Proofs.YtobicmpgfiddhaaDoor
open Go.RowKit

theorem str_inj {a b : List UInt8} (h : (⟨a.toArray⟩ : ByteArray) = ⟨b.toArray⟩) : a = b := by
  injection h with h; simpa using h
theorem idx_key (ks : List (List UInt8)) (key : List UInt8) : Lib.idxOfS ((strsOf ks).take ks.length) ⟨key.toArray⟩ = if keyAt key ks < ks.length then (keyAt key ks : Int) else -1 := by
  by_cases h : keyAt key ks < ks.length
  · rw [if_pos h]
    refine Lib.idxOfS_hit (strsOf ks) ks.length (keyAt key ks) _ h (by rw [strsOf_len]; exact Nat.le_refl _) ?_ fun j hj => ?_
    · rw [strsOf_getD ks _ h, keyAt_hit key ks h]
    · rw [strsOf_getD ks _ (by omega)]
      exact fun e => keyAt_ahead key ks j (by omega) hj (str_inj e)
  · rw [if_neg h]
    refine Lib.idxOfS_miss (strsOf ks) ks.length _ fun j hj => ?_
    rw [strsOf_getD ks _ hj]
    exact fun e => keyAt_ahead key ks j hj (by have := keyAt_le key ks; omega) (str_inj e)
theorem index_any (ks : List (List UInt8)) (A : Option Addr) (c L N : Nat) (key : List UInt8) (w : World) (hl : ks.length ≤ 9223372036854775807) (h : ks = [] ∨ ∃ b o, A = some ⟨b, o, none⟩ ∧ KIs w L N ks b o) :
    Calls Tryd.prog 58 #[.slice A ks.length c, .string ⟨key.toArray⟩] w fun e w' => e = .returned (.int .i64 (if keyAt key ks < ks.length then (keyAt key ks : Int) else -1)) ∧ w' = w := by
  rcases h with rfl | ⟨b, o, rfl, h⟩
  · exact (Tryd.slices_Index_string_empty A c ⟨key.toArray⟩ w).mono fun e w' ⟨he, hw⟩ => ⟨he, hw⟩
  · rw [← idx_key]
    refine Tryd.slices_Index_string b o ks.length c (strsOf ks) ⟨key.toArray⟩ w (by rw [strsOf_len]; exact Nat.le_refl _) hl fun j hj => ?_
    rw [strsOf_len] at hj
    rw [strsOf_getD ks j hj]
    exact (h.get j hj).2.2
theorem clone_any (v : V) (w : World) (L N p o : Nat) (cs : List Value) (hs : v.slim 1000000) (h5 : Five w p o cs) (hp : p < N) (hv : VIs w L N v cs) (hN : N ≤ w.heap.size) :
    Calls Tryd.prog 59 #[.pointer (some ⟨p, o, none⟩)] w fun e w' => (∃ ds, e = .returned (.agg ds.toArray) ∧ VIs w' w.heap.size w'.heap.size v ds ∧ Thaw w' w.heap.size ds v.list.length) ∧ Below w.heap.size w w' :=
  clone_at v.size v w L N p o cs (Nat.le_refl _) hs h5 hp hv hN
theorem zero_is (w : World) (L N : Nat) : VIs w L N V.zero [.int .i64 0, .int .i64 0, .string ⟨#[]⟩, .slice none 0 0, .slice none 0 0] := by
  have h := VIs.mk (w := w) (L := L) (N := N) (k := 0) (n := 0) (t := []) (l := []) (ks := []) (A := none) (A' := none) (c := 0) (c' := 0) ⟨by simp, by simp, by simp, by simp⟩ (.inl rfl) (.inl rfl)
  exact h
set_option maxRecDepth 100000 in
set_option maxHeartbeats 2000000 in
theorem field_any (v : V) (key : List UInt8) (w : World) (L N : Nat) (cs : List Value) (hs : v.slim 1000000) (hd : v.depth ≤ 65537) (hv : VIs w L N v cs) (hN : N ≤ w.heap.size) :
    Calls Tryd.prog 40 #[.agg cs.toArray, .string ⟨key.toArray⟩] w fun e w' => (∃ ds, e = .returned (.tuple #[.agg ds.toArray, .bool (fieldV key v).isSome]) ∧ VIs w' w.heap.size w'.heap.size ((fieldV key v).getD V.zero) ds ∧ Thaw w' w.heap.size ds ((fieldV key v).getD V.zero).list.length) ∧ Below w.heap.size w w' := by
  obtain ⟨k, n, t, l, ks⟩ := v
  obtain ⟨sl, sk, si⟩ := slim_mk hs
  obtain ⟨hroom, A, c, A', c', rfl, h1, h2⟩ := hv.out
  have hb0 := ((Below.refl w.heap.size w).alloc (Nat.le_refl _) (.cells #[.int .i64 k, .int .i64 n, .string ⟨t.toArray⟩, .slice A l.length c, .slice A' ks.length c'] 25)).alloc (by simp) (.cells #[.int .i64 0, .int .i64 0, .string ⟨#[]⟩, .slice none 0 0, .slice none 0 0] 25)
  have hs2 : ((w.alloc (.cells #[.int .i64 k, .int .i64 n, .string ⟨t.toArray⟩, .slice A l.length c, .slice A' ks.length c'] 25)).alloc (.cells #[.int .i64 0, .int .i64 0, .string ⟨#[]⟩, .slice none 0 0, .slice none 0 0] 25)).heap.size = w.heap.size + 2 := by simp
  have hix := fun wq (hb : Below w.heap.size w wq) => index_any ks A' c' L N key wq (by omega) (by
    rcases h1 with h | ⟨b, o, e, h⟩
    · exact .inl h
    · exact .inr ⟨b, o, e, h.below (hb.mono hN)⟩)
  obtain ⟨F, hF⟩ : ∃ F, fieldV key (.mk k n t l ks) = F := ⟨_, rfl⟩
  have hF2 : F = if k = 6 ∧ keyAt key ks < ks.length then l[keyAt key ks]? else none := by rw [← hF]; rfl
  rw [hF]
  have hle := keyAt_le key ks
  obtain ⟨nk, hnk⟩ : ∃ nk, ks.length = nk := ⟨_, rfl⟩
  obtain ⟨nl, hnl⟩ : ∃ nl, l.length = nl := ⟨_, rfl⟩
  obtain ⟨ix, hixx⟩ : ∃ ix, keyAt key ks = ix := ⟨_, rfl⟩
  rw [hixx] at hF2 hix hle
  rw [hnk] at hF2 hix hle sk hb0 hs2 ⊢
  rw [hnl] at sl hb0 hs2 ⊢
  have HIX := Lib.hid hix; have HB0 := Lib.hid hb0; have HF := Lib.hid hF2; have H2 := Lib.hid h2; have NL := Lib.hid hnl; have HS2 := Lib.hid hs2; have HSI := Lib.hid si; have HD := Lib.hid hd
  clear hix hb0 hF2 h1 h2 hnl hnk hixx hF hs hv hroom hs2 si hd
  by_cases hk6 : k = 6
  · subst hk6
    by_cases hi : ix < nk
    · have hie : (if ix < nk then (ix : Int) else -1) = ix := if_pos hi
      rw [hie] at HIX
      have t1 : decide ((ix : Int) < 0) = false := by simp
      by_cases hil : ix < nl
      · have t2 : decide ((nl : Int) ≤ (ix : Int)) = false := by simp; omega
        have hjl : ix < l.length := by have := NL.out; omega
        have hFs : F = some l[ix] := HF.out.trans (by rw [if_pos ⟨rfl, hi⟩]; exact List.getElem?_eq_getElem hjl)
        subst hFs
        obtain ⟨q, r, rfl, _, hqN, xs, hx5, hxv⟩ := VIs.item H2.out ix hjl
        have hdx : l[ix].depth ≤ 65537 := by
          have h := HD.out
          rw [depth_mk] at h
          exact (depths_iff l 65537).1 (by omega) ix hjl
        have hsx := HSI.out ix hjl
        generalize l[ix] = x at *
        have hw1 : ∀ wq, Below w.heap.size w wq → Calls Tryd.prog 37 #[.pointer (some ⟨q, r + ix * 5, none⟩), .int .i64 65537] wq fun e w' => e = .returned (.bool true) ∧ Below wq.heap.size wq w' := fun wq hb =>
          (within_any x 65537 wq L N q (r + ix * 5) xs (by decide) (hx5.keep hqN fun z hz => (hb.mono hN).cell hz) hqN (hxv.below (hb.mono hN)) (Nat.le_trans hN hb.size)).mono fun e w' ⟨h1, h2⟩ => ⟨by rw [h1, decide_eq_true hdx], h2⟩
        have hcl := fun wq (hb : Below w.heap.size w wq) => clone_any x wq L N q (r + ix * 5) xs hsx (hx5.keep hqN fun z hz => (hb.mono hN).cell hz) hqN (hxv.below (hb.mono hN)) (Nat.le_trans hN hb.size)
        have HW := Lib.hid hw1; have HC := Lib.hid hcl
        have hform := fun (w1 : World) (La Na : Nat) ds (h : VIs w1 La Na x ds) => h.form
        have FORM := Lib.hid hform
        obtain ⟨W2, hW2⟩ : ∃ W2, W2 = ((w.alloc (.cells #[.int .i64 6, .int .i64 n, .string ⟨t.toArray⟩, .slice (some ⟨q, r, none⟩) nl c, .slice A' nk c'] 25)).alloc (.cells #[.int .i64 0, .int .i64 0, .string ⟨#[]⟩, .slice none 0 0, .slice none 0 0] 25)) := ⟨_, rfl⟩
        have bx : W2.cell? ⟨w.heap.size, 3, none⟩ = some (.slice (some ⟨q, r, none⟩) nl c) := by rw [hW2]; simp
        have rx : W2.heap[w.heap.size + 1]? = some (.cells #[.int .i64 0, .int .i64 0, .string ⟨#[]⟩, .slice none 0 0, .slice none 0 0] 25 (0, 0)) := by
          rw [hW2]
          have := heap_alloc_last (w.alloc (.cells #[.int .i64 6, .int .i64 n, .string ⟨t.toArray⟩, .slice (some ⟨q, r, none⟩) nl c, .slice A' nk c'] 25)) (.cells #[.int .i64 0, .int .i64 0, .string ⟨#[]⟩, .slice none 0 0, .slice none 0 0] 25)
          simpa using this
        have hz2 := HS2.out
        have hb0 := HB0.out
        rw [← hW2] at hz2 hb0
        have BX := Lib.hid bx; have RX := Lib.hid rx; have Z2 := Lib.hid hz2; have B0 := Lib.hid hb0; have HWW := Lib.hid hW2
        have hj0 : (0 : Int) ≤ ix := by omega
        have hj1 : (ix : Int) < nl := by omega
        clear hw1 hcl hform bx rx hz2 hb0 hW2 hx5 hxv hdx hsx HB0 HS2
        go_enter Tryd.func40, Tryd.ntmps40
        go_wp2_with (go_at_call 58; refine (HIX.out _ (by rw [← HWW.out]; exact B0.out)).mono ?_; rintro e1 w1 ⟨rfl, rfl⟩)
        rw [← HWW.out]
        refine (HW.out _ B0.out).mono ?_
        rintro e3 w3 ⟨rfl, hb3⟩
        dsimp only
        have z2 := Z2.out
        have z3 := hb3.size
        have bx3 : w3.cell? ⟨w.heap.size, 3, none⟩ = some (.slice (some ⟨q, r, none⟩) nl c) := (hb3.cell (p := ⟨w.heap.size, 3, none⟩) (by show w.heap.size < _; omega)).trans BX.out
        have hb3' : Below w.heap.size w w3 := B0.out.trans (hb3.mono (by omega))
        have hb33 : Below W2.heap.size W2 w3 := hb3
        clear hb3
        go_wp2_with (go_at_call 59; refine (HC.out _ hb3').mono ?_; rintro e4 w4 ⟨⟨ds, rfl, hv4, ht4⟩, hb4⟩; obtain ⟨u1, u2, u3, u4, rfl⟩ := FORM.out w4 _ _ ds hv4; have hr4 := (hb4.block (w.heap.size + 1) (by omega)).trans ((hb33.block (w.heap.size + 1) (by omega)).trans RX.out); obtain ⟨⟨e0, e1, e2, e3, e4⟩, f0, f1, f2, f3, f4⟩ := box_of hr4)
        have hsz := hb4.size
        have hz3 := z3
        obtain ⟨wf, hwf⟩ : ∃ wf, wf = set5 w4 (w.heap.size + 1) 0 (.int .i64 x.kind) (.int .i64 x.num) (.string ⟨x.text.toArray⟩) (.slice u1 x.list.length u2) (.slice u3 x.keys.length u4) := ⟨_, rfl⟩
        change bodyPost _ _ _ _ _ (set5 w4 (w.heap.size + 1) 0 (.int .i64 x.kind) (.int .i64 x.num) (.string ⟨x.text.toArray⟩) (.slice u1 x.list.length u2) (.slice u3 x.keys.length u4))
        rw [← hwf]
        have hx : wf.heap[w.heap.size + 1]? = some (.cells #[.int .i64 x.kind, .int .i64 x.num, .string ⟨x.text.toArray⟩, .slice u1 x.list.length u2, .slice u3 x.keys.length u4] 25 (0, 0)) := by rw [hwf]; exact set5_here hr4
        have hvf : VIs wf w.heap.size wf.heap.size x [.int .i64 x.kind, .int .i64 x.num, .string ⟨x.text.toArray⟩, .slice u1 x.list.length u2, .slice u3 x.keys.length u4] := by
          have hsf : wf.heap.size = w4.heap.size := by rw [hwf, set5_size]
          rw [hsf]
          refine (hv4.keep2 fun q h1 h2 => ?_).more (by omega) (Nat.le_refl _)
          have hne : q.block ≠ w.heap.size + 1 := by omega
          exact World.cell?_of_block (w := w4) (by rw [hwf]; exact set5_there hne)
        have hbf : Below w.heap.size w wf := by
          rw [hwf]; exact (hb3'.trans (hb4.mono (by omega))).trans (set5_below (by omega))
        obtain ⟨⟨x0, x1, x2, x3, x4⟩, -⟩ := box_of hx
        have htf : Thaw wf w.heap.size [.int .i64 x.kind, .int .i64 x.num, .string ⟨x.text.toArray⟩, .slice u1 x.list.length u2, .slice u3 x.keys.length u4] x.list.length := by
          rcases ht4 with h | ⟨g, c', C, e, hg1, hg2, hg3⟩
          · exact .inl h
          · refine .inr ⟨g, c', C, e, by omega, ?_, hg3⟩
            rw [hwf]; exact (set5_there (by omega)).trans hg2
        have HVF := Lib.hid hvf; have HBF := Lib.hid hbf; have HTF := Lib.hid htf
        clear hvf hbf htf ht4 hwf hx e0 e1 e2 e3 e4 f0 f1 f2 f3 f4 hv4
        refine bodyPost_ret (v := .tuple #[.agg #[.int .i64 x.kind, .int .i64 x.num, .string ⟨x.text.toArray⟩, .slice u1 x.list.length u2, .slice u3 x.keys.length u4], .bool true]) (by simp [results, Tryd.results40, go_sem, x0, x1, x2, x3, x4]) rfl ?_
        exact ⟨⟨[_, _, _, _, _], rfl, HVF.out, HTF.out⟩, HBF.out⟩
      · have t2 : decide ((nl : Int) ≤ (ix : Int)) = true := by simp; omega
        have hFn : F = none := HF.out.trans (by rw [if_pos ⟨rfl, hi⟩]; exact List.getElem?_eq_none (by have := NL.out; omega))
        subst hFn
        go_enter Tryd.func40, Tryd.ntmps40
        go_wp2_with (go_at_call 58; refine (HIX.out _ HB0.out).mono ?_; rintro e1 w1 ⟨rfl, rfl⟩)
        refine bodyPost_ret (v := .tuple #[.agg #[.int .i64 0, .int .i64 0, .string ⟨#[]⟩, .slice none 0 0, .slice none 0 0], .bool false]) (by simp [results, Tryd.results40, go_sem]) rfl ?_
        exact ⟨⟨[_, _, _, _, _], rfl, zero_is _ _ _, .inl rfl⟩, HB0.out⟩
    · have hie : (if ix < nk then (ix : Int) else -1) = -1 := if_neg hi
      rw [hie] at HIX
      have hFn : F = none := HF.out.trans (if_neg (fun h => hi h.2))
      subst hFn
      go_enter Tryd.func40, Tryd.ntmps40
      go_wp2_with (go_at_call 58; refine (HIX.out _ HB0.out).mono ?_; rintro e1 w1 ⟨rfl, rfl⟩)
      refine bodyPost_ret (v := .tuple #[.agg #[.int .i64 0, .int .i64 0, .string ⟨#[]⟩, .slice none 0 0, .slice none 0 0], .bool false]) (by simp [results, Tryd.results40, go_sem]) rfl ?_
      exact ⟨⟨[_, _, _, _, _], rfl, zero_is _ _ _, .inl rfl⟩, HB0.out⟩
  · have hk6' : (k == 6) = false := by simpa using hk6
    have hk7 : (k != 6) = true := by simpa using hk6
    have hFn : F = none := HF.out.trans (if_neg (fun h => hk6 h.1))
    subst hFn
    clear hk6
    obtain ⟨iv, hiv⟩ : ∃ iv : Int, (if ix < nk then (ix : Int) else -1) = iv := ⟨_, rfl⟩
    rw [hiv] at HIX
    go_enter Tryd.func40, Tryd.ntmps40
    go_wp2_with (go_at_call 58; refine (HIX.out _ HB0.out).mono ?_; rintro e1 w1 ⟨rfl, rfl⟩)
    refine bodyPost_ret (v := .tuple #[.agg #[.int .i64 0, .int .i64 0, .string ⟨#[]⟩, .slice none 0 0, .slice none 0 0], .bool false]) (by simp [results, Tryd.results40, go_sem]) rfl ?_
    exact ⟨⟨[_, _, _, _, _], rfl, zero_is _ _ _, .inl rfl⟩, HB0.out⟩
end Go.Proofs.YtobicmpgfiddhaaDoor
