/- Texts merged by program, in build order: JsonField, JwkPure, ClaimsPure, ClaimsSays, JsonRSame. -/
import Derived.Test.YtcbajbpdgmmaeaaDoorC05
import Derived.Test.YtcbajbpdgmmaeaaDoorC04
import Derived.Test.YtcbajbpdgmmaeaaDoorC02
import Derived.Test.YtcbajbpdgmmaeaaDoorC03
namespace Go.Proofs.YtcbajbpdgmmaeaaDoor
open Go.RowKit

/-- where a key stands first; their number: nowhere -/
def keyAt (key : List UInt8) : List (List UInt8) → Nat
  | [] => 0
  | k :: r => if k = key then 0 else keyAt key r + 1
theorem keyAt_le (key : List UInt8) (ks : List (List UInt8)) : keyAt key ks ≤ ks.length := by
  induction ks with
  | nil => exact Nat.le_refl _
  | cons k r ih => unfold keyAt; split <;> simp; omega
theorem keyAt_hit (key : List UInt8) : ∀ (ks : List (List UInt8)) (h : keyAt key ks < ks.length), ks[keyAt key ks] = key
  | [], h => absurd h (Nat.not_lt_zero _)
  | k :: r, h => by
    by_cases hk : k = key
    · have e : keyAt key (k :: r) = 0 := by unfold keyAt; rw [if_pos hk]
      simp only [e]; exact hk
    · have e : keyAt key (k :: r) = keyAt key r + 1 := by
        conv => lhs; unfold keyAt
        rw [if_neg hk]
      simp only [e] at h ⊢
      exact keyAt_hit key r (by simpa using h)
theorem keyAt_ahead (key : List UInt8) : ∀ (ks : List (List UInt8)) (j : Nat) (hj : j < ks.length), j < keyAt key ks → ks[j] ≠ key
  | [], j, hj, _ => absurd hj (Nat.not_lt_zero _)
  | k :: r, j, hj, h => by
    by_cases hk : k = key
    · have e : keyAt key (k :: r) = 0 := by unfold keyAt; rw [if_pos hk]
      omega
    · have e : keyAt key (k :: r) = keyAt key r + 1 := by
        conv => lhs; unfold keyAt
        rw [if_neg hk]
      cases j with
      | zero => exact hk
      | succ j => exact keyAt_ahead key r j (by simpa using hj) (by omega)
theorem keyAt_is (key : List UInt8) (ks : List (List UInt8)) (j : Nat) (hj : j < ks.length) (h : ks[j] = key) (hne : ∀ i (hi : i < ks.length), i < j → ks[i] ≠ key) : keyAt key ks = j := by
  rcases Nat.lt_trichotomy (keyAt key ks) j with h' | h' | h'
  · exact absurd (keyAt_hit key ks (by omega)) (hne _ (by omega) h')
  · exact h'
  · exact absurd h (keyAt_ahead key ks j hj h')
theorem keyAt_none (key : List UInt8) (ks : List (List UInt8)) (hne : ∀ i (hi : i < ks.length), ks[i] ≠ key) : keyAt key ks = ks.length := by
  have := keyAt_le key ks
  rcases Nat.lt_or_ge (keyAt key ks) ks.length with h | h
  · exact absurd (keyAt_hit key ks h) (hne _ h)
  · omega
theorem str_inj {a b : List UInt8} (h : (⟨a.toArray⟩ : ByteArray) = ⟨b.toArray⟩) : a = b := by
  injection h with h; simpa using h
theorem idx_key (ks : List (List UInt8)) (key : List UInt8) : Lib.idxOfS ((strsOf ks).take ks.length) ⟨key.toArray⟩ = if keyAt key ks < ks.length then (keyAt key ks : Int) else -1 := by
  by_cases h : keyAt key ks < ks.length
  · rw [if_pos h]
    refine Lib.idxOfS_hit (strsOf ks) ks.length (keyAt key ks) _ h (by rw [strsOf_len]; exact Nat.le_refl _) ?_ fun j hj => ?_
    · rw [strsOf_getD ks _ h, keyAt_hit key ks h]
    · rw [strsOf_getD ks _ (by omega)]
      exact fun e => keyAt_ahead key ks j (by omega) hj (str_inj e)
  · rw [if_neg h]
    refine Lib.idxOfS_miss (strsOf ks) ks.length _ fun j hj => ?_
    rw [strsOf_getD ks _ hj]
    exact fun e => keyAt_ahead key ks j hj (by have := keyAt_le key ks; omega) (str_inj e)
/-- what Field answers -/
def fieldV (key : List UInt8) : V → Option V
  | .mk k _ _ l ks => if k = 6 ∧ keyAt key ks < ks.length then l[keyAt key ks]? else none
theorem index_any (ks : List (List UInt8)) (A : Option Addr) (c L N : Nat) (key : List UInt8) (w : World) (hl : ks.length ≤ 9223372036854775807) (h : ks = [] ∨ ∃ b o, A = some ⟨b, o, none⟩ ∧ KIs w L N ks b o) :
    Calls Tryd.prog 34 #[.slice A ks.length c, .string ⟨key.toArray⟩] w fun e w' => e = .returned (.int .i64 (if keyAt key ks < ks.length then (keyAt key ks : Int) else -1)) ∧ w' = w := by
  rcases h with rfl | ⟨b, o, rfl, h⟩
  · exact (Tryd.slices_Index_string_empty A c ⟨key.toArray⟩ w).mono fun e w' ⟨he, hw⟩ => ⟨he, hw⟩
  · rw [← idx_key]
    refine Tryd.slices_Index_string b o ks.length c (strsOf ks) ⟨key.toArray⟩ w (by rw [strsOf_len]; exact Nat.le_refl _) hl fun j hj => ?_
    rw [strsOf_len] at hj
    rw [strsOf_getD ks j hj]
    exact (h.get j hj).2.2
theorem clone_any (v : V) (w : World) (L N p o : Nat) (cs : List Value) (hs : v.slim 1000000) (h5 : Five w p o cs) (hp : p < N) (hv : VIs w L N v cs) (hN : N ≤ w.heap.size) :
    Calls Tryd.prog 35 #[.pointer (some ⟨p, o, none⟩)] w fun e w' => (∃ ds, e = .returned (.agg ds.toArray) ∧ VIs w' w.heap.size w'.heap.size v ds ∧ Thaw w' w.heap.size ds v.list.length) ∧ Below w.heap.size w w' :=
  clone_at v.size v w L N p o cs (Nat.le_refl _) hs h5 hp hv hN
theorem zero_is (w : World) (L N : Nat) : VIs w L N V.zero [.int .i64 0, .int .i64 0, .string ⟨#[]⟩, .slice none 0 0, .slice none 0 0] := by
  have h := VIs.mk (w := w) (L := L) (N := N) (k := 0) (n := 0) (t := []) (l := []) (ks := []) (A := none) (A' := none) (c := 0) (c' := 0) ⟨by simp, by simp, by simp, by simp⟩ (.inl rfl) (.inl rfl)
  exact h
set_option maxRecDepth 100000 in
set_option maxHeartbeats 2000000 in
theorem field_any (v : V) (key : List UInt8) (w : World) (L N : Nat) (cs : List Value) (hs : v.slim 1000000) (hd : v.depth ≤ 65537) (hv : VIs w L N v cs) (hN : N ≤ w.heap.size) :
    Calls Tryd.prog 25 #[.agg cs.toArray, .string ⟨key.toArray⟩] w fun e w' => (∃ ds, e = .returned (.tuple #[.agg ds.toArray, .bool (fieldV key v).isSome]) ∧ VIs w' w.heap.size w'.heap.size ((fieldV key v).getD V.zero) ds ∧ Thaw w' w.heap.size ds ((fieldV key v).getD V.zero).list.length) ∧ Below w.heap.size w w' := by
  obtain ⟨k, n, t, l, ks⟩ := v
  obtain ⟨sl, sk, si⟩ := slim_mk hs
  obtain ⟨hroom, A, c, A', c', rfl, h1, h2⟩ := hv.out
  have hb0 := ((Below.refl w.heap.size w).alloc (Nat.le_refl _) (.cells #[.int .i64 k, .int .i64 n, .string ⟨t.toArray⟩, .slice A l.length c, .slice A' ks.length c'] 28)).alloc (by simp) (.cells #[.int .i64 0, .int .i64 0, .string ⟨#[]⟩, .slice none 0 0, .slice none 0 0] 28)
  have hs2 : ((w.alloc (.cells #[.int .i64 k, .int .i64 n, .string ⟨t.toArray⟩, .slice A l.length c, .slice A' ks.length c'] 28)).alloc (.cells #[.int .i64 0, .int .i64 0, .string ⟨#[]⟩, .slice none 0 0, .slice none 0 0] 28)).heap.size = w.heap.size + 2 := by simp
  have hix := fun wq (hb : Below w.heap.size w wq) => index_any ks A' c' L N key wq (by omega) (by
    rcases h1 with h | ⟨b, o, e, h⟩
    · exact .inl h
    · exact .inr ⟨b, o, e, h.below (hb.mono hN)⟩)
  obtain ⟨F, hF⟩ : ∃ F, fieldV key (.mk k n t l ks) = F := ⟨_, rfl⟩
  have hF2 : F = if k = 6 ∧ keyAt key ks < ks.length then l[keyAt key ks]? else none := by rw [← hF]; rfl
  rw [hF]
  have hle := keyAt_le key ks
  obtain ⟨nk, hnk⟩ : ∃ nk, ks.length = nk := ⟨_, rfl⟩
  obtain ⟨nl, hnl⟩ : ∃ nl, l.length = nl := ⟨_, rfl⟩
  obtain ⟨ix, hixx⟩ : ∃ ix, keyAt key ks = ix := ⟨_, rfl⟩
  rw [hixx] at hF2 hix hle
  rw [hnk] at hF2 hix hle sk hb0 hs2 ⊢
  rw [hnl] at sl hb0 hs2 ⊢
  have HIX := Lib.hid hix; have HB0 := Lib.hid hb0; have HF := Lib.hid hF2; have H2 := Lib.hid h2; have NL := Lib.hid hnl; have HS2 := Lib.hid hs2; have HSI := Lib.hid si; have HD := Lib.hid hd
  clear hix hb0 hF2 h1 h2 hnl hnk hixx hF hs hv hroom hs2 si hd
  by_cases hk6 : k = 6
  · subst hk6
    by_cases hi : ix < nk
    · have hie : (if ix < nk then (ix : Int) else -1) = ix := if_pos hi
      rw [hie] at HIX
      have t1 : decide ((ix : Int) < 0) = false := by simp
      by_cases hil : ix < nl
      · have t2 : decide ((nl : Int) ≤ (ix : Int)) = false := by simp; omega
        have hjl : ix < l.length := by have := NL.out; omega
        have hFs : F = some l[ix] := HF.out.trans (by rw [if_pos ⟨rfl, hi⟩]; exact List.getElem?_eq_getElem hjl)
        subst hFs
        obtain ⟨q, r, rfl, _, hqN, xs, hx5, hxv⟩ := VIs.item H2.out ix hjl
        have hdx : l[ix].depth ≤ 65537 := by
          have h := HD.out
          rw [depth_mk] at h
          exact (depths_iff l 65537).1 (by omega) ix hjl
        have hsx := HSI.out ix hjl
        generalize l[ix] = x at *
        have hw1 : ∀ wq, Below w.heap.size w wq → Calls Tryd.prog 33 #[.pointer (some ⟨q, r + ix * 5, none⟩), .int .i64 65537] wq fun e w' => e = .returned (.bool true) ∧ Below wq.heap.size wq w' := fun wq hb =>
          (within_any x 65537 wq L N q (r + ix * 5) xs (by decide) (hx5.keep hqN fun z hz => (hb.mono hN).cell hz) hqN (hxv.below (hb.mono hN)) (Nat.le_trans hN hb.size)).mono fun e w' ⟨h1, h2⟩ => ⟨by rw [h1, decide_eq_true hdx], h2⟩
        have hcl := fun wq (hb : Below w.heap.size w wq) => clone_any x wq L N q (r + ix * 5) xs hsx (hx5.keep hqN fun z hz => (hb.mono hN).cell hz) hqN (hxv.below (hb.mono hN)) (Nat.le_trans hN hb.size)
        have HW := Lib.hid hw1; have HC := Lib.hid hcl
        have hform := fun (w1 : World) (La Na : Nat) ds (h : VIs w1 La Na x ds) => h.form
        have FORM := Lib.hid hform
        obtain ⟨W2, hW2⟩ : ∃ W2, W2 = ((w.alloc (.cells #[.int .i64 6, .int .i64 n, .string ⟨t.toArray⟩, .slice (some ⟨q, r, none⟩) nl c, .slice A' nk c'] 28)).alloc (.cells #[.int .i64 0, .int .i64 0, .string ⟨#[]⟩, .slice none 0 0, .slice none 0 0] 28)) := ⟨_, rfl⟩
        have bx : W2.cell? ⟨w.heap.size, 3, none⟩ = some (.slice (some ⟨q, r, none⟩) nl c) := by rw [hW2]; simp
        have rx : W2.heap[w.heap.size + 1]? = some (.cells #[.int .i64 0, .int .i64 0, .string ⟨#[]⟩, .slice none 0 0, .slice none 0 0] 28 (0, 0)) := by
          rw [hW2]
          have := heap_alloc_last (w.alloc (.cells #[.int .i64 6, .int .i64 n, .string ⟨t.toArray⟩, .slice (some ⟨q, r, none⟩) nl c, .slice A' nk c'] 28)) (.cells #[.int .i64 0, .int .i64 0, .string ⟨#[]⟩, .slice none 0 0, .slice none 0 0] 28)
          simpa using this
        have hz2 := HS2.out
        have hb0 := HB0.out
        rw [← hW2] at hz2 hb0
        have BX := Lib.hid bx; have RX := Lib.hid rx; have Z2 := Lib.hid hz2; have B0 := Lib.hid hb0; have HWW := Lib.hid hW2
        have hj0 : (0 : Int) ≤ ix := by omega
        have hj1 : (ix : Int) < nl := by omega
        clear hw1 hcl hform bx rx hz2 hb0 hW2 hx5 hxv hdx hsx HB0 HS2
        go_enter Tryd.func25, Tryd.ntmps25
        go_wp2_with (go_at_call 34; refine (HIX.out _ (by rw [← HWW.out]; exact B0.out)).mono ?_; rintro e1 w1 ⟨rfl, rfl⟩)
        rw [← HWW.out]
        refine (HW.out _ B0.out).mono ?_
        rintro e3 w3 ⟨rfl, hb3⟩
        dsimp only
        have z2 := Z2.out
        have z3 := hb3.size
        have bx3 : w3.cell? ⟨w.heap.size, 3, none⟩ = some (.slice (some ⟨q, r, none⟩) nl c) := (hb3.cell (p := ⟨w.heap.size, 3, none⟩) (by show w.heap.size < _; omega)).trans BX.out
        have hb3' : Below w.heap.size w w3 := B0.out.trans (hb3.mono (by omega))
        have hb33 : Below W2.heap.size W2 w3 := hb3
        clear hb3
        go_wp2_with (go_at_call 35; refine (HC.out _ hb3').mono ?_; rintro e4 w4 ⟨⟨ds, rfl, hv4, ht4⟩, hb4⟩; obtain ⟨u1, u2, u3, u4, rfl⟩ := FORM.out w4 _ _ ds hv4; have hr4 := (hb4.block (w.heap.size + 1) (by omega)).trans ((hb33.block (w.heap.size + 1) (by omega)).trans RX.out); obtain ⟨⟨e0, e1, e2, e3, e4⟩, f0, f1, f2, f3, f4⟩ := box_of hr4)
        have hsz := hb4.size
        have hz3 := z3
        obtain ⟨wf, hwf⟩ : ∃ wf, wf = set5 w4 (w.heap.size + 1) 0 (.int .i64 x.kind) (.int .i64 x.num) (.string ⟨x.text.toArray⟩) (.slice u1 x.list.length u2) (.slice u3 x.keys.length u4) := ⟨_, rfl⟩
        change bodyPost _ _ _ _ _ (set5 w4 (w.heap.size + 1) 0 (.int .i64 x.kind) (.int .i64 x.num) (.string ⟨x.text.toArray⟩) (.slice u1 x.list.length u2) (.slice u3 x.keys.length u4))
        rw [← hwf]
        have hx : wf.heap[w.heap.size + 1]? = some (.cells #[.int .i64 x.kind, .int .i64 x.num, .string ⟨x.text.toArray⟩, .slice u1 x.list.length u2, .slice u3 x.keys.length u4] 28 (0, 0)) := by rw [hwf]; exact set5_here hr4
        have hvf : VIs wf w.heap.size wf.heap.size x [.int .i64 x.kind, .int .i64 x.num, .string ⟨x.text.toArray⟩, .slice u1 x.list.length u2, .slice u3 x.keys.length u4] := by
          have hsf : wf.heap.size = w4.heap.size := by rw [hwf, set5_size]
          rw [hsf]
          refine (hv4.keep2 fun q h1 h2 => ?_).more (by omega) (Nat.le_refl _)
          have hne : q.block ≠ w.heap.size + 1 := by omega
          exact World.cell?_of_block (w := w4) (by rw [hwf]; exact set5_there hne)
        have hbf : Below w.heap.size w wf := by
          rw [hwf]; exact (hb3'.trans (hb4.mono (by omega))).trans (set5_below (by omega))
        obtain ⟨⟨x0, x1, x2, x3, x4⟩, -⟩ := box_of hx
        have htf : Thaw wf w.heap.size [.int .i64 x.kind, .int .i64 x.num, .string ⟨x.text.toArray⟩, .slice u1 x.list.length u2, .slice u3 x.keys.length u4] x.list.length := by
          rcases ht4 with h | ⟨g, c', C, e, hg1, hg2, hg3⟩
          · exact .inl h
          · refine .inr ⟨g, c', C, e, by omega, ?_, hg3⟩
            rw [hwf]; exact (set5_there (by omega)).trans hg2
        have HVF := Lib.hid hvf; have HBF := Lib.hid hbf; have HTF := Lib.hid htf
        clear hvf hbf htf ht4 hwf hx e0 e1 e2 e3 e4 f0 f1 f2 f3 f4 hv4
        refine bodyPost_ret (v := .tuple #[.agg #[.int .i64 x.kind, .int .i64 x.num, .string ⟨x.text.toArray⟩, .slice u1 x.list.length u2, .slice u3 x.keys.length u4], .bool true]) (by simp [results, Tryd.results25, go_sem, x0, x1, x2, x3, x4]) rfl ?_
        exact ⟨⟨[_, _, _, _, _], rfl, HVF.out, HTF.out⟩, HBF.out⟩
      · have t2 : decide ((nl : Int) ≤ (ix : Int)) = true := by simp; omega
        have hFn : F = none := HF.out.trans (by rw [if_pos ⟨rfl, hi⟩]; exact List.getElem?_eq_none (by have := NL.out; omega))
        subst hFn
        go_enter Tryd.func25, Tryd.ntmps25
        go_wp2_with (go_at_call 34; refine (HIX.out _ HB0.out).mono ?_; rintro e1 w1 ⟨rfl, rfl⟩)
        refine bodyPost_ret (v := .tuple #[.agg #[.int .i64 0, .int .i64 0, .string ⟨#[]⟩, .slice none 0 0, .slice none 0 0], .bool false]) (by simp [results, Tryd.results25, go_sem]) rfl ?_
        exact ⟨⟨[_, _, _, _, _], rfl, zero_is _ _ _, .inl rfl⟩, HB0.out⟩
    · have hie : (if ix < nk then (ix : Int) else -1) = -1 := if_neg hi
      rw [hie] at HIX
      have hFn : F = none := HF.out.trans (if_neg (fun h => hi h.2))
      subst hFn
      go_enter Tryd.func25, Tryd.ntmps25
      go_wp2_with (go_at_call 34; refine (HIX.out _ HB0.out).mono ?_; rintro e1 w1 ⟨rfl, rfl⟩)
      refine bodyPost_ret (v := .tuple #[.agg #[.int .i64 0, .int .i64 0, .string ⟨#[]⟩, .slice none 0 0, .slice none 0 0], .bool false]) (by simp [results, Tryd.results25, go_sem]) rfl ?_
      exact ⟨⟨[_, _, _, _, _], rfl, zero_is _ _ _, .inl rfl⟩, HB0.out⟩
  · have hk6' : (k == 6) = false := by simpa using hk6
    have hk7 : (k != 6) = true := by simpa using hk6
    have hFn : F = none := HF.out.trans (if_neg (fun h => hk6 h.1))
    subst hFn
    clear hk6
    obtain ⟨iv, hiv⟩ : ∃ iv : Int, (if ix < nk then (ix : Int) else -1) = iv := ⟨_, rfl⟩
    rw [hiv] at HIX
    go_enter Tryd.func25, Tryd.ntmps25
    go_wp2_with (go_at_call 34; refine (HIX.out _ HB0.out).mono ?_; rintro e1 w1 ⟨rfl, rfl⟩)
    refine bodyPost_ret (v := .tuple #[.agg #[.int .i64 0, .int .i64 0, .string ⟨#[]⟩, .slice none 0 0, .slice none 0 0], .bool false]) (by simp [results, Tryd.results25, go_sem]) rfl ?_
    exact ⟨⟨[_, _, _, _, _], rfl, zero_is _ _ _, .inl rfl⟩, HB0.out⟩
end Go.Proofs.YtcbajbpdgmmaeaaDoor
namespace Go.Proofs.YtcbajbpdgmmaeaaDoor

/-- the key whose object a value is; of others some key -/
def jwkOf (v : V) : List UInt8 × List UInt8 := (((fieldV wKid v).getD V.zero).text, (dec ((fieldV wK v).getD V.zero).text).getD [])
def jwksOf (v : V) : PL := ((fieldV wKeys v).getD V.zero).list.map jwkOf
/-- Parse -/
def setR (s : List UInt8) : PL × Int := if (parseV s).2 = 0 then (if setT (jwksOf (parseV s).1) = s then (jwksOf (parseV s).1, 0) else ([], 2)) else ([], (parseV s).2)

theorem setR_bad {s : List UInt8} (h : (parseV s).2 ≠ 0) : setR s = ([], (parseV s).2) := if_neg h
theorem setR_set {s : List UInt8} (h : (parseV s).2 = 0) (h2 : setT (jwksOf (parseV s).1) = s) : setR s = (jwksOf (parseV s).1, 0) := by unfold setR; rw [if_pos h, if_pos h2]
theorem setR_not {s : List UInt8} (h : (parseV s).2 = 0) (h2 : setT (jwksOf (parseV s).1) ≠ s) : setR s = ([], 2) := by unfold setR; rw [if_pos h, if_neg h2]
/-- no error, and a set's text; or none, and the text's own error, or that of the form -/
theorem setR_cases (s : List UInt8) : ((setR s).2 = 0 ∧ setT (setR s).1 = s) ∨ ((setR s).2 ≠ 0 ∧ (setR s).1 = [] ∧ ((setR s).2 = (parseV s).2 ∨ ((parseV s).2 = 0 ∧ (setR s).2 = 2))) := by
  by_cases h : (parseV s).2 = 0
  · by_cases h2 : setT (jwksOf (parseV s).1) = s
    · rw [setR_set h h2]; exact .inl ⟨rfl, h2⟩
    · rw [setR_not h h2]; exact .inr ⟨by decide, rfl, .inr ⟨h, rfl⟩⟩
  · rw [setR_bad h]; exact .inr ⟨h, rfl, .inl rfl⟩
theorem fieldV_mk (key : List UInt8) (k n : Int) (t : List UInt8) (l : List V) (ks : List (List UInt8)) : fieldV key (.mk k n t l ks) = if k = 6 ∧ keyAt key ks < ks.length then l[keyAt key ks]? else none := rfl
theorem jwkOf_keyV (p : List UInt8 × List UInt8) : jwkOf (keyV p) = p := by
  have h1 : fieldV wKid (keyV p) = some (textV p.1) := by
    have : keyAt wKid [wKty, wAlg, wKid, wK] = 2 := by decide +kernel
    unfold keyV
    rw [fieldV_mk, this]; simp
  have h2 : fieldV wK (keyV p) = some (textV (enc p.2)) := by
    have : keyAt wK [wKty, wAlg, wKid, wK] = 3 := by decide +kernel
    unfold keyV
    rw [fieldV_mk, this]; simp
  unfold jwkOf
  rw [h1, h2]
  show (p.1, (dec (enc p.2)).getD []) = p
  rw [dec_enc]; rfl
theorem keysOf_setV (l : PL) : jwksOf (setV l) = l := by
  have h1 : fieldV wKeys (setV l) = some (listV l) := by
    have : keyAt wKeys [wKeys] = 0 := by decide +kernel
    unfold setV
    rw [fieldV_mk, this]; simp
  unfold jwksOf
  rw [h1]
  show (l.map keyV).map jwkOf = l
  rw [List.map_map]
  have : jwkOf ∘ keyV = id := funext jwkOf_keyV
  rw [this, List.map_id]
theorem setT_take (l : PL) : setT (l.take 64) = setT l := by unfold setT; rw [List.take_take]; rfl
theorem setR_back (l : PL) (h : (setT l).length ≤ 4096) : setR (setT l) = (l.take 64, 0) := by
  have hp := parse_set l h
  rw [setR_set (by rw [hp]) (by rw [hp]; show setT (jwksOf (setV (l.take 64))) = _; rw [keysOf_setV, setT_take]), hp]
  show (jwksOf (setV (l.take 64)), 0) = _
  rw [keysOf_setV]
theorem setR_large {s : List UInt8} (h : 4096 < s.length) : setR s = ([], 3) := by
  have : parseV s = (V.zero, 3) := by unfold parseV; rw [if_pos h]
  rw [setR_bad (by rw [this]; decide), this]
theorem setR_form {s : List UInt8} (h : parseV s = (V.zero, 2)) : setR s = ([], 2) := by rw [setR_bad (by rw [h]; decide), h]

/-! ## how great what is read may be -/
theorem parseV_good {s : List UInt8} (h : (parseV s).2 = 0) : (parseV s).1.fits 8 = true ∧ (parseV s).1.show = s ∧ s.length ≤ 4096 := by
  unfold parseV at h ⊢
  by_cases hl : 4096 < s.length
  · rw [if_pos hl] at h; cases h
  · rw [if_neg hl] at h ⊢
    cases hr : readV s with
    | none => rw [hr] at h; cases h
    | some v =>
      rw [hr] at h
      simp only at h ⊢
      by_cases hf : v.fits 8 = true
      · rw [if_pos hf]
        exact ⟨hf, (readV_some hr).2, by omega⟩
      · rw [if_neg hf] at h; cases h
theorem fits_split {k n : Int} {t : List UInt8} {l : List V} {ks : List (List UInt8)} {d : Nat} (h : (V.mk k n t l ks).fits d = true) : headB k n t l.length ks = true ∧ ∀ v ∈ l, v.fits d = true := by
  cases d with
  | zero => unfold V.fits at h; cases h
  | succ d =>
    rw [fits_mk] at h
    simp only [Bool.and_eq_true] at h
    exact ⟨h.1, fun v hv => fits_le v (by omega) ((fitsAll_iff l d).1 h.2 v hv)⟩
theorem fieldV_mem {key : List UInt8} {v u : V} (h : fieldV key v = some u) : u ∈ v.list := by
  obtain ⟨k, n, t, l, ks⟩ := v
  rw [fieldV_mk] at h
  by_cases hc : k = 6 ∧ keyAt key ks < ks.length
  · rw [if_pos hc] at h; exact List.mem_of_getElem? h
  · rw [if_neg hc] at h; cases h
/-- a value of a good one is good, and has a shorter text; so is what stands for none -/
theorem field_fits {key : List UInt8} {v u : V} {d : Nat} (hv : v.fits d = true) (h : fieldV key v = some u) : u.fits d = true ∧ u.show.length ≤ v.show.length := by
  have hm := fieldV_mem h
  obtain ⟨k, n, t, l, ks⟩ := v
  obtain ⟨h1, h2⟩ := fits_split hv
  exact ⟨h2 u hm, by have := show_mem h1 u hm; omega⟩
theorem text_le {v : V} {d : Nat} (hv : v.fits d = true) : v.text.length ≤ v.show.length := by
  obtain ⟨k, n, t, l, ks⟩ := v
  obtain ⟨h1, _⟩ := fits_split hv
  have H := head_says h1
  show t.length ≤ _
  by_cases h4 : k = 4
  · subst h4
    have : (V.mk 4 n t l ks).show = quoteJ t := by unfold V.show; simp
    rw [this]
    have : ∀ t : List UInt8, t.length ≤ (quoteT t).length := fun t => by
      induction t with
      | nil => simp
      | cons c t ih =>
        have : 1 ≤ (quoteC c).length := quoteC_pos c
        rw [quoteT, List.length_append, List.length_cons]; omega
    have := this t
    rw [quoteJ, List.length_cons]; omega
  · rw [H.text h4]; simp
theorem fieldD_le {key : List UInt8} {v : V} {d : Nat} (hv : v.fits d = true) : ((fieldV key v).getD V.zero).text.length ≤ v.show.length := by
  cases h : fieldV key v with
  | none => simp [V.zero, V.text]
  | some u =>
    obtain ⟨h1, h2⟩ := field_fits hv h
    have := text_le h1
    simp only [Option.getD_some]; omega
theorem dec_le {t o : List UInt8} (h : dec t = some o) : o.length ≤ t.length := by
  have h1 := (dec_some h).1
  have h2 := enc_len o
  rw [h1] at h2; omega
theorem decD_le (t : List UInt8) : ((dec t).getD []).length ≤ t.length := by
  cases h : dec t with
  | none => simp
  | some o => exact dec_le h
theorem jwkOf_le {v : V} {d : Nat} (hv : v.fits d = true) : (jwkOf v).1.length ≤ v.show.length ∧ (jwkOf v).2.length ≤ v.show.length :=
  ⟨fieldD_le hv, Nat.le_trans (decD_le _) (fieldD_le hv)⟩
/-- the items of the field of a good value -/
theorem listD_fits {key : List UInt8} {v : V} {d : Nat} (hv : v.fits d = true) : ((fieldV key v).getD V.zero).list.length ≤ 64 ∧ ∀ u ∈ ((fieldV key v).getD V.zero).list, u.fits d = true ∧ u.show.length ≤ v.show.length := by
  cases h : fieldV key v with
  | none => simp [V.zero, V.list]
  | some x =>
    obtain ⟨h1, h2⟩ := field_fits hv h
    simp only [Option.getD_some]
    obtain ⟨k, n, t, l, ks⟩ := x
    obtain ⟨h3, h4⟩ := fits_split h1
    exact ⟨(head_says h3).most, fun u hu => ⟨h4 u hu, by have := show_mem h3 u hu; omega⟩⟩
theorem keysOf_len {v : V} {d : Nat} (hv : v.fits d = true) : (jwksOf v).length ≤ 64 := by unfold jwksOf; rw [List.length_map]; exact (listD_fits hv).1
theorem keysOf_le {v : V} {d : Nat} (hv : v.fits d = true) : ∀ p ∈ jwksOf v, p.1.length ≤ v.show.length ∧ p.2.length ≤ v.show.length := by
  intro p hp
  obtain ⟨u, hu, rfl⟩ := List.mem_map.1 hp
  obtain ⟨h1, h2⟩ := (listD_fits hv).2 u hu
  obtain ⟨h3, h4⟩ := jwkOf_le h1
  omega
mutual
theorem fits_slim : ∀ (d : Nat) (v : V), v.fits d = true → v.slim 1000000
  | d, .mk k n t l ks, h => by
    obtain ⟨h1, h2⟩ := fits_split h
    have H := head_says h1
    have hk : ks.length ≤ 64 := by
      by_cases h6 : k = 6
      · rw [H.keys h6]; exact H.most
      · rw [H.none h6]; simp
    unfold V.slim
    refine ⟨by have := H.most; omega, by omega, fitsAll_slim d l h2⟩
theorem fitsAll_slim : ∀ (d : Nat) (l : List V), (∀ v ∈ l, v.fits d = true) → V.slims 1000000 l
  | d, [], _ => by unfold V.slims; trivial
  | d, v :: l, h => by unfold V.slims; exact ⟨fits_slim d v (h v (by simp)), fitsAll_slim d l fun u hu => h u (by simp [hu])⟩
end
theorem fits_depth {v : V} {d : Nat} (h : v.fits d = true) : v.depth ≤ d := by
  rw [fits_good] at h; simp at h; exact h.1
theorem zero_slim : V.zero.slim 1000000 := by simp [V.zero, V.slim, V.slims]
theorem zero_depth : V.zero.depth ≤ 1 := by simp [V.zero, V.depth, V.depths]
end Go.Proofs.YtcbajbpdgmmaeaaDoor
namespace Go.Proofs.YtcbajbpdgmmaeaaDoor

def wIss : List UInt8 := [105, 115, 115]
def wSub : List UInt8 := [115, 117, 98]
def wAud : List UInt8 := [97, 117, 100]
def wIat : List UInt8 := [105, 97, 116]
def wExp : List UInt8 := [101, 120, 112]
def wNonce : List UInt8 := [110, 111, 110, 99, 101]
def numV (n : Int) : V := .mk 3 n [] [] []
def claimK (nonce : List UInt8) : List (List UInt8) := [wIss, wSub, wAud, wIat, wExp] ++ if nonce = [] then [] else [wNonce]
def claimL (iss sub aud nonce : List UInt8) (iat exp : Int) : List V := [textV iss, textV sub, textV aud, numV iat, numV exp] ++ if nonce = [] then [] else [textV nonce]
/-- what is made of texts and moments -/
def claimV (iss sub aud nonce : List UInt8) (iat exp : Int) : V := .mk 6 0 [] (claimL iss sub aud nonce iat exp) (claimK nonce)
/-- is a field this text? -/
def isV (v : V) (key want : List UInt8) : Bool := match fieldV key v with
  | some x => decide (x.kind = 4) && decide (x.text = want)
  | none => false
/-- do the claims fit? -/
def fitV (v : V) (iss aud nonce : List UInt8) (now : Int) : Bool :=
  decide (v.kind = 6) && isV v wIss iss && isV v wAud aud && decide (((fieldV wSub v).getD V.zero).kind = 4) && !decide (((fieldV wSub v).getD V.zero).text = []) &&
    decide (((fieldV wExp v).getD V.zero).kind = 3) && decide (now < ((fieldV wExp v).getD V.zero).num) && (decide (nonce = []) || isV v wNonce nonce)
/-- Check: whom the claims are about, they all, and the error's number -/
def checkR (s iss aud nonce : List UInt8) (now : Int) : List UInt8 × V × Int :=
  if (parseV s).2 = 0 then (if fitV (parseV s).1 iss aud nonce now then (((fieldV wSub (parseV s).1).getD V.zero).text, (parseV s).1, 0) else ([], V.zero, 9)) else ([], V.zero, (parseV s).2)
theorem checkR_bad {s iss aud nonce : List UInt8} {now : Int} (h : (parseV s).2 ≠ 0) : checkR s iss aud nonce now = ([], V.zero, (parseV s).2) := if_neg h
theorem checkR_not {s iss aud nonce : List UInt8} {now : Int} (h : (parseV s).2 = 0) (hf : fitV (parseV s).1 iss aud nonce now = false) : checkR s iss aud nonce now = ([], V.zero, 9) := by unfold checkR; rw [if_pos h, if_neg (by rw [hf]; decide)]
theorem checkR_fit {s iss aud nonce : List UInt8} {now : Int} (h : (parseV s).2 = 0) (hf : fitV (parseV s).1 iss aud nonce now = true) : checkR s iss aud nonce now = (((fieldV wSub (parseV s).1).getD V.zero).text, (parseV s).1, 0) := by unfold checkR; rw [if_pos h, if_pos hf]

/-! ## what is made is a good value -/
theorem numV_fits (n : Int) (h : -9007199254740992 ≤ n ∧ n ≤ 9007199254740992) (d : Nat) : (numV n).fits (d + 1) = true := by
  unfold numV; rw [fits_mk]; simp [headB, V.fitsAll, unlikeB]; omega
theorem claimK_len (iss sub aud nonce : List UInt8) (iat exp : Int) : (claimK nonce).length = (claimL iss sub aud nonce iat exp).length := by
  unfold claimK claimL; split <;> rfl
theorem claimV_fits (iss sub aud nonce : List UInt8) (iat exp : Int) (h1 : -9007199254740992 ≤ iat ∧ iat ≤ 9007199254740992) (h2 : -9007199254740992 ≤ exp ∧ exp ≤ 9007199254740992) (d : Nat) : (claimV iss sub aud nonce iat exp).fits (d + 2) = true := by
  unfold claimV
  rw [fits_mk]
  simp only [Bool.and_eq_true]
  constructor
  · unfold claimK claimL
    by_cases hn : nonce = []
    · rw [if_pos hn, if_pos hn]
      show headB 6 0 [] 5 [wIss, wSub, wAud, wIat, wExp] = true
      decide +kernel
    · rw [if_neg hn, if_neg hn]
      show headB 6 0 [] 6 [wIss, wSub, wAud, wIat, wExp, wNonce] = true
      decide +kernel
  · refine (fitsAll_iff _ _).2 fun v hv => ?_
    unfold claimL at hv
    by_cases hn : nonce = []
    · rw [if_pos hn] at hv
      simp only [List.append_nil, List.mem_cons, List.not_mem_nil, or_false] at hv
      rcases hv with rfl | rfl | rfl | rfl | rfl
      · exact textV_fits _ d
      · exact textV_fits _ d
      · exact textV_fits _ d
      · exact numV_fits _ h1 d
      · exact numV_fits _ h2 d
    · rw [if_neg hn] at hv
      simp only [List.cons_append, List.nil_append, List.mem_cons, List.not_mem_nil, or_false] at hv
      rcases hv with rfl | rfl | rfl | rfl | rfl | rfl
      · exact textV_fits _ d
      · exact textV_fits _ d
      · exact textV_fits _ d
      · exact numV_fits _ h1 d
      · exact numV_fits _ h2 d
      · exact textV_fits _ d
/-! ## its fields -/
theorem kIss (nonce : List UInt8) : keyAt wIss (claimK nonce) = 0 := by unfold claimK; split <;> decide +kernel
theorem kSub (nonce : List UInt8) : keyAt wSub (claimK nonce) = 1 := by unfold claimK; split <;> decide +kernel
theorem kAud (nonce : List UInt8) : keyAt wAud (claimK nonce) = 2 := by unfold claimK; split <;> decide +kernel
theorem kExp (nonce : List UInt8) : keyAt wExp (claimK nonce) = 4 := by unfold claimK; split <;> decide +kernel
theorem kNonce {nonce : List UInt8} (h : nonce ≠ []) : keyAt wNonce (claimK nonce) = 5 := by unfold claimK; rw [if_neg h]; decide +kernel
theorem claimK_least (nonce : List UInt8) : 5 ≤ (claimK nonce).length := by unfold claimK; simp
section
variable (iss sub aud nonce : List UInt8) (iat exp : Int)
theorem fIss : fieldV wIss (claimV iss sub aud nonce iat exp) = some (textV iss) := by
  have := claimK_least nonce
  unfold claimV; rw [fieldV_mk, kIss, if_pos ⟨rfl, by omega⟩]; unfold claimL; rfl
theorem fSub : fieldV wSub (claimV iss sub aud nonce iat exp) = some (textV sub) := by
  have := claimK_least nonce
  unfold claimV; rw [fieldV_mk, kSub, if_pos ⟨rfl, by omega⟩]; unfold claimL; rfl
theorem fAud : fieldV wAud (claimV iss sub aud nonce iat exp) = some (textV aud) := by
  have := claimK_least nonce
  unfold claimV; rw [fieldV_mk, kAud, if_pos ⟨rfl, by omega⟩]; unfold claimL; rfl
theorem fExp : fieldV wExp (claimV iss sub aud nonce iat exp) = some (numV exp) := by
  have := claimK_least nonce
  unfold claimV; rw [fieldV_mk, kExp, if_pos ⟨rfl, by omega⟩]; unfold claimL; rfl
theorem fNonce (h : nonce ≠ []) : fieldV wNonce (claimV iss sub aud nonce iat exp) = some (textV nonce) := by
  have h6 : (claimK nonce).length = 6 := by unfold claimK; rw [if_neg h]; rfl
  unfold claimV; rw [fieldV_mk, kNonce h, if_pos ⟨rfl, by omega⟩]; unfold claimL; rw [if_neg h]; rfl
/-- whom what is made fits -/
theorem claim_fit (i a n : List UInt8) (now : Int) (hs : sub ≠ []) (hn : nonce ≠ []) : fitV (claimV iss sub aud nonce iat exp) i a n now = (decide (iss = i) && decide (aud = a) && decide (now < exp) && (decide (n = []) || decide (nonce = n))) := by
  unfold fitV isV
  rw [fIss, fSub, fAud, fExp, fNonce _ _ _ _ _ _ hn]
  show (decide ((6 : Int) = 6) && (decide ((4 : Int) = 4) && decide (iss = i)) && (decide ((4 : Int) = 4) && decide (aud = a)) && decide ((4 : Int) = 4) && !decide (sub = []) && decide ((3 : Int) = 3) && decide (now < exp) && (decide (n = []) || (decide ((4 : Int) = 4) && decide (nonce = n)))) = _
  rw [decide_eq_false hs]
  simp
end
end Go.Proofs.YtcbajbpdgmmaeaaDoor
namespace Go.Proofs.YtcbajbpdgmmaeaaDoor
open Go.RowKit
set_option linter.unusedVariables false
set_option linter.unusedSimpArgs false

/-- what Check answers -/
def CheckSays (r : List UInt8 × V × Int) (w : World) (e : Ending) (w' : World) : Prop :=
  (∃ cs L N, e = .returned (.tuple #[.string ⟨r.1.toArray⟩, .agg (List.toArray cs), .int .i64 r.2.2]) ∧ VIs w' L N r.2.1 cs ∧ N ≤ w'.heap.size) ∧ Below w.heap.size w w'
theorem zero_visC (w : World) (L N : Nat) : VIs w L N V.zero [.int .i64 0, .int .i64 0, .string ⟨#[]⟩, .slice none 0 0, .slice none 0 0] := VIs.mk (t := []) (l := []) (ks := []) ⟨by simp, by simp, by simp, by simp⟩ (.inl rfl) (.inl rfl)
theorem fitV_no {v : V} {iss aud nonce : List UInt8} {now : Int} (h : v.kind ≠ 6 ∨ isV v wIss iss = false ∨ isV v wAud aud = false ∨ ((fieldV wSub v).getD V.zero).kind ≠ 4 ∨ ((fieldV wSub v).getD V.zero).text = [] ∨ ((fieldV wExp v).getD V.zero).kind ≠ 3 ∨ ((fieldV wExp v).getD V.zero).num ≤ now ∨ (nonce ≠ [] ∧ isV v wNonce nonce = false)) : fitV v iss aud nonce now = false := by
  unfold fitV
  rcases h with h | h | h | h | h | h | h | ⟨h, h'⟩
  · simp [h]
  · simp [h]
  · simp [h]
  · simp [h]
  · simp [h]
  · simp [h]
  · have : ¬ now < ((fieldV wExp v).getD V.zero).num := by omega
    simp [this]
  · simp [h, h']
theorem fitV_yes {v : V} {iss aud nonce : List UInt8} {now : Int} (h1 : v.kind = 6) (h2 : isV v wIss iss = true) (h3 : isV v wAud aud = true) (h4 : ((fieldV wSub v).getD V.zero).kind = 4) (h5 : ((fieldV wSub v).getD V.zero).text ≠ []) (h6 : ((fieldV wExp v).getD V.zero).kind = 3) (h7 : now < ((fieldV wExp v).getD V.zero).num) (h8 : nonce = [] ∨ isV v wNonce nonce = true) : fitV v iss aud nonce now = true := by
  unfold fitV
  rcases h8 with h8 | h8 <;> simp [h1, h2, h3, h4, h5, h6, h7, h8]
theorem five_heads {k n k' n' : Int} {t t' : ByteArray} {x y x' y' : Value} (h : [Value.int .i64 k, .int .i64 n, .string t, x, y] = [Value.int .i64 k', .int .i64 n', .string t', x', y']) : k = k' ∧ n = n' ∧ t = t' := by
  simp only [List.cons.injEq, Value.int.injEq, Value.string.injEq, true_and] at h
  exact ⟨h.1, h.2.1, h.2.2.1⟩
def moment (n : Int) : Prop := -9007199254740992 ≤ n ∧ n ≤ 9007199254740992
/-- what the code's Make does -/
def MakeSays : Prop := ∀ (iss sub aud nonce : List UInt8) (iat exp : Int) (h1 : iss.length ≤ 9223372036854775807) (h2 : sub.length ≤ 9223372036854775807) (h3 : aud.length ≤ 9223372036854775807) (h4 : nonce.length ≤ 9223372036854775807) (hi : moment iat) (he : moment exp) (w : World),
  Calls Tryd.prog 11 #[.string ⟨iss.toArray⟩, .string ⟨sub.toArray⟩, .string ⟨aud.toArray⟩, .string ⟨nonce.toArray⟩, .int .i64 iat, .int .i64 exp] w fun e w' =>
    (∃ cs L N, e = .returned (.agg (List.toArray cs)) ∧ VIs w' L N (claimV iss sub aud nonce iat exp) cs ∧ N ≤ w'.heap.size) ∧ Below w.heap.size w w'
/-- what the code's Check does -/
def CodeCheck : Prop := ∀ (s iss aud nonce : List UInt8) (now : Int) (hs : s.length ≤ 9223372036854775807) (hn : moment now) (w : World) (hk : KitIn w.heap.size w),
  Calls Tryd.prog 13 #[.string ⟨s.toArray⟩, .string ⟨iss.toArray⟩, .string ⟨aud.toArray⟩, .string ⟨nonce.toArray⟩, .int .i64 now] w fun e w' => CheckSays (checkR s iss aud nonce now) w e w'
end Go.Proofs.YtcbajbpdgmmaeaaDoor
namespace Go.Proofs.YtcbajbpdgmmaeaaDoor
open Go.RowKit

theorem take_next {α : Type} {l r : List α} {j : Nat} (h : l.take j = r.take j) (hj : j < l.length) (hj' : j < r.length) (e : l[j] = r[j]) : l.take (j + 1) = r.take (j + 1) := by
  rw [List.take_succ_eq_append_getElem hj, List.take_succ_eq_append_getElem hj', h, e]
theorem take_not {α : Type} {l r : List α} {j : Nat} (hj : j < l.length) (hj' : j < r.length) (e : l[j] ≠ r[j]) : l ≠ r := fun h => e (by subst h; rfl)
theorem take_whole {α : Type} {l r : List α} {j : Nat} (h : l.take j = r.take j) (hj : l.length ≤ j) (hj' : r.length ≤ j) : l = r := by
  rwa [List.take_of_length_le hj, List.take_of_length_le hj'] at h
theorem v_ne {k n : Int} {t : List UInt8} {l : List V} {ks : List (List UInt8)} {k' n' : Int} {t' : List UInt8} {l' : List V} {ks' : List (List UInt8)} (h : k ≠ k' ∨ n ≠ n' ∨ t ≠ t' ∨ l ≠ l' ∨ ks ≠ ks') :
    (false = true ↔ V.mk k n t l ks = V.mk k' n' t' l' ks') := by
  constructor
  · intro h; cases h
  · intro e; injection e with e1 e2 e3 e4 e5
    rcases h with h | h | h | h | h
    · exact absurd e1 h
    · exact absurd e2 h
    · exact absurd e3 h
    · exact absurd e4 h
    · exact absurd e5 h
theorem ten_keep {W W' : World} {b b' p p' o o' : Nat} {x y a0 a1 a2 a3 a4 b0 b1 b2 b3 b4 : Value} (hb1 : b < W.heap.size) (hb2 : b' < W.heap.size) (hp : p < W.heap.size) (hp' : p' < W.heap.size) (hb : Below W.heap.size W W')
    (h : W.cell? ⟨b, 3, none⟩ = some x ∧ W.cell? ⟨b', 3, none⟩ = some y ∧ W.cell? ⟨p, o, none⟩ = some a0 ∧ W.cell? ⟨p, o + 1, none⟩ = some a1 ∧ W.cell? ⟨p, o + 2, none⟩ = some a2 ∧ W.cell? ⟨p, o + 3, none⟩ = some a3 ∧ W.cell? ⟨p, o + 4, none⟩ = some a4 ∧ W.cell? ⟨p', o', none⟩ = some b0 ∧ W.cell? ⟨p', o' + 1, none⟩ = some b1 ∧ W.cell? ⟨p', o' + 2, none⟩ = some b2 ∧ W.cell? ⟨p', o' + 3, none⟩ = some b3 ∧ W.cell? ⟨p', o' + 4, none⟩ = some b4) :
    W'.cell? ⟨b, 3, none⟩ = some x ∧ W'.cell? ⟨b', 3, none⟩ = some y ∧ W'.cell? ⟨p, o, none⟩ = some a0 ∧ W'.cell? ⟨p, o + 1, none⟩ = some a1 ∧ W'.cell? ⟨p, o + 2, none⟩ = some a2 ∧ W'.cell? ⟨p, o + 3, none⟩ = some a3 ∧ W'.cell? ⟨p, o + 4, none⟩ = some a4 ∧ W'.cell? ⟨p', o', none⟩ = some b0 ∧ W'.cell? ⟨p', o' + 1, none⟩ = some b1 ∧ W'.cell? ⟨p', o' + 2, none⟩ = some b2 ∧ W'.cell? ⟨p', o' + 3, none⟩ = some b3 ∧ W'.cell? ⟨p', o' + 4, none⟩ = some b4 := by
  obtain ⟨h0, h1, h2, h3, h4, h5, h6, h7, h8, h9, h10, h11⟩ := h
  exact ⟨(hb.cell (p := ⟨b, _, none⟩) hb1).trans h0, (hb.cell (p := ⟨b', _, none⟩) hb2).trans h1, (hb.cell (p := ⟨p, _, none⟩) hp).trans h2, (hb.cell (p := ⟨p, _, none⟩) hp).trans h3, (hb.cell (p := ⟨p, _, none⟩) hp).trans h4, (hb.cell (p := ⟨p, _, none⟩) hp).trans h5, (hb.cell (p := ⟨p, _, none⟩) hp).trans h6, (hb.cell (p := ⟨p', _, none⟩) hp').trans h7, (hb.cell (p := ⟨p', _, none⟩) hp').trans h8, (hb.cell (p := ⟨p', _, none⟩) hp').trans h9, (hb.cell (p := ⟨p', _, none⟩) hp').trans h10, (hb.cell (p := ⟨p', _, none⟩) hp').trans h11⟩
set_option maxRecDepth 100000 in
set_option maxHeartbeats 2000000 in
theorem refSame_at (m : Nat) : ∀ (v u : V) (w : World) (L N L' N' : Nat) (cs ds : List Value), v.size ≤ m → VIs w L N v cs → VIs w L' N' u ds → N ≤ w.heap.size → N' ≤ w.heap.size →
    Calls Tryd.prog 10 #[.agg cs.toArray, .agg ds.toArray] w fun e w' => ∃ b : Bool, e = .returned (.bool b) ∧ (b = true ↔ v = u) ∧ Below w.heap.size w w' := by
  induction m with
  | zero => intro v u w L N L' N' cs ds hm; exact absurd (size_pos v) (by omega)
  | succ m ih =>
  intro v u w L N L' N' cs ds hm hv hu hN hN'
  obtain ⟨k, n, t, l, ks⟩ := v
  obtain ⟨k', n', t', l', ks'⟩ := u
  obtain ⟨⟨ml, mk, -, -⟩, A, c, A', c', rfl, h1, h2⟩ := hv.out
  obtain ⟨⟨ml', mk', -, -⟩, B, d, B', d', rfl, i1, i2⟩ := hu.out
  have hb0 := ((Below.refl w.heap.size w).alloc (Nat.le_refl _) (.cells #[.int .i64 k, .int .i64 n, .string ⟨t.toArray⟩, .slice A l.length c, .slice A' ks.length c'] 28)).alloc (by simp) (.cells #[.int .i64 k', .int .i64 n', .string ⟨t'.toArray⟩, .slice B l'.length d, .slice B' ks'.length d'] 28)
  have x1 := (Box.new w (.int .i64 k) (.int .i64 n) (.string ⟨t.toArray⟩) (.slice A l.length c) (.slice A' ks.length c') 28).below (by simp) ((Below.refl _ _).alloc (Nat.le_refl _) (.cells #[.int .i64 k', .int .i64 n', .string ⟨t'.toArray⟩, .slice B l'.length d, .slice B' ks'.length d'] 28))
  have x2 := Box.new (w.alloc (.cells #[.int .i64 k, .int .i64 n, .string ⟨t.toArray⟩, .slice A l.length c, .slice A' ks.length c'] 28)) (.int .i64 k') (.int .i64 n') (.string ⟨t'.toArray⟩) (.slice B l'.length d) (.slice B' ks'.length d') 28
  have hsz2 : w.heap.size + 2 ≤ ((w.alloc (.cells #[.int .i64 k, .int .i64 n, .string ⟨t.toArray⟩, .slice A l.length c, .slice A' ks.length c'] 28)).alloc (.cells #[.int .i64 k', .int .i64 n', .string ⟨t'.toArray⟩, .slice B l'.length d, .slice B' ks'.length d'] 28)).heap.size := by simp
  have es : (w.alloc (.cells #[.int .i64 k, .int .i64 n, .string ⟨t.toArray⟩, .slice A l.length c, .slice A' ks.length c'] 28)).heap.size = w.heap.size + 1 := by simp
  rw [es] at x2
  have HB0 := Lib.hid hb0; have X1 := Lib.hid x1; have X2 := Lib.hid x2; have HS2 := Lib.hid hsz2
  clear hb0 x1 x2 hsz2 es hv hu
  by_cases ek : k = k'
  · subst ek
    by_cases en : n = n'
    · subst en
      by_cases et : t = t'
      · subst et
        by_cases el : l.length = l'.length
        · by_cases eks : ks.length = ks'.length
          · obtain ⟨nl, hnl⟩ : ∃ nl, l.length = nl := ⟨_, rfl⟩
            obtain ⟨nk, hnk⟩ : ∃ nk, ks.length = nk := ⟨_, rfl⟩
            rw [hnl] at ml; rw [hnk] at mk; clear ml' mk'
            rw [← el, hnl, ← eks, hnk] at HB0 X1 X2 HS2
            rw [← el, hnl, ← eks, hnk]
            have NL := Lib.hid hnl; have NK := Lib.hid hnk; have EL := Lib.hid el; have EK := Lib.hid eks; have I1 := Lib.hid h1; have I2 := Lib.hid h2; have J1 := Lib.hid i1; have J2 := Lib.hid i2
            clear hnl hnk el eks h1 h2 i1 i2
            go_enter Tryd.func10, Tryd.ntmps10
            go_wp2
            trace_state
            go_loopw [5] (fun i wr => ∃ j : Nat, j ≤ nk ∧ i = .int .i64 j ∧ ks.take j = ks'.take j ∧ Box wr w.heap.size (.int .i64 k) (.int .i64 n) (.string ⟨t.toArray⟩) (.slice A nl c) (.slice A' nk c') ∧ Box wr (w.heap.size + 1) (.int .i64 k) (.int .i64 n) (.string ⟨t.toArray⟩) (.slice B nl d) (.slice B' nk d') ∧ w.heap.size + 2 ≤ wr.heap.size ∧ Below w.heap.size w wr) (fun i _ => nk - (intOf i).toNat)
            case atStart => exact ⟨0, Nat.zero_le _, rfl, rfl, X1.out, X2.out, HS2.out, HB0.out⟩
            case round =>
              obtain ⟨j, hj, rfl, htk, b1, b2, hs, hb⟩ := hrel
              have HT := Lib.hid htk; have B1 := Lib.hid b1; have B2 := Lib.hid b2; clear htk
              obtain ⟨-, -, -, l1, k1⟩ := b1
              obtain ⟨-, -, -, l2, k2⟩ := b2
              by_cases hlt : j < nk
              · obtain ⟨p, o, rfl, _, hpN, hc1⟩ := VIs.key I1.out j (by have := NK.out; omega)
                obtain ⟨p', o', rfl, _, hpN', hc2⟩ := VIs.key J1.out j (by have := NK.out; have := EK.out; omega)
                have hc1 := (hb.cell (p := ⟨p, o + j, none⟩) (by show p < _; omega)).trans hc1
                have hc2 := (hb.cell (p := ⟨p', o' + j, none⟩) (by show p' < _; omega)).trans hc2
                have hjk : j < ks.length := by have := NK.out; omega
                have hjk' : j < ks'.length := by have := NK.out; have := EK.out; omega
                have T1 := Lib.hid (take_next (l := ks) (r := ks') (j := j) HT.out hjk hjk')
                have T2 := Lib.hid (take_not (l := ks) (r := ks') (j := j) hjk hjk')
                generalize ks[j] = x at *
                generalize ks'[j] = y at *
                clear I1 J1
                by_cases hxy : x = y
                · subst hxy
                  have hbe : (x == x) = true := by simp
                  have T3 := Lib.hid (T1.out rfl); clear T1 T2
                  go_wp2_with fail
                  go_region
                  all_goals
                    go_wp2
                    go_roundw
                    case rel => exact ⟨j + 1, by omega, by go_num, T3.out, B1.out, B2.out, hs, hb.drew⟩
                    case measure => simp [intOf]; omega
                · have hbe : (x == y) = false := by simpa using hxy
                  have T3 := Lib.hid (T2.out hxy); clear T1 T2 hxy
                  go_wp2_with fail
                  go_region
                  all_goals
                    go_wp2
                    go_ret
                    exact ⟨false, rfl, v_ne (.inr (.inr (.inr (.inr T3.out)))), hb.drew⟩
              · obtain rfl : nk = j := by omega
                have T3 := Lib.hid (take_whole HT.out (by have := NK.out; omega) (by have := NK.out; have := EK.out; omega)); clear HT NK EK I1 J1
                go_wp2
                go_loopw [6] (fun i wr => ∃ j : Nat, j ≤ nl ∧ i = .int .i64 j ∧ l.take j = l'.take j ∧ Box wr w.heap.size (.int .i64 k) (.int .i64 n) (.string ⟨t.toArray⟩) (.slice A nl c) (.slice A' nk c') ∧ Box wr (w.heap.size + 1) (.int .i64 k) (.int .i64 n) (.string ⟨t.toArray⟩) (.slice B nl d) (.slice B' nk d') ∧ w.heap.size + 2 ≤ wr.heap.size ∧ Below w.heap.size w wr) (fun i _ => nl - (intOf i).toNat)
                case atStart => exact ⟨0, Nat.zero_le _, rfl, rfl, B1.out, B2.out, hs, hb⟩
                case round =>
                  clear l1 k1 l2 k2 B1 B2 hs hb
                  obtain ⟨j, hj, rfl, htk, b1, b2, hs, hb⟩ := hrel
                  have HT := Lib.hid htk; have B1 := Lib.hid b1; have B2 := Lib.hid b2; clear htk
                  obtain ⟨-, -, -, l1, k1⟩ := b1
                  obtain ⟨-, -, -, l2, k2⟩ := b2
                  by_cases hlt : j < nl
                  · have hjl : j < l.length := by have := NL.out; omega
                    have hjl' : j < l'.length := by have := NL.out; have := EL.out; omega
                    obtain ⟨p, o, rfl, _, hpN, xs, hx5, hxv⟩ := VIs.item I2.out j hjl
                    obtain ⟨p', o', rfl, _, hpN', ys, hy5, hyv⟩ := VIs.item J2.out j hjl'
                    have hbN := hb.mono hN; have hbN' := hb.mono hN'
                    have hc := fun wq (hwq : Below w.heap.size w wq) => ih l[j] l'[j] wq L N L' N' xs ys (by have := size_get (k := k) (n := n) (t := t) (ks := ks) j hjl; omega) (hxv.below (hwq.mono hN)) (hyv.below (hwq.mono hN')) (Nat.le_trans hN hwq.size) (Nat.le_trans hN' hwq.size)
                    have T1 := Lib.hid (take_next (l := l) (r := l') (j := j) HT.out hjl hjl')
                    have T2 := Lib.hid (take_not (l := l) (r := l') (j := j) hjl hjl')
                    generalize l[j] = x at *
                    generalize l'[j] = y at *
                    obtain ⟨a0, a1, a2, a3, a4, rfl, m0, m1, m2, m3, m4⟩ := hx5.keep (w' := wr) hpN (fun p hp => hbN.cell hp)
                    obtain ⟨b0, b1, b2, b3, b4, rfl, m0', m1', m2', m3', m4'⟩ := hy5.keep (w' := wr) hpN' (fun p hp => hbN'.cell hp)
                    have HBW := Lib.hid hb
                    have hS := And.intro l1 (And.intro l2 (And.intro m0 (And.intro m1 (And.intro m2 (And.intro m3 (And.intro m4 (And.intro m0' (And.intro m1' (And.intro m2' (And.intro m3' m4'))))))))))
                    have hq1 : w.heap.size < wr.heap.size := by omega
                    have hq2 : w.heap.size + 1 < wr.heap.size := by omega
                    have hq3 : p < wr.heap.size := by omega
                    have hq4 : p' < wr.heap.size := by omega
                    have hcc := fun wq (h : Below wr.heap.size wr wq) => hc wq (hb.trans (h.mono (by omega)))
                    have HC := Lib.hid hcc
                    clear I2 J2 hc hcc ih hbN hbN' hx5 hy5 hxv hyv
                    have hj0 : (0 : Int) ≤ j := by omega
                    have hj1 : (j : Int) < nl := by omega
                    go_wp2_with fail
                    go_region_held3 (fun W => W.cell? ⟨w.heap.size, 3, none⟩ = some (.slice (some ⟨p, o, none⟩) nl c) ∧ W.cell? ⟨w.heap.size + 1, 3, none⟩ = some (.slice (some ⟨p', o', none⟩) nl d) ∧ W.cell? ⟨p, o + j * 5, none⟩ = some a0 ∧ W.cell? ⟨p, o + j * 5 + 1, none⟩ = some a1 ∧ W.cell? ⟨p, o + j * 5 + 2, none⟩ = some a2 ∧ W.cell? ⟨p, o + j * 5 + 3, none⟩ = some a3 ∧ W.cell? ⟨p, o + j * 5 + 4, none⟩ = some a4 ∧ W.cell? ⟨p', o' + j * 5, none⟩ = some b0 ∧ W.cell? ⟨p', o' + j * 5 + 1, none⟩ = some b1 ∧ W.cell? ⟨p', o' + j * 5 + 2, none⟩ = some b2 ∧ W.cell? ⟨p', o' + j * 5 + 3, none⟩ = some b3 ∧ W.cell? ⟨p', o' + j * 5 + 4, none⟩ = some b4) (first | exact hS | exact ten_keep hq1 hq2 hq3 hq4 (below_drew2 _ _ hb1) hS) (first | (go_at_call 10; with_reducible refine (HC.out _ (Below.refl _ _).drew).mono ?_; rintro e1 w1 ⟨b, rfl, hbb, hb1⟩))
                    have hb1 := below_drew2 wr w1 hb1
                    have hs1 := hb1.size
                    have hbw1 : Below w.heap.size w w1 := HBW.out.trans (hb1.mono (by omega))
                    have D1 := B1.out.below (by omega) hb1
                    have D2 := B2.out.below (by omega) hb1
                    have HD1 := Lib.hid D1; have HD2 := Lib.hid D2; have HW1 := Lib.hid hbw1; have HSS := Lib.hid hs1
                    clear D1 D2 hb1 hbw1 hs1 hS HC
                    cases b with
                    | true =>
                      have T3 := Lib.hid (T1.out (hbb.1 rfl)); clear T1 T2 hbb
                      go_wp2
                      go_roundw
                      case rel => exact ⟨j + 1, by omega, by go_num, T3.out, HD1.out, HD2.out, by have := HSS.out; omega, HW1.out⟩
                      case measure => simp [intOf]; omega
                    | false =>
                      have T3 := Lib.hid (T2.out (fun h => by cases hbb.2 h)); clear T1 T2 hbb
                      go_wp2
                      go_ret
                      exact ⟨false, rfl, v_ne (.inr (.inr (.inr (.inl T3.out)))), HW1.out⟩
                  · have T4 := Lib.hid (take_whole HT.out (by have := NL.out; omega) (by have := NL.out; have := EL.out; omega))
                    obtain rfl : nl = j := by omega
                    clear HT NL EL
                    go_wp2
                    go_ret
                    exact ⟨true, rfl, ⟨fun _ => by rw [T3.out, T4.out], fun _ => rfl⟩, hb⟩
          · have q1 : ((ks.length : Int) == (ks'.length : Int)) = false := by simp; omega
            have q2 := Lib.hid (fun h : ks = ks' => eks (by rw [h]))
            rw [el] at HB0
            rw [el]
            clear el
            go_enter Tryd.func10, Tryd.ntmps10
            go_wp2
            go_ret
            exact ⟨false, rfl, v_ne (.inr (.inr (.inr (.inr q2.out)))), HB0.out⟩
        · have q1 : ((l.length : Int) == (l'.length : Int)) = false := by simp; omega
          have q2 := Lib.hid (fun h : l = l' => el (by rw [h]))
          go_enter Tryd.func10, Tryd.ntmps10
          go_wp2
          go_ret
          exact ⟨false, rfl, v_ne (.inr (.inr (.inr (.inl q2.out)))), HB0.out⟩
      · have q1 : (t == t') = false := by simpa using et
        have q2 := Lib.hid et; clear et
        go_enter Tryd.func10, Tryd.ntmps10
        go_wp2
        go_ret
        exact ⟨false, rfl, v_ne (.inr (.inr (.inl q2.out))), HB0.out⟩
    · have q1 : (n == n') = false := by simpa using en
      have q2 := Lib.hid en; clear en
      go_enter Tryd.func10, Tryd.ntmps10
      go_wp2
      go_ret
      exact ⟨false, rfl, v_ne (.inr (.inl q2.out)), HB0.out⟩
  · have q1 : (k == k') = false := by simpa using ek
    have q2 := Lib.hid ek; clear ek
    go_enter Tryd.func10, Tryd.ntmps10
    go_wp2
    go_ret
    exact ⟨false, rfl, v_ne (.inl q2.out), HB0.out⟩
theorem refSame_any (v u : V) (w : World) (L N L' N' : Nat) (cs ds : List Value) (hv : VIs w L N v cs) (hu : VIs w L' N' u ds) (hN : N ≤ w.heap.size) (hN' : N' ≤ w.heap.size) :
    Calls Tryd.prog 10 #[.agg cs.toArray, .agg ds.toArray] w fun e w' => ∃ b : Bool, e = .returned (.bool b) ∧ (b = true ↔ v = u) ∧ Below w.heap.size w w' :=
  refSame_at v.size v u w L N L' N' cs ds (Nat.le_refl _) hv hu hN hN'
end Go.Proofs.YtcbajbpdgmmaeaaDoor
