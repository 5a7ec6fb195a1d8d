/- Texts merged by program, in build order: StoreGood, StoreOk, LawStoreA, StoreSize, LawStoreN, OpenBytes, OpenActs. -/
import Derived.Test.YtklhdffbaglkdaaDoorG13
import Derived.Test.YtklhdffbaglkdaaDoorG17
import Derived.Test.YtklhdffbaglkdaaDoorG02
import Derived.ProofKit
import Derived.ChangeMaps5
import Derived.Deep.Slices
import Derived.SizedLaws
namespace Go.Proofs.YtklhdffbaglkdaaDoor

theorem left_calm {t : TP} (hf : t.fuse < 0) (hd : t.down = false) (n : Nat) : t.left n = n := by
  unfold TP.left
  rw [if_neg (by rw [hd]; decide), if_pos (.inl hf)]
theorem use_calm {t : TP} (hf : t.fuse < 0) (hd : t.down = false) (n : Nat) : t.use n n = (t, 0) := by
  unfold TP.use
  rw [if_neg (by rw [hd]; decide), if_neg (Nat.lt_irrefl _), if_neg (by omega)]
theorem write_calm {t : TP} (hf : t.fuse < 0) (hd : t.down = false) (l : List UInt8) : t.write l = (⟨t.b ++ l, t.sure, t.fuse, t.down⟩, 0) := by
  unfold TP.write
  rw [left_calm hf hd, List.take_of_length_le (Nat.le_refl _)]
  exact use_calm (t := ⟨t.b ++ l, t.sure, t.fuse, t.down⟩) hf hd _
theorem sync_calm {t : TP} (hf : t.fuse < 0) (hd : t.down = false) : t.sync = (⟨t.b, t.b.length, t.fuse, t.down⟩, 0) := by
  unfold TP.sync
  rw [left_calm hf hd, use_calm hf hd, if_pos rfl]
theorem swap_calm {t : TP} (hf : t.fuse < 0) (hd : t.down = false) (l : List UInt8) : t.swap l = (⟨l, l.length, t.fuse, t.down⟩, 0) := by
  unfold TP.swap
  rw [left_calm hf hd, use_calm hf hd, if_pos rfl]
theorem use_cases (t : TP) (n : Nat) : ((t.use (t.left n) n).2 = 0 ∧ t.down = false ∧ t.left n = n ∧ (t.use (t.left n) n).1.down = false) ∨ ((t.use (t.left n) n).2 = 8 ∧ (t.use (t.left n) n).1.down = true) := by
  unfold TP.use
  by_cases hd : t.down = true
  · rw [if_pos hd]
    exact .inr ⟨rfl, hd⟩
  · rw [if_neg hd]
    by_cases hk : t.left n < n
    · rw [if_pos hk]
      exact .inr ⟨rfl, rfl⟩
    · rw [if_neg hk]
      have hl := t.left_le n
      have hd' : t.down = false := by simpa using hd
      split
      · exact .inl ⟨rfl, hd', by omega, hd'⟩
      · exact .inl ⟨rfl, hd', by omega, hd'⟩
theorem left_down {t : TP} (hd : t.down = true) (n : Nat) : t.left n = 0 := by
  unfold TP.left
  rw [if_pos hd]
/-- what a Write may come to -/
theorem write_cases (t : TP) (l : List UInt8) : ((t.write l).2 = 0 ∧ t.down = false ∧ (t.write l).1.b = t.b ++ l ∧ (t.write l).1.sure = t.sure ∧ (t.write l).1.down = false) ∨
    ((t.write l).2 = 8 ∧ (t.write l).1.down = true ∧ (t.write l).1.sure = t.sure ∧ ∃ m, (t.write l).1.b = t.b ++ l.take m ∧ (t.down = true → m = 0)) := by
  unfold TP.write
  have h1 := use_cases ⟨t.b ++ l.take (t.left l.length), t.sure, t.fuse, t.down⟩ l.length
  have h2 := TP.use_b ⟨t.b ++ l.take (t.left l.length), t.sure, t.fuse, t.down⟩ (t.left l.length) l.length
  have hl : TP.left ⟨t.b ++ l.take (t.left l.length), t.sure, t.fuse, t.down⟩ l.length = t.left l.length := rfl
  rw [hl] at h1
  rcases h1 with ⟨a, b, c, d⟩ | ⟨a, b⟩
  · refine .inl ⟨a, b, ?_, h2.2, d⟩
    rw [h2.1, c, List.take_of_length_le (Nat.le_refl _)]
  · exact .inr ⟨a, b, h2.2, t.left l.length, h2.1, fun h => left_down h _⟩
theorem sync_cases (t : TP) : (t.sync.2 = 0 ∧ t.down = false ∧ t.sync.1.b = t.b ∧ t.sync.1.sure = t.b.length ∧ t.sync.1.down = false) ∨ (t.sync.2 = 8 ∧ t.sync.1.down = true ∧ t.sync.1.b = t.b ∧ t.sync.1.sure = t.sure) := by
  unfold TP.sync
  have h1 := use_cases t 1
  have h2 := TP.use_b t (t.left 1) 1
  rcases h1 with ⟨a, b, c, d⟩ | ⟨a, b⟩
  · rw [if_pos a]
    exact .inl ⟨rfl, b, h2.1, by show (t.use (t.left 1) 1).1.b.length = _; rw [h2.1], d⟩
  · rw [if_neg (by rw [a]; decide)]
    exact .inr ⟨a, b, h2.1, h2.2⟩
theorem swap_cases (t : TP) (l : List UInt8) : ((t.swap l).2 = 0 ∧ t.down = false ∧ (t.swap l).1.b = l ∧ (t.swap l).1.sure = l.length ∧ (t.swap l).1.down = false) ∨ ((t.swap l).2 = 8 ∧ (t.swap l).1.down = true ∧ (t.swap l).1.b = t.b ∧ (t.swap l).1.sure = t.sure) := by
  unfold TP.swap
  have h1 := use_cases t (l.length + 1)
  have h2 := TP.use_b t (t.left (l.length + 1)) (l.length + 1)
  rcases h1 with ⟨a, b, c, d⟩ | ⟨a, b⟩
  · rw [if_pos a]
    exact .inl ⟨rfl, b, rfl, rfl, d⟩
  · rw [if_neg (by rw [a]; decide)]
    exact .inr ⟨a, b, h2.1, h2.2⟩
/-- how a store's tape may stand: X is what the rows are if what is loose is whole -/
structure Good (t : TP) (rows X : RowL) : Prop where
  out : ∃ (recs : List (List UInt8)) (r : List UInt8) (m : Nat), t.b = framesL recs ++ (frameL r).take m ∧ (∀ x ∈ recs, x.length ≤ 32768) ∧ r.length ≤ 32768 ∧ foldR [] recs = some rows ∧ foldR [] (recs ++ [r]) = some X ∧ t.sure = (framesL recs).length ∧ (t.down = false → m = 0)
theorem recAll_nil : recAll [] = [] := rfl
theorem rec0_four : (recL []).length = 4 := by rw [recL_len, recAll_nil]; rfl
theorem rec0 : changesL (recL []) = some [] := by
  have h := changes_small [] (by rw [rec0_four]; omega)
  rw [List.map_nil] at h
  exact h
theorem rec0_len : (recL []).length ≤ 32768 := by rw [rec0_four]; omega
theorem fold0 (recs : List (List UInt8)) (rows : RowL) (h : foldR [] recs = some rows) : foldR [] (recs ++ [recL []]) = some rows := by
  rw [foldR_snoc, h]
  dsimp only
  rw [rec0]
  rfl
theorem good_new : Good TP.new [] [] := ⟨[], recL [], 0, rfl, (fun x hx => by cases hx), rec0_len, rfl, fold0 [] [] rfl, rfl, fun _ => rfl⟩
theorem Good.calm {t : TP} {rows X : RowL} (h : Good t rows X) (hd : t.down = false) : Good t rows rows := by
  obtain ⟨recs, r, m, h1, h2, h3, h4, h5, h6, h7⟩ := h.out
  have h0 := h7 hd
  subst h0
  exact ⟨recs, recL [], 0, by rw [h1]; simp, h2, rec0_len, h4, fold0 recs rows h4, h6, fun _ => rfl⟩
theorem Good.rising {t : TP} {rows X : RowL} (h : Good t rows X) : Rising rows := by
  obtain ⟨recs, r, m, h1, h2, h3, h4, h5, h6, h7⟩ := h.out
  exact foldR_rising recs [] rows trivial h4
theorem fold_all (rows : RowL) (h : Rising rows) (b : List UInt8) (hb : recL (allR rows) = b) (hl : b.length ≤ 1000000) : foldR [] [b] = some rows := by
  have hw : changesL b = some ((allR rows).map Ch.norm) := by rw [← hb]; exact changes_small _ (by rw [hb]; exact hl)
  have e : foldR [] [b] = some (turnL [] ((allR rows).map Ch.norm)) := by
    rw [foldR_cons, hw]; rfl
  rw [e, turnL_norm, turn_all _ h]
theorem fold_next (recs : List (List UInt8)) (rows : RowL) (l : List Ch) (h4 : foldR [] recs = some rows) (b : List UInt8) (hb : recL l = b) (hl : b.length ≤ 1000000) : foldR [] (recs ++ [b]) = some (turnL rows l) := by
  have hch : changesL b = some (l.map Ch.norm) := by rw [← hb]; exact changes_small l (by rw [hb]; exact hl)
  rw [foldR_snoc, h4]
  dsimp only
  rw [hch]
  dsimp only
  rw [turnL_norm]
/-- behind changes -/
theorem do_good {t : TP} {rows X : RowL} (h : Good t rows X) (l : List Ch) : ∃ X', Good (doS t rows l).2.2 (doS t rows l).2.1 X' ∧ (X' = X ∨ X' = (doS t rows l).2.1 ∨ ((doS t rows l).1 = 8 ∧ X' = turnL rows l)) := by
  have hris := turnL_rising l h.rising
  have hfn := fun recs h4 b hb hl => fold_next recs rows l h4 b hb hl
  obtain ⟨RB, hRB⟩ : ∃ x, recL l = x := ⟨_, rfl⟩
  obtain ⟨R2, hR2⟩ : ∃ x, turnL rows l = x := ⟨_, rfl⟩
  obtain ⟨RW, hRW⟩ : ∃ x, recL (allR R2) = x := ⟨_, rfl⟩
  obtain ⟨FB, hFB⟩ : ∃ x, frameL RB = x := ⟨_, rfl⟩
  obtain ⟨FW, hFW⟩ : ∃ x, frameL RW = x := ⟨_, rfl⟩
  have hwr := write_cases t FB
  have hsw := swap_cases t FW
  obtain ⟨WR, hWR⟩ : ∃ x, t.write FB = x := ⟨_, rfl⟩
  obtain ⟨SW, hSW⟩ : ∃ x, t.swap FW = x := ⟨_, rfl⟩
  rw [hWR] at hwr
  rw [hSW] at hsw
  have hsy := sync_cases WR.1
  obtain ⟨SY, hSY⟩ : ∃ x, WR.1.sync = x := ⟨_, rfl⟩
  rw [hSY] at hsy
  have hdo : doS t rows l = if l.length = 0 then (0, rows, t) else if 32768 < RB.length then (3, rows, t) else if 65536 < t.b.length + RB.length + 8 then (if 32768 < RW.length then (7, rows, t) else (SW.2, (if SW.2 = 0 then R2 else rows), SW.1)) else if WR.2 = 0 then (SY.2, (if SY.2 = 0 then R2 else rows), SY.1) else (WR.2, rows, WR.1) := by
    unfold doS
    rw [hRB, hR2, hRW, hFB, hFW, hWR, hSW, hSY]
  rw [hR2] at hris
  have hfa := fun (hl : RW.length ≤ 1000000) => fold_all R2 hris RW hRW hl
  rw [hR2] at hfn
  rw [hdo]
  clear hdo
  by_cases h0 : l.length = 0
  · rw [if_pos h0]; exact ⟨X, h, .inl rfl⟩
  rw [if_neg h0]
  by_cases hsz : 32768 < RB.length
  · rw [if_pos hsz]; exact ⟨X, h, .inl rfl⟩
  rw [if_neg hsz]
  obtain ⟨recs, r, m, h1, h2, h3, h4, h5, h6, h7⟩ := h.out
  have hturn := hfn recs h4 RB hRB (by omega)
  by_cases hbig : 65536 < t.b.length + RB.length + 8
  · rw [if_pos hbig]
    by_cases hfull : 32768 < RW.length
    · rw [if_pos hfull]; exact ⟨X, h, .inl rfl⟩
    rw [if_neg hfull]
    rcases hsw with ⟨a, b, c, d, e⟩ | ⟨a, b, c, d⟩
    · rw [if_pos a]
      have hf := hfa (by omega)
      refine ⟨R2, ⟨[RW], recL [], 0, ?_, ?_, rec0_len, hf, fold0 _ _ hf, ?_, fun _ => rfl⟩, .inr (.inl rfl)⟩
      · show SW.1.b = _
        rw [c, ← hFW, framesL_cons, framesL_nil, List.append_nil, List.take_zero, List.append_nil]
      · intro x hx
        rw [List.mem_singleton] at hx
        rw [hx]; omega
      · show SW.1.sure = _
        rw [d, ← hFW, framesL_cons, framesL_nil, List.append_nil]
    · rw [if_neg (by rw [a]; decide)]
      exact ⟨X, ⟨recs, r, m, c.trans h1, h2, h3, h4, h5, d.trans h6, fun e => (by have e : SW.1.down = false := e; rw [b] at e; cases e)⟩, .inl rfl⟩
  · rw [if_neg hbig]
    rcases hwr with ⟨a, b, c, d, e⟩ | ⟨a, b, c, k, hk, hk0⟩
    · rw [if_pos a]
      have hm := h7 b
      subst hm
      have hb : t.b = framesL recs := by rw [h1, List.take_zero, List.append_nil]
      rcases hsy with ⟨a', b', c', d', e'⟩ | ⟨a', b', c', d'⟩
      · rw [if_pos a']
        refine ⟨R2, ⟨recs ++ [RB], recL [], 0, ?_, ?_, rec0_len, hturn, fold0 _ _ hturn, ?_, fun _ => rfl⟩, .inr (.inl rfl)⟩
        · show SY.1.b = _
          rw [c', c, hb, framesL_snoc, List.take_zero, List.append_nil, hFB]
        · intro x hx
          rcases List.mem_append.1 hx with hx | hx
          · exact h2 x hx
          · rw [List.mem_singleton] at hx; rw [hx]; omega
        · show SY.1.sure = _
          rw [d', c, hb, framesL_snoc, hFB]
      · rw [if_neg (by rw [a']; decide)]
        refine ⟨R2, ⟨recs, RB, FB.length, ?_, h2, by omega, h4, hturn, ?_, fun e => (by have e : SY.1.down = false := e; rw [b'] at e; cases e)⟩, .inr (.inr ⟨a', hR2.symm⟩)⟩
        · show SY.1.b = _
          rw [c', c, hb, hFB, List.take_of_length_le (Nat.le_refl _)]
        · show SY.1.sure = _
          rw [d', d]; exact h6
    · rw [if_neg (by rw [a]; decide)]
      cases hd : t.down with
      | true =>
        have := hk0 hd
        subst this
        refine ⟨X, ⟨recs, r, m, ?_, h2, h3, h4, h5, c.trans h6, fun e => (by have e : WR.1.down = false := e; rw [b] at e; cases e)⟩, .inl rfl⟩
        show WR.1.b = _
        rw [hk, List.take_zero, List.append_nil]; exact h1
      | false =>
        have hm := h7 hd
        subst hm
        have hb : t.b = framesL recs := by rw [h1, List.take_zero, List.append_nil]
        refine ⟨R2, ⟨recs, RB, k, ?_, h2, by omega, h4, hturn, c.trans h6, fun e => (by have e : WR.1.down = false := e; rw [b] at e; cases e)⟩, .inr (.inr ⟨a, hR2.symm⟩)⟩
        show WR.1.b = _
        rw [hk, hb, hFB]
theorem split_part (recs : List (List UInt8)) (r : List UInt8) (m : Nat) (h2 : ∀ x ∈ recs, x.length ≤ 32768) (h3 : r.length ≤ 32768) (hm : m < 8 + r.length) : splitL (framesL recs ++ (frameL r).take m) = (recs, (framesL recs).length) := by
  rw [split_frames _ recs h2, splitL_none (first_cut r m h3 hm)]
  simp
/-- behind a crash it is opened again, and its rows are those, or those with what was under way -/
theorem open_good {t : TP} {rows X : RowL} (h : Good t rows X) (keep : Int) : ∃ Y T2, openS (t.crash keep) = (0, Y, T2) ∧ (Y = rows ∨ Y = X) ∧ Good T2 Y Y ∧ T2.down = false ∧ T2.fuse = -1 ∧ T2.b.length ≤ t.b.length := by
  obtain ⟨recs, r, m, h1, h2, h3, h4, h5, h6, h7⟩ := h.out
  have hf : (t.crash keep).fuse < 0 := by show (-1 : Int) < 0; decide
  have hd : (t.crash keep).down = false := rfl
  have hk := t.kept_le keep
  obtain ⟨k, hkk⟩ : ∃ k, t.kept keep = k := ⟨_, rfl⟩
  rw [hkk] at hk
  have hb : (t.crash keep).b = framesL recs ++ (frameL r).take (min k m) := by
    show t.b.take (t.sure + t.kept keep) = _
    rw [h1, h6, hkk, List.take_append, List.take_of_length_le (by omega), show (framesL recs).length + k - (framesL recs).length = k by omega, List.take_take]
  have hlen : (t.crash keep).b.length ≤ t.b.length := by
    show (t.b.take (t.sure + t.kept keep)).length ≤ _
    exact List.length_take_le' _ _
  have hsure : (t.crash keep).sure = (t.crash keep).b.length := by
    show t.sure + t.kept keep = (t.b.take (t.sure + t.kept keep)).length
    rw [List.length_take, hkk]
    have : t.sure ≤ t.b.length := by rw [h1, h6, List.length_append]; omega
    omega
  obtain ⟨C, hC⟩ : ∃ C, t.crash keep = C := ⟨_, rfl⟩
  rw [hC] at hf hd hb hlen hsure ⊢
  have hfu : C.fuse = -1 := by rw [← hC]; rfl
  clear hC
  by_cases hw : min k m < 8 + r.length
  · have hsp := split_part recs r (min k m) h2 h3 hw
    rw [← hb] at hsp
    by_cases hz : (framesL recs).length < C.b.length
    · refine ⟨rows, ⟨framesL recs, (framesL recs).length, C.fuse, C.down⟩, ?_, .inl rfl, ?_, hd, hfu, ?_⟩
      · unfold openS
        rw [hsp, h4]
        dsimp only
        have htk : C.b.take (framesL recs).length = framesL recs := by rw [hb, List.take_left' rfl]
        rw [if_pos hz, htk, swap_calm hf hd, if_pos rfl]
      · exact ⟨recs, recL [], 0, by simp, h2, rec0_len, h4, fold0 _ _ h4, rfl, fun _ => rfl⟩
      · show (framesL recs).length ≤ _; omega
    · have hm0 : C.b = framesL recs := by
        have h8 : C.b.length = (framesL recs).length + ((frameL r).take (min k m)).length := by rw [hb, List.length_append]
        have h9 : (frameL r).take (min k m) = [] := List.length_eq_zero_iff.1 (by omega)
        rw [hb, h9, List.append_nil]
      refine ⟨rows, C, ?_, .inl rfl, ?_, hd, hfu, hlen⟩
      · unfold openS
        rw [hsp, h4]
        dsimp only
        rw [if_neg hz]
      · exact ⟨recs, recL [], 0, by rw [hm0]; simp, h2, rec0_len, h4, fold0 _ _ h4, by rw [hsure, hm0], fun _ => rfl⟩
  · have hwhole : C.b = framesL (recs ++ [r]) := by
      rw [hb, framesL_snoc, List.take_of_length_le (by rw [frameL_len]; omega)]
    have hall : ∀ x ∈ recs ++ [r], x.length ≤ 32768 := fun x hx => by
      rcases List.mem_append.1 hx with hx | hx
      · exact h2 x hx
      · rw [List.mem_singleton] at hx; rw [hx]; exact h3
    have hsp := split_whole (recs ++ [r]) hall
    rw [← hwhole] at hsp
    refine ⟨X, C, ?_, .inr rfl, ?_, hd, hfu, hlen⟩
    · unfold openS
      rw [hsp, h5]
      dsimp only
      rw [if_neg (Nat.lt_irrefl _)]
    · exact ⟨recs ++ [r], recL [], 0, by rw [hwhole]; simp, hall, rec0_len, h5, fold0 _ _ h5, by rw [hsure, hwhole], fun _ => rfl⟩
end Go.Proofs.YtklhdffbaglkdaaDoor
namespace Go.Proofs.YtklhdffbaglkdaaDoor

theorem doS_ok {t : TP} (h : t.Ok) (rows : RowL) (l : List Ch) (hl : t.b.length ≤ 65536) : (doS t rows l).2.2.Ok ∧ (doS t rows l).2.2.b.length ≤ 65536 := by
  obtain ⟨RB, hRB⟩ : ∃ x, recL l = x := ⟨_, rfl⟩
  obtain ⟨R2, hR2⟩ : ∃ x, turnL rows l = x := ⟨_, rfl⟩
  obtain ⟨RW, hRW⟩ : ∃ x, recL (allR R2) = x := ⟨_, rfl⟩
  have hfb := frameL_len RB
  have hfw := frameL_len RW
  obtain ⟨FB, hFB⟩ : ∃ x, frameL RB = x := ⟨_, rfl⟩
  obtain ⟨FW, hFW⟩ : ∃ x, frameL RW = x := ⟨_, rfl⟩
  rw [hFB] at hfb
  rw [hFW] at hfw
  have hwo := TP.write_ok h FB
  have hso := TP.swap_ok h FW
  have hsc := swap_cases t FW
  obtain ⟨WR, hWR⟩ : ∃ x, t.write FB = x := ⟨_, rfl⟩
  obtain ⟨SW, hSW⟩ : ∃ x, t.swap FW = x := ⟨_, rfl⟩
  rw [hWR] at hwo
  rw [hSW] at hso hsc
  have hyo := TP.sync_ok hwo.1
  obtain ⟨SY, hSY⟩ : ∃ x, WR.1.sync = x := ⟨_, rfl⟩
  rw [hSY] at hyo
  have hdo : doS t rows l = if l.length = 0 then (0, rows, t) else if 32768 < RB.length then (3, rows, t) else if 65536 < t.b.length + RB.length + 8 then (if 32768 < RW.length then (7, rows, t) else (SW.2, (if SW.2 = 0 then R2 else rows), SW.1)) else if WR.2 = 0 then (SY.2, (if SY.2 = 0 then R2 else rows), SY.1) else (WR.2, rows, WR.1) := by
    unfold doS
    rw [hRB, hR2, hRW, hFB, hFW, hWR, hSW, hSY]
  rw [hdo]
  clear hdo
  by_cases h0 : l.length = 0
  · rw [if_pos h0]; exact ⟨h, hl⟩
  rw [if_neg h0]
  by_cases hsz : 32768 < RB.length
  · rw [if_pos hsz]; exact ⟨h, hl⟩
  rw [if_neg hsz]
  by_cases hbig : 65536 < t.b.length + RB.length + 8
  · rw [if_pos hbig]
    by_cases hfull : 32768 < RW.length
    · rw [if_pos hfull]; exact ⟨h, hl⟩
    rw [if_neg hfull]
    refine ⟨hso.1, ?_⟩
    show SW.1.b.length ≤ _
    rcases hsc with ⟨_, _, c, _⟩ | ⟨_, _, c, _⟩
    · rw [c]; omega
    · rw [c]; exact hl
  · rw [if_neg hbig]
    by_cases he : WR.2 = 0
    · rw [if_pos he]
      refine ⟨hyo.1, ?_⟩
      show SY.1.b.length ≤ _
      rw [hyo.2]
      have := hwo.2
      omega
    · rw [if_neg he]
      refine ⟨hwo.1, ?_⟩
      show WR.1.b.length ≤ _
      have := hwo.2
      omega
theorem openS_ok {t : TP} (h : t.Ok) : (openS t).2.2.Ok ∧ (openS t).2.2.b.length ≤ t.b.length := by
  obtain ⟨NE, hNE⟩ : ∃ x, (splitL t.b).2 = x := ⟨_, rfl⟩
  obtain ⟨LS, hLS⟩ : ∃ x, (splitL t.b).1 = x := ⟨_, rfl⟩
  obtain ⟨CUT, hCUT⟩ : ∃ x, t.b.take NE = x := ⟨_, rfl⟩
  have hcl : CUT.length ≤ t.b.length := by rw [← hCUT]; exact List.length_take_le' _ _
  have hso := TP.swap_ok h CUT
  have hsc := swap_cases t CUT
  obtain ⟨SW, hSW⟩ : ∃ x, t.swap CUT = x := ⟨_, rfl⟩
  rw [hSW] at hso hsc
  have hop : openS t = match foldR [] LS with
      | none => (2, [], t)
      | some rows => if NE < t.b.length then (if SW.2 = 0 then (0, rows, SW.1) else (SW.2, [], SW.1)) else (0, rows, t) := by
    unfold openS
    rw [hLS, hNE, hCUT, hSW]
    cases foldR [] LS <;> rfl
  have hl : SW.1.b.length ≤ t.b.length := by
    rcases hsc with ⟨_, _, c, _⟩ | ⟨_, _, c, _⟩
    · rw [c]; exact hcl
    · rw [c]; exact Nat.le_refl _
  rw [hop]
  cases foldR [] LS with
  | none => exact ⟨h, Nat.le_refl _⟩
  | some rows =>
    dsimp only
    by_cases hc : NE < t.b.length
    · rw [if_pos hc]
      by_cases he : SW.2 = 0
      · rw [if_pos he]; exact ⟨hso.1, hl⟩
      · rw [if_neg he]; exact ⟨hso.1, hl⟩
    · rw [if_neg hc]; exact ⟨h, Nat.le_refl _⟩
/-- where the power does not go, and there is room -/
theorem doS_calm {t : TP} (hf : t.fuse < 0) (hd : t.down = false) (rows : RowL) (l : List Ch) (h0 : l.length ≠ 0) (hs : (recL l).length ≤ 32768) (hr : t.b.length + (recL l).length + 8 ≤ 65536) :
    doS t rows l = (0, turnL rows l, ⟨t.b ++ frameL (recL l), (t.b ++ frameL (recL l)).length, t.fuse, t.down⟩) := by
  obtain ⟨RB, hRB⟩ : ∃ x, recL l = x := ⟨_, rfl⟩
  obtain ⟨FB, hFB⟩ : ∃ x, frameL RB = x := ⟨_, rfl⟩
  rw [hRB] at hs hr
  unfold doS
  rw [hRB, hFB, if_neg h0, if_neg (by omega), if_neg (by omega), write_calm hf hd, if_pos rfl]
  have hsy := sync_calm (t := ⟨t.b ++ FB, t.sure, t.fuse, t.down⟩) hf hd
  rw [hsy, if_pos rfl]
/-- with many rows the tape is written anew -/
theorem doS_swap {t : TP} (hf : t.fuse < 0) (hd : t.down = false) (rows : RowL) (l : List Ch) (h0 : l.length ≠ 0) (hs : (recL l).length ≤ 32768) (hr : 65536 < t.b.length + (recL l).length + 8) (hw : (recL (allR (turnL rows l))).length ≤ 32768) :
    doS t rows l = (0, turnL rows l, ⟨frameL (recL (allR (turnL rows l))), (frameL (recL (allR (turnL rows l)))).length, t.fuse, t.down⟩) := by
  obtain ⟨RB, hRB⟩ : ∃ x, recL l = x := ⟨_, rfl⟩
  obtain ⟨R2, hR2⟩ : ∃ x, turnL rows l = x := ⟨_, rfl⟩
  obtain ⟨RW, hRW⟩ : ∃ x, recL (allR R2) = x := ⟨_, rfl⟩
  obtain ⟨FW, hFW⟩ : ∃ x, frameL RW = x := ⟨_, rfl⟩
  rw [hRB] at hs hr
  rw [hR2, hRW] at hw
  unfold doS
  rw [hRB, hR2, hRW, hFW, if_neg h0, if_neg (by omega), if_pos hr, if_neg (by omega), swap_calm hf hd, if_pos rfl]
theorem open_new : openS TP.new = (0, [], TP.new) := by
  unfold openS
  have h : splitL TP.new.b = ([], 0) := split_nil
  rw [h]
  show (if 0 < ([] : List UInt8).length then _ else _) = _
  exact if_neg (Nat.lt_irrefl 0)
end Go.Proofs.YtklhdffbaglkdaaDoor
namespace Go.Proofs.YtklhdffbaglkdaaDoor
open Go.RowKit
set_option linter.unusedVariables false
set_option linter.unusedSimpArgs false

def chA : Ch := ⟨[97], [49], false⟩
def rowsA : RowL := [([97], [49])]
theorem turnA : turnL [] [chA] = rowsA := by decide +kernel
theorem recA_len : (recL [chA]).length = 18 := by
  rw [recL_len, recAll_cons, List.length_append, recOne_len]; rfl
theorem doA : ∃ TA, doS TP.new [] [chA] = (0, rowsA, TA) ∧ Good TA rowsA rowsA ∧ TA.Ok ∧ TA.b.length ≤ 65536 := by
  have h1 := doS_calm (t := TP.new) (by show (-1 : Int) < 0; decide) rfl [] [chA] (by decide) (by rw [recA_len]; decide) (by rw [recA_len]; show 0 + 18 + 8 ≤ 65536; decide)
  have h2 := doS_ok TP.new_ok [] [chA] (by show 0 ≤ 65536; decide)
  obtain ⟨X, h3, _⟩ := do_good good_new [chA]
  rw [turnA] at h1
  rw [h1] at h2 h3
  exact ⟨_, h1, h3.calm rfl, h2⟩
theorem openA {TA : TP} (h : Good TA rowsA rowsA) : ∃ T2, openS (TA.crash 0) = (0, rowsA, T2) := by
  obtain ⟨Y, T2, h1, h2, _⟩ := open_good h 0
  have : Y = rowsA := h2.elim id id
  exact ⟨T2, by rw [h1, this]⟩
theorem getA : getR rowsA [97] = some [49] := by decide +kernel
theorem keysA : (keysR rowsA []).length = 1 := by decide +kernel
theorem noneC (w : World) (b : Nat) (h : w.heap[b]? = some (.cells #[.string ⟨#[97]⟩, .string ⟨#[49]⟩, .bool false] 61 (0, 0))) : RdC w (.slice (some ⟨b, 0, none⟩) 1 1) [chA] :=
  ⟨_, 1, rfl, Nat.le_refl _, fun k x hk => by
    obtain rfl : k = 0 := by
      rcases k with _ | k
      · rfl
      · simp at hk
    obtain rfl : chA = x := by simpa using hk
    exact ⟨b, 0, rfl, (Array.getElem?_eq_some_iff.1 h).1, cell_here h, cell_here h, cell_here h⟩⟩
set_option maxRecDepth 100000 in
set_option maxHeartbeats 4000000 in
theorem answers12_any {CT : World → (Nat → Prop) → Nat → TP → Prop} {CS : World → (Nat → Prop) → Nat → Nat → RowL → Prop} (HT : CodeTape CT) (H : CodeStore CT CS) (w : World) (hr : RoundsIn w) : Calls Tryd.prog 9 #[] w fun e w' => e = .returned (.bool true) ∧ Below w.heap.size w w' := by
  obtain ⟨TA, hdo, hgood, hok, hlen⟩ := doA
  obtain ⟨T2, hop⟩ := openA hgood
  have hcr := TP.crash_ok hok 0
  have HHT := Lib.hid HT; have HH := Lib.hid H; have HR := Lib.hid hr; have DO := Lib.hid hdo; have OKA := Lib.hid hok; have LENA := Lib.hid hlen; have OP := Lib.hid hop; have CR := Lib.hid hcr
  clear HT H hr hdo hgood hok hlen hop hcr
  go_enter Tryd.func9, Tryd.ntmps9
  go_wp2_with fail
  refine (HHT.out.new w).mono ?_
  rintro e w1 ⟨⟨q, T, rfl, hct, hT⟩, hb1⟩
  have B1 := Lib.hid hb1
  have hopen := HH.out.open_ w1 T q TP.new hct TP.new_ok (by decide) (HR.out.below hb1)
  rw [open_new] at hopen
  have OPEN := Lib.hid hopen; have HT0 := Lib.hid hT
  clear hb1 hct hopen hT
  dsimp only
  go_wp2_with fail
  refine OPEN.out.mono ?_
  rintro e w2 ⟨⟨T1, hct2, hT1, h | h⟩, ho2⟩
  case inr => exact absurd rfl h.1
  obtain ⟨-, p, S, rfl, hcs, hS⟩ := h
  have hb2 : Below w.heap.size w w2 := B1.out.trans (ho2.below B1.out.size HT0.out)
  have hT1' : ∀ b, T1 b → w.heap.size ≤ b := fun b hb => by
    rcases hT1 b hb with h | h
    · exact HT0.out b h
    · exact Nat.le_trans B1.out.size h
  have hS' : ∀ b, S b → w.heap.size ≤ b := fun b hb => Nat.le_trans B1.out.size (hS b hb).1
  obtain ⟨W3, hW3⟩ : ∃ W3, W3 = w2.alloc (.cells #[.string ⟨#[97]⟩, .string ⟨#[49]⟩, .bool false] 61) := ⟨_, rfl⟩
  have hb3 : Below w2.heap.size w2 W3 := by rw [hW3]; exact (Below.refl _ _).alloc (Nat.le_refl _) _
  have hbk : W3.heap[w2.heap.size]? = some (.cells #[.string ⟨#[97]⟩, .string ⟨#[49]⟩, .bool false] 61 (0, 0)) := by rw [hW3]; exact heap_alloc_last w2 _
  have hdo := HH.out.do_ W3 T1 S p q TP.new [] (some ⟨w2.heap.size, 0, none⟩) 1 [chA] (HHT.out.below hct2 hb3) (HH.out.below hcs hb3) (fun b hb => (hS b hb).2) TP.new_ok (by decide) (by decide) (HR.out.below (hb2.chain hb3)) (noneC W3 _ hbk) (by decide) (by rw [recA_len]; decide)
    (by rw [turnA]; show (recL (allR rowsA)).length ≤ _; rw [show allR rowsA = [chA] from rfl, recA_len]; decide)
    (fun g _ hg => by
      have hg2 : some w2.heap.size = some g := hg
      injection hg2 with hg2
      subst hg2
      exact ⟨fun h => Nat.lt_irrefl _ (HHT.out.lt hct2 _ h), fun h => Nat.lt_irrefl _ (HH.out.lt hcs _ h)⟩)
  rw [DO.out] at hdo
  have DOC := Lib.hid hdo; have B3 := Lib.hid (hb2.chain hb3); have HT1 := Lib.hid hT1'; have HS1 := Lib.hid hS'; have HW3 := Lib.hid hW3
  clear hct2 hT1 ho2 hcs hS hb2 hT1' hS' hb3 hbk hdo hW3
  dsimp only
  go_wp2_with fail
  rw [← HW3.out]
  refine DOC.out.mono ?_
  rintro e w4 ⟨rfl, ⟨T3, S3, hct4, hcs4, hdis, hTS⟩, ho4⟩
  have hb4 : Below w.heap.size w w4 := B3.out.trans (ho4.below B3.out.size (fun b hb => hb.elim (HT1.out b) (HS1.out b)))
  have hT3 : ∀ b, T3 b → w.heap.size ≤ b := fun b hb => by
    rcases hTS b (.inl hb) with h | h | h
    · exact HT1.out b h
    · exact HS1.out b h
    · exact Nat.le_trans B3.out.size h
  have hcr := HHT.out.crash w4 T3 q TA 0 hct4 OKA.out (by have := LENA.out; omega) (by decide)
  have CRC := Lib.hid hcr; have B4 := Lib.hid hb4; have HT3 := Lib.hid hT3
  clear hct4 hcs4 hdis hTS ho4 hb4 hT3 hcr
  dsimp only
  go_wp2_with fail
  refine CRC.out.mono ?_
  rintro e w5 ⟨rfl, ⟨T4, hct5, hT4⟩, ho5⟩
  have hb5 : Below w.heap.size w w5 := B4.out.trans (ho5.below B4.out.size HT3.out)
  have hT4' : ∀ b, T4 b → w.heap.size ≤ b := fun b hb => by
    rcases hT4 b hb with h | h
    · exact HT3.out b h
    · exact Nat.le_trans B4.out.size h
  have hopen := HH.out.open_ w5 T4 q _ hct5 CR.out.1 (by have := CR.out.2; have := LENA.out; omega) (HR.out.below hb5)
  rw [OP.out] at hopen
  have OPEN2 := Lib.hid hopen; have B5 := Lib.hid hb5; have HT4 := Lib.hid hT4'
  clear hct5 hT4 ho5 hb5 hT4' hopen
  dsimp only
  go_wp2_with fail
  refine OPEN2.out.mono ?_
  rintro e w6 ⟨⟨T5, hct6, hT5, h | h⟩, ho6⟩
  case inr => exact absurd rfl h.1
  obtain ⟨-, r, S2, rfl, hcs6, hS2⟩ := h
  have hb6 : Below w.heap.size w w6 := B5.out.trans (ho6.below B5.out.size HT4.out)
  have hget := HH.out.get w6 S2 r q rowsA [97] hcs6
  rw [getA] at hget
  have hkeys := fun W (hb : Below w6.heap.size w6 W) => HH.out.keys W S2 r q rowsA [] (HH.out.below hcs6 hb) (by decide) (by decide)
  have GET := Lib.hid hget; have KEYS := Lib.hid hkeys; have B6 := Lib.hid hb6
  clear hct6 hT5 ho6 hcs6 hS2 hb6 hget hkeys
  dsimp only
  go_wp2_with fail
  have hget : Calls Tryd.prog 26 #[.pointer (some ⟨r, 0, none⟩), .string ⟨#[97]⟩] w6 fun e w' => e = .returned (getV (some [49])) ∧ Below w6.heap.size w6 w' := GET.out
  refine hget.mono ?_
  rintro e w7 ⟨rfl, hb7⟩
  have hkeys : Calls Tryd.prog 27 #[.pointer (some ⟨r, 0, none⟩), .string ⟨#[]⟩] w7 fun e w' => (∃ v, e = .returned v ∧ RdT w' v (keysR rowsA [])) ∧ Below w7.heap.size w7 w' := KEYS.out w7 hb7
  have K2 := Lib.hid hkeys; have B7 := Lib.hid (B6.out.chain hb7)
  clear hb7 hkeys hget
  dsimp only [getV]
  go_wp2_with fail
  refine K2.out.mono ?_
  rintro e w8 ⟨⟨v8, rfl, hr8⟩, hb8⟩
  obtain ⟨A8, c8, rfl⟩ := rdt_form hr8
  have B8 := Lib.hid (B7.out.chain hb8); clear hb8 hr8
  rw [keysA]
  dsimp only
  go_wp2
  go_ret
  exact ⟨rfl, B8.out⟩
end Go.Proofs.YtklhdffbaglkdaaDoor
namespace Go.Proofs.YtklhdffbaglkdaaDoor
set_option linter.unusedVariables false

theorem recAll_size : ∀ (l : List Ch), (recAll l).length ≤ 12 * l.length + sumC l
  | [] => Nat.zero_le _
  | x :: l => by
    have := recAll_size l
    rw [recAll_cons, List.length_append, recOne_len, List.length_cons]
    simp only [sumC]
    have h : x.val.length ≤ x.value.length := by unfold Ch.val; split <;> simp
    omega
def sumR : RowL → Nat
  | [] => 0
  | r :: l => r.1.length + r.2.length + sumR l
theorem sumR_filter (p : List UInt8 × List UInt8 → Bool) : ∀ (l : RowL), sumR (l.filter p) ≤ sumR l
  | [] => Nat.le_refl _
  | r :: l => by
    have := sumR_filter p l
    rw [List.filter_cons]
    split
    · simp only [sumR]; omega
    · simp only [sumR]; omega
theorem sumR_ins (k v : List UInt8) : ∀ (p : Bool) (rows : RowL), sumR (insL k v p rows) ≤ sumR rows + (k.length + v.length)
  | true, rows => by rw [insL_placed]; have := sumR_filter (fun r : List UInt8 × List UInt8 => decide (r.1 ≠ k)) rows; omega
  | false, [] => by unfold insL; simp [sumR]
  | false, r :: rs => by
    rw [insL_cons]
    cases hl : Go.Op.bytesLess r.1 k with
    | true =>
      rw [if_neg (fun e => by cases e.2)]
      have := sumR_ins k v false rs
      simp only [List.nil_append, Bool.not_true, Bool.or_false]
      by_cases hk : r.1 = k
      · rw [if_pos hk]; simp only [List.nil_append, sumR]; omega
      · rw [if_neg hk]; simp only [List.cons_append, List.nil_append, sumR]; omega
    | false =>
      rw [if_pos ⟨rfl, rfl⟩]
      simp only [Bool.not_false, Bool.or_true]
      rw [insL_placed]
      have := sumR_filter (fun x : List UInt8 × List UInt8 => decide (x.1 ≠ k)) rs
      by_cases hk : r.1 = k
      · rw [if_pos hk]; simp only [List.cons_append, List.nil_append, sumR]; omega
      · rw [if_neg hk]; simp only [List.cons_append, List.nil_append, sumR]; omega
theorem sumR_turn : ∀ (l : List Ch) (rows : RowL), sumR (turnL rows l) ≤ sumR rows + sumC l
  | [], _ => Nat.le_refl _
  | x :: l, rows => by
    rw [turnL_cons]
    have h1 := sumR_turn l (turn1 rows x)
    have h2 := sumR_ins x.key x.value x.gone rows
    unfold turn1 at h1
    simp only [sumC]
    unfold turn1
    omega
theorem sumC_all : ∀ (rows : RowL), sumC (allR rows) = sumR rows
  | [] => rfl
  | r :: l => by
    show r.1.length + r.2.length + sumC (allR l) = _
    rw [sumC_all l]; rfl
theorem rec_all_le (rows : RowL) : (recL (allR rows)).length ≤ 4 + 12 * rows.length + sumR rows := by
  have := recAll_size (allR rows)
  rw [sumC_all] at this
  rw [recL_len]
  have h : (allR rows).length = rows.length := by simp [allR]
  omega
theorem sumR_mem : ∀ (rows : RowL) (r : List UInt8 × List UInt8), r ∈ rows → r.1.length + r.2.length ≤ sumR rows
  | x :: l, r, h => by
    simp only [sumR]
    rcases List.mem_cons.1 h with rfl | h
    · omega
    · have := sumR_mem l r h; omega
end Go.Proofs.YtklhdffbaglkdaaDoor
namespace Go.Proofs.YtklhdffbaglkdaaDoor
open Go.RowKit
set_option linter.unusedVariables false
set_option linter.unusedSimpArgs false

theorem str_back (s : ByteArray) : (⟨s.data.toList.toArray⟩ : ByteArray) = s := by simp
theorem noneK (w : World) (b : Nat) (key : ByteArray) (h : w.heap[b]? = some (.cells #[.string key, .string ⟨#[]⟩, .bool false] 61 (0, 0))) : RdC w (.slice (some ⟨b, 0, none⟩) 1 1) [⟨key.data.toList, [], false⟩] :=
  ⟨_, 1, rfl, Nat.le_refl _, fun k x hk => by
    obtain rfl : k = 0 := by
      rcases k with _ | k
      · rfl
      · simp at hk
    obtain rfl : (⟨key.data.toList, [], false⟩ : Ch) = x := by simpa using hk
    refine ⟨b, 0, rfl, (Array.getElem?_eq_some_iff.1 h).1, ?_, cell_here h, cell_here h⟩
    have := cell_here (o := 0 + 0 * 3) h
    rw [this]
    show some (Value.string key) = some (.string ⟨key.data.toList.toArray⟩)
    rw [str_back]⟩
set_option maxRecDepth 100000 in
set_option maxHeartbeats 4000000 in
theorem storeNone_at {CT : World → (Nat → Prop) → Nat → TP → Prop} {CS : World → (Nat → Prop) → Nat → Nat → RowL → Prop} (HT : CodeTape CT) (H : CodeStore CT CS) (key : ByteArray) (hk : key.size ≤ maxLen) (w : World) (hr : RoundsIn w) :
    Calls Tryd.prog 6 #[.string key] w fun e w' => e = .returned (.bool true) ∧ Below w.heap.size w w' := by
  have hans := fun W (hb : Below w.heap.size w W) => answers12_any HT H W (hr.below hb)
  have HA := Lib.hid hans; have HH := Lib.hid H
  clear hans hr HT H
  go_enter Tryd.func6, Tryd.ntmps6
  go_wp2_with fail
  refine (HH.out.nopen _).mono ?_
  rintro e w1 ⟨rfl, hb1⟩
  have B1 := Lib.hid hb1; clear hb1
  dsimp only
  go_wp2_with fail
  refine (HH.out.nget _ key).mono ?_
  rintro e w2 ⟨rfl, hb2⟩
  have B2 := Lib.hid (B1.out.chain hb2); clear hb2
  dsimp only [getV]
  go_wp2_with fail
  refine (HA.out _ B2.out).mono ?_
  rintro e w3 ⟨rfl, hb3⟩
  have B3 := Lib.hid (B2.out.chain hb3); clear hb3
  obtain ⟨W4, hW4⟩ : ∃ W4, W4 = w3.alloc (.cells #[.string key, .string ⟨#[]⟩, .bool false] 61) := ⟨_, rfl⟩
  have hbk : W4.heap[w3.heap.size]? = some (.cells #[.string key, .string ⟨#[]⟩, .bool false] 61 (0, 0)) := by rw [hW4]; exact heap_alloc_last w3 _
  have hb4 : Below w3.heap.size w3 W4 := by rw [hW4]; exact (Below.refl _ _).alloc (Nat.le_refl _) _
  have hdo := HH.out.ndo W4 _ _ (noneK W4 _ key hbk)
  have DO := Lib.hid hdo; have B4 := Lib.hid (B3.out.chain hb4); have HW4 := Lib.hid hW4
  clear hdo hb4 hbk hW4
  dsimp only
  go_wp2_with fail
  rw [← HW4.out]
  refine DO.out.mono ?_
  rintro e w5 ⟨rfl, hb5⟩
  have B5 := Lib.hid (B4.out.chain hb5); clear hb5
  dsimp only
  go_wp2_with fail
  refine (HH.out.nkeys _ key).mono ?_
  rintro e w6 ⟨⟨A6, c6, rfl⟩, hb6⟩
  have B6 := Lib.hid (B5.out.chain hb6); clear hb6
  dsimp only
  go_wp2
  go_ret
  exact ⟨rfl, B6.out⟩
theorem small_rec {l : List Ch} (h : smallB l = true) : l.length < 100 ∧ sumC l < 40000 ∧ (recL l).length ≤ 1000000 := by
  unfold smallB at h
  simp only [Bool.and_eq_true, decide_eq_true_eq] at h
  have := recAll_size l
  rw [recL_len]
  omega
/-- what Do answers of a new store's first changes -/
theorem do_new_err (l : List Ch) : (doS TP.new [] l).1 ≠ 0 ∨ (doS TP.new [] l).2.1 = turnL [] l := by
  by_cases h0 : l.length = 0
  · right
    unfold doS
    rw [if_pos h0]
    obtain rfl : l = [] := List.length_eq_zero_iff.1 h0
    rfl
  by_cases hs : 32768 < (recL l).length
  · left
    unfold doS
    rw [if_neg h0, if_pos hs]
    show (3 : Int) ≠ 0; decide
  · right
    rw [doS_calm (t := TP.new) (by show (-1 : Int) < 0; decide) rfl [] l h0 (by omega) (by show 0 + _ + 8 ≤ 65536; omega)]
set_option maxRecDepth 100000 in
set_option maxHeartbeats 4000000 in
theorem storeKeys_at {CT : World → (Nat → Prop) → Nat → TP → Prop} {CS : World → (Nat → Prop) → Nat → Nat → RowL → Prop} (HT : CodeTape CT) (H : CodeStore CT CS) (A : Option Addr) (c : Nat) (l : List Ch) (pre : ByteArray) {w : World} (hc : RdC w (.slice A l.length c) l ∧ (∀ g, (Value.slice A l.length c).ownBlock = some g → l.length ≠ 0 → g < w.heap.size) ∧ l.length ≤ 200000000000000 ∧ ∀ x ∈ l, x.key.length ≤ 200000000000000 ∧ x.value.length ≤ 200000000000000) (hp : pre.size ≤ 1000000000000000) (hr : RoundsIn w) :
    Calls Tryd.prog 8 #[.slice A l.length c, .string pre] w fun e w' => e = .returned (.bool true) ∧ Below w.heap.size w w' := by
  obtain ⟨hrc, hbl, hll, hz⟩ := hc
  have hans := fun W (hb : Below w.heap.size w W) => answers12_any HT H W (hr.below hb)
  have hsm := small12_any A c l hll hz w hrc
  obtain ⟨n, hn⟩ : ∃ n, l.length = n := ⟨_, rfl⟩
  rw [hn] at hsm hrc hbl hll ⊢
  have HA := Lib.hid hans; have HHT := Lib.hid HT; have HH := Lib.hid H; have HR := Lib.hid hr; have HRC := Lib.hid hrc; have HBL := Lib.hid hbl; have HN := Lib.hid hn; have SM := Lib.hid hsm; have HP := Lib.hid hp
  clear hans hr HT H hrc hbl hn hsm hz hp
  go_enter Tryd.func8, Tryd.ntmps8
  go_wp2_with fail
  refine SM.out.mono ?_
  rintro e w0 ⟨rfl, hb0⟩
  have B0 := Lib.hid hb0; clear hb0
  cases hsb : smallB l with
  | false =>
    clear hsb
    dsimp only
    go_wp2_with fail
    refine (HA.out _ B0.out).mono ?_
    rintro e w1 ⟨rfl, hb1⟩
    have B1 := Lib.hid (B0.out.chain hb1); clear hb1
    dsimp only
    go_wp2
    go_ret
    exact ⟨rfl, B1.out⟩
  | true =>
    obtain ⟨hl1, hl2, hl3⟩ := small_rec hsb
    rw [HN.out] at hl1
    have hsum : sumR (turnL [] l) ≤ sumC l := by
      have := sumR_turn l []
      simp only [sumR] at this
      omega
    have htl : (turnL [] l).length ≤ n := by
      have := turnL_len l []
      rw [HN.out] at this
      simpa using this
    have hra : (recL (allR (turnL [] l))).length ≤ 1000000 := by
      have := rec_all_le (turnL [] l)
      omega
    have HL1 := Lib.hid hl1; have HL2 := Lib.hid hl2; have HL3 := Lib.hid hl3; have HSUM := Lib.hid hsum; have HTL := Lib.hid htl; have HRA := Lib.hid hra
    clear hsb hl1 hl2 hl3 hsum htl hra
    dsimp only
    go_wp2_with fail
    refine (HHT.out.new w0).mono ?_
    rintro e w1 ⟨⟨q, T, rfl, hct, hT⟩, hb1⟩
    have B1 := Lib.hid (B0.out.chain hb1)
    have hT0 : ∀ b, T b → w.heap.size ≤ b := fun b hb => Nat.le_trans B0.out.size (hT b hb)
    have hopen := HH.out.open_ w1 T q TP.new hct TP.new_ok (by decide) (HR.out.below (B0.out.chain hb1))
    rw [open_new] at hopen
    have OPEN := Lib.hid hopen; have HT0 := Lib.hid hT0
    clear hb1 hct hopen hT hT0
    dsimp only
    go_wp2_with fail
    refine OPEN.out.mono ?_
    rintro e w2 ⟨⟨T1, hct2, hT1, h | h⟩, ho2⟩
    case inr => exact absurd rfl h.1
    obtain ⟨-, p, S, rfl, hcs, hS⟩ := h
    have hb2 : Below w.heap.size w w2 := B1.out.trans (ho2.below B1.out.size HT0.out)
    have hT1' : ∀ b, T1 b → w.heap.size ≤ b := fun b hb => by
      rcases hT1 b hb with h | h
      · exact HT0.out b h
      · exact Nat.le_trans B1.out.size h
    have hS' : ∀ b, S b → w.heap.size ≤ b := fun b hb => Nat.le_trans B1.out.size (hS b hb).1
    have hrc2 := HRC.out.below hb2
    have hbn := HBL.out
    rw [← HN.out] at hrc2 hbn
    have hdo := HH.out.do_ w2 T1 S p q TP.new [] A c l hct2 hcs (fun b hb => (hS b hb).2) TP.new_ok (by decide) (by decide) (HR.out.below hb2) hrc2 (by have := HN.out; have := HL1.out; omega) HL3.out HRA.out
      (fun g hg0 hg => by
        have hg1 := hbn g hg hg0
        exact ⟨fun h => absurd (hT1' g h) (by omega), fun h => absurd (hS' g h) (by omega)⟩)
    have hE := do_new_err l
    obtain ⟨E, hEE⟩ : ∃ E, (doS TP.new [] l).1 = E := ⟨_, rfl⟩
    obtain ⟨R1, hR1⟩ : ∃ R1, (doS TP.new [] l).2.1 = R1 := ⟨_, rfl⟩
    rw [hEE, hR1] at hE
    rw [hEE, hR1, HN.out] at hdo
    have DO := Lib.hid hdo; have B2 := Lib.hid hb2; have HT1 := Lib.hid hT1'; have HS1 := Lib.hid hS'; have HE := Lib.hid hE
    clear hct2 hT1 ho2 hcs hS hb2 hT1' hS' hrc2 hbn hdo hE hEE hR1
    dsimp only
    go_wp2_with fail
    refine DO.out.mono ?_
    rintro e w4 ⟨rfl, ⟨T3, S3, hct4, hcs4, hdis, hTS⟩, ho4⟩
    have hb4 : Below w.heap.size w w4 := B2.out.trans (ho4.below B2.out.size (fun b hb => hb.elim (HT1.out b) (HS1.out b)))
    have B4 := Lib.hid hb4; have HCS := Lib.hid hcs4
    clear hct4 hcs4 hdis hTS ho4 hb4
    dsimp only
    by_cases h0 : E = 0
    · have hk := HE.out.resolve_left (fun h => h h0)
      subst h0
      have hcs := HCS.out
      rw [hk] at hcs
      have hlen : (turnL [] l).length ≤ 100000 := by have := HTL.out; have := HL1.out; omega
      have hkeys := fun W (hb : Below w4.heap.size w4 W) => HH.out.keys W S3 p q (turnL [] l) pre.data.toList (HH.out.below hcs hb) hlen (by have := HP.out; simpa using this)
      simp only [str_back] at hkeys
      have hnil : RdR w4 (.slice none ([] : RowL).length 0) [] := ⟨none, 0, rfl, Nat.le_refl _, fun _ => rfl, fun k x h => by simp at h⟩
      have hrc4 := HRC.out.below B4.out
      rw [← HN.out] at hrc4
      have hturn := fun W (hb : Below w4.heap.size w4 W) => refTurn_any none 0 [] A c l (by decide) (by have := HN.out; have := HL1.out; omega) W (hnil.below hb) (hrc4.below hb)
      rw [HN.out] at hturn
      simp only [List.length_nil] at hturn
      have hkz : ∀ r ∈ turnL [] l, r.1.length ≤ 1000000000000 := fun r hr => by
        have := sumR_mem _ r hr
        have := HSUM.out
        have := HL2.out
        omega
      have KEYS := Lib.hid hkeys; have TURN := Lib.hid hturn; have HLEN := Lib.hid hlen; have HKZ := Lib.hid hkz
      clear hk hcs hkeys HE hnil hrc4 hturn hlen hkz
      go_wp2_with fail
      refine (HA.out _ B4.out).mono ?_
      rintro e w5 ⟨rfl, hb5⟩
      have B5 := Lib.hid hb5; clear hb5
      dsimp only
      go_wp2_with fail
      refine (KEYS.out _ B5.out).mono ?_
      rintro e w6 ⟨⟨v6, rfl, ht6⟩, hb6⟩
      have B6 := Lib.hid (B5.out.chain hb6); have T6 := Lib.hid ht6
      clear hb6 ht6
      dsimp only
      go_wp2_with fail
      refine (TURN.out _ B6.out).mono ?_
      rintro e w7 ⟨⟨v7, rfl, hq7⟩, hb7⟩
      have hr7 := hq7.rd
      have hf7 := hr7
      obtain ⟨A7, c7, rfl, -⟩ := hf7
      have ht7 := T6.out.below hb7
      have hkr := refKeysR_any A7 c7 (turnL [] l) pre HLEN.out w7 hr7 HKZ.out HP.out
      have B7 := Lib.hid (B6.out.chain hb7); have T7 := Lib.hid ht7; have KR := Lib.hid hkr
      clear hb7 hq7 hr7 ht7 hkr
      dsimp only
      go_wp2_with fail
      refine KR.out.mono ?_
      rintro e w8 ⟨⟨v8, rfl, ht8⟩, hb8⟩
      have hkl := Nat.le_trans (keysR_le (turnL [] l) pre.data.toList) (Nat.le_trans HLEN.out (by decide : 100000 ≤ 1000000))
      have htx := refTexts_any v6 v8 _ _ hkl hkl w8 (T7.out.below hb8) ht8.rd
      rw [decide_eq_true rfl] at htx
      have B8 := Lib.hid (B7.out.chain hb8); have TX := Lib.hid htx
      clear hb8 ht8 hkl htx
      dsimp only
      go_wp2_with fail
      refine TX.out.mono ?_
      rintro e w9 ⟨rfl, hb9⟩
      have B9 := Lib.hid (B8.out.chain hb9); clear hb9
      dsimp only
      go_wp2
      go_ret
      exact ⟨rfl, B4.out.chain B9.out⟩
    · have hq : (E != 0) = true := bne_iff_ne.2 h0
      clear h0
      go_wp2_with fail
      refine (HA.out _ B4.out).mono ?_
      rintro e w5 ⟨rfl, hb5⟩
      have B5 := Lib.hid (B4.out.chain hb5); clear hb5
      dsimp only
      go_wp2
      go_ret
      exact ⟨rfl, B5.out⟩
end Go.Proofs.YtklhdffbaglkdaaDoor
namespace Go.Proofs.YtklhdffbaglkdaaDoor
open Go.ChangeShapes Go.WideShapes Go.ChangeAt Go.RowKit
set_option linter.unusedVariables false

theorem Tryd.laidOutBy : laidOutB Tryd.prog = true := by kernel_rfl
theorem Tryd.cellsByte : Tryd.prog.cellsOf 5 = 1 := by kernel_rfl
set_option maxRecDepth 100000 in
/-- what is read of a slice of bytes: the bytes -/
theorem open_bytes {H : Type} {enc : TypeId × Value → H} {W : World} {base : Nat} {v : Value} {d : DataW H} {ps : List MemPlace} (hval : Value.okWide Tryd.prog W .any base 40 v)
    (hd : DataW.Trod enc Tryd.prog W 0 (fun _ => true) true 40 v d ps) (hlt : ∀ x ∈ ps, x.block < W.heap.size) (hwt : ∀ n ∈ d.weights Tryd.prog 40, n ≤ reachBytes) :
    ∃ (A : Option Addr) (c : Nat) (l : List UInt8), v = .slice A l.length c ∧ RdAt W (.slice A l.length c) l := by
  have hv2 := hval
  obtain ⟨a0, len, cap, rfl⟩ := okWide_slice Tryd.underlying40 hval
  obtain ⟨fuel, hf⟩ := hd
  rcases Go.Deep.open_slice1 Tryd.underlying40 Tryd.cellsByte hf with ⟨hcs, hx⟩ | ⟨a, len', cap', m, n, V, D, Pl, hcs, _, hl, hm, hmm, hx, hi⟩
  · simp [Value.cells] at hcs
    obtain ⟨rfl, rfl, rfl⟩ := hcs
    exact ⟨none, 0, [], rfl, RdAt.nil _⟩
  · simp [Value.cells] at hcs
    obtain ⟨rfl, rfl, rfl⟩ := hcs
    simp only [Value.okWide, Cell.okWide, Cell.ok, Tryd.underlying40] at hv2
    obtain ⟨_, hcap, -, hspot, row, cells0, hshape, -⟩ := hv2
    obtain ⟨g, o, spot⟩ := a
    obtain rfl : spot = none := hspot
    have hg : g < W.heap.size := by
      unfold World.shape? at hshape
      split at hshape
      · rename_i hgb
        exact (Array.getElem?_eq_some_iff.1 hgb).1
      · cases hshape
    have hall : ∀ i, ∃ x : UInt8, i < m → W.cell? ((⟨g, o, none⟩ : Addr).add i) = some (.int .u8 (x.toNat : Int)) := by
      intro i
      by_cases him : i < m
      · obtain ⟨h1, h2⟩ := hi i him
        obtain ⟨n', hn', _, hw⟩ := DataW.trod_int Tryd.underlying5 h2
        obtain ⟨c, rfl⟩ := byte_ex hw
        rw [List.singleton_inj] at hn'
        exact ⟨c, fun _ => by rw [h1, hn']⟩
      · exact ⟨0, fun h => absurd h him⟩
    obtain ⟨f, hf⟩ := Classical.axiomOfChoice hall
    simp only [if_true] at hmm
    refine ⟨some ⟨g, o, none⟩, cap, (List.range len).map f, by simp, some ⟨g, o, none⟩, cap, rfl, by simpa using hl, ?_, .inr ⟨g, o, rfl, hg, fun j u hu => ?_⟩⟩
    · have : IntKind.i64.max = 9223372036854775807 := by decide
      omega
    · have hj : j < len := by
        have := (List.getElem?_eq_some_iff.1 hu).1
        simpa [cells] using this
      rw [hf j (by omega)]
      simp [cells, hj] at hu
      rw [← hu]
end Go.Proofs.YtklhdffbaglkdaaDoor
namespace Go.Proofs.YtklhdffbaglkdaaDoor
open Go.ChangeShapes Go.WideShapes Go.ChangeAt Go.RowKit
set_option linter.unusedVariables false

theorem spot_none_b {W : World} {a : Addr} {v : Value} (h : W.cell? a = some v) : a = ⟨a.block, a.off, none⟩ ∧ a.block < W.heap.size := by
  obtain ⟨b, o, sp⟩ := a
  unfold World.cell? at h
  split at h
  · rename_i hb
    cases sp with
    | none => exact ⟨rfl, (Array.getElem?_eq_some_iff.1 hb).1⟩
    | some z => simp at h
  · cases h
set_option maxRecDepth 100000 in
/-- a cell that is a slice of bytes, as bytes -/
theorem bytes_of_trod {H : Type} {enc : TypeId × Value → H} {W : World} {fuel : Nat} {cs : List Value} {x : DataW H × List MemPlace}
    (h : DataW.trod enc Tryd.prog W 0 (fun _ => true) true fuel 40 cs = some x) :
    ∃ (A : Option Addr) (c : Nat) (l : List UInt8), cs = [.slice A l.length c] ∧ RdW W (.slice A l.length c) l := by
  rcases Go.Deep.open_slice1 Tryd.underlying40 Tryd.cellsByte h with ⟨rfl, rfl⟩ | ⟨a, len, cap, m, n, V, D, Pl, rfl, _, hl, hm, hmm, rfl, hi⟩
  · exact ⟨none, 0, [], rfl, (RdAt.nil _).weak⟩
  · simp only [if_true] at hmm
    subst hmm
    have hm2 : m ≤ 9223372036854775807 := by unfold maxLen at hm; omega
    by_cases h0 : m = 0
    · subst h0
      obtain rfl : len = 0 := by omega
      exact ⟨some a, 0, [], rfl, some a, 0, rfl, Nat.le_refl _, Nat.zero_le _, .inl ⟨rfl, rfl⟩⟩
    · obtain ⟨he, hg⟩ := spot_none_b (hi 0 (by omega)).1
      have he : a = ⟨a.block, a.off, none⟩ := by
        obtain ⟨b, o, sp⟩ := a
        simp only [Addr.add] at he
        injection he with e1 e2 e3
        simp only at e3 ⊢
        rw [e3]
      have hg : a.block < W.heap.size := by simpa [Addr.add] using hg
      have hall : ∀ i, ∃ x : UInt8, i < m → W.cell? (a.add i) = some (.int .u8 (x.toNat : Int)) := by
        intro i
        by_cases him : i < m
        · obtain ⟨h1, h2⟩ := hi i him
          obtain ⟨n', hn', _, hw⟩ := DataW.trod_int Tryd.underlying5 h2
          obtain ⟨c, rfl⟩ := byte_ex hw
          rw [List.singleton_inj] at hn'
          exact ⟨c, fun _ => by rw [h1, hn']⟩
        · exact ⟨0, fun h => absurd h him⟩
      obtain ⟨f, hf⟩ := Classical.axiomOfChoice hall
      refine ⟨some a, m, (List.range len).map f, by simp, some a, m, rfl, by simpa using hl, hm2, .inr ⟨a.block, a.off, by rw [← he], hg, fun j u hu => ?_⟩⟩
      have hj : j < len := by
        have := (List.getElem?_eq_some_iff.1 hu).1
        simpa [cells] using this
      rw [← he, hf j (by omega)]
      simp [cells, hj] at hu
      rw [← hu]
end Go.Proofs.YtklhdffbaglkdaaDoor
