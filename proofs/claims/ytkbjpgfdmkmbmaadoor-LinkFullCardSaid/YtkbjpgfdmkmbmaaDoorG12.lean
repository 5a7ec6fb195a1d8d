/- Texts merged by program, in build order: StoreGood, StoreOk, StoreL, JsonPure. -/
import Derived.Test.YtkbjpgfdmkmbmaaDoorG10
import Derived.Test.YtkbjpgfdmkmbmaaDoorG11
import Derived.Lib.Bytealg
set_option linter.unusedVariables false
set_option linter.unusedSimpArgs false
namespace Go.Proofs.YtkbjpgfdmkmbmaaDoor

theorem left_calm {t : TP} (hf : t.fuse < 0) (hd : t.down = false) (n : Nat) : t.left n = n := by
  unfold TP.left
  rw [if_neg (by rw [hd]; decide), if_pos (.inl hf)]
theorem use_calm {t : TP} (hf : t.fuse < 0) (hd : t.down = false) (n : Nat) : t.use n n = (t, 0) := by
  unfold TP.use
  rw [if_neg (by rw [hd]; decide), if_neg (Nat.lt_irrefl _), if_neg (by omega)]
theorem write_calm {t : TP} (hf : t.fuse < 0) (hd : t.down = false) (l : List UInt8) : t.write l = (⟨t.b ++ l, t.sure, t.fuse, t.down⟩, 0) := by
  unfold TP.write
  rw [left_calm hf hd, List.take_of_length_le (Nat.le_refl _)]
  exact use_calm (t := ⟨t.b ++ l, t.sure, t.fuse, t.down⟩) hf hd _
theorem sync_calm {t : TP} (hf : t.fuse < 0) (hd : t.down = false) : t.sync = (⟨t.b, t.b.length, t.fuse, t.down⟩, 0) := by
  unfold TP.sync
  rw [left_calm hf hd, use_calm hf hd, if_pos rfl]
theorem swap_calm {t : TP} (hf : t.fuse < 0) (hd : t.down = false) (l : List UInt8) : t.swap l = (⟨l, l.length, t.fuse, t.down⟩, 0) := by
  unfold TP.swap
  rw [left_calm hf hd, use_calm hf hd, if_pos rfl]
theorem use_cases (t : TP) (n : Nat) : ((t.use (t.left n) n).2 = 0 ∧ t.down = false ∧ t.left n = n ∧ (t.use (t.left n) n).1.down = false) ∨ ((t.use (t.left n) n).2 = 8 ∧ (t.use (t.left n) n).1.down = true) := by
  unfold TP.use
  by_cases hd : t.down = true
  · rw [if_pos hd]
    exact .inr ⟨rfl, hd⟩
  · rw [if_neg hd]
    by_cases hk : t.left n < n
    · rw [if_pos hk]
      exact .inr ⟨rfl, rfl⟩
    · rw [if_neg hk]
      have hl := t.left_le n
      have hd' : t.down = false := by simpa using hd
      split
      · exact .inl ⟨rfl, hd', by omega, hd'⟩
      · exact .inl ⟨rfl, hd', by omega, hd'⟩
theorem left_down {t : TP} (hd : t.down = true) (n : Nat) : t.left n = 0 := by
  unfold TP.left
  rw [if_pos hd]
/-- what a Write may come to -/
theorem write_cases (t : TP) (l : List UInt8) : ((t.write l).2 = 0 ∧ t.down = false ∧ (t.write l).1.b = t.b ++ l ∧ (t.write l).1.sure = t.sure ∧ (t.write l).1.down = false) ∨
    ((t.write l).2 = 8 ∧ (t.write l).1.down = true ∧ (t.write l).1.sure = t.sure ∧ ∃ m, (t.write l).1.b = t.b ++ l.take m ∧ (t.down = true → m = 0)) := by
  unfold TP.write
  have h1 := use_cases ⟨t.b ++ l.take (t.left l.length), t.sure, t.fuse, t.down⟩ l.length
  have h2 := TP.use_b ⟨t.b ++ l.take (t.left l.length), t.sure, t.fuse, t.down⟩ (t.left l.length) l.length
  have hl : TP.left ⟨t.b ++ l.take (t.left l.length), t.sure, t.fuse, t.down⟩ l.length = t.left l.length := rfl
  rw [hl] at h1
  rcases h1 with ⟨a, b, c, d⟩ | ⟨a, b⟩
  · refine .inl ⟨a, b, ?_, h2.2, d⟩
    rw [h2.1, c, List.take_of_length_le (Nat.le_refl _)]
  · exact .inr ⟨a, b, h2.2, t.left l.length, h2.1, fun h => left_down h _⟩
theorem sync_cases (t : TP) : (t.sync.2 = 0 ∧ t.down = false ∧ t.sync.1.b = t.b ∧ t.sync.1.sure = t.b.length ∧ t.sync.1.down = false) ∨ (t.sync.2 = 8 ∧ t.sync.1.down = true ∧ t.sync.1.b = t.b ∧ t.sync.1.sure = t.sure) := by
  unfold TP.sync
  have h1 := use_cases t 1
  have h2 := TP.use_b t (t.left 1) 1
  rcases h1 with ⟨a, b, c, d⟩ | ⟨a, b⟩
  · rw [if_pos a]
    exact .inl ⟨rfl, b, h2.1, by show (t.use (t.left 1) 1).1.b.length = _; rw [h2.1], d⟩
  · rw [if_neg (by rw [a]; decide)]
    exact .inr ⟨a, b, h2.1, h2.2⟩
theorem swap_cases (t : TP) (l : List UInt8) : ((t.swap l).2 = 0 ∧ t.down = false ∧ (t.swap l).1.b = l ∧ (t.swap l).1.sure = l.length ∧ (t.swap l).1.down = false) ∨ ((t.swap l).2 = 8 ∧ (t.swap l).1.down = true ∧ (t.swap l).1.b = t.b ∧ (t.swap l).1.sure = t.sure) := by
  unfold TP.swap
  have h1 := use_cases t (l.length + 1)
  have h2 := TP.use_b t (t.left (l.length + 1)) (l.length + 1)
  rcases h1 with ⟨a, b, c, d⟩ | ⟨a, b⟩
  · rw [if_pos a]
    exact .inl ⟨rfl, b, rfl, rfl, d⟩
  · rw [if_neg (by rw [a]; decide)]
    exact .inr ⟨a, b, h2.1, h2.2⟩
/-- how a store's tape may stand: X is what the rows are if what is loose is whole -/
structure Good (t : TP) (rows X : RowL) : Prop where
  out : ∃ (recs : List (List UInt8)) (r : List UInt8) (m : Nat), t.b = framesL recs ++ (frameL r).take m ∧ (∀ x ∈ recs, x.length ≤ 32768) ∧ r.length ≤ 32768 ∧ foldR [] recs = some rows ∧ foldR [] (recs ++ [r]) = some X ∧ t.sure = (framesL recs).length ∧ (t.down = false → m = 0)
theorem recAll_nil : recAll [] = [] := rfl
theorem rec0_four : (recL []).length = 4 := by rw [recL_len, recAll_nil]; rfl
theorem rec0 : changesL (recL []) = some [] := by
  have h := changes_small [] (by rw [rec0_four]; omega)
  rw [List.map_nil] at h
  exact h
theorem rec0_len : (recL []).length ≤ 32768 := by rw [rec0_four]; omega
theorem fold0 (recs : List (List UInt8)) (rows : RowL) (h : foldR [] recs = some rows) : foldR [] (recs ++ [recL []]) = some rows := by
  rw [foldR_snoc, h]
  dsimp only
  rw [rec0]
  rfl
theorem good_new : Good TP.new [] [] := ⟨[], recL [], 0, rfl, (fun x hx => by cases hx), rec0_len, rfl, fold0 [] [] rfl, rfl, fun _ => rfl⟩
theorem Good.calm {t : TP} {rows X : RowL} (h : Good t rows X) (hd : t.down = false) : Good t rows rows := by
  obtain ⟨recs, r, m, h1, h2, h3, h4, h5, h6, h7⟩ := h.out
  have h0 := h7 hd
  subst h0
  exact ⟨recs, recL [], 0, by rw [h1]; simp, h2, rec0_len, h4, fold0 recs rows h4, h6, fun _ => rfl⟩
theorem Good.rising {t : TP} {rows X : RowL} (h : Good t rows X) : Rising rows := by
  obtain ⟨recs, r, m, h1, h2, h3, h4, h5, h6, h7⟩ := h.out
  exact foldR_rising recs [] rows trivial h4
theorem fold_all (rows : RowL) (h : Rising rows) (b : List UInt8) (hb : recL (allR rows) = b) (hl : b.length ≤ 1000000) : foldR [] [b] = some rows := by
  have hw : changesL b = some ((allR rows).map Ch.norm) := by rw [← hb]; exact changes_small _ (by rw [hb]; exact hl)
  have e : foldR [] [b] = some (turnL [] ((allR rows).map Ch.norm)) := by
    rw [foldR_cons, hw]; rfl
  rw [e, turnL_norm, turn_all _ h]
theorem fold_next (recs : List (List UInt8)) (rows : RowL) (l : List Ch) (h4 : foldR [] recs = some rows) (b : List UInt8) (hb : recL l = b) (hl : b.length ≤ 1000000) : foldR [] (recs ++ [b]) = some (turnL rows l) := by
  have hch : changesL b = some (l.map Ch.norm) := by rw [← hb]; exact changes_small l (by rw [hb]; exact hl)
  rw [foldR_snoc, h4]
  dsimp only
  rw [hch]
  dsimp only
  rw [turnL_norm]
/-- behind changes -/
theorem do_good {t : TP} {rows X : RowL} (h : Good t rows X) (l : List Ch) : ∃ X', Good (doS t rows l).2.2 (doS t rows l).2.1 X' ∧ (X' = X ∨ X' = (doS t rows l).2.1 ∨ ((doS t rows l).1 = 8 ∧ X' = turnL rows l)) := by
  have hris := turnL_rising l h.rising
  have hfn := fun recs h4 b hb hl => fold_next recs rows l h4 b hb hl
  obtain ⟨RB, hRB⟩ : ∃ x, recL l = x := ⟨_, rfl⟩
  obtain ⟨R2, hR2⟩ : ∃ x, turnL rows l = x := ⟨_, rfl⟩
  obtain ⟨RW, hRW⟩ : ∃ x, recL (allR R2) = x := ⟨_, rfl⟩
  obtain ⟨FB, hFB⟩ : ∃ x, frameL RB = x := ⟨_, rfl⟩
  obtain ⟨FW, hFW⟩ : ∃ x, frameL RW = x := ⟨_, rfl⟩
  have hwr := write_cases t FB
  have hsw := swap_cases t FW
  obtain ⟨WR, hWR⟩ : ∃ x, t.write FB = x := ⟨_, rfl⟩
  obtain ⟨SW, hSW⟩ : ∃ x, t.swap FW = x := ⟨_, rfl⟩
  rw [hWR] at hwr
  rw [hSW] at hsw
  have hsy := sync_cases WR.1
  obtain ⟨SY, hSY⟩ : ∃ x, WR.1.sync = x := ⟨_, rfl⟩
  rw [hSY] at hsy
  have hdo : doS t rows l = if l.length = 0 then (0, rows, t) else if 32768 < RB.length then (3, rows, t) else if 65536 < t.b.length + RB.length + 8 then (if 32768 < RW.length then (7, rows, t) else (SW.2, (if SW.2 = 0 then R2 else rows), SW.1)) else if WR.2 = 0 then (SY.2, (if SY.2 = 0 then R2 else rows), SY.1) else (WR.2, rows, WR.1) := by
    unfold doS
    rw [hRB, hR2, hRW, hFB, hFW, hWR, hSW, hSY]
  rw [hR2] at hris
  have hfa := fun (hl : RW.length ≤ 1000000) => fold_all R2 hris RW hRW hl
  rw [hR2] at hfn
  rw [hdo]
  clear hdo
  by_cases h0 : l.length = 0
  · rw [if_pos h0]; exact ⟨X, h, .inl rfl⟩
  rw [if_neg h0]
  by_cases hsz : 32768 < RB.length
  · rw [if_pos hsz]; exact ⟨X, h, .inl rfl⟩
  rw [if_neg hsz]
  obtain ⟨recs, r, m, h1, h2, h3, h4, h5, h6, h7⟩ := h.out
  have hturn := hfn recs h4 RB hRB (by omega)
  by_cases hbig : 65536 < t.b.length + RB.length + 8
  · rw [if_pos hbig]
    by_cases hfull : 32768 < RW.length
    · rw [if_pos hfull]; exact ⟨X, h, .inl rfl⟩
    rw [if_neg hfull]
    rcases hsw with ⟨a, b, c, d, e⟩ | ⟨a, b, c, d⟩
    · rw [if_pos a]
      have hf := hfa (by omega)
      refine ⟨R2, ⟨[RW], recL [], 0, ?_, ?_, rec0_len, hf, fold0 _ _ hf, ?_, fun _ => rfl⟩, .inr (.inl rfl)⟩
      · show SW.1.b = _
        rw [c, ← hFW, framesL_cons, framesL_nil, List.append_nil, List.take_zero, List.append_nil]
      · intro x hx
        rw [List.mem_singleton] at hx
        rw [hx]; omega
      · show SW.1.sure = _
        rw [d, ← hFW, framesL_cons, framesL_nil, List.append_nil]
    · rw [if_neg (by rw [a]; decide)]
      exact ⟨X, ⟨recs, r, m, c.trans h1, h2, h3, h4, h5, d.trans h6, fun e => (by have e : SW.1.down = false := e; rw [b] at e; cases e)⟩, .inl rfl⟩
  · rw [if_neg hbig]
    rcases hwr with ⟨a, b, c, d, e⟩ | ⟨a, b, c, k, hk, hk0⟩
    · rw [if_pos a]
      have hm := h7 b
      subst hm
      have hb : t.b = framesL recs := by rw [h1, List.take_zero, List.append_nil]
      rcases hsy with ⟨a', b', c', d', e'⟩ | ⟨a', b', c', d'⟩
      · rw [if_pos a']
        refine ⟨R2, ⟨recs ++ [RB], recL [], 0, ?_, ?_, rec0_len, hturn, fold0 _ _ hturn, ?_, fun _ => rfl⟩, .inr (.inl rfl)⟩
        · show SY.1.b = _
          rw [c', c, hb, framesL_snoc, List.take_zero, List.append_nil, hFB]
        · intro x hx
          rcases List.mem_append.1 hx with hx | hx
          · exact h2 x hx
          · rw [List.mem_singleton] at hx; rw [hx]; omega
        · show SY.1.sure = _
          rw [d', c, hb, framesL_snoc, hFB]
      · rw [if_neg (by rw [a']; decide)]
        refine ⟨R2, ⟨recs, RB, FB.length, ?_, h2, by omega, h4, hturn, ?_, fun e => (by have e : SY.1.down = false := e; rw [b'] at e; cases e)⟩, .inr (.inr ⟨a', hR2.symm⟩)⟩
        · show SY.1.b = _
          rw [c', c, hb, hFB, List.take_of_length_le (Nat.le_refl _)]
        · show SY.1.sure = _
          rw [d', d]; exact h6
    · rw [if_neg (by rw [a]; decide)]
      cases hd : t.down with
      | true =>
        have := hk0 hd
        subst this
        refine ⟨X, ⟨recs, r, m, ?_, h2, h3, h4, h5, c.trans h6, fun e => (by have e : WR.1.down = false := e; rw [b] at e; cases e)⟩, .inl rfl⟩
        show WR.1.b = _
        rw [hk, List.take_zero, List.append_nil]; exact h1
      | false =>
        have hm := h7 hd
        subst hm
        have hb : t.b = framesL recs := by rw [h1, List.take_zero, List.append_nil]
        refine ⟨R2, ⟨recs, RB, k, ?_, h2, by omega, h4, hturn, c.trans h6, fun e => (by have e : WR.1.down = false := e; rw [b] at e; cases e)⟩, .inr (.inr ⟨a, hR2.symm⟩)⟩
        show WR.1.b = _
        rw [hk, hb, hFB]
theorem split_part (recs : List (List UInt8)) (r : List UInt8) (m : Nat) (h2 : ∀ x ∈ recs, x.length ≤ 32768) (h3 : r.length ≤ 32768) (hm : m < 8 + r.length) : splitL (framesL recs ++ (frameL r).take m) = (recs, (framesL recs).length) := by
  rw [split_frames _ recs h2, splitL_none (first_cut r m h3 hm)]
  simp
/-- behind a crash it is opened again, and its rows are those, or those with what was under way -/
theorem open_good {t : TP} {rows X : RowL} (h : Good t rows X) (keep : Int) : ∃ Y T2, openS (t.crash keep) = (0, Y, T2) ∧ (Y = rows ∨ Y = X) ∧ Good T2 Y Y ∧ T2.down = false ∧ T2.fuse = -1 ∧ T2.b.length ≤ t.b.length := by
  obtain ⟨recs, r, m, h1, h2, h3, h4, h5, h6, h7⟩ := h.out
  have hf : (t.crash keep).fuse < 0 := by show (-1 : Int) < 0; decide
  have hd : (t.crash keep).down = false := rfl
  have hk := t.kept_le keep
  obtain ⟨k, hkk⟩ : ∃ k, t.kept keep = k := ⟨_, rfl⟩
  rw [hkk] at hk
  have hb : (t.crash keep).b = framesL recs ++ (frameL r).take (min k m) := by
    show t.b.take (t.sure + t.kept keep) = _
    rw [h1, h6, hkk, List.take_append, List.take_of_length_le (by omega), show (framesL recs).length + k - (framesL recs).length = k by omega, List.take_take]
  have hlen : (t.crash keep).b.length ≤ t.b.length := by
    show (t.b.take (t.sure + t.kept keep)).length ≤ _
    exact List.length_take_le' _ _
  have hsure : (t.crash keep).sure = (t.crash keep).b.length := by
    show t.sure + t.kept keep = (t.b.take (t.sure + t.kept keep)).length
    rw [List.length_take, hkk]
    have : t.sure ≤ t.b.length := by rw [h1, h6, List.length_append]; omega
    omega
  obtain ⟨C, hC⟩ : ∃ C, t.crash keep = C := ⟨_, rfl⟩
  rw [hC] at hf hd hb hlen hsure ⊢
  have hfu : C.fuse = -1 := by rw [← hC]; rfl
  clear hC
  by_cases hw : min k m < 8 + r.length
  · have hsp := split_part recs r (min k m) h2 h3 hw
    rw [← hb] at hsp
    by_cases hz : (framesL recs).length < C.b.length
    · refine ⟨rows, ⟨framesL recs, (framesL recs).length, C.fuse, C.down⟩, ?_, .inl rfl, ?_, hd, hfu, ?_⟩
      · unfold openS
        rw [hsp, h4]
        dsimp only
        have htk : C.b.take (framesL recs).length = framesL recs := by rw [hb, List.take_left' rfl]
        rw [if_pos hz, htk, swap_calm hf hd, if_pos rfl]
      · exact ⟨recs, recL [], 0, by simp, h2, rec0_len, h4, fold0 _ _ h4, rfl, fun _ => rfl⟩
      · show (framesL recs).length ≤ _; omega
    · have hm0 : C.b = framesL recs := by
        have h8 : C.b.length = (framesL recs).length + ((frameL r).take (min k m)).length := by rw [hb, List.length_append]
        have h9 : (frameL r).take (min k m) = [] := List.length_eq_zero_iff.1 (by omega)
        rw [hb, h9, List.append_nil]
      refine ⟨rows, C, ?_, .inl rfl, ?_, hd, hfu, hlen⟩
      · unfold openS
        rw [hsp, h4]
        dsimp only
        rw [if_neg hz]
      · exact ⟨recs, recL [], 0, by rw [hm0]; simp, h2, rec0_len, h4, fold0 _ _ h4, by rw [hsure, hm0], fun _ => rfl⟩
  · have hwhole : C.b = framesL (recs ++ [r]) := by
      rw [hb, framesL_snoc, List.take_of_length_le (by rw [frameL_len]; omega)]
    have hall : ∀ x ∈ recs ++ [r], x.length ≤ 32768 := fun x hx => by
      rcases List.mem_append.1 hx with hx | hx
      · exact h2 x hx
      · rw [List.mem_singleton] at hx; rw [hx]; exact h3
    have hsp := split_whole (recs ++ [r]) hall
    rw [← hwhole] at hsp
    refine ⟨X, C, ?_, .inr rfl, ?_, hd, hfu, hlen⟩
    · unfold openS
      rw [hsp, h5]
      dsimp only
      rw [if_neg (Nat.lt_irrefl _)]
    · exact ⟨recs ++ [r], recL [], 0, by rw [hwhole]; simp, hall, rec0_len, h5, fold0 _ _ h5, by rw [hsure, hwhole], fun _ => rfl⟩
end Go.Proofs.YtkbjpgfdmkmbmaaDoor
namespace Go.Proofs.YtkbjpgfdmkmbmaaDoor

theorem doS_ok {t : TP} (h : t.Ok) (rows : RowL) (l : List Ch) (hl : t.b.length ≤ 65536) : (doS t rows l).2.2.Ok ∧ (doS t rows l).2.2.b.length ≤ 65536 := by
  obtain ⟨RB, hRB⟩ : ∃ x, recL l = x := ⟨_, rfl⟩
  obtain ⟨R2, hR2⟩ : ∃ x, turnL rows l = x := ⟨_, rfl⟩
  obtain ⟨RW, hRW⟩ : ∃ x, recL (allR R2) = x := ⟨_, rfl⟩
  have hfb := frameL_len RB
  have hfw := frameL_len RW
  obtain ⟨FB, hFB⟩ : ∃ x, frameL RB = x := ⟨_, rfl⟩
  obtain ⟨FW, hFW⟩ : ∃ x, frameL RW = x := ⟨_, rfl⟩
  rw [hFB] at hfb
  rw [hFW] at hfw
  have hwo := TP.write_ok h FB
  have hso := TP.swap_ok h FW
  have hsc := swap_cases t FW
  obtain ⟨WR, hWR⟩ : ∃ x, t.write FB = x := ⟨_, rfl⟩
  obtain ⟨SW, hSW⟩ : ∃ x, t.swap FW = x := ⟨_, rfl⟩
  rw [hWR] at hwo
  rw [hSW] at hso hsc
  have hyo := TP.sync_ok hwo.1
  obtain ⟨SY, hSY⟩ : ∃ x, WR.1.sync = x := ⟨_, rfl⟩
  rw [hSY] at hyo
  have hdo : doS t rows l = if l.length = 0 then (0, rows, t) else if 32768 < RB.length then (3, rows, t) else if 65536 < t.b.length + RB.length + 8 then (if 32768 < RW.length then (7, rows, t) else (SW.2, (if SW.2 = 0 then R2 else rows), SW.1)) else if WR.2 = 0 then (SY.2, (if SY.2 = 0 then R2 else rows), SY.1) else (WR.2, rows, WR.1) := by
    unfold doS
    rw [hRB, hR2, hRW, hFB, hFW, hWR, hSW, hSY]
  rw [hdo]
  clear hdo
  by_cases h0 : l.length = 0
  · rw [if_pos h0]; exact ⟨h, hl⟩
  rw [if_neg h0]
  by_cases hsz : 32768 < RB.length
  · rw [if_pos hsz]; exact ⟨h, hl⟩
  rw [if_neg hsz]
  by_cases hbig : 65536 < t.b.length + RB.length + 8
  · rw [if_pos hbig]
    by_cases hfull : 32768 < RW.length
    · rw [if_pos hfull]; exact ⟨h, hl⟩
    rw [if_neg hfull]
    refine ⟨hso.1, ?_⟩
    show SW.1.b.length ≤ _
    rcases hsc with ⟨_, _, c, _⟩ | ⟨_, _, c, _⟩
    · rw [c]; omega
    · rw [c]; exact hl
  · rw [if_neg hbig]
    by_cases he : WR.2 = 0
    · rw [if_pos he]
      refine ⟨hyo.1, ?_⟩
      show SY.1.b.length ≤ _
      rw [hyo.2]
      have := hwo.2
      omega
    · rw [if_neg he]
      refine ⟨hwo.1, ?_⟩
      show WR.1.b.length ≤ _
      have := hwo.2
      omega
theorem openS_ok {t : TP} (h : t.Ok) : (openS t).2.2.Ok ∧ (openS t).2.2.b.length ≤ t.b.length := by
  obtain ⟨NE, hNE⟩ : ∃ x, (splitL t.b).2 = x := ⟨_, rfl⟩
  obtain ⟨LS, hLS⟩ : ∃ x, (splitL t.b).1 = x := ⟨_, rfl⟩
  obtain ⟨CUT, hCUT⟩ : ∃ x, t.b.take NE = x := ⟨_, rfl⟩
  have hcl : CUT.length ≤ t.b.length := by rw [← hCUT]; exact List.length_take_le' _ _
  have hso := TP.swap_ok h CUT
  have hsc := swap_cases t CUT
  obtain ⟨SW, hSW⟩ : ∃ x, t.swap CUT = x := ⟨_, rfl⟩
  rw [hSW] at hso hsc
  have hop : openS t = match foldR [] LS with
      | none => (2, [], t)
      | some rows => if NE < t.b.length then (if SW.2 = 0 then (0, rows, SW.1) else (SW.2, [], SW.1)) else (0, rows, t) := by
    unfold openS
    rw [hLS, hNE, hCUT, hSW]
    cases foldR [] LS <;> rfl
  have hl : SW.1.b.length ≤ t.b.length := by
    rcases hsc with ⟨_, _, c, _⟩ | ⟨_, _, c, _⟩
    · rw [c]; exact hcl
    · rw [c]; exact Nat.le_refl _
  rw [hop]
  cases foldR [] LS with
  | none => exact ⟨h, Nat.le_refl _⟩
  | some rows =>
    dsimp only
    by_cases hc : NE < t.b.length
    · rw [if_pos hc]
      by_cases he : SW.2 = 0
      · rw [if_pos he]; exact ⟨hso.1, hl⟩
      · rw [if_neg he]; exact ⟨hso.1, hl⟩
    · rw [if_neg hc]; exact ⟨h, Nat.le_refl _⟩
/-- where the power does not go, and there is room -/
theorem doS_calm {t : TP} (hf : t.fuse < 0) (hd : t.down = false) (rows : RowL) (l : List Ch) (h0 : l.length ≠ 0) (hs : (recL l).length ≤ 32768) (hr : t.b.length + (recL l).length + 8 ≤ 65536) :
    doS t rows l = (0, turnL rows l, ⟨t.b ++ frameL (recL l), (t.b ++ frameL (recL l)).length, t.fuse, t.down⟩) := by
  obtain ⟨RB, hRB⟩ : ∃ x, recL l = x := ⟨_, rfl⟩
  obtain ⟨FB, hFB⟩ : ∃ x, frameL RB = x := ⟨_, rfl⟩
  rw [hRB] at hs hr
  unfold doS
  rw [hRB, hFB, if_neg h0, if_neg (by omega), if_neg (by omega), write_calm hf hd, if_pos rfl]
  have hsy := sync_calm (t := ⟨t.b ++ FB, t.sure, t.fuse, t.down⟩) hf hd
  rw [hsy, if_pos rfl]
/-- with many rows the tape is written anew -/
theorem doS_swap {t : TP} (hf : t.fuse < 0) (hd : t.down = false) (rows : RowL) (l : List Ch) (h0 : l.length ≠ 0) (hs : (recL l).length ≤ 32768) (hr : 65536 < t.b.length + (recL l).length + 8) (hw : (recL (allR (turnL rows l))).length ≤ 32768) :
    doS t rows l = (0, turnL rows l, ⟨frameL (recL (allR (turnL rows l))), (frameL (recL (allR (turnL rows l)))).length, t.fuse, t.down⟩) := by
  obtain ⟨RB, hRB⟩ : ∃ x, recL l = x := ⟨_, rfl⟩
  obtain ⟨R2, hR2⟩ : ∃ x, turnL rows l = x := ⟨_, rfl⟩
  obtain ⟨RW, hRW⟩ : ∃ x, recL (allR R2) = x := ⟨_, rfl⟩
  obtain ⟨FW, hFW⟩ : ∃ x, frameL RW = x := ⟨_, rfl⟩
  rw [hRB] at hs hr
  rw [hR2, hRW] at hw
  unfold doS
  rw [hRB, hR2, hRW, hFW, if_neg h0, if_neg (by omega), if_pos hr, if_neg (by omega), swap_calm hf hd, if_pos rfl]
theorem open_new : openS TP.new = (0, [], TP.new) := by
  unfold openS
  have h : splitL TP.new.b = ([], 0) := split_nil
  rw [h]
  show (if 0 < ([] : List UInt8).length then _ else _) = _
  exact if_neg (Nat.lt_irrefl 0)
end Go.Proofs.YtkbjpgfdmkmbmaaDoor
namespace Go.Proofs.YtkbjpgfdmkmbmaaDoor
open Go.RowKit
set_option linter.unusedVariables false

structure CalmL (t : TP) : Prop where
  fuse : t.fuse < 0
  down : t.down = false
  ok : t.Ok
  len : t.b.length ≤ 65536
theorem calmL_new : CalmL TP.new := ⟨by show (-1 : Int) < 0; decide, rfl, TP.new_ok, by decide⟩
/-- a calm tape's store: it turns all, or nothing -/
theorem calmL_do {t : TP} (h : CalmL t) (rows : RowL) (l : List Ch) :
    CalmL (doS t rows l).2.2 ∧ (((doS t rows l).1 = 0 ∧ (doS t rows l).2.1 = turnL rows l ∧ (l.length = 0 ∨ (recL l).length ≤ 32768)) ∨ ((doS t rows l).1 = 3 ∧ (doS t rows l).2.1 = rows ∧ l.length ≠ 0 ∧ 32768 < (recL l).length) ∨ ((doS t rows l).1 = 7 ∧ (doS t rows l).2.1 = rows ∧ 32768 < (recL (allR (turnL rows l))).length ∧ 65536 < t.b.length + (recL l).length + 8)) := by
  have hok := doS_ok h.ok rows l h.len
  by_cases h0 : l.length = 0
  · have e : doS t rows l = (0, rows, t) := by unfold doS; rw [if_pos h0]
    rw [e]
    obtain rfl := List.length_eq_zero_iff.1 h0
    exact ⟨h, .inl ⟨rfl, by rw [turnL_nil], .inl rfl⟩⟩
  · by_cases h1 : 32768 < (recL l).length
    · have e : doS t rows l = (3, rows, t) := by unfold doS; rw [if_neg h0, if_pos h1]
      rw [e]
      exact ⟨h, .inr (.inl ⟨rfl, rfl, h0, h1⟩)⟩
    · by_cases h2 : 65536 < t.b.length + (recL l).length + 8
      · by_cases h3 : 32768 < (recL (allR (turnL rows l))).length
        · have e : doS t rows l = (7, rows, t) := by unfold doS; rw [if_neg h0, if_neg h1, if_pos h2, if_pos h3]
          rw [e]
          exact ⟨h, .inr (.inr ⟨rfl, rfl, h3, h2⟩)⟩
        · have e := doS_swap h.fuse h.down rows l h0 (by omega) h2 (by omega)
          rw [e] at hok ⊢
          exact ⟨⟨h.fuse, h.down, hok.1, hok.2⟩, .inl ⟨rfl, rfl, .inr (by omega)⟩⟩
      · have e := doS_calm h.fuse h.down rows l h0 (by omega) (by omega)
        rw [e] at hok ⊢
        exact ⟨⟨h.fuse, h.down, hok.1, hok.2⟩, .inl ⟨rfl, rfl, .inr (by omega)⟩⟩
/-- what later layers ask of the code's tape -/
structure TapeL (CT : World → (Nat → Prop) → Nat → TP → Prop) : Prop where
  keep : ∀ {w w' : World} {S : Nat → Prop} {p : Nat} {t : TP}, CT w S p t → w.heap.size ≤ w'.heap.size → (∀ b, S b → w'.heap[b]? = w.heap[b]?) → CT w' S p t
  lt : ∀ {w : World} {S : Nat → Prop} {p : Nat} {t : TP}, CT w S p t → ∀ b, S b → b < w.heap.size
  new : ∀ w, Calls Tryd.prog 11 #[] w fun e w' => (∃ p S, e = .returned (.pointer (some ⟨p, 0, none⟩)) ∧ CT w' S p TP.new ∧ ∀ b, S b → w.heap.size ≤ b) ∧ Below w.heap.size w w'
structure StoL (CT : World → (Nat → Prop) → Nat → TP → Prop) (CS : World → (Nat → Prop) → Nat → Nat → RowL → Prop) (w0 w : World) (p : Nat) (rows : RowL) (F : Nat → Prop) : Prop where
  out : ∃ (T S : Nat → Prop) (q : Nat) (t : TP), CT w T q t ∧ CS w S p q rows ∧ (∀ b, S b → ¬ T b) ∧ (∀ b, T b ∨ S b → w0.heap.size ≤ b ∧ ¬ F b) ∧ CalmL t
  old : ∀ b, F b → b < w.heap.size
  low : Below w0.heap.size w0 w
variable {CT : World → (Nat → Prop) → Nat → TP → Prop} {CS : World → (Nat → Prop) → Nat → Nat → RowL → Prop}
theorem StoL.later (HT : TapeL CT) (H : CodeStore CT CS) {w0 w w' : World} {p : Nat} {rows : RowL} {F : Nat → Prop} (h : StoL CT CS w0 w p rows F) (hb : Below w.heap.size w w') : StoL CT CS w0 w' p rows (fun b => F b ∨ w.heap.size ≤ b ∧ b < w'.heap.size) := by
  obtain ⟨T, S, q, t, h1, h2, h3, h4, h5⟩ := h.out
  refine ⟨⟨T, S, q, t, HT.keep h1 hb.size fun b hT => hb.block b (HT.lt h1 b hT), H.below h2 hb, h3, fun b hx => ⟨(h4 b hx).1, fun hF => ?_⟩, h5⟩, fun b hF => ?_, h.low.chain hb⟩
  · rcases hF with hF | hF
    · exact (h4 b hx).2 hF
    · rcases hx with hx | hx
      · have := HT.lt h1 b hx; omega
      · have := H.lt h2 b hx; omega
  · rcases hF with hF | hF
    · exact Nat.lt_of_lt_of_le (h.old b hF) hb.size
    · exact hF.2
theorem StoL.less {w0 w : World} {p : Nat} {rows : RowL} {F F' : Nat → Prop} (h : StoL CT CS w0 w p rows F) (hF : ∀ b, F' b → F b) : StoL CT CS w0 w p rows F' := by
  obtain ⟨T, S, q, t, h1, h2, h3, h4, h5⟩ := h.out
  exact ⟨⟨T, S, q, t, h1, h2, h3, fun b hx => ⟨(h4 b hx).1, fun hf => (h4 b hx).2 (hF b hf)⟩, h5⟩, fun b hf => h.old b (hF b hf), h.low⟩
theorem StoL.rising (H : CodeStore CT CS) {w0 w : World} {p : Nat} {rows : RowL} {F : Nat → Prop} (h : StoL CT CS w0 w p rows F) : Rising rows := by
  obtain ⟨T, S, q, t, h1, h2, _⟩ := h.out
  exact H.rising h2
/-- a new store, over a new tape -/
theorem StoL.start (H : CodeStore CT CS) {w0 w1 : World} {q : Nat} {T : Nat → Prop} (hct : CT w1 T q TP.new) (hT : ∀ b, T b → w0.heap.size ≤ b) (hb : Below w0.heap.size w0 w1) (hr : RoundsIn w1) :
    Calls Tryd.prog 10 #[.pointer (some ⟨q, 0, none⟩)] w1 fun e w' => ∃ p, e = .returned (.tuple #[.pointer (some ⟨p, 0, none⟩), .int .i64 0]) ∧ StoL CT CS w0 w' p [] (fun b => b < w0.heap.size) := by
  have hopen := H.open_ w1 T q TP.new hct TP.new_ok (by decide) hr
  rw [open_new] at hopen
  refine hopen.mono ?_
  rintro e w2 ⟨⟨T1, hct2, hT1, h | h⟩, ho2⟩
  case inr => exact absurd rfl h.1
  obtain ⟨-, p, S, rfl, hcs, hS⟩ := h
  have hlow := hb.trans (ho2.below hb.size hT)
  refine ⟨p, rfl, ⟨T1, S, q, TP.new, hct2, hcs, fun b hb => (hS b hb).2, fun b hx => ?_, calmL_new⟩, fun b hF => Nat.lt_of_lt_of_le hF hlow.size, hlow⟩
  have : w0.heap.size ≤ b := by
    rcases hx with hx | hx
    · rcases hT1 b hx with h | h
      · exact hT b h
      · exact Nat.le_trans hb.size h
    · exact Nat.le_trans hb.size (hS b hx).1
  exact ⟨this, by omega⟩
theorem StoL.do_ (H : CodeStore CT CS) {w0 w : World} {p : Nat} {rows : RowL} {F : Nat → Prop} (h : StoL CT CS w0 w p rows F) (A : Option Addr) (c : Nat) (l : List Ch) (hrl : rows.length ≤ 50000) (hr : RoundsIn w0) (hc : RdC w (.slice A l.length c) l) (hll : l.length ≤ 50000) (h1 : (recL l).length ≤ 1000000) (h2 : (recL (allR (turnL rows l))).length ≤ 1000000)
    (ho : ∀ g, (Value.slice A l.length c).ownBlock = some g → l.length ≠ 0 → F g) : Calls Tryd.prog 8 #[.pointer (some ⟨p, 0, none⟩), .slice A l.length c] w fun e w' =>
    ∃ r rows', e = .returned (.int .i64 r) ∧ StoL CT CS w0 w' p rows' F ∧ (∀ b, F b → w'.heap[b]? = w.heap[b]?) ∧ ((r = 0 ∧ rows' = turnL rows l ∧ (l.length = 0 ∨ (recL l).length ≤ 32768)) ∨ (r = 3 ∧ rows' = rows ∧ l.length ≠ 0 ∧ 32768 < (recL l).length) ∨ (r = 7 ∧ rows' = rows ∧ 32768 < (recL (allR (turnL rows l))).length)) := by
  obtain ⟨T, S, q, t, k1, k2, k3, k4, k5⟩ := h.out
  have hlen := k5.len
  refine (H.do_ w T S p q t rows A c l k1 k2 k3 k5.ok (by omega) hrl (hr.below h.low) hc hll h1 h2 (fun g h0 hg => by
    have := ho g hg h0
    exact ⟨fun h => (k4 g (.inl h)).2 this, fun h => (k4 g (.inr h)).2 this⟩)).mono ?_
  rintro e w' ⟨rfl, ⟨T', S', c1, c2, c3, c4⟩, hon⟩
  obtain ⟨hcalm, hcases⟩ := calmL_do k5 rows l
  refine ⟨_, _, rfl, ⟨⟨T', S', q, _, c1, c2, c3, fun b hx => ?_, hcalm⟩, fun b hF => Nat.lt_of_lt_of_le (h.old b hF) hon.size, h.low.trans (hon.below h.low.size (fun b hb => (k4 b hb).1))⟩, fun b hF => hon.block b (h.old b hF) (fun hx => (k4 b hx).2 hF), ?_⟩
  · rcases c4 b hx with h' | h' | h'
    · exact k4 b (.inl h')
    · exact k4 b (.inr h')
    · exact ⟨Nat.le_trans h.low.size h', fun hF => by have := h.old b hF; omega⟩
  · rcases hcases with h' | h' | h'
    · exact .inl h'
    · exact .inr (.inl h')
    · exact .inr (.inr ⟨h'.1, h'.2.1, h'.2.2.1⟩)
theorem StoL.get (H : CodeStore CT CS) {w0 w : World} {p : Nat} {rows : RowL} {F : Nat → Prop} (h : StoL CT CS w0 w p rows F) (k : List UInt8) : Calls Tryd.prog 24 #[.pointer (some ⟨p, 0, none⟩), .string ⟨k.toArray⟩] w fun e w' => e = .returned (getV (getR rows k)) ∧ Below w.heap.size w w' := by
  obtain ⟨T, S, q, t, k1, k2, _⟩ := h.out
  exact H.get w S p q rows k k2
theorem StoL.keys (H : CodeStore CT CS) {w0 w : World} {p : Nat} {rows : RowL} {F : Nat → Prop} (h : StoL CT CS w0 w p rows F) (k : List UInt8) (hl : rows.length ≤ 100000) (hk : k.length ≤ 1000000000000000) : Calls Tryd.prog 14 #[.pointer (some ⟨p, 0, none⟩), .string ⟨k.toArray⟩] w fun e w' => (∃ v, e = .returned v ∧ RdT w' v (keysR rows k)) ∧ Below w.heap.size w w' := by
  obtain ⟨T, S, q, t, k1, k2, _⟩ := h.out
  exact H.keys w S p q rows k k2 hl hk
end Go.Proofs.YtkbjpgfdmkmbmaaDoor
namespace Go.Proofs.YtkbjpgfdmkmbmaaDoor

inductive V where
  | mk (kind num : Int) (text : List UInt8) (list : List V) (keys : List (List UInt8))
def V.kind : V → Int
  | .mk k _ _ _ _ => k
def V.num : V → Int
  | .mk _ n _ _ _ => n
def V.text : V → List UInt8
  | .mk _ _ t _ _ => t
def V.list : V → List V
  | .mk _ _ _ l _ => l
def V.keys : V → List (List UInt8)
  | .mk _ _ _ _ ks => ks
def V.zero : V := .mk 0 0 [] [] []

/-- no two alike -/
def unlikeB : List (List UInt8) → Bool
  | [] => true
  | k :: r => !r.contains k && unlikeB r
/-- what a value must be by itself -/
def headB (k n : Int) (t : List UInt8) (ll : Nat) (ks : List (List UInt8)) : Bool :=
  decide (1 ≤ k ∧ k ≤ 6) && decide (k = 2 → n = 0 ∨ n = 1) && decide (k = 3 → -9007199254740992 ≤ n ∧ n ≤ 9007199254740992) && decide (k ≠ 2 → k ≠ 3 → n = 0) &&
  decide (k ≠ 4 → t = []) && decide (k ≠ 5 → k ≠ 6 → ll = 0) && decide (ll ≤ 64) && decide (k = 6 → ks.length = ll) && decide (k ≠ 6 → ks = []) && unlikeB ks
mutual
/-- good, and at most d deep -/
def V.fits : V → Nat → Bool
  | .mk k n t l ks, d => match d with
    | 0 => false
    | d + 1 => headB k n t l.length ks && V.fitsAll l d
def V.fitsAll : List V → Nat → Bool
  | [], _ => true
  | v :: r, d => v.fits d && V.fitsAll r d
end

/-! ## texts -/
def digit (n : Nat) : UInt8 := UInt8.ofNat (48 + n % 10)
/-- a number's digits -/
def decL (n : Nat) : List UInt8 := if n < 10 then [digit n] else decL (n / 10) ++ [digit n]
termination_by n
def decI (n : Int) : List UInt8 := if n < 0 then 45 :: decL n.natAbs else decL n.natAbs
def hexl (n : Nat) : UInt8 := if n < 10 then UInt8.ofNat (48 + n) else UInt8.ofNat (87 + n)
def quoteC (c : UInt8) : List UInt8 := if c = 34 ∨ c = 92 then [92, c] else if c.toNat < 32 then [92, 117, 48, 48, UInt8.ofNat (48 + c.toNat / 16), hexl (c.toNat % 16)] else [c]
/-- a text, as it stands: behind its first sign -/
def quoteT : List UInt8 → List UInt8
  | [] => [34]
  | c :: r => quoteC c ++ quoteT r
def quoteJ (t : List UInt8) : List UInt8 := 34 :: quoteT t
def nullT : List UInt8 := [110, 117, 108, 108]
def trueT : List UInt8 := [116, 114, 117, 101]
def falseT : List UInt8 := [102, 97, 108, 115, 101]
mutual
def V.show : V → List UInt8
  | .mk k n t l ks => if k = 1 then nullT else if k = 2 then (if n = 1 then trueT else falseT) else if k = 3 then decI n else if k = 4 then quoteJ t else
    if k = 5 then 91 :: (V.items l ++ [93]) else 123 :: (V.pairs l ks ++ [125])
/-- what stands in a list -/
def V.items : List V → List UInt8
  | [] => []
  | v :: r => v.show ++ V.itemsMore r
def V.itemsMore : List V → List UInt8
  | [] => []
  | v :: r => 44 :: (v.show ++ V.itemsMore r)
/-- what stands in an object -/
def V.pairs : List V → List (List UInt8) → List UInt8
  | [], _ => []
  | v :: r, ks => quoteJ (ks.headD []) ++ 58 :: (v.show ++ V.pairsMore r ks.tail)
def V.pairsMore : List V → List (List UInt8) → List UInt8
  | [], _ => []
  | v :: r, ks => 44 :: (quoteJ (ks.headD []) ++ 58 :: (v.show ++ V.pairsMore r ks.tail))
end

/-! ## the reader -/
def beginsB (s t : List UInt8) : Bool := s.take t.length == t
def isDigit (c : UInt8) : Bool := decide (48 ≤ c.toNat ∧ c.toNat ≤ 57)
/-- a hexadecimal digit's number; -1: none -/
def hexJ (c : UInt8) : Int := if 48 ≤ c.toNat ∧ c.toNat ≤ 57 then c.toNat - 48 else if 97 ≤ c.toNat ∧ c.toNat ≤ 102 then c.toNat - 87 else if 65 ≤ c.toNat ∧ c.toNat ≤ 70 then c.toNat - 55 else -1
/-- behind a text's first sign: the text, and how many bytes; none: there is no end -/
def wordT : List UInt8 → List UInt8 → Nat → Option (List UInt8 × Nat)
  | [], _, _ => none
  | c :: r, acc, n =>
    if c = 34 then some (acc, n + 1)
    else if c = 92 then
      match r with
      | e :: r' =>
        if e = 34 ∨ e = 92 then wordT r' (acc ++ [e]) (n + 2)
        else match r' with
          | x :: y :: h :: l :: r'' => if e = 117 ∧ x = 48 ∧ y = 48 ∧ 0 ≤ hexJ h ∧ 0 ≤ hexJ l then wordT r'' (acc ++ [UInt8.ofNat (16 * hexJ h + hexJ l).toNat]) (n + 6) else none
          | _ => none
      | [] => none
    else wordT r (acc ++ [c]) (n + 1)
/-- digits, at most so many: the number, and how many -/
def numT : List UInt8 → Nat → Int → Nat → Int × Nat
  | [], _, v, n => (v, n)
  | _, 0, v, n => (v, n)
  | c :: r, m + 1, v, n => if isDigit c then numT r m (v * 10 + (c.toNat - 48 : Int)) (n + 1) else (v, n)

theorem unlike_nodup (l : List (List UInt8)) : unlikeB l = true ↔ l.Nodup := by
  induction l with
  | nil => simp [unlikeB]
  | cons a r ih => simp [unlikeB, ih]

/-! ### a text is read again -/
theorem hexl_back (n : Nat) (h : n < 16) : hexJ (hexl n) = n := by
  have : ∀ n : Fin 16, hexJ (hexl n.val) = (n.val : Int) := by decide +kernel
  exact this ⟨n, h⟩
theorem hexs_back (n : Nat) (h : n < 2) : hexJ (UInt8.ofNat (48 + n)) = n := by
  have : ∀ n : Fin 2, hexJ (UInt8.ofNat (48 + n.val)) = (n.val : Int) := by decide +kernel
  exact this ⟨n, h⟩
theorem wordT_quote (t r acc : List UInt8) (n : Nat) : wordT (quoteT t ++ r) acc n = some (acc ++ t, n + (quoteT t).length) := by
  induction t generalizing acc n with
  | nil => rw [quoteT]; unfold wordT; simp
  | cons c t ih =>
    rw [quoteT]
    by_cases h : c = 34 ∨ c = 92
    · rw [quoteC, if_pos h, List.append_assoc]
      show wordT (92 :: c :: (quoteT t ++ r)) acc n = _
      unfold wordT
      rw [if_neg (by decide), if_pos rfl]
      simp only [h, if_true]
      rw [ih]; simp; omega
    · by_cases h2 : c.toNat < 32
      · rw [quoteC, if_neg h, if_pos h2, List.append_assoc]
        show wordT (92 :: 117 :: 48 :: 48 :: UInt8.ofNat (48 + c.toNat / 16) :: hexl (c.toNat % 16) :: (quoteT t ++ r)) acc n = _
        have e1 := hexs_back (c.toNat / 16) (by omega)
        have e2 := hexl_back (c.toNat % 16) (by omega)
        have e3 : UInt8.ofNat (16 * hexJ (UInt8.ofNat (48 + c.toNat / 16)) + hexJ (hexl (c.toNat % 16))).toNat = c := by
          rw [e1, e2]
          have : (16 * ((c.toNat / 16 : Nat) : Int) + ((c.toNat % 16 : Nat) : Int)).toNat = c.toNat := by omega
          rw [this]; exact UInt8.ofNat_toNat
        unfold wordT
        rw [if_neg (by decide), if_pos rfl]
        dsimp only
        rw [if_neg (by decide), if_pos ⟨rfl, rfl, rfl, by rw [e1]; omega, by rw [e2]; omega⟩, e3, ih]
        simp; omega
      · have h3 : c ≠ 34 := fun e => h (Or.inl e)
        have h4 : c ≠ 92 := fun e => h (Or.inr e)
        rw [quoteC, if_neg h, if_neg h2, List.append_assoc]
        show wordT (c :: (quoteT t ++ r)) acc n = _
        unfold wordT
        rw [if_neg h3, if_neg h4, ih]; simp; omega
/-! ### a number is read again -/
theorem digit_is (n : Nat) : isDigit (digit n) = true := by
  unfold isDigit digit
  have h : (UInt8.ofNat (48 + n % 10)).toNat = 48 + n % 10 := by rw [UInt8.toNat_ofNat']; omega
  rw [h]; simp; omega
theorem digit_val (n : Nat) : ((digit n).toNat : Int) - 48 = (n % 10 : Nat) := by
  unfold digit
  have h : (UInt8.ofNat (48 + n % 10)).toNat = 48 + n % 10 := by rw [UInt8.toNat_ofNat']; omega
  rw [h]; omega
theorem decL_pos (n : Nat) : 0 < (decL n).length := by
  unfold decL; split <;> simp
theorem decL_len (n : Nat) : ∀ k, n < 10 ^ k → 0 < k → (decL n).length ≤ k := by
  induction n using Nat.strongRecOn with
  | _ n ih =>
    intro k hk h0
    unfold decL
    split
    · simp; omega
    · rename_i h10
      obtain ⟨j, rfl⟩ : ∃ j, k = j + 1 := ⟨k - 1, by omega⟩
      have hj : n / 10 < 10 ^ j := by rw [Nat.pow_succ] at hk; omega
      have h0j : 0 < j := by
        rcases Nat.eq_zero_or_pos j with rfl | h
        · simp at hk; omega
        · exact h
      have := ih (n / 10) (by omega) j hj h0j
      rw [List.length_append, List.length_singleton]; omega
theorem numT_dec (n : Nat) : ∀ (r : List UInt8) (m k : Nat) (v : Int), (decL n).length ≤ m → numT (decL n ++ r) m v k = numT r (m - (decL n).length) (v * 10 ^ (decL n).length + n) (k + (decL n).length) := by
  induction n using Nat.strongRecOn with
  | _ n ih =>
    intro r m k v hm
    by_cases h : n < 10
    · have e : decL n = [digit n] := by unfold decL; rw [if_pos h]
      rw [e] at hm ⊢
      obtain ⟨j, rfl⟩ : ∃ j, m = j + 1 := ⟨m - 1, by simp at hm; omega⟩
      show numT (digit n :: r) (j + 1) v k = _
      rw [numT, if_pos (digit_is n), digit_val]
      simp [Nat.mod_eq_of_lt h]
    · have e : decL n = decL (n / 10) ++ [digit n] := by rw [decL, if_neg h]
      rw [e] at hm ⊢
      have hl : (decL (n / 10)).length + 1 ≤ m := by simpa using hm
      rw [List.append_assoc, ih (n / 10) (by omega) _ m k v (by omega)]
      obtain ⟨j, hj⟩ : ∃ j, m - (decL (n / 10)).length = j + 1 := ⟨m - (decL (n / 10)).length - 1, by omega⟩
      rw [hj]
      show numT (digit n :: r) (j + 1) _ _ = _
      rw [numT, if_pos (digit_is n), digit_val, List.length_append, List.length_singleton]
      have e2 : m - ((decL (n / 10)).length + 1) = j := by omega
      rw [e2]
      congr 1
      rw [Int.pow_succ]
      have : (n : Int) = (n / 10 : Nat) * 10 + (n % 10 : Nat) := by omega
      rw [Int.add_mul, Int.mul_assoc, Int.add_assoc]
      omega
/-- where no digit stands, no more is read -/
def noDigit : List UInt8 → Bool
  | [] => true
  | c :: _ => !isDigit c
theorem numT_stop (r : List UInt8) (m : Nat) (v : Int) (k : Nat) (h : noDigit r = true) : numT r m v k = (v, k) := by
  cases r with
  | nil => rfl
  | cons c r =>
    cases m with
    | zero => rfl
    | succ m => rw [numT]; simp only [noDigit, Bool.not_eq_true'] at h; rw [h]; rfl
end Go.Proofs.YtkbjpgfdmkmbmaaDoor
