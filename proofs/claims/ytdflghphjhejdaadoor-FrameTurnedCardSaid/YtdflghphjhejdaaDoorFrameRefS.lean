/- The reference's Split. -/
import Derived.Test.YtdflghphjhejdaaDoorFrameRef
import Derived.Test.YtdflghphjhejdaaDoorHeldMore
namespace Go.Proofs.YtdflghphjhejdaaDoor
open Go.RowKit
set_option linter.unusedVariables false
set_option linter.unusedSimpArgs false

/-- a slice that reads as these bytes each -/
def RdB (w : World) (v : Value) (ls : List (List UInt8)) : Prop :=
  ∃ A c, v = .slice A ls.length c ∧ ls.length ≤ c ∧ ∀ k l, ls[k]? = some l → ∃ g o u, A = some ⟨g, o, none⟩ ∧ g < w.heap.size ∧ w.cell? ⟨g, o + k, none⟩ = some u ∧ RdW w u l
theorem RdB.below {w w' : World} {v : Value} {ls : List (List UInt8)} (h : RdB w v ls) (hb : Below w.heap.size w w') : RdB w' v ls := by
  obtain ⟨A, c, rfl, hc, h⟩ := h
  refine ⟨A, c, rfl, hc, fun k l hk => ?_⟩
  obtain ⟨g, o, u, rfl, hg, hu, hr⟩ := h k l hk
  exact ⟨g, o, u, rfl, Nat.lt_of_lt_of_le hg hb.size, (World.cell?_of_block (hb.block g hg)).trans hu, hr.below hb⟩
theorem rdw_form {w : World} {u : Value} {l : List UInt8} (h : RdW w u l) : ∃ A c, u = .slice A l.length c := by
  obtain ⟨A, c, rfl, _⟩ := h
  exact ⟨A, c, rfl⟩
theorem rdb_form {w : World} {u : Value} {l : List (List UInt8)} (h : RdB w u l) : ∃ A c, u = .slice A l.length c := by
  obtain ⟨A, c, rfl, _⟩ := h
  exact ⟨A, c, rfl⟩
/-- a piece -/
theorem RdW.sub {w : World} {g o c : Nat} {l : List UInt8} (h : RdW w (.slice (some ⟨g, o, none⟩) l.length c) l) (hpos : 0 < l.length) (i j : Nat) (hij : i ≤ j) (hj : j ≤ l.length) : RdW w (.slice (some ⟨g, o + i, none⟩) (j - i) (c - i)) ((l.drop i).take (j - i)) := by
  obtain ⟨A', c', e, h1, h2, h3⟩ := h
  cases e
  have hl : ((l.drop i).take (j - i)).length = j - i := by rw [List.length_take, List.length_drop]; omega
  refine ⟨some ⟨g, o + i, none⟩, c - i, by rw [hl], by rw [hl]; omega, by omega, .inr ⟨g, o + i, rfl, ?_⟩⟩
  rcases h3 with ⟨h0, _⟩ | ⟨g', o', e, hg, h3⟩
  · omega
  · injection e with e; injection e with e1 e2
    subst e1; subst e2
    refine ⟨hg, fun y u hu => ?_⟩
    have hy : (cells l)[i + y]? = some u := by
      unfold cells at hu ⊢
      rw [List.getElem?_map] at hu ⊢
      rw [List.getElem?_take] at hu
      split at hu
      · rwa [List.getElem?_drop] at hu
      · cases hu
    have := h3 (i + y) u hy
    rw [Addr.add_lit] at this ⊢
    rw [Nat.add_assoc]; exact this
theorem RdW.subIf {w : World} {g o c : Nat} {l : List UInt8} (h : RdW w (.slice (some ⟨g, o, none⟩) l.length c) l) (hpos : 0 < l.length) (i j : Nat) (hij : i ≤ j) (hj : j ≤ l.length) : RdW w (.slice (if c = i then some ⟨g, o, none⟩ else some ⟨g, o + i, none⟩) (j - i) (c - i)) ((l.drop i).take (j - i)) := by
  by_cases hc : c = i
  · have hcl : l.length ≤ c := by
      obtain ⟨A', c', e, h1, h2, h3⟩ := h
      cases e
      exact h1
    have hl : ((l.drop i).take (j - i)).length = j - i := by rw [List.length_take, List.length_drop]; omega
    rw [if_pos hc]
    exact ⟨_, c - i, by rw [hl], by omega, by omega, .inl ⟨by omega, by omega⟩⟩
  · rw [if_neg hc]
    exact h.sub hpos i j hij hj
theorem Tryd.infoBs : (Tryd.prog.info? 23).map (fun i => (i.zero, i.size, i.bytes)) = some (some (.slice none 0 0), 1, 24) := by kernel_rfl
/-- a row of the call's own of slices of bytes -/
def BRow (w : World) (B : Nat) (v : Value) (vs : List Value) (ls : List (List UInt8)) : Prop :=
  w.ownsRow B 23 1 v ls.length vs ∧ vs.length = ls.length ∧ (∀ u ∈ vs, u.oneCell' = true) ∧ ∀ (k : Nat) (l : List UInt8), ls[k]? = some l → ∃ u, vs[k]? = some u ∧ RdW w u l
theorem BRow.rd {w : World} {B : Nat} {v : Value} {vs : List Value} {ls : List (List UInt8)} (h : BRow w B v vs ls) : RdB w v ls := by
  obtain ⟨ho, hl, h1, hr⟩ := h
  have hc := fun g => World.ownsRow.cells (g := g) ho
  rcases ho.2 with ⟨rfl, h0⟩ | ⟨g, cap, cur, rfl, hB, hg, h4, h5, _⟩
  · obtain rfl := List.length_eq_zero_iff.1 h0
    exact ⟨none, 0, rfl, Nat.le_refl _, fun k l hk => by simp only [List.getElem?_nil] at hk; cases hk⟩
  · refine ⟨_, cap, rfl, h4, fun k l hk => ?_⟩
    obtain ⟨u, hu, hru⟩ := hr k l hk
    have := hc g rfl k u hu
    rw [Addr.add_lit] at this
    exact ⟨g, 0, u, rfl, (Array.getElem?_eq_some_iff.1 hg).1, this, hru⟩
theorem BRow.below {w w' : World} {B : Nat} {v : Value} {vs : List Value} {ls : List (List UInt8)} (h : BRow w B v vs ls) (hb : Below w.heap.size w w') : BRow w' B v vs ls :=
  ⟨own_below h.1 hb, h.2.1, h.2.2.1, fun k l hk => by
    obtain ⟨u, hu, hr⟩ := h.2.2.2 k l hk
    exact ⟨u, hu, hr.below hb⟩⟩
set_option maxRecDepth 100000 in
set_option maxHeartbeats 4000000 in
theorem refSplit_more (A : Option Addr) (c : Nat) (b : List UInt8) (hl : b.length ≤ 100000) (w : World) (h : RdW w (.slice A b.length c) b) :
    Calls Tryd.prog 12 #[.slice A b.length c] w fun e w' => (∃ v vs, e = .returned (.tuple #[v, .int .i64 ((splitL b).2 : Nat)]) ∧ BRow w' w.heap.size v vs (splitL b).1 ∧ ∀ u ∈ vs, ∀ g', rdBlock u = some g' → A.map (·.block) = some g') ∧ Below w.heap.size w w' := by
  obtain ⟨i0, hi, hz0, hz1, hz2⟩ := info_parts Tryd.infoBs
  obtain ⟨m, hm⟩ : ∃ m, b.length = m := ⟨_, rfl⟩
  have hgo : 0 < m → ∃ g o, A = some ⟨g, o, none⟩ := fun h0 => by
    obtain ⟨g, o, hA, _⟩ := rdw_at h (by omega)
    exact ⟨g, o, hA⟩
  have hcm : m ≤ c ∧ c ≤ 9223372036854775807 := by
    obtain ⟨A', c', e, h1, h2, h3⟩ := h
    cases e
    exact ⟨by omega, h2⟩
  have HRD := Lib.hid h; have HM := Lib.hid hm
  rw [hm] at hl ⊢
  clear h hm
  go_enter Tryd.func12, Tryd.ntmps12
  go_wp2
  go_loopw [4, 5] (fun out i W => ∃ (k : Nat) (pre : List (List UInt8)) (vs : List Value), k ≤ m ∧ i = .int .i64 k ∧ Hid (BRow W w.heap.size out vs pre ∧ pre.length ≤ k ∧ splitL b = (pre ++ (splitL (b.drop k)).1, k + (splitL (b.drop k)).2) ∧ Below w.heap.size w W) ∧ Hid (∀ u ∈ vs, ∀ g', rdBlock u = some g' → g' < w.heap.size ∧ A.map (·.block) = some g')) (fun _ i _ => m - (intOf i).toNat)
  case atStart => exact ⟨0, [], [], Nat.zero_le _, rfl, Lib.hid ⟨⟨World.ownsRow_nil _ _ _ _, rfl, by simp, fun k l hk => by simp at hk⟩, Nat.le_refl _, by simp, Below.refl _ _⟩, Lib.hid (fun u hu => by cases hu)⟩
  case round =>
    obtain ⟨k, pre, vs, hk, rfl, hT, hV⟩ := hrel
    by_cases h8 : k + 8 ≤ m
    · have d8 : decide ((8 : Int) ≤ (m : Int) - k) = true := by simp; omega
      obtain ⟨g, o, rfl⟩ := hgo (by omega)
      have hrd : RdW wr (.slice (some ⟨g, o, none⟩) m c) b := by rw [← HM.out]; exact HRD.out.below hT.out.2.2.2
      obtain ⟨D, hD⟩ : ∃ D, b.drop k = D := ⟨_, rfl⟩
      have hDl : D.length = m - k := by rw [← hD, List.length_drop, HM.out]
      have hDr : RdW wr (.slice (some ⟨g, o + k, none⟩) (m - k) (c - k)) D := by
        have h1 := hrd
        rw [← HM.out] at h1
        have h2 := RdW.sub h1 (by have := HM.out; omega) k b.length (by have := HM.out; omega) (Nat.le_refl _)
        rw [List.take_of_length_le (by rw [List.length_drop]; omega), hD, HM.out] at h2
        exact h2
      have hnum := refNumber_any (some ⟨g, o + k, none⟩) (c - k) D (by omega) wr (by rw [hDl]; exact hDr) (by omega)
      rw [hDl] at hnum
      obtain ⟨s, hs⟩ : ∃ s, num4 D = s := ⟨_, rfl⟩
      rw [hs] at hnum
      have hs32 : s < 4294967296 := by rw [← hs]; exact num4_lt D
      have hsp := hT.out.2.2.1
      rw [hD] at hsp
      have HNUM := Lib.hid hnum; have HDR := Lib.hid hDr; have HDL := Lib.hid hDl; have HS := Lib.hid hs; have HSP := Lib.hid hsp; have HD := Lib.hid hD
      clear hnum hDr hDl hs hsp hD hrd
      go_wp2_with fail
      refine HNUM.out.mono ?_
      rintro e w1 ⟨rfl, hb1⟩
      have HB1 := Lib.hid hb1; clear hb1
      dsimp only
      by_cases hok : s ≤ 32768 ∧ s ≤ m - k - 8
      · obtain ⟨hk1, hk2⟩ := hok
        have d1 : decide ((32768 : Int) < s) = false := by simp; omega
        have d2 : decide ((m : Int) - k - 8 < s) = false := by simp; omega
        have hPW : ∀ W, Below wr.heap.size wr W → RdW W (.slice (if c = k + 8 then some ⟨g, o, none⟩ else some ⟨g, o + (k + 8), none⟩) s (c - (k + 8))) ((b.drop (k + 8)).take s) := fun W hb => by
          have h1 := HRD.out.below (hT.out.2.2.2.chain hb)
          have h2 := RdW.subIf h1 (by have := HM.out; omega) (k + 8) (k + 8 + s) (by omega) (by have := HM.out; omega)
          rw [show k + 8 + s - (k + 8) = s by omega] at h2
          exact h2
        have hSW : ∀ W, Below wr.heap.size wr W → RdW W (.slice (some ⟨g, o + k, none⟩) (k + 8 + s - k) (c - k)) ((b.drop k).take (8 + s)) := fun W hb => by
          have h1 := HRD.out.below (hT.out.2.2.2.chain hb)
          have h2 := RdW.sub h1 (by have := HM.out; omega) k (k + 8 + s) (by omega) (by have := HM.out; omega)
          rw [show k + 8 + s - k = 8 + s by omega] at h2 ⊢
          exact h2
        obtain ⟨P, hP⟩ : ∃ P, (b.drop (k + 8)).take s = P := ⟨_, rfl⟩
        have hPl : P.length = s := by rw [← hP, List.length_take, List.length_drop, HM.out]; omega
        have hPD : P = (D.drop 8).take s := by rw [← hP, ← HD.out, List.drop_drop]
        rw [hP] at hPW
        obtain ⟨PA, hPA⟩ : ∃ PA, (if c = k + 8 then some ⟨g, o, none⟩ else some ⟨g, o + (k + 8), none⟩ : Option Addr) = PA := ⟨_, rfl⟩
        rw [hPA] at hPW
        have hframe := fun W (hb : Below wr.heap.size wr W) => refFrame_any PA (c - (k + 8)) P (by omega) W (by rw [hPl]; exact hPW W hb)
        rw [hPl] at hframe
        obtain ⟨FS, hFS⟩ : ∃ F : ByteArray, F = ⟨(frameL P).toArray⟩ := ⟨_, rfl⟩
        obtain ⟨FR, hFR⟩ : ∃ F : ByteArray, F = ⟨((b.drop k).take (8 + s)).toArray⟩ := ⟨_, rfl⟩
        have hstr : ∀ W, Below wr.heap.size wr W → (convert 23 9 (.slice (some ⟨g, o + k, none⟩) (k + 8 + s - k) (c - k))).run Tryd.prog W = .ok (.string FR) W := fun W hb => by rw [hFR]; exact (hSW W hb).text
        have hne : (!FS.toList == FR.toList) = !decide (frameL P = (b.drop k).take (8 + s)) := by
          rw [hFS, hFR, ByteArray.toList_eq, ByteArray.toList_eq]
          show (!frameL P == (b.drop k).take (8 + s)) = _
          by_cases h : frameL P = (b.drop k).take (8 + s) <;> simp [h]
        have hgp : ∀ g', rdBlock (.slice PA s (c - (k + 8))) = some g' → g' < w.heap.size ∧ (some (⟨g, o, none⟩ : Addr)).map (·.block) = some g' := fun g' hg => by
          obtain ⟨g1, o1, e1, hg1, _⟩ := rdw_at HRD.out (by have := HM.out; omega)
          injection e1 with e1; injection e1 with e1 _
          have h1 := rdBlock_own hg
          rw [← hPA] at h1
          have h2 : g = g' := by
            split at h1
            · injection h1
            · injection h1
          subst h2
          exact ⟨by omega, rfl⟩
        have HGP := Lib.hid hgp; clear hgp
        have HFRAME := Lib.hid hframe; have HFS := Lib.hid hFS; have HSTR := Lib.hid hstr; have HNE := Lib.hid hne; have HPW := Lib.hid hPW; have HPD := Lib.hid hPD; have HPA := Lib.hid hPA; have HPL := Lib.hid hPl
        clear hframe hFS hFR hstr hne hPW hPD hPA hPl hP hSW
        go_upto_region 7 with fail
        rw [HPA.out, show k + 8 + s - (k + 8) = s by omega]
        have B1D := Lib.hid (HB1.out.drew)
        have q1 : IntKind.i64.wrap ((k : Int) + 8) = (k : Int) + 8 := wraps_i64 _ (by omega) (by omega)
        have q2 : IntKind.i64.wrap ((k : Int) + 8 + s) = (k : Int) + 8 + s := wraps_i64 _ (by omega) (by omega)
        have q3 : (0 : Int) ≤ (k : Int) + 8 + s := by omega
        have q4 : (k : Int) + 8 + s ≤ c := by omega
        have q5 : ((k : Int) + 8 + s).toNat = k + 8 + s := by omega
        have q6 : k ≤ k + 8 + s := by omega
        have q7 : ¬ c = k := by omega
        refine wp_region_held_drew (S := (fun W => (convert 23 9 (.slice (some ⟨g, o + k, none⟩) (k + 8 + s - k) (c - k))).run Tryd.prog W = .ok (.string FR) W)) (by kernel_rfl) (HSTR.out _ B1D.out) (fun hHeld => ?_)
        refine wpAnyH_take (i := 0) (oi := _) (v := ?v0) (by simp only [List.getElem?_toArray, List.getElem?_cons_succ, List.getElem?_cons_zero]; rfl) (by kernel_rfl) (by kernel_rfl) (by kernel_rfl) (by exact fun _ _ _ h => h) (Or.inl ⟨by rfl, ?hy0⟩) (by assumption) ?rest0
        case hy0 => (intro w hSw; (try dsimp only at hSw); go_simp; try with_reducible rfl)
        simp only [Act.put, List.setIfInBounds_toArray, List.set_cons_zero, List.set_cons_succ]
        refine wpAnyH_take (i := 3) (oi := _) (v := ?v3) (by simp only [List.getElem?_toArray, List.getElem?_cons_succ, List.getElem?_cons_zero]; rfl) (by kernel_rfl) (by kernel_rfl) (by kernel_rfl) (by exact fun _ _ _ h => h) (Or.inl ⟨by rfl, ?hy3⟩) (by assumption) ?rest3
        case hy3 => (intro w hSw; (try dsimp only at hSw); go_simp; try with_reducible rfl)
        simp only [Act.put, List.setIfInBounds_toArray, List.set_cons_zero, List.set_cons_succ]
        refine wpAnyH_take (i := 4) (oi := _) (v := ?v4) (by simp only [List.getElem?_toArray, List.getElem?_cons_succ, List.getElem?_cons_zero]; rfl) (by kernel_rfl) (by kernel_rfl) (by kernel_rfl) (by exact fun _ _ _ h => h) (Or.inl ⟨by rfl, ?hy4⟩) (by assumption) ?rest4
        case hy4 => (intro w hSw; (try dsimp only at hSw); go_simp; try with_reducible rfl)
        simp only [Act.put, List.setIfInBounds_toArray, List.set_cons_zero, List.set_cons_succ]
        refine wpAnyH_take (i := 5) (oi := _) (v := ?v5) (by simp only [List.getElem?_toArray, List.getElem?_cons_succ, List.getElem?_cons_zero]; rfl) (by kernel_rfl) (by kernel_rfl) (by kernel_rfl) (by exact fun _ _ _ h => h) (Or.inl ⟨by rfl, ?hy5⟩) (by assumption) ?rest5
        case hy5 => (intro w hSw; (try dsimp only at hSw); go_simp; try with_reducible rfl)
        simp only [Act.put, List.setIfInBounds_toArray, List.set_cons_zero, List.set_cons_succ]
        refine wpAnyH_take (i := 6) (oi := _) (v := ?v6) (by simp only [List.getElem?_toArray, List.getElem?_cons_succ, List.getElem?_cons_zero]; rfl) (by kernel_rfl) (by kernel_rfl) (by kernel_rfl) (by exact fun _ _ _ h => h) (Or.inl ⟨by rfl, ?hy6⟩) (by assumption) ?rest6
        case hy6 => (intro w hSw; (try dsimp only at hSw); go_simp; try with_reducible rfl)
        simp only [Act.put, List.setIfInBounds_toArray, List.set_cons_zero, List.set_cons_succ]
        refine wpAnyH_take (i := 7) (oi := _) (v := ?v7) (by simp only [List.getElem?_toArray, List.getElem?_cons_succ, List.getElem?_cons_zero]; rfl) (by kernel_rfl) (by kernel_rfl) (by kernel_rfl) (by exact fun _ _ _ h => h) (Or.inl ⟨by rfl, ?hy7⟩) (by assumption) ?rest7
        case hy7 => (intro w hSw; (try dsimp only at hSw); go_simp; try with_reducible rfl)
        simp only [Act.put, List.setIfInBounds_toArray, List.set_cons_zero, List.set_cons_succ]
        refine wpAnyH_take (i := 8) (oi := _) (v := ?v8) (by simp only [List.getElem?_toArray, List.getElem?_cons_succ, List.getElem?_cons_zero]; rfl) (by kernel_rfl) (by kernel_rfl) (by kernel_rfl) (by exact fun _ _ _ h => h) (Or.inl ⟨by rfl, ?hy8⟩) (by assumption) ?rest8
        case hy8 => (intro w hSw; (try dsimp only at hSw); go_simp; try with_reducible rfl)
        simp only [Act.put, List.setIfInBounds_toArray, List.set_cons_zero, List.set_cons_succ]
        refine wpAnyH_take (i := 9) (oi := _) (v := ?v9) (by simp only [List.getElem?_toArray, List.getElem?_cons_succ, List.getElem?_cons_zero]; rfl) (by kernel_rfl) (by kernel_rfl) (by kernel_rfl) (by exact fun _ _ _ h => h) (Or.inl ⟨by rfl, ?hy9⟩) (by assumption) ?rest9
        case hy9 => (intro w hSw; (try dsimp only at hSw); go_simp; try with_reducible rfl)
        simp only [Act.put, List.setIfInBounds_toArray, List.set_cons_zero, List.set_cons_succ]
        refine wpAnyH_take (i := 10) (oi := _) (v := ?v10) (by simp only [List.getElem?_toArray, List.getElem?_cons_succ, List.getElem?_cons_zero]; rfl) (by kernel_rfl) (by kernel_rfl) (by kernel_rfl) (by exact fun _ _ _ h => h) (Or.inl ⟨by rfl, ?hy10⟩) (by assumption) ?rest10
        case hy10 => (intro w hSw; (try dsimp only at hSw); go_simp; try with_reducible rfl)
        simp only [Act.put, List.setIfInBounds_toArray, List.set_cons_zero, List.set_cons_succ]
        refine wpAnyH_ready (rs := [1]) (by kernel_rfl) (by simp) ?_
        refine AllReadyH.cons (o := _) (by simp only [List.getElem?_toArray, List.getElem?_cons_succ, List.getElem?_cons_zero]; rfl) (fun K hK => ?_) AllReadyH.nil
        go_simp
        go_at_call 9
        (with_reducible refine (HFRAME.out _ B1D.out).mono ?_)
        rintro e w2 ⟨⟨v2, rfl, hB2⟩, hb2⟩
        have hcv : (convert 23 9 v2).run Tryd.prog w2 = .ok (.string FS) w2 := by rw [HFS.out]; exact hB2.text
        have B2 := Lib.hid (B1D.out.chain hb2); clear hb2 hB2
        dsimp only
        refine hK.out _ _ (HSTR.out _ B2.out) (fun hHeld => ?_)
        clear hK K
        try simp only [Act.put, List.setIfInBounds_toArray, List.set_cons_zero, List.set_cons_succ]
        refine wpAnyH_ready (rs := [2]) (by kernel_rfl) (by simp) ?_
        refine AllReadyH.cons (o := _) (by simp only [List.getElem?_toArray, List.getElem?_cons_succ, List.getElem?_cons_zero]; rfl) (fun K hK => ?_) AllReadyH.nil
        go_simp
        refine hK.out _ _ (by assumption) (fun hHeld => ?_)
        clear hK K
        try simp only [Act.put, List.setIfInBounds_toArray, List.set_cons_zero, List.set_cons_succ]
        refine wpAnyH_take (i := 11) (oi := _) (v := ?v11) (by simp only [List.getElem?_toArray, List.getElem?_cons_succ, List.getElem?_cons_zero]; rfl) (by kernel_rfl) (by kernel_rfl) (by kernel_rfl) (by exact fun _ _ _ h => h) (Or.inl ⟨by rfl, ?hy11⟩) (by assumption) ?rest11
        case hy11 => (intro w hSw; (try dsimp only at hSw); go_simp; try with_reducible rfl)
        simp only [Act.put, List.setIfInBounds_toArray, List.set_cons_zero, List.set_cons_succ]
        refine wpAnyH_done (by kernel_rfl) ?_ _
        clear q1 q2 q3 q4 q5 q6 q7 hcv
        have hHeld := 0
        clear hHeld
        by_cases heq : frameL P = (b.drop k).take (8 + s)
        · have hnf : (!FS.toList == FR.toList) = false := by rw [HNE.out, decide_eq_true heq]; rfl
          rw [hnf]
          clear hnf
          have hfs : firstL D = some s := by
            unfold firstL
            rw [HS.out, HDL.out, ← HPD.out, ← HD.out, if_pos ⟨by omega, hk1, by omega, heq⟩]
          have hsp2 : splitL b = ((pre ++ [P]) ++ (splitL (b.drop (k + 8 + s))).1, k + 8 + s + (splitL (b.drop (k + 8 + s))).2) := by
            rw [HSP.out, splitL_some hfs, ← HPD.out, ← HD.out, List.drop_drop]
            simp only [List.append_assoc, List.cons_append, List.nil_append]
            rw [show k + (8 + s) = k + 8 + s by omega, show k + (8 + s + (splitL (b.drop (k + 8 + s))).2) = k + 8 + s + (splitL (b.drop (k + 8 + s))).2 by omega]
          have HSP2 := Lib.hid hsp2
          clear heq hfs hsp2
          have hbw : Below w.heap.size w w2 := hT.out.2.2.2.chain B2.out
          have hown := own_below hT.out.1.1 B2.out
          have hsz := hbw.size
          have HBW := Lib.hid hbw; clear hbw
          have hprl := hT.out.2.1
          go_wp2_with (at_builtin; refine wpList_append_own _ rfl (.tmp 48) (.tmp 50) 22 rfl w.heap.size 23 i0 _ 1 24 Tryd.underlying22 hi hz0 hz1 hz2 rfl (by decide) _ _ _ rfl (World.ownsRow.alloc hown _) ⟨_, 0, none⟩ 1 1 [.slice PA s (c - (k + 8))] rfl rfl (new_cells _ #[_] _) (by intro u hu; simp at hu; subst hu; rfl) (by unfold maxLen; omega) (by omega) (by simp; omega) ?_)
          intro v' w3 hown' hg' _
          have hb3 : Below w.heap.size w w3 := (HBW.out.alloc hsz _).grown hg' (by simp; omega) (fun j hj => (hown.lt j hj).1)
          go_wp2
          go_roundw
          case rel =>
            refine ⟨k + 8 + s, pre ++ [P], vs ++ [.slice PA s (c - (k + 8))], by omega, by go_num, Lib.hid ⟨⟨?_, by rw [List.length_append, List.length_append, hT.out.1.2.1]; rfl, fun u hu => ?_, fun j l hj => ?_⟩, by rw [List.length_append]; show pre.length + 1 ≤ _; omega, HSP2.out, hb3⟩, Lib.hid fun u hu g' hg => ?_⟩
            · rw [List.length_append]; exact hown'
            · rcases List.mem_append.1 hu with hu | hu
              · exact hT.out.1.2.2.1 u hu
              · rw [List.mem_singleton] at hu; subst hu; rfl
            · have hk3 : ∀ u, (∀ g', rdBlock u = some g' → g' < w.heap.size) → ∀ l, RdW wr u l → RdW w3 u l := fun u hu l hr => hr.keep (Nat.le_trans B2.out.size (Nat.le_trans (by simp) hg'.size)) fun g' hg => (hb3.block g' (hu g' hg)).trans (hT.out.2.2.2.block g' (hu g' hg)).symm
              by_cases hjp : j < pre.length
              · rw [List.getElem?_append_left hjp] at hj
                obtain ⟨u, hu, hr⟩ := hT.out.1.2.2.2 j l hj
                exact ⟨u, by rw [List.getElem?_append_left (by rw [hT.out.1.2.1]; exact hjp)]; exact hu, hk3 u (fun g' hg => (hV.out u (List.mem_of_getElem? hu) g' hg).1) l hr⟩
              · rw [List.getElem?_append_right (by omega)] at hj
                obtain ⟨h0, rfl⟩ : j - pre.length = 0 ∧ P = l := by
                  rcases hz : j - pre.length with _ | q
                  · rw [hz] at hj; exact ⟨rfl, by simpa using hj⟩
                  · rw [hz] at hj; simp at hj
                exact ⟨.slice PA s (c - (k + 8)), by rw [List.getElem?_append_right (by rw [hT.out.1.2.1]; omega), hT.out.1.2.1, h0]; rfl, hk3 _ (fun g' hg => (HGP.out g' hg).1) P (HPW.out wr (Below.refl _ _))⟩
            · rcases List.mem_append.1 hu with hu | hu
              · exact hV.out u hu g' hg
              · rw [List.mem_singleton] at hu; subst hu; exact HGP.out g' hg
          case measure => simp [intOf]; omega
        · have hnf : (!FS.toList == FR.toList) = true := by rw [HNE.out, decide_eq_false heq]; rfl
          rw [hnf]
          clear hnf
          have hfn : firstL D = none := by
            unfold firstL
            rw [HS.out, HDL.out, ← HPD.out, ← HD.out, if_neg (fun h => heq h.2.2.2)]
          have hsn : splitL b = (pre, k) := by rw [HSP.out, splitL_none hfn]; simp
          have HSN := Lib.hid hsn; clear hsn hfn heq
          go_wp2
          go_ret2
          rw [HSN.out]
          exact ⟨⟨_, vs, rfl, hT.out.1.below B2.out, fun u hu g' hg => (hV.out u hu g' hg).2⟩, hT.out.2.2.2.chain B2.out⟩
      · have hfn : firstL D = none := by
          unfold firstL
          rw [if_neg (fun h => hok ⟨by rw [← HS.out]; exact h.2.1, by have := h.2.2.1; rw [HS.out, HDL.out] at this; exact this⟩)]
        have hsn : splitL b = (pre, k) := by rw [HSP.out, splitL_none hfn]; simp
        have HSN := Lib.hid hsn; clear hsn hfn
        by_cases hb : 32768 < s
        · have d1 : decide ((32768 : Int) < s) = true := by simp; omega
          clear hok
          go_wp2
          go_ret2
          rw [HSN.out]
          exact ⟨⟨_, vs, rfl, hT.out.1.below HB1.out, fun u hu g' hg => (hV.out u hu g' hg).2⟩, hT.out.2.2.2.chain HB1.out⟩
        · have d1 : decide ((32768 : Int) < s) = false := by simp; omega
          have d2 : decide ((m : Int) - k - 8 < s) = true := by simp; omega
          clear hok
          go_wp2
          go_ret2
          rw [HSN.out]
          exact ⟨⟨_, vs, rfl, hT.out.1.below HB1.out, fun u hu g' hg => (hV.out u hu g' hg).2⟩, hT.out.2.2.2.chain HB1.out⟩
    · have d8 : decide ((8 : Int) ≤ (m : Int) - k) = false := by simp; omega
      have hfn : firstL (b.drop k) = none := by
        unfold firstL
        rw [if_neg (fun h => by have := h.1; rw [List.length_drop, HM.out] at this; omega)]
      have hsn : splitL b = (pre, k) := by rw [hT.out.2.2.1, splitL_none hfn]; simp
      have HSN := Lib.hid hsn; clear hsn hfn
      go_wp2
      go_ret2
      rw [HSN.out]
      exact ⟨⟨_, vs, rfl, hT.out.1, fun u hu g' hg => (hV.out u hu g' hg).2⟩, hT.out.2.2.2⟩
theorem refSplit_any (A : Option Addr) (c : Nat) (b : List UInt8) (hl : b.length ≤ 100000) (w : World) (h : RdW w (.slice A b.length c) b) :
    Calls Tryd.prog 12 #[.slice A b.length c] w fun e w' => (∃ v, e = .returned (.tuple #[v, .int .i64 ((splitL b).2 : Nat)]) ∧ RdB w' v (splitL b).1) ∧ Below w.heap.size w w' :=
  (refSplit_more A c b hl w h).mono fun e w' ⟨⟨v, vs, he, hr, _⟩, hb⟩ => ⟨⟨v, he, hr.rd⟩, hb⟩
end Go.Proofs.YtdflghphjhejdaaDoor
