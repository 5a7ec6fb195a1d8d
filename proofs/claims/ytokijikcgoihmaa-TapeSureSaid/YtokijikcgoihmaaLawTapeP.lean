/- Layer 10's law TapePlays, out of what the code's tape does. -/
import Derived.Test.YtokijikcgoihmaaTapeTri
import Derived.Test.YtokijikcgoihmaaOpenActs
import Derived.Deep.DeepCutAuto
import Derived.Deep.RegionLaw
import Derived.Deep.CutBlock
import Derived.Test.YtokijikcgoihmaaHeldMore
namespace Go.Proofs.Ytokijikcgoihmaa
open Go.RowKit
set_option linter.unusedVariables false
set_option linter.unusedSimpArgs false

theorem i64_le {n : Int} (h : (Lit.int .i64 n).wf = true) : n ≤ 9223372036854775807 := by
  simp [Lit.wf, IntKind.min, IntKind.max, IntKind.signed, IntKind.bits] at h
  omega
theorem RdAt.at {w w' : World} {v : Value} {l : List UInt8} (h : RdAt w v l) (hb : ∀ g, v.ownBlock = some g → g < w'.heap.size ∧ w'.heap[g]? = w.heap[g]?) : RdAt w' v l := by
  obtain ⟨A, c, rfl, h1, h2, h3⟩ := h
  refine ⟨A, c, rfl, h1, h2, ?_⟩
  rcases h3 with h3 | ⟨g, o, rfl, hg, h3⟩
  · exact .inl h3
  · refine .inr ⟨g, o, rfl, (hb g rfl).1, fun j u hu => ?_⟩
    rw [← h3 j u hu]
    exact World.cell?_of_block (by rw [Addr.add_lit]; exact (hb g rfl).2)
theorem below_two (w : World) (x y : Obj) : Below w.heap.size w ((w.alloc x).alloc y) := ((Below.refl _ _).alloc (Nat.le_refl _) _).alloc (by simp) _
theorem own_empty2 (w : World) (x : Obj) : ((w.alloc x).alloc (.cells #[] 5)).ownsRow w.heap.size 5 1 (.slice (some ⟨w.heap.size + 1, 0, none⟩) 0 0) 0 [] :=
  ⟨by simp, Or.inr ⟨w.heap.size + 1, 0, #[], rfl, by omega, by have := heap_alloc_last (w.alloc x) (.cells #[] 5); simpa using this, Nat.le_refl _, by unfold maxLen; decide, by simp, by simp⟩⟩
set_option maxRecDepth 100000 in
set_option maxHeartbeats 4000000 in
theorem tapePlays_at {CT : World → (Nat → Prop) → Nat → TP → Prop} (H : CodeTape CT) (A : Option Addr) (c : Nat) (acts : List ActP) {w : World} (hA : Acts w A acts ∧ acts.length ≤ reachBytes) :
    Calls Try.prog 3 #[.slice A acts.length c] w fun e w' => e = .returned (.bool true) ∧ Below w.heap.size w w' := by
  obtain ⟨i0, hi, hz0, hz1, hz2⟩ := info_parts Try.infoByte
  have h8 := Lib.hid (fun W => answers10_any H W)
  have K := Lib.hid H.kept
  have KR := Lib.hid RCT.kept
  have hact := fun W (hb : Below w.heap.size w W) => hA.1.below hb
  obtain ⟨n, hn⟩ : ∃ n, acts.length = n := ⟨_, rfl⟩
  rw [hn]
  by_cases h100 : 100 < n
  · have d1 : decide ((100 : Int) < n) = true := by simp; omega
    clear hact hA hn h100
    go_enter Try.func3, Try.ntmps3
    go_wp2_with fail
    refine (h8.out _).mono ?_
    rintro e w1 ⟨rfl, hb1⟩
    have B1 := Lib.hid hb1; clear hb1
    dsimp only
    go_wp2
    go_ret
    exact ⟨rfl, B1.out⟩
  have d1 : decide ((100 : Int) < n) = false := by simp; omega
  have h100' : n ≤ 100 := by omega
  have hnew := Lib.hid H.new
  have HH := Lib.hid H
  have HA := Lib.hid hact
  have HN := Lib.hid hn
  clear hact hA hn h100 H
  go_enter Try.func3, Try.ntmps3
  go_wp2_with fail
  refine (hnew.out _).mono ?_
  rintro e w1 ⟨⟨p, S, rfl, hc1, hs1⟩, hb1⟩
  have HC1 := Lib.hid hc1; have HS1 := Lib.hid hs1; have HB1 := Lib.hid hb1
  clear hc1 hs1 hb1
  dsimp only
  go_wp2_with fail
  refine (refNew_any _).mono ?_
  rintro e w2 ⟨⟨q, rfl, hq, hr2⟩, hb2⟩
  have hstart : Two CT RCT w w2 p q TP.new TP.new := Two.start K.out HC1.out HS1.out HB1.out (X := fun b => b = q) ⟨_, hr2, fun b => ⟨fun h => .inl h, fun h => h.elim id (fun h => by cases h)⟩⟩ (fun b hb => by rw [hb]; exact hq) hb2
  have HST := Lib.hid hstart
  clear hstart hr2 hb2 hq HC1 HS1 HB1
  dsimp only
  go_wp2_with fail
  go_loopw [5] (fun i W => ∃ (k : Nat) (t : TP), k ≤ n ∧ i = .int .i64 k ∧ Hid (t.Ok ∧ t.b.length ≤ 500 * k ∧ Two CT RCT w W p q t t)) (fun i _ => n - (intOf i).toNat)
  case atStart => exact ⟨0, TP.new, Nat.zero_le _, rfl, Lib.hid ⟨TP.new_ok, Nat.zero_le _, HST.out⟩⟩
  case round =>
    obtain ⟨k, t, hk, rfl, hT⟩ := hrel
    by_cases hlt : k < n
    · have hkr : decide ((k : Int) < n) = true := by simp; omega
      obtain ⟨a, ha⟩ : ∃ a, acts[k]? = some a := by
        have := HN.out
        exact ⟨acts[k]'(by omega), List.getElem?_eq_getElem (by omega)⟩
      have hlow := hT.out.2.2.low
      obtain ⟨g, o, rfl, hg, hc0, hc1, hc2, hwf1, hwf2, hrd⟩ := HA.out wr hlow k a ha
      have hgw : g < w.heap.size := by
        obtain ⟨g', o', e, hg', _⟩ := HA.out w (Below.refl _ _) k a ha
        injection e with e
        injection e with e
        omega
      obtain ⟨what, num, bv, l⟩ := a
      simp only at hc0 hc1 hc2 hwf1 hwf2 hrd
      obtain ⟨B, cb, rfl, hB⟩ := hrd.news
      obtain ⟨m, hm⟩ : ∃ m, l.length = m := ⟨_, rfl⟩
      rw [hm] at hc2 hB
      have HRD := Lib.hid hrd; have HM := Lib.hid hm; have HB := Lib.hid hB; have HG := Lib.hid hgw; have HW1 := Lib.hid hwf1; have HW2 := Lib.hid hwf2; have HK := Lib.hid ha; have HLOW := Lib.hid hlow
      clear hrd hm hB hgw hwf1 hwf2 ha hlow hg
      have hk0 : (0 : Int) ≤ k := by omega
      have hk1 : (k : Int) < n := by omega
      by_cases h5 : 500 < m
      · have d5 : decide ((500 : Int) < m) = true := by simp; omega
        go_wp2
        go_roundw
        case rel => exact ⟨k + 1, t, by omega, by go_num, Lib.hid ⟨hT.out.1, by have := hT.out.2.1; omega, hT.out.2.2.later K.out KR.out ((Below.refl _ _).alloc (Nat.le_refl _) _)⟩⟩
        case measure => simp [intOf]; omega
      · have d5 : decide ((500 : Int) < m) = false := by simp; omega
        have hll : (cells l).length = m * 1 := by rw [Nat.mul_one, ← HM.out]; simp [cells]
        have hnw : ∀ W, Below wr.heap.size wr W → (B = none ∧ m = 0 ∧ cb = 0) ∨ ∃ ad, B = some ad ∧ ∀ j u, (cells l)[j]? = some u → W.cell? (ad.add j) = some u := fun W hbw => by
          have := (HRD.out.below hbw).news
          obtain ⟨A1, c1, e1, hA1⟩ := this
          rw [HM.out] at e1 hA1
          cases e1
          exact hA1
        have HLL := Lib.hid hll; have HNW := Lib.hid hnw
        clear hll hnw
        have h5' : m ≤ 500 := by omega
        go_upto_region 11 with (at_builtin; (refine wpList_append_opt rfl (.tmp 31) (.tmp 33) 28 rfl wr.heap.size 5 i0 _ 1 1 Try.underlying28 hi hz0 hz1 hz2 rfl (by decide) (.slice (some ⟨wr.heap.size + 1, 0, none⟩) 0 0) 0 [] rfl (own_empty2 _ _) B m cb (cells l) rfl HLL.out (HNW.out _ (below_two _ _ _)) (cells_one _) (by unfold maxLen; omega) (by omega) (by simp; omega) ?_; intro v1 w3 hown3 hgrow3 hat3; simp only [Nat.zero_add, List.nil_append] at hown3; obtain ⟨A3, c3, rfl⟩ := own_form hown3; have HOWN := Lib.hid hown3; have HGR := Lib.hid hgrow3; clear hown3 hgrow3 hat3))
        -- what holds behind the box and the copy
        have b3 : Below wr.heap.size wr w3 := (below_two wr _ _).grown HGR.out (by simp; omega) (fun b hb => by have hb2 : some (wr.heap.size + 1) = some b := hb; injection hb2 with hb2; omega)
        have hbox : w3.heap[wr.heap.size]? = some (.cells #[.int .i64 what, .int .i64 num, .slice B m cb] 30 (0, 0)) := by
          refine (HGR.out.block wr.heap.size (by simp; omega) (fun e => by have hb2 : some (wr.heap.size + 1) = some wr.heap.size := e.symm; injection hb2 with hb2; omega)).trans ?_
          exact (Below.heap_alloc _ _ _ (by simp)).trans (heap_alloc_last wr _)
        have hown := HOWN.out.lt
        have hrow : Buf w3 wr.heap.size (.slice A3 m c3) l := Buf.cut HOWN.out (by have := HM.out; omega) rfl
        have hrd3 := hrow.rd
        obtain ⟨F, hF⟩ : ∃ F : Nat → Prop, F = fun b => b = wr.heap.size ∨ (Value.slice A3 m c3).ownBlock = some b := ⟨_, rfl⟩
        have hT3 : Tri CT RCT w w3 F w3 p q t t := Tri.mk K.out KR.out hT.out.2.2 b3 fun b hb => by
          rw [hF] at hb
          rcases hb with rfl | hb
          · exact ⟨Nat.le_refl _, (Array.getElem?_eq_some_iff.1 hbox).1⟩
          · exact hown b hb
        have hF1 : F wr.heap.size := by rw [hF]; exact .inl rfl
        have hF2 : ∀ g, (Value.slice A3 m c3).ownBlock = some g → F g := fun g hg => by rw [hF]; exact .inr hg
        -- the calls
        have hra : ∀ W (t u : TP), Tri CT RCT w w3 F W p q t u → RdW W (.slice B m cb) l := fun W t u tr => by
          obtain ⟨g', o', e, _, _, _, _, _, _, hr⟩ := HA.out W tr.low k _ HK.out
          rw [← HM.out]
          exact hr
        have hri : ∀ W (t u : TP), Tri CT RCT w w3 F W p q t u → RdAt W (.slice A3 m c3) l := fun W t u tr => hrd3.at fun g hg => tr.at (hF2 g hg)
        have hcb : ∀ W (t u : TP), Tri CT RCT w w3 F W p q t u → W.cell? ⟨wr.heap.size, 0, none⟩ = some (.int .i64 what) ∧ W.cell? ⟨wr.heap.size, 1, none⟩ = some (.int .i64 num) ∧ W.cell? ⟨wr.heap.size, 2, none⟩ = some (.slice B m cb) := fun W t u tr => by
          have hb := (tr.at hF1).2.trans hbox
          exact ⟨cell_here hb, cell_here hb, cell_here hb⟩
        have lw : ∀ W (t u : TP), t.Ok → t.b.length ≤ 50000 → Tri CT RCT w w3 F W p q t u → Calls Try.prog 10 #[.pointer (some ⟨p, 0, none⟩), .slice A3 m c3] W fun e w' => e = .returned (.int .i64 (t.write l).2) ∧ Tri CT RCT w w3 F w' p q (t.write l).1 u := fun W t u ok len tr =>
          tr.fst K.out KR.out fun S h hB hF' => HH.out.write W S p t _ l h ok (by omega) (hri W t u tr) (by have := HM.out; omega) fun g hg hs => hF' g (hF2 g hg) hs
        have rw_ : ∀ W (t u : TP), u.Ok → u.b.length ≤ 50000 → Tri CT RCT w w3 F W p q t u → Calls Try.prog 11 #[.pointer (some ⟨q, 0, none⟩), .slice B m cb] W fun e w' => e = .returned (.int .i64 (u.write l).2) ∧ Tri CT RCT w w3 F w' p q t (u.write l).1 := fun W t u ok len tr =>
          tr.snd K.out KR.out fun X h hB hF' => refWrite_c W X q u _ l h ok (by omega) (hra W t u tr) (by have := HM.out; omega)
        have ls : ∀ W (t u : TP), t.Ok → t.b.length ≤ 50000 → Tri CT RCT w w3 F W p q t u → Calls Try.prog 12 #[.pointer (some ⟨p, 0, none⟩)] W fun e w' => e = .returned (.int .i64 t.sync.2) ∧ Tri CT RCT w w3 F w' p q t.sync.1 u := fun W t u ok len tr =>
          tr.fst K.out KR.out fun S h hB hF' => HH.out.sync W S p t h ok (by omega)
        have rs : ∀ W (t u : TP), u.Ok → u.b.length ≤ 50000 → Tri CT RCT w w3 F W p q t u → Calls Try.prog 13 #[.pointer (some ⟨q, 0, none⟩)] W fun e w' => e = .returned (.int .i64 u.sync.2) ∧ Tri CT RCT w w3 F w' p q t u.sync.1 := fun W t u ok len tr =>
          tr.snd K.out KR.out fun X h hB hF' => refSync_c W X q u h ok (by omega)
        have lp : ∀ W (t u : TP), t.Ok → t.b.length ≤ 50000 → Tri CT RCT w w3 F W p q t u → Calls Try.prog 14 #[.pointer (some ⟨p, 0, none⟩), .slice A3 m c3] W fun e w' => e = .returned (.int .i64 (t.swap l).2) ∧ Tri CT RCT w w3 F w' p q (t.swap l).1 u := fun W t u ok len tr =>
          tr.fst K.out KR.out fun S h hB hF' => HH.out.swap W S p t _ l h ok (by omega) (hri W t u tr) (by have := HM.out; omega) fun g hg hs => hF' g (hF2 g hg) hs
        have rp : ∀ W (t u : TP), u.Ok → u.b.length ≤ 50000 → Tri CT RCT w w3 F W p q t u → Calls Try.prog 15 #[.pointer (some ⟨q, 0, none⟩), .slice B m cb] W fun e w' => e = .returned (.int .i64 (u.swap l).2) ∧ Tri CT RCT w w3 F w' p q t (u.swap l).1 := fun W t u ok len tr =>
          tr.snd K.out KR.out fun X h hB hF' => refSwap_c W X q u _ l h ok (hra W t u tr) (by have := HM.out; omega) fun g hg hx => by
            have hlow0 := hT3.low
            obtain ⟨g', o', e, hg', _, _, _, _, _, hr⟩ := HA.out w (Below.refl _ _) k _ HK.out
            have hr2 : RdW w (.slice B m cb) l := by rw [← HM.out]; exact hr
            have := hr2.lt hg
            have := hB g hx
            omega
        have lf : ∀ W (t u : TP), Tri CT RCT w w3 F W p q t u → Calls Try.prog 16 #[.pointer (some ⟨p, 0, none⟩), .int .i64 num] W fun e w' => e = .returned (.tuple #[]) ∧ Tri CT RCT w w3 F w' p q (t.setFuse num) u := fun W t u tr =>
          tr.fst K.out KR.out fun S h hB hF' => HH.out.fuse W S p t num h HW2.out
        have lc : ∀ W (t u : TP), t.Ok → t.b.length ≤ 50000 → Tri CT RCT w w3 F W p q t u → Calls Try.prog 17 #[.pointer (some ⟨p, 0, none⟩), .int .i64 num] W fun e w' => e = .returned (.tuple #[]) ∧ Tri CT RCT w w3 F w' p q (t.crash num) u := fun W t u ok len tr =>
          tr.fst K.out KR.out fun S h hB hF' => HH.out.crash W S p t num h ok (by omega) HW2.out
        have rc : ∀ W (t u : TP), u.Ok → u.b.length ≤ 50000 → Tri CT RCT w w3 F W p q t u → Calls Try.prog 18 #[.pointer (some ⟨q, 0, none⟩), .int .i64 num] W fun e w' => e = .returned (.tuple #[]) ∧ Tri CT RCT w w3 F w' p q t (u.crash num) := fun W t u ok len tr =>
          tr.snd K.out KR.out fun X h hB hF' => refCrash_c W X q u num h ok (by omega) HW2.out
        have LW := Lib.hid lw; have RW := Lib.hid rw_; have LS := Lib.hid ls; have RS := Lib.hid rs; have LP := Lib.hid lp; have RP := Lib.hid rp; have LF := Lib.hid lf; have LC := Lib.hid lc; have RC := Lib.hid rc; have HCB := Lib.hid hcb; have HRI := Lib.hid hri; have T3 := Lib.hid hT3; have HF2 := Lib.hid hF2; have HFE := Lib.hid hF
        obtain ⟨e0, -, -⟩ := hcb w3 t t hT3
        clear lw rw_ ls rs lp rp lf lc rc hcb hri hra hT3 hF2 hF hF1 hown hrow hrd3 hbox b3 HNW HLL hc0 hc1 hc2
        go_upto_block 2 with fail
        go_cut [7, 8] (fun e f wx => ∃ (E : Int) (t' : TP), e = .int .i64 E ∧ f = .int .i64 E ∧ Hid (t'.Ok ∧ t'.b.length ≤ 500 * (k + 1) ∧ Tri CT RCT w w3 F wx p q t' t'))
        case first =>
          have hT3d := T3.out.later K.out KR.out ((Below.refl w3.heap.size w3).drew)
          obtain ⟨-, d1', d2'⟩ := HCB.out _ _ _ hT3d
          have T3d := Lib.hid hT3d; clear hT3d
          have OK := Lib.hid hT.out.1
          have hLT : t.b.length ≤ 50000 := by have := hT.out.2.1; omega
          have LT := Lib.hid hLT; clear hLT
          by_cases q0 : what = 0
          · subst q0
            go_upto_region 13 with fail
            go_region_law (first
              | (go_simp; go_at_call 10; (with_reducible refine (LW.out _ t t OK.out LT.out T3d.out).mono ?_); rintro e w4 ⟨rfl, h4⟩; have T4 := Lib.hid h4; clear h4; obtain ⟨-, d1w, d2w⟩ := HCB.out _ _ _ T4.out; dsimp only)
              | (go_simp; go_at_call 11; (with_reducible refine (RW.out _ _ t OK.out LT.out T4.out).mono ?_); rintro e w5 ⟨rfl, h5⟩; have T5 := Lib.hid h5; clear h5; dsimp only))
            all_goals
              go_wp2_with fail
              go_meet
              exact ⟨_, _, rfl, rfl, Lib.hid ⟨(TP.write_ok OK.out l).1, by have := (TP.write_ok OK.out l).2; have := HM.out; have := hT.out.2.1; omega, T5.out⟩⟩
          by_cases q1 : what = 1
          · subst q1
            go_wp2_with fail
            refine (LS.out _ t t OK.out LT.out T3.out).mono ?_
            rintro e w4 ⟨rfl, h4⟩
            have T4 := Lib.hid h4; clear h4
            dsimp only
            go_wp2_with fail
            refine (RS.out _ _ t OK.out LT.out T4.out).mono ?_
            rintro e w5 ⟨rfl, h5⟩
            have T5 := Lib.hid h5; clear h5
            dsimp only
            go_wp2_with fail
            go_meet
            exact ⟨_, _, rfl, rfl, Lib.hid ⟨(TP.sync_ok OK.out).1, by rw [(TP.sync_ok OK.out).2]; have := hT.out.2.1; omega, T5.out⟩⟩
          by_cases q2 : what = 2
          · subst q2
            go_upto_region 17 with fail
            go_region_law (first
              | (go_simp; go_at_call 14; (with_reducible refine (LP.out _ t t OK.out LT.out T3d.out).mono ?_); rintro e w4 ⟨rfl, h4⟩; have T4 := Lib.hid h4; clear h4; obtain ⟨-, d1w, d2w⟩ := HCB.out _ _ _ T4.out; dsimp only)
              | (go_simp; go_at_call 15; (with_reducible refine (RP.out _ _ t OK.out LT.out T4.out).mono ?_); rintro e w5 ⟨rfl, h5⟩; have T5 := Lib.hid h5; clear h5; dsimp only))
            all_goals
              go_wp2_with fail
              go_meet
              exact ⟨_, _, rfl, rfl, Lib.hid ⟨(TP.swap_ok OK.out l).1, by have := (TP.swap_ok OK.out l).2; have := HM.out; have := hT.out.2.1; omega, T5.out⟩⟩
          by_cases q4 : what = 4
          · subst q4
            obtain ⟨-, n3, -⟩ := HCB.out _ _ _ T3.out
            go_wp2_with fail
            refine (LC.out _ t t OK.out LT.out T3.out).mono ?_
            rintro e w4 ⟨rfl, h4⟩
            have T4 := Lib.hid h4; clear h4
            obtain ⟨-, n4, -⟩ := HCB.out _ _ _ T4.out
            dsimp only
            go_wp2_with fail
            refine (RC.out _ _ t OK.out LT.out T4.out).mono ?_
            rintro e w5 ⟨rfl, h5⟩
            have T5 := Lib.hid h5; clear h5
            dsimp only
            go_wp2_with fail
            go_meet
            exact ⟨0, _, rfl, rfl, Lib.hid ⟨(TP.crash_ok OK.out num).1, by have h := (TP.crash_ok OK.out num).2; have := hT.out.2.1; omega, T5.out⟩⟩
          by_cases q3 : what = 3
          · subst q3
            obtain ⟨-, n3, -⟩ := HCB.out _ _ _ T3.out
            go_wp2_with fail
            refine (LF.out _ t t T3.out).mono ?_
            rintro e w4 ⟨rfl, h4⟩
            obtain ⟨-, n4, -⟩ := HCB.out _ _ _ h4
            have h5 := h4.put K.out KR.out (fun X hc => refFuse_c hc num)
            have h6 := h5.put K.out KR.out (fun X hc => refFuse_c hc 0)
            obtain ⟨-, n5, -⟩ := HCB.out _ _ _ h5
            obtain ⟨c2, f2⟩ : (∃ x, w4.cell? ⟨q, 2, none⟩ = some x) ∧ w4.frozen? ⟨q, 2, none⟩ = false := by
              obtain ⟨_, _, _, ⟨v', hr', _⟩, _⟩ := h4
              obtain ⟨⟨_, _, c, _⟩, _, _, f, _⟩ := box4_of hr'.box
              exact ⟨⟨_, c⟩, f⟩
            obtain ⟨c3', f3⟩ : (∃ x, (w4.setCell ⟨q, 2, none⟩ (.int .i64 num)).cell? ⟨q, 2, none⟩ = some x) ∧ (w4.setCell ⟨q, 2, none⟩ (.int .i64 num)).frozen? ⟨q, 2, none⟩ = false := by
              obtain ⟨_, _, _, ⟨v', hr', _⟩, _⟩ := h5
              obtain ⟨⟨_, _, c, _⟩, _, _, f, _⟩ := box4_of hr'.box
              exact ⟨⟨_, c⟩, f⟩
            obtain ⟨x2, c2⟩ := c2
            obtain ⟨x3, c3'⟩ := c3'
            have T5 := Lib.hid h5; have T6 := Lib.hid h6
            clear h4 h5 h6
            by_cases hneg : num < 0
            · have hd : decide (num < 0) = true := by simp [hneg]
              dsimp only
              go_wp2_with fail
              go_meet
              refine ⟨0, t.setFuse num, rfl, rfl, Lib.hid ⟨TP.fuse_ok OK.out num (by omega), by have := hT.out.2.1; show t.b.length ≤ _; omega, ?_⟩⟩
              have e : t.setFuse num = ⟨t.b, t.sure, 0, t.down⟩ := by unfold TP.setFuse; rw [if_pos hneg]
              have := T6.out
              rw [e] at this ⊢
              exact this
            · have hd : decide (num < 0) = false := by simp [hneg]
              dsimp only
              go_wp2_with fail
              go_meet
              refine ⟨0, t.setFuse num, rfl, rfl, Lib.hid ⟨TP.fuse_ok OK.out num (i64_le HW2.out), by have := hT.out.2.1; show t.b.length ≤ _; omega, ?_⟩⟩
              have e : t.setFuse num = ⟨t.b, t.sure, num, t.down⟩ := by unfold TP.setFuse; rw [if_neg (by omega)]
              have := T5.out
              rw [e] at this ⊢
              exact this
          have z0 : (what == 0) = false := by simp [q0]
          have z1 : (what == 1) = false := by simp [q1]
          have z2 : (what == 2) = false := by simp [q2]
          have z3 : (what == 3) = false := by simp [q3]
          have z4 : (what == 4) = false := by simp [q4]
          go_wp2_with fail
          go_meet
          exact ⟨0, t, rfl, rfl, Lib.hid ⟨OK.out, by have := hT.out.2.1; omega, T3.out⟩⟩
        case rest =>
          obtain ⟨E, t', rfl, rfl, hT'⟩ := hcut
          have hin : 0 < m → ∃ g3 C tt, A3 = some ⟨g3, 0, none⟩ ∧ F g3 ∧ wc.heap[g3]? = some (.cells C tt (0, 0)) ∧ ∀ y, y < m → ∃ x : Int, C[y]? = some (.int .u8 x) := fun h0 => by
            rcases HOWN.out.2 with ⟨_, h⟩ | ⟨g3, cap, cur, e, hB, hg, h4, h5, _⟩
            · omega
            · injection e with e1 e2 e3
              subst e1
              have hFg := HF2.out g3 rfl
              refine ⟨g3, cur, _, rfl, hFg, (hT'.out.2.2.at hFg).2.trans hg, fun y hy => ?_⟩
              have hc := World.ownsRow.cells (g := g3) HOWN.out rfl y (.int .u8 ((l[y]'(by have := HM.out; omega)).toNat : Int)) (by simp [cells, show y < l.length from by have := HM.out; omega])
              rw [Addr.add_lit] at hc
              have hc2 := (cell_here (o := 0 + y) hg).symm.trans hc
              rw [Nat.zero_add] at hc2
              exact ⟨_, hc2⟩
          have HIN := Lib.hid hin; clear hin
          have hF0 : ∀ b, F b → w.heap.size ≤ b := fun b hb => by
            have := HLOW.out.size
            rw [HFE.out] at hb
            rcases hb with rfl | hb
            · exact this
            · exact Nat.le_trans this (HOWN.out.lt b hb).1
          have HF0 := Lib.hid hF0; clear hF0
          clear e0 LW RW LS RS LP RP LF LC RC HCB HRI T3 HFE HOWN HGR
          go_wp2_with fail
          go_loopw [10] (fun j W => ∃ i : Nat, i ≤ m ∧ j = .int .i64 i ∧ Hid ((0 < m → ∃ g3 C tt, A3 = some ⟨g3, 0, none⟩ ∧ F g3 ∧ W.heap[g3]? = some (.cells C tt (0, 0)) ∧ ∀ y, y < m → ∃ x : Int, C[y]? = some (.int .u8 x)) ∧ Only F wc W)) (fun j _ => m - (intOf j).toNat)
          case atStart => exact ⟨0, Nat.zero_le _, rfl, Lib.hid ⟨HIN.out, Only.refl _ _⟩⟩
          case round =>
            obtain ⟨i, him, rfl, hR⟩ := hrel
            by_cases hlt2 : i < m
            · obtain ⟨g3, C, tt, rfl, hFg, hbl, hcs⟩ := hR.out.1 (by omega)
              obtain ⟨x, hx⟩ := hcs i hlt2
              have k1 := (cell_here (o := i) hbl).trans hx
              have k2 := frozen_here hbl i
              have i0' : (0 : Int) ≤ i := by omega
              have i1' : (i : Int) < m := by omega
              have hir : decide ((i : Int) < m) = true := by simp; omega
              have HFg := Lib.hid hFg; have HBL := Lib.hid hbl; have HCS := Lib.hid hcs
              clear hFg hbl hcs hx
              go_wp2
              go_roundw
              case rel =>
                refine ⟨i + 1, by omega, by go_num, Lib.hid ⟨fun _ => ⟨g3, _, tt, rfl, HFg.out, set_here HBL.out _, fun y hy => ?_⟩, hR.out.2.set HFg.out _⟩⟩
                by_cases hyi : y = i
                · subst hyi
                  obtain ⟨x', hx'⟩ := HCS.out y hy
                  exact ⟨_, by rw [Array.getElem?_setIfInBounds_self_of_lt (Array.getElem?_eq_some_iff.1 hx').1]⟩
                · obtain ⟨x', hx'⟩ := HCS.out y hy
                  exact ⟨x', by rw [Array.getElem?_setIfInBounds_ne (Ne.symm hyi)]; exact hx'⟩
              case measure => simp [intOf]; omega
            · have hie : i = m := by omega
              subst hie
              have hir : decide ((i : Int) < i) = false := by simp
              have hT6 := hT'.out.2.2.mark K.out KR.out HF0.out hR.out.2
              have TW := Lib.hid hT6.two
              obtain ⟨S6, X6, hc6, ⟨v6, hr6, _⟩, _, _, _, hlow6, _⟩ := hT6
              obtain ⟨A0, c6, rfl, _⟩ := hr6.rd.news
              obtain ⟨L, hL⟩ : ∃ L, t'.b.length = L := ⟨_, rfl⟩
              obtain ⟨X, hX⟩ : ∃ X : ByteArray, X = ⟨t'.b.toArray⟩ := ⟨_, rfl⟩
              obtain ⟨sr, hsr⟩ : ∃ sr : Nat, t'.sure = sr := ⟨_, rfl⟩
              have hlen : t'.b.length ≤ 100000000 := by have := hT'.out.2.1; omega
              have cB : ∀ W, Below wr.heap.size wr W → Calls Try.prog 19 #[.pointer (some ⟨p, 0, none⟩)] W fun e w' => (∃ A c, e = .returned (.slice A L c) ∧ (convert 28 9 (.slice A L c)).run Try.prog w' = .ok (.string X) w' ∧ Hid (∀ W2, Below w'.heap.size w' W2 → (convert 28 9 (.slice A L c)).run Try.prog W2 = .ok (.string X) W2)) ∧ Below W.heap.size W w' := fun W hbw =>
                (HH.out.bytes W S6 p t' (HH.out.below hc6 hbw) hlen).mono fun e w' ⟨⟨A, c, he, hrd, _⟩, hb⟩ => by
                  rw [hL] at he hrd
                  have ht : ∀ W2, Below w'.heap.size w' W2 → (convert 28 9 (.slice A L c)).run Try.prog W2 = .ok (.string X) W2 := fun W2 h2 => by rw [hX]; exact (hrd.below h2).text
                  exact ⟨⟨A, c, he, ht w' (Below.refl _ _), ht⟩, hb⟩
              have cS : ∀ W, Below wr.heap.size wr W → Calls Try.prog 20 #[.pointer (some ⟨p, 0, none⟩)] W fun e w' => e = .returned (.int .i64 sr) ∧ Below W.heap.size W w' := fun W hbw => by
                rw [← hsr]
                exact HH.out.sure W S6 p t' (HH.out.below hc6 hbw)
              have cR : ∀ W, Below wr.heap.size wr W → W.cell? ⟨q, 0, none⟩ = some (.slice A0 L c6) ∧ W.cell? ⟨q, 1, none⟩ = some (.int .i64 sr) ∧ (convert 28 9 (.slice A0 L c6)).run Try.prog W = .ok (.string X) W := fun W hbw => by
                have h := hr6.below hbw
                obtain ⟨⟨b0, b1, _, _⟩, _⟩ := box4_of h.box
                have ht := h.rd.text
                rw [hL] at b0 ht
                rw [hsr] at b1
                rw [hX]
                exact ⟨b0, b1, ht⟩
              have CB := Lib.hid cB; have CS := Lib.hid cS; have CRR := Lib.hid cR
              have B0 : Hid (Below wr.heap.size wr wr.drew) := Lib.hid (Below.refl _ _).drew
              obtain ⟨r0, r1, r2⟩ := cR _ B0.out
              have hXX : (!X.toList == X.toList) = false := by simp
              clear cB cS cR hc6 hr6 hlow6 hL hX hsr hlen
              go_upto_region 30 with fail
              refine wp_region_held_drew (S := (fun W => W.cell? ⟨q, 0, none⟩ = some (.slice A0 L c6) ∧ W.cell? ⟨q, 1, none⟩ = some (.int .i64 sr) ∧ (convert 28 9 (.slice A0 L c6)).run Try.prog W = .ok (.string X) W)) (by kernel_rfl) (CRR.out _ B0.out) (fun hHeld => ?_)
              refine wpAnyH_take (i := 0) (oi := _) (v := ?v0) (by simp only [List.getElem?_toArray, List.getElem?_cons_succ, List.getElem?_cons_zero]; rfl) (by kernel_rfl) (by kernel_rfl) (by kernel_rfl) (by exact fun _ _ _ h => h) (Or.inl ⟨by rfl, ?hy0⟩) (by assumption) ?rest0
              case hy0 => (intro w hSw; (try dsimp only at hSw); go_simp; try with_reducible rfl)
              simp only [Act.put, List.setIfInBounds_toArray, List.set_cons_zero, List.set_cons_succ]
              refine wpAnyH_take (i := 1) (oi := _) (v := ?v1) (by simp only [List.getElem?_toArray, List.getElem?_cons_succ, List.getElem?_cons_zero]; rfl) (by kernel_rfl) (by kernel_rfl) (by kernel_rfl) (by exact fun _ _ _ h => h) (Or.inl ⟨by rfl, ?hy1⟩) (by assumption) ?rest1
              case hy1 => (intro w hSw; (try dsimp only at hSw); go_simp; try with_reducible rfl)
              simp only [Act.put, List.setIfInBounds_toArray, List.set_cons_zero, List.set_cons_succ]
              refine wpAnyH_take (i := 2) (oi := _) (v := ?v2) (by simp only [List.getElem?_toArray, List.getElem?_cons_succ, List.getElem?_cons_zero]; rfl) (by kernel_rfl) (by kernel_rfl) (by kernel_rfl) (by exact fun _ _ _ h => h) (Or.inl ⟨by rfl, ?hy2⟩) (by assumption) ?rest2
              case hy2 => (intro w hSw; (try dsimp only at hSw); go_simp; try with_reducible rfl)
              simp only [Act.put, List.setIfInBounds_toArray, List.set_cons_zero, List.set_cons_succ]
              refine wpAnyH_take (i := 3) (oi := _) (v := ?v3) (by simp only [List.getElem?_toArray, List.getElem?_cons_succ, List.getElem?_cons_zero]; rfl) (by kernel_rfl) (by kernel_rfl) (by kernel_rfl) (by exact fun _ _ _ h => h) (Or.inl ⟨by rfl, ?hy3⟩) (by assumption) ?rest3
              case hy3 => (intro w hSw; (try dsimp only at hSw); go_simp; try with_reducible rfl)
              simp only [Act.put, List.setIfInBounds_toArray, List.set_cons_zero, List.set_cons_succ]
              refine wpAnyH_take (i := 4) (oi := _) (v := ?v4) (by simp only [List.getElem?_toArray, List.getElem?_cons_succ, List.getElem?_cons_zero]; rfl) (by kernel_rfl) (by kernel_rfl) (by kernel_rfl) (by exact fun _ _ _ h => h) (Or.inl ⟨by rfl, ?hy4⟩) (by assumption) ?rest4
              case hy4 => (intro w hSw; (try dsimp only at hSw); go_simp; try with_reducible rfl)
              simp only [Act.put, List.setIfInBounds_toArray, List.set_cons_zero, List.set_cons_succ]
              refine wpAnyH_take (i := 7) (oi := _) (v := ?v7) (by simp only [List.getElem?_toArray, List.getElem?_cons_succ, List.getElem?_cons_zero]; rfl) (by kernel_rfl) (by kernel_rfl) (by kernel_rfl) (by exact fun _ _ _ h => h) (Or.inl ⟨by rfl, ?hy7⟩) (by assumption) ?rest7
              case hy7 => (intro w hSw; (try dsimp only at hSw); go_simp; try with_reducible rfl)
              simp only [Act.put, List.setIfInBounds_toArray, List.set_cons_zero, List.set_cons_succ]
              refine wpAnyH_take (i := 8) (oi := _) (v := ?v8) (by simp only [List.getElem?_toArray, List.getElem?_cons_succ, List.getElem?_cons_zero]; rfl) (by kernel_rfl) (by kernel_rfl) (by kernel_rfl) (by exact fun _ _ _ h => h) (Or.inl ⟨by rfl, ?hy8⟩) (by assumption) ?rest8
              case hy8 => (intro w hSw; (try dsimp only at hSw); go_simp; try with_reducible rfl)
              simp only [Act.put, List.setIfInBounds_toArray, List.set_cons_zero, List.set_cons_succ]
              refine wpAnyH_take (i := 9) (oi := _) (v := ?v9) (by simp only [List.getElem?_toArray, List.getElem?_cons_succ, List.getElem?_cons_zero]; rfl) (by kernel_rfl) (by kernel_rfl) (by kernel_rfl) (by exact fun _ _ _ h => h) (Or.inl ⟨by rfl, ?hy9⟩) (by assumption) ?rest9
              case hy9 => (intro w hSw; (try dsimp only at hSw); go_simp; try with_reducible rfl)
              simp only [Act.put, List.setIfInBounds_toArray, List.set_cons_zero, List.set_cons_succ]
              refine wpAnyH_take (i := 10) (oi := _) (v := ?v10) (by simp only [List.getElem?_toArray, List.getElem?_cons_succ, List.getElem?_cons_zero]; rfl) (by kernel_rfl) (by kernel_rfl) (by kernel_rfl) (by exact fun _ _ _ h => h) (Or.inl ⟨by rfl, ?hy10⟩) (by assumption) ?rest10
              case hy10 => (intro w hSw; (try dsimp only at hSw); go_simp; try with_reducible rfl)
              simp only [Act.put, List.setIfInBounds_toArray, List.set_cons_zero, List.set_cons_succ]
              refine wpAnyH_take (i := 11) (oi := _) (v := ?v11) (by simp only [List.getElem?_toArray, List.getElem?_cons_succ, List.getElem?_cons_zero]; rfl) (by kernel_rfl) (by kernel_rfl) (by kernel_rfl) (by exact fun _ _ _ h => h) (Or.inl ⟨by rfl, ?hy11⟩) (by assumption) ?rest11
              case hy11 => (intro w hSw; (try dsimp only at hSw); go_simp; try with_reducible rfl)
              simp only [Act.put, List.setIfInBounds_toArray, List.set_cons_zero, List.set_cons_succ]
              refine wpAnyH_ready (rs := [5]) (by kernel_rfl) (by simp) ?_
              refine AllReadyH.cons (o := _) (by simp only [List.getElem?_toArray, List.getElem?_cons_succ, List.getElem?_cons_zero]; rfl) (fun K hK => ?_) AllReadyH.nil
              go_simp
              go_at_call 19
              (with_reducible refine (CB.out _ B0.out).mono ?_)
              rintro e w8 ⟨⟨A8, c8, rfl, hcv, HCV⟩, hb8⟩
              have B8 := Lib.hid (B0.out.chain hb8); clear hb8
              dsimp only
              refine hK.out _ _ (CRR.out _ B8.out) (fun hHeld => ?_)
              clear hK K
              try simp only [Act.put, List.setIfInBounds_toArray, List.set_cons_zero, List.set_cons_succ]
              refine wpAnyH_ready (rs := [6]) (by kernel_rfl) (by simp) ?_
              refine AllReadyH.cons (o := _) (by simp only [List.getElem?_toArray, List.getElem?_cons_succ, List.getElem?_cons_zero]; rfl) (fun K hK => ?_) AllReadyH.nil
              go_simp
              refine hK.out _ _ (by assumption) (fun hHeld => ?_)
              clear hK K
              try simp only [Act.put, List.setIfInBounds_toArray, List.set_cons_zero, List.set_cons_succ]
              refine wpAnyH_take (i := 12) (oi := _) (v := ?v12) (by simp only [List.getElem?_toArray, List.getElem?_cons_succ, List.getElem?_cons_zero]; rfl) (by kernel_rfl) (by kernel_rfl) (by kernel_rfl) (by exact fun _ _ _ h => h) (Or.inl ⟨by rfl, ?hy12⟩) (by assumption) ?rest12
              case hy12 => (intro w hSw; (try dsimp only at hSw); go_simp; try with_reducible rfl)
              simp only [Act.put, List.setIfInBounds_toArray, List.set_cons_zero, List.set_cons_succ]
              refine wpAnyH_take (i := 13) (oi := _) (v := ?v13) (by simp only [List.getElem?_toArray, List.getElem?_cons_succ, List.getElem?_cons_zero]; rfl) (by kernel_rfl) (by kernel_rfl) (by kernel_rfl) (by exact fun _ _ _ h => h) (Or.inl ⟨by rfl, ?hy13⟩) (by assumption) ?rest13
              case hy13 => (intro w hSw; (try dsimp only at hSw); go_simp; try with_reducible rfl)
              simp only [Act.put, List.setIfInBounds_toArray, List.set_cons_zero, List.set_cons_succ]
              refine wpAnyH_take (i := 14) (oi := _) (v := ?v14) (by simp only [List.getElem?_toArray, List.getElem?_cons_succ, List.getElem?_cons_zero]; rfl) (by kernel_rfl) (by kernel_rfl) (by kernel_rfl) (by exact fun _ _ _ h => h) (Or.inl ⟨by rfl, ?hy14⟩) (by assumption) ?rest14
              case hy14 => (intro w hSw; (try dsimp only at hSw); go_simp; try with_reducible rfl)
              simp only [Act.put, List.setIfInBounds_toArray, List.set_cons_zero, List.set_cons_succ]
              refine wpAnyH_take (i := 15) (oi := _) (v := ?v15) (by simp only [List.getElem?_toArray, List.getElem?_cons_succ, List.getElem?_cons_zero]; rfl) (by kernel_rfl) (by kernel_rfl) (by kernel_rfl) (by exact fun _ _ _ h => h) (Or.inl ⟨by rfl, ?hy15⟩) (by assumption) ?rest15
              case hy15 => (intro w hSw; (try dsimp only at hSw); go_simp; try with_reducible rfl)
              simp only [Act.put, List.setIfInBounds_toArray, List.set_cons_zero, List.set_cons_succ]
              refine wpAnyH_take (i := 17) (oi := _) (v := ?v17) (by simp only [List.getElem?_toArray, List.getElem?_cons_succ, List.getElem?_cons_zero]; rfl) (by kernel_rfl) (by kernel_rfl) (by kernel_rfl) (by exact fun _ _ _ h => h) (Or.inl ⟨by rfl, ?hy17⟩) (by assumption) ?rest17
              case hy17 => (intro w hSw; (try dsimp only at hSw); go_simp; try with_reducible rfl)
              simp only [Act.put, List.setIfInBounds_toArray, List.set_cons_zero, List.set_cons_succ]
              refine wpAnyH_take (i := 18) (oi := _) (v := ?v18) (by simp only [List.getElem?_toArray, List.getElem?_cons_succ, List.getElem?_cons_zero]; rfl) (by kernel_rfl) (by kernel_rfl) (by kernel_rfl) (by exact fun _ _ _ h => h) (Or.inl ⟨by rfl, ?hy18⟩) (by assumption) ?rest18
              case hy18 => (intro w hSw; (try dsimp only at hSw); go_simp; try with_reducible rfl)
              simp only [Act.put, List.setIfInBounds_toArray, List.set_cons_zero, List.set_cons_succ]
              refine wpAnyH_take (i := 19) (oi := _) (v := ?v19) (by simp only [List.getElem?_toArray, List.getElem?_cons_succ, List.getElem?_cons_zero]; rfl) (by kernel_rfl) (by kernel_rfl) (by kernel_rfl) (by exact fun _ _ _ h => h) (Or.inl ⟨by rfl, ?hy19⟩) (by assumption) ?rest19
              case hy19 => (intro w hSw; (try dsimp only at hSw); go_simp; try with_reducible rfl)
              simp only [Act.put, List.setIfInBounds_toArray, List.set_cons_zero, List.set_cons_succ]
              refine wpAnyH_take (i := 20) (oi := _) (v := ?v20) (by simp only [List.getElem?_toArray, List.getElem?_cons_succ, List.getElem?_cons_zero]; rfl) (by kernel_rfl) (by kernel_rfl) (by kernel_rfl) (by exact fun _ _ _ h => h) (Or.inl ⟨by rfl, ?hy20⟩) (by assumption) ?rest20
              case hy20 => (intro w hSw; (try dsimp only at hSw); go_simp; try with_reducible rfl)
              simp only [Act.put, List.setIfInBounds_toArray, List.set_cons_zero, List.set_cons_succ]
              refine wpAnyH_ready (rs := [16]) (by kernel_rfl) (by simp) ?_
              refine AllReadyH.cons (o := _) (by simp only [List.getElem?_toArray, List.getElem?_cons_succ, List.getElem?_cons_zero]; rfl) (fun K hK => ?_) AllReadyH.nil
              go_simp
              go_at_call 20
              (with_reducible refine (CS.out _ B8.out).mono ?_)
              rintro e w9 ⟨rfl, hb9⟩
              have B9 := Lib.hid (B8.out.chain hb9); clear hb9
              dsimp only
              refine hK.out _ _ (CRR.out _ B9.out) (fun hHeld => ?_)
              clear hK K
              try simp only [Act.put, List.setIfInBounds_toArray, List.set_cons_zero, List.set_cons_succ]
              refine wpAnyH_take (i := 21) (oi := _) (v := ?v21) (by simp only [List.getElem?_toArray, List.getElem?_cons_succ, List.getElem?_cons_zero]; rfl) (by kernel_rfl) (by kernel_rfl) (by kernel_rfl) (by exact fun _ _ _ h => h) (Or.inl ⟨by rfl, ?hy21⟩) (by assumption) ?rest21
              case hy21 => (intro w hSw; (try dsimp only at hSw); go_simp; try with_reducible rfl)
              simp only [Act.put, List.setIfInBounds_toArray, List.set_cons_zero, List.set_cons_succ]
              refine wpAnyH_take (i := 22) (oi := _) (v := ?v22) (by simp only [List.getElem?_toArray, List.getElem?_cons_succ, List.getElem?_cons_zero]; rfl) (by kernel_rfl) (by kernel_rfl) (by kernel_rfl) (by exact fun _ _ _ h => h) (Or.inl ⟨by rfl, ?hy22⟩) (by assumption) ?rest22
              case hy22 => (intro w hSw; (try dsimp only at hSw); go_simp; try with_reducible rfl)
              simp only [Act.put, List.setIfInBounds_toArray, List.set_cons_zero, List.set_cons_succ]
              refine wpAnyH_done (by kernel_rfl) ?_ _
              all_goals
                have HTL := Lib.hid (TW.out.later K.out KR.out B9.out)
                go_wp2
                go_roundw
                case rel => exact ⟨k + 1, t', by omega, by go_num, Lib.hid ⟨hT'.out.1, hT'.out.2.1, HTL.out⟩⟩
                case measure => simp [intOf]; omega
    · obtain rfl : k = n := by omega
      have hkr : decide ((k : Int) < k) = false := by simp
      go_wp2_with fail
      refine (h8.out _).mono ?_
      rintro e w3 ⟨rfl, hb3⟩
      have HB3 := Lib.hid hb3; clear hb3
      dsimp only
      go_wp2
      go_ret
      exact ⟨rfl, hT.out.2.2.low.chain HB3.out⟩
end Go.Proofs.Ytokijikcgoihmaa
