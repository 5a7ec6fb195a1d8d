/- Texts merged by program, in build order: StoreOpenC, StoreIs, StoreLIs, RowTexts, LinkIs, LinkGo. -/
import Derived.Test.YtkbjpgfdmkmbmaaGreatDoorG18
import Derived.Test.YtkbjpgfdmkmbmaaGreatDoorG10
import Derived.Test.YtkbjpgfdmkmbmaaGreatDoorG12
import Derived.Test.YtkbjpgfdmkmbmaaGreatDoorG15
import Derived.Test.YtkbjpgfdmkmbmaaGreatDoorG17
import Derived.Test.YtkbjpgfdmkmbmaaGreatDoorG13
import Derived.Test.YtkbjpgfdmkmbmaaGreatDoorG07
import Derived.Test.YtkbjpgfdmkmbmaaGreatDoorG16
import Derived.Lib.AppendIntMem
import Derived.Deep.Cut
import Derived.Test.YtkbjpgfdmkmbmaaGreatDoorG03
set_option linter.unusedVariables false
set_option linter.unusedSimpArgs false
namespace Go.Proofs.YtkbjpgfdmkmbmaaGreatDoor
open Go.RowKit Go.Maps
set_option linter.unusedVariables false
set_option linter.unusedSimpArgs false

theorem changes_of {b : List UInt8} {l : List Ch} (h : changesL b = some l) : recL l = b := by
  unfold changesL at h
  split at h
  · split at h
    · cases h
    · split at h
      · rename_i he
        injection h with h
        subst h
        exact he
      · cases h
  · cases h
theorem openS_none {t : TP} (h : foldR [] (splitL t.b).1 = none) : openS t = (2, [], t) := by
  unfold openS
  rw [h]
theorem openS_some {t : TP} {rows : RowL} (h : foldR [] (splitL t.b).1 = some rows) : openS t = if (splitL t.b).2 < t.b.length then
      (if (t.swap (t.b.take (splitL t.b).2)).2 = 0 then (0, rows, (t.swap (t.b.take (splitL t.b).2)).1) else ((t.swap (t.b.take (splitL t.b).2)).2, [], (t.swap (t.b.take (splitL t.b).2)).1))
    else (0, rows, t) := by
  unfold openS
  rw [h]
/-- what an opening comes to -/
def OpenIs (w : World) (T : Nat → Prop) (q : Nat) (t : TP) (e : Ending) (w' : World) : Prop :=
    (∃ T' : Nat → Prop, CT w' T' q (openS t).2.2 ∧ (∀ b, T' b → T b ∨ w.heap.size ≤ b) ∧
      (((openS t).1 = 0 ∧ ∃ p S, e = .returned (.tuple #[.pointer (some ⟨p, 0, none⟩), .int .i64 0]) ∧ CStore w' S p q (openS t).2.1 ∧ (∀ b, S b → w.heap.size ≤ b ∧ ¬ T' b)) ∨
       ((openS t).1 ≠ 0 ∧ e = .returned (.tuple #[.pointer none, .int .i64 (openS t).1])))) ∧ Only T w w'
set_option maxRecDepth 100000 in
set_option maxHeartbeats 4000000 in
theorem sopen_any (w : World) (T : Nat → Prop) (q : Nat) (t : TP) (hct : CT w T q t) (ht : t.Ok) (htl : t.b.length ≤ 100000) (hro : RoundsIn w) : Calls Tryz.prog 15 #[.pointer (some ⟨q, 0, none⟩)] w fun e w' => OpenIs w T q t e w' := by
  have hby := tapeW.bytes w T q t hct (by omega)
  have hsum := splitL_sum t.b
  have heat := splitL_eat t.b
  have hfew := splitL_few t.b
  obtain ⟨tl, htle⟩ : ∃ n, t.b.length = n := ⟨_, rfl⟩
  obtain ⟨LS, hLS⟩ : ∃ LS, (splitL t.b).1 = LS := ⟨_, rfl⟩
  obtain ⟨NE, hNE⟩ : ∃ NE, (splitL t.b).2 = NE := ⟨_, rfl⟩
  have hop1 := openS_none (t := t)
  have hop2 := fun rows => openS_some (t := t) (rows := rows)
  rw [hLS] at hop1
  simp only [hLS, hNE, htle] at hop2
  have hsp := fun W A c (hb : Below w.heap.size w W) => codeFrame.split W A c t.b (by omega) (hro.below hb)
  rw [htle] at hby
  simp only [htle, hLS, hNE] at hsp
  rw [htle, hLS] at hsum hfew
  rw [htle, hNE] at heat
  rw [htle] at htl
  have BY := Lib.hid hby; have SP := Lib.hid hsp; have SUM := Lib.hid hsum; have EAT := Lib.hid heat; have FEW := Lib.hid hfew; have HOP1 := Lib.hid hop1; have HOP2 := Lib.hid hop2; have HCT := Lib.hid hct; have OK := Lib.hid ht; have HTLE := Lib.hid htle
  clear hby hsp hsum heat hfew hop1 hop2 hct ht htle hLS hNE hro
  go_enter Tryz.func15, Tryz.ntmps15
  go_wp2_with fail
  refine BY.out.mono ?_
  rintro e w1 ⟨⟨A1, c1, rfl, hr1, hn1⟩, hb1⟩
  have hsp := SP.out w1 A1 c1 hb1 hr1.weak
  have S1 := Lib.hid hsp; have R1 := Lib.hid hr1; have N1 := Lib.hid hn1; have B1 := Lib.hid hb1
  clear hsp hr1 hn1 hb1
  dsimp only
  go_wp2_with fail
  refine S1.out.mono ?_
  rintro e w2 ⟨⟨v2, rfl, hrow⟩, hb2⟩
  obtain ⟨A2, c2, hv2⟩ : ∃ A2 c2, v2 = .slice A2 LS.length c2 := by
    obtain ⟨A2, c2, e, _⟩ := hrow
    exact ⟨A2, c2, e⟩
  subst hv2
  obtain ⟨n, hn⟩ : ∃ n, LS.length = n := ⟨_, rfl⟩
  rw [hn]
  have HN := Lib.hid hn; have ROW := Lib.hid hrow; have B2 := Lib.hid (B1.out.chain hb2); have B12 := Lib.hid hb2
  have hnb : n ≤ 100000 := by have := FEW.out; omega
  clear hn hrow hb2
  have hmm := @run_makeMap Tryz.prog
  dsimp only
  go_wp2_with fail
  obtain ⟨W0, hW0⟩ : ∃ W, W = w2.alloc (.map #[] 0) := ⟨_, rfl⟩
  have hb0 : Below w2.heap.size w2 W0 := by rw [hW0]; exact (Below.refl _ _).alloc (Nat.le_refl _) _
  have hm0 : MapAt W0 w2.heap.size [] := by rw [hW0]; exact mapAt_made w2
  rw [← hW0]
  have BW0 := Lib.hid hb0; have M0 := Lib.hid hm0
  clear hW0 hb0 hm0 hmm
  go_loopw [9, 10, 11, 25] (fun _ _ _ i W => ∃ (k : Nat) (rows : RowL), k ≤ n ∧ i = .int .i64 k ∧ Hid (MapAt W w2.heap.size rows ∧ foldR [] (LS.take k) = some rows ∧ Below w2.heap.size w2 W)) (fun _ _ _ i _ => n - (intOf i).toNat)
  case atStart => exact ⟨0, [], Nat.zero_le _, rfl, Lib.hid ⟨M0.out, by rw [List.take_zero]; rfl, BW0.out⟩⟩
  case round =>
    obtain ⟨k, rows, hk, rfl, hT⟩ := hrel
    by_cases hlt : k < n
    · have hkr : decide ((k : Int) < n) = true := by simp; omega
      have hk0 : (0 : Int) ≤ k := by omega
      have hk1 : (k : Int) < n := by omega
      have hkl : k < LS.length := by rw [HN.out]; exact hlt
      obtain ⟨A', c', e, hcc, hrow⟩ := ROW.out.below hT.out.2.2
      cases e
      obtain ⟨g, o, u, rfl, hg, e0, hru⟩ := hrow k _ (List.getElem?_eq_getElem hkl)
      obtain ⟨x, hx⟩ : ∃ x, LS[k] = x := ⟨_, rfl⟩
      rw [hx] at hru
      obtain ⟨au, cu, rfl⟩ := rdw_form hru
      have hxl : x.length ≤ tl := Nat.le_trans (mem_flat LS x (by rw [← hx]; exact List.getElem_mem hkl)) SUM.out
      have htk : LS.take (k + 1) = LS.take k ++ [x] := by rw [List.take_succ_eq_append_getElem hkl, hx]
      have hdr : LS = LS.take k ++ x :: LS.drop (k + 1) := by rw [← hx, List.getElem_cons_drop, List.take_append_drop]
      have hrd := sread_any au x.length cu x rfl (by omega) wr hru
      have hch := read_changes x (by omega)
      have hfl := foldR_len _ _ _ hT.out.2.1
      have hfl2 : (LS.take k).flatten.length ≤ tl := by
        have h1 := SUM.out
        rw [hdr, List.flatten_append, List.length_append] at h1
        omega
      have hrl : rows.length ≤ 100000 := by rw [List.length_nil] at hfl; omega
      have hnone : changesL x = none → openS t = (2, [], t) := fun h => HOP1.out (by rw [hdr]; exact foldR_none _ _ _ _ _ hT.out.2.1 h)
      have hsome : ∀ l, changesL x = some l → foldR [] (LS.take (k + 1)) = some (turnL rows l) := fun l h => by
        rw [htk, foldR_snoc, hT.out.2.1]
        dsimp only
        rw [h]
      obtain ⟨m, hm⟩ : ∃ m, x.length = m := ⟨_, rfl⟩
      rw [hm] at hrd e0 hxl
      have RD := Lib.hid hrd; have HCH := Lib.hid hch; have NONE := Lib.hid hnone; have SOME := Lib.hid hsome; have HM := Lib.hid hm
      clear hrd hch hfl hfl2 hnone hsome hm htk hdr hru hx hrow hcc hkl hg
      go_wp2_with fail
      refine RD.out.mono ?_
      rintro e w3 ⟨hR, hb3⟩
      have B3 := Lib.hid (hT.out.2.2.chain hb3)
      have hm3 := hT.out.1.below hb3
      have M3 := Lib.hid hm3
      clear hb3 hm3
      rcases hR with ⟨hno, rfl⟩ | ⟨l, Al, cl, hl, rfl, hrl2⟩
      · have ho := NONE.out (by rw [← HCH.out]; exact hno)
        have hend : OpenIs w T q t (.returned (.tuple #[.pointer none, .int .i64 2])) w3 := by
          unfold OpenIs
          rw [ho]
          exact ⟨⟨T, tapeW.below HCT.out (B2.out.chain B3.out), fun b hb => .inl hb, .inr ⟨by show (2 : Int) ≠ 0; decide, rfl⟩⟩, Only.of_below (B2.out.chain B3.out)⟩
        have HEND := Lib.hid hend
        clear ho hend hno
        dsimp only
        go_wp2
        go_ret2
        exact HEND.out
      · have hcs : changesL x = some l := by rw [← HCH.out]; exact hl
        have hnext := SOME.out l hcs
        have hrec := changes_of hcs
        have hzx : ∀ y ∈ l, y.key.length ≤ 10000000 ∧ y.val.length ≤ 10000000 := fun y hy => by
          have := recOne_le l y hy
          rw [hrec, HM.out] at this
          omega
        have hll : l.length ≤ 1000000000 := by
          have := changes_len hcs
          rw [HM.out] at this
          omega
        obtain ⟨ln, hln⟩ : ∃ n, l.length = n := ⟨_, rfl⟩
        rw [hln] at hrl2 hll ⊢
        have hcg := schange_any w2.heap.size rows Al ln cl l hln hll hzx (by omega) w3 M3.out hrl2
        have CG := Lib.hid hcg; have NX := Lib.hid hnext
        clear hcg hnext hrec hzx hll hln hrl2 hcs hl
        dsimp only
        go_wp2_with fail
        refine CG.out.mono ?_
        rintro e w4 ⟨rfl, hm4, ho4⟩
        have hb4 : Below w2.heap.size w2 w4 := B3.out.trans (ho4.below B3.out.size (fun i hi => by rw [hi]; exact Nat.le_refl _))
        have M4 := Lib.hid hm4; have B4 := Lib.hid hb4
        clear hm4 ho4 hb4
        dsimp only
        go_wp2
        go_roundw
        case rel => exact ⟨k + 1, _, by omega, by go_num, Lib.hid ⟨M4.out, NX.out, B4.out⟩⟩
        case measure => simp [intOf]; omega
    · obtain rfl : k = n := by omega
      have hkr : decide ((k : Int) < k) = false := by simp
      have htk : LS.take k = LS := by rw [← HN.out]; exact List.take_length
      have hf := hT.out.2.1
      rw [htk] at hf
      have ho := HOP2.out rows hf
      have hbT : ¬ T w2.heap.size := fun e => by have := tapeW.lt HCT.out _ e; have := B2.out.size; omega
      have hbw := B2.out.chain hT.out.2.2
      by_cases hlt : NE < tl
      · rw [if_pos hlt] at ho
        have hr2 : RdAt wr (.slice A1 t.b.length c1) t.b := by rw [HTLE.out]; exact R1.out.below (B12.out.chain hT.out.2.2)
        have htkb := hr2.take NE (by rw [HTLE.out]; omega)
        have hcap : tl ≤ c1 ∧ ∃ g1 o1, A1 = some ⟨g1, o1, none⟩ := by
          obtain ⟨A', c', e, h1, h2, h3⟩ := hr2
          cases e
          rw [HTLE.out] at h1 h3
          refine ⟨h1, ?_⟩
          rcases h3 with ⟨_, h0, _⟩ | ⟨g1, o1, e, _⟩
          · omega
          · exact ⟨g1, o1, e⟩
        have hsw := tapeW.swap wr T q t (.slice A1 NE c1) (t.b.take NE) (tapeW.below HCT.out hbw) OK.out (by rw [HTLE.out]; omega) htkb (by rw [List.length_take, HTLE.out]; omega) (fun g hg hTg => by
          have h1 := N1.out g (by cases A1 <;> exact hg)
          have h2 := tapeW.lt HCT.out g hTg
          omega)
        obtain ⟨hcc, g1, o1, hA1⟩ := hcap
        subst hA1
        obtain ⟨SW, hSW⟩ : ∃ x, t.swap (t.b.take NE) = x := ⟨_, rfl⟩
        rw [hSW] at ho hsw
        obtain ⟨E1, hE1⟩ : ∃ E, SW.2 = E := ⟨_, rfl⟩
        rw [hE1] at ho hsw
        have q1 : (NE : Int) ≤ c1 := by omega
        have q2 : decide ((NE : Int) < tl) = true := by simp; omega
        have q3 : (NE : Int) < tl := by omega
        have q4 : (tl : Int) ≤ c1 := by omega
        have HO := Lib.hid ho; have SWC := Lib.hid hsw; have HBT := Lib.hid hbT; have HBW := Lib.hid hbw
        clear ho hsw hbT hbw hSW hE1 htkb hr2 hf htk
        go_wp2_with fail
        refine SWC.out.mono ?_
        rintro e w3 ⟨rfl, ⟨T', hct', hT'⟩, ho3⟩
        have hm3 : MapAt w3 w2.heap.size rows := hT.out.1.keep (ho3.block _ hT.out.1.lt HBT.out)
        have hoo : Only T w w3 := (Only.of_below HBW.out).trans ho3
        have hTw : ∀ x, T' x → T x ∨ w.heap.size ≤ x := fun x hx => (hT' x hx).imp id (fun h => Nat.le_trans HBW.out.size h)
        by_cases hE : E1 = 0
        · subst hE
          have ho := HO.out
          rw [if_pos rfl] at ho
          obtain ⟨W3, hW3⟩ : ∃ W, W = w3.alloc (.cells #[.pointer (some ⟨q, 0, none⟩), .map (some w2.heap.size)] 70 (0, 0)) := ⟨_, rfl⟩
          have hb3 : Below w3.heap.size w3 W3 := by rw [hW3]; exact (Below.refl _ _).alloc (Nat.le_refl _) _
          have k3 : W3.heap[w3.heap.size]? = some (.cells #[.pointer (some ⟨q, 0, none⟩), .map (some w2.heap.size)] 70 (0, 0)) := by rw [hW3]; exact heap_alloc_last w3 _
          have hend : OpenIs w T q t (.returned (.tuple #[.pointer (some ⟨w3.heap.size, 0, none⟩), .int .i64 0])) W3 := by
            unfold OpenIs
            rw [ho]
            refine ⟨⟨T', tapeW.below hct' hb3, hTw, .inl ⟨rfl, w3.heap.size, fun x => x = w3.heap.size ∨ x = w2.heap.size, rfl, ⟨w2.heap.size, k3, hm3.below hb3, fun x => Iff.rfl⟩, ?_⟩⟩, hoo.trans (Only.of_below hb3)⟩
            rintro x (rfl | rfl)
            · exact ⟨hoo.size, fun e => by have := tapeW.lt hct' _ e; omega⟩
            · refine ⟨B2.out.size, fun e => ?_⟩
              rcases hT' _ e with h | h
              · exact HBT.out h
              · have := hT.out.1.lt; omega
          have HEND := Lib.hid hend; have HW3 := Lib.hid hW3
          clear hend ho hb3 k3 hW3 hct' hT' ho3 hm3 hoo hTw
          dsimp only
          go_wp2
          rw [← HW3.out]
          go_ret2
          exact HEND.out
        · have ho := HO.out
          rw [if_neg hE] at ho
          have hend : OpenIs w T q t (.returned (.tuple #[.pointer none, .int .i64 E1])) w3 := by
            unfold OpenIs
            rw [ho]
            exact ⟨⟨T', hct', hTw, .inr ⟨hE, rfl⟩⟩, hoo⟩
          have HEND := Lib.hid hend
          clear hend ho hct' hT' ho3 hm3 hoo hTw
          dsimp only
          go_wp2
          go_ret2
          exact HEND.out
      · rw [if_neg hlt] at ho
        have q1 : decide ((NE : Int) < tl) = false := by simp; omega
        have q2 : ¬ (NE : Int) < tl := by omega
        obtain ⟨W3, hW3⟩ : ∃ W, W = wr.alloc (.cells #[.pointer (some ⟨q, 0, none⟩), .map (some w2.heap.size)] 70 (0, 0)) := ⟨_, rfl⟩
        have hb3 : Below wr.heap.size wr W3 := by rw [hW3]; exact (Below.refl _ _).alloc (Nat.le_refl _) _
        have k3 : W3.heap[wr.heap.size]? = some (.cells #[.pointer (some ⟨q, 0, none⟩), .map (some w2.heap.size)] 70 (0, 0)) := by rw [hW3]; exact heap_alloc_last wr _
        have hct3 := tapeW.below HCT.out (hbw.chain hb3)
        have hend : OpenIs w T q t (.returned (.tuple #[.pointer (some ⟨wr.heap.size, 0, none⟩), .int .i64 0])) W3 := by
          unfold OpenIs
          rw [ho]
          refine ⟨⟨T, hct3, fun b hb => .inl hb, .inl ⟨rfl, wr.heap.size, fun x => x = wr.heap.size ∨ x = w2.heap.size, rfl, ⟨w2.heap.size, k3, hT.out.1.below hb3, fun x => Iff.rfl⟩, ?_⟩⟩, Only.of_below (hbw.chain hb3)⟩
          rintro x (rfl | rfl)
          · exact ⟨hbw.size, fun e => by have := tapeW.lt HCT.out _ e; have := hbw.size; omega⟩
          · exact ⟨B2.out.size, hbT⟩
        have HEND := Lib.hid hend; have HW3 := Lib.hid hW3
        clear hend ho hf htk hb3 k3 hct3 hW3 hbT hbw
        go_wp2
        rw [← HW3.out]
        go_ret2
        exact HEND.out
end Go.Proofs.YtkbjpgfdmkmbmaaGreatDoor
namespace Go.Proofs.YtkbjpgfdmkmbmaaGreatDoor
open Go.RowKit Go.Maps
set_option linter.unusedVariables false
set_option linter.unusedSimpArgs false

theorem keyOf_any (k : List UInt8) (h : k.length ≤ maxLen) : keyOf Tryz.prog 9 (.string ⟨k.toArray⟩) = some (.string k) := by
  have := Go.WideMaps.keyOf_string_mk (P := Tryz.prog) (k := 9) Tryz.underlying9 (s := ⟨k.toArray⟩) (by simpa [ByteArray.size] using h)
  simpa using this
set_option maxRecDepth 100000 in
/-- 'v, ok := m[k]', of whatever key -/
theorem MapAt.look_ok {w : World} {b : Nat} {rows : RowL} (h : MapAt w b rows) (k : List UInt8) : (Instr.lookup 65 (.map (some b)) (.string ⟨k.toArray⟩) true).run Tryz.prog w = .ok (.tuple #[rowV ((getR rows k).getD []), .bool (getR rows k).isSome]) w := by
  by_cases hk : k.length ≤ maxLen
  · obtain ⟨u, ps, hrun, hv⟩ := h.own.look_ok keyedS Tryz.underMap (zero_row w) (rowE_mk []) (keyOf_any k hk)
    rw [at_rows] at hv
    rw [has_rows] at hrun
    obtain ⟨x, hx1, hx⟩ := rowE_inv hv
    rw [hrun, hx1]
    cases hg : getR rows k with
    | none =>
      rw [hg] at hx
      injection hx with hx _
      injection hx with hx
      injection hx with hx
      rw [← hx]
      rfl
    | some v =>
      rw [hg] at hx
      injection hx with hx _
      injection hx with hx
      injection hx with hx
      rw [← hx]
      rfl
  · have hno : getR rows k = none := by
      cases hg : getR rows k with
      | none => rfl
      | some v =>
        have hmem : ∀ (l : RowL), getR l k = some v → ∃ r ∈ l, r.1 = k := fun l => by
          induction l with
          | nil => intro e; cases e
          | cons r l ih =>
            intro e
            by_cases hr : r.1 = k
            · exact ⟨r, List.mem_cons_self .., hr⟩
            · have e : (if r.1 = k then some r.2 else getR l k) = some v := e
              rw [if_neg hr] at e
              obtain ⟨x, hx, hk⟩ := ih e
              exact ⟨x, List.mem_cons_of_mem _ hx, hk⟩
        obtain ⟨r, hr, e⟩ := hmem rows hg
        have := h.keys_le r hr
        rw [e] at this
        exact absurd this hk
    obtain ⟨⟨es, clock, hb, F, _, _⟩, _⟩ := h
    have hkeys : ∀ x ∈ es.toList, ∃ s : ByteArray, x.key = .string s ∧ s.size ≤ maxLen := fun x hx => by
      obtain ⟨y, hy⟩ := F.reads x hx
      obtain ⟨z, hz, _, hl⟩ := Maps.keyOf_str Tryz.underlying9 (Go.WideElems.rd_key hy)
      exact ⟨⟨z.toArray⟩, hz, by simpa [ByteArray.size] using hl⟩
    have hf : (Instr.findKey 9 (.string ⟨k.toArray⟩) es.toList).run Tryz.prog w = .ok none w := by
      refine MapKept.run_findKey Tryz.underlying9 ?_
      rcases MapKept.findNow_spec (d := .string) (k := .string ⟨k.toArray⟩) trivial es.toList 0 (fun x hx => by obtain ⟨s, e, _⟩ := hkeys x hx; rw [e]; trivial) with ⟨h1, _⟩ | ⟨j, e, h1, h2, h3⟩
      · exact h1
      · obtain ⟨s, e1, hs⟩ := hkeys e (List.mem_of_getElem? h2)
        rw [h3] at e1
        injection e1 with e1
        rw [← e1] at hs
        exact absurd (by simpa [ByteArray.size] using hs) hk
    have hc : (Instr.checkKey true 10000 9 (.string ⟨k.toArray⟩)).run Tryz.prog w = .ok () w := MapKept.run_checkKey Tryz.underlying9 (k := .string ⟨k.toArray⟩) trivial true 9999
    have hc2 : ∀ em, (Instr.checkKey em 10000 9 (.string ⟨k.toArray⟩)).run Tryz.prog w = .ok () w := fun em => MapKept.run_checkKey Tryz.underlying9 (k := .string ⟨k.toArray⟩) trivial em 9999
    rw [hno]
    simp [Instr.lookup, run_underlying Tryz.underMap, MapKept.run_getObj_map hb, hc2, hf, zero_row, Result.andThen]
    rfl
set_option maxRecDepth 100000 in
theorem sget_any (w : World) (S : Nat → Prop) (p q : Nat) (rows : RowL) (k : List UInt8) (h : CStore w S p q rows) : Calls Tryz.prog 19 #[.pointer (some ⟨p, 0, none⟩), .string ⟨k.toArray⟩] w fun e w' => e = .returned (getV (getR rows k)) ∧ Below w.heap.size w w' := by
  obtain ⟨b, hbx, hm, -⟩ := h
  have hlk := hm.look_ok k
  have c0 : w.cell? ⟨p, 0, none⟩ = some (.pointer (some ⟨q, 0, none⟩)) := (cell_here hbx).trans rfl
  have c1 : w.cell? ⟨p, 1, none⟩ = some (.map (some b)) := (cell_here hbx).trans rfl
  obtain ⟨SK, hSK⟩ : ∃ S : ByteArray, S = ⟨k.toArray⟩ := ⟨_, rfl⟩
  obtain ⟨SV, hSV⟩ : ∃ S : ByteArray, S = ⟨((getR rows k).getD []).toArray⟩ := ⟨_, rfl⟩
  obtain ⟨G, hG⟩ : ∃ G, (getR rows k).isSome = G := ⟨_, rfl⟩
  have hgv : getV (getR rows k) = .tuple #[.string SV, .bool G] := by
    rw [hSV, ← hG]
    cases getR rows k <;> rfl
  unfold rowV at hlk
  rw [← hSK, ← hSV, hG] at hlk
  rw [hgv, ← hSK]
  obtain ⟨W1, hW1⟩ : ∃ W, W = w.alloc (.cells #[.string SV] 78 (0, 0)) := ⟨_, rfl⟩
  have hb1 : Below w.heap.size w W1 := by rw [hW1]; exact (Below.refl _ _).alloc (Nat.le_refl _) _
  have k1 : W1.heap[w.heap.size]? = some (.cells #[.string SV] 78 (0, 0)) := by rw [hW1]; exact heap_alloc_last w _
  have e0 : W1.cell? ⟨w.heap.size, 0, none⟩ = some (.string SV) := cell_here k1
  have HW1 := Lib.hid hW1; have B1 := Lib.hid hb1
  clear hgv hG hSV hSK hbx hm hW1 hb1 k1
  go_enter Tryz.func19, Tryz.ntmps19
  go_upto_region 4 with fail
  rw [← HW1.out]
  go_wp2
  go_ret2
  exact ⟨rfl, B1.out⟩
set_option maxRecDepth 100000 in
theorem sget_nil (w : World) (k : ByteArray) : Calls Tryz.prog 19 #[.pointer none, .string k] w fun e w' => e = .returned (getV none) ∧ Below w.heap.size w w' := by
  have hgv : getV none = .tuple #[.string ⟨#[]⟩, .bool false] := rfl
  rw [hgv]
  clear hgv
  go_enter Tryz.func19, Tryz.ntmps19
  go_wp2
  go_ret2
  exact ⟨rfl, Below.refl _ _⟩
set_option maxRecDepth 100000 in
theorem skeysM_any (w : World) (S : Nat → Prop) (p q : Nat) (rows : RowL) (k : List UInt8) (h : CStore w S p q rows) (hl : rows.length ≤ 100000) (hk : k.length ≤ 1000000000000000) : Calls Tryz.prog 23 #[.pointer (some ⟨p, 0, none⟩), .string ⟨k.toArray⟩] w fun e w' => (∃ v, e = .returned v ∧ RdT w' v (keysR rows k)) ∧ Below w.heap.size w w' := by
  obtain ⟨b, hbx, hm, -⟩ := h
  have hks := skeys_any b rows k (by omega) w hm
  have c0 : w.cell? ⟨p, 0, none⟩ = some (.pointer (some ⟨q, 0, none⟩)) := (cell_here hbx).trans rfl
  have c1 : w.cell? ⟨p, 1, none⟩ = some (.map (some b)) := (cell_here hbx).trans rfl
  have KS := Lib.hid hks
  clear hks hbx hm
  go_enter Tryz.func23, Tryz.ntmps23
  go_wp2_with fail
  refine KS.out.mono ?_
  rintro e w1 ⟨⟨v, rfl, hr⟩, hb1⟩
  have B1 := Lib.hid hb1; have R1 := Lib.hid hr
  clear hb1 hr
  dsimp only
  go_wp2
  go_ret
  exact ⟨⟨v, rfl, R1.out⟩, B1.out⟩
set_option maxRecDepth 100000 in
theorem skeysM_nil (w : World) (k : ByteArray) : Calls Tryz.prog 23 #[.pointer none, .string k] w fun e w' => (∃ A c, e = .returned (.slice A 0 c)) ∧ Below w.heap.size w w' := by
  go_enter Tryz.func23, Tryz.ntmps23
  go_wp2
  go_ret
  exact ⟨⟨none, 0, rfl⟩, Below.refl _ _⟩
set_option maxRecDepth 100000 in
theorem sdo_nil (w : World) (v : Value) : Calls Tryz.prog 17 #[.pointer none, v] w fun e w' => e = .returned (.int .i64 1) ∧ Below w.heap.size w w' := by
  go_enter Tryz.func17, Tryz.ntmps17
  go_wp2
  go_ret
  exact ⟨rfl, Below.refl _ _⟩
set_option maxRecDepth 100000 in
theorem sopen_nil (w : World) : Calls Tryz.prog 15 #[.pointer none] w fun e w' => e = .returned (.tuple #[.pointer none, .int .i64 1]) ∧ Below w.heap.size w w' := by
  go_enter Tryz.func15, Tryz.ntmps15
  go_wp2
  go_ret2
  exact ⟨rfl, Below.refl _ _⟩
/-- THE LANDED STORE -/
theorem codeStore : CodeStore CT CStore where
  keep := fun {w w' S p q rows} h hs hb => by
    obtain ⟨b, hbx, hm, hS⟩ := h
    exact ⟨b, (hb p ((hS p).2 (.inl rfl))).trans hbx, hm.keep (hb b ((hS b).2 (.inr rfl))), hS⟩
  lt := fun {w S p q rows} h b hb => by
    obtain ⟨m, hbx, hm, hS⟩ := h
    rcases (hS b).1 hb with rfl | rfl
    · exact (Array.getElem?_eq_some_iff.1 hbx).1
    · exact hm.lt
  rising := fun {w S p q rows} h => by
    obtain ⟨m, hbx, hm, hS⟩ := h
    exact hm.rising
  open_ := sopen_any
  nopen := sopen_nil
  do_ := fun w T S p q t rows A c l hct hcs hST ht htl hr hro h hl hz hz2 _ => sdo_any T S p q t rows A c l w hct hcs hST ht htl hr hro h hl hz hz2
  ndo := fun w v l _ => sdo_nil w v
  get := sget_any
  nget := sget_nil
  keys := skeysM_any
  nkeys := skeysM_nil
end Go.Proofs.YtkbjpgfdmkmbmaaGreatDoor
namespace Go.Proofs.YtkbjpgfdmkmbmaaGreatDoor
theorem tapeL : TapeL CT := ⟨tapeW.keep, tapeW.lt, tapeW.new⟩
end Go.Proofs.YtkbjpgfdmkmbmaaGreatDoor
namespace Go.Proofs.YtkbjpgfdmkmbmaaGreatDoor
open Go.RowKit
set_option linter.unusedVariables false
set_option linter.unusedSimpArgs false

/-- an int -/
def Int64 (n : Int) : Prop := -9223372036854775808 ≤ n ∧ n ≤ 9223372036854775807
theorem decI_nat (n : Nat) : decI (n : Int) = decL n := by
  unfold decI
  rw [if_neg (by omega)]
  rfl
theorem TabIn.later {w w' : World} (h : TabIn w.heap.size w) (hb : Below w.heap.size w w') : TabIn w'.heap.size w' := (h.below hb).more hb.size
theorem itoaT_any (n : Int) (hn : Int64 n) (w : World) (hk : TabIn w.heap.size w) :
    Calls Tryz.prog 35 #[.int .i64 n] w fun e w' => e = .returned (tv (decI n)) ∧ Below w.heap.size w w' :=
  (Tryz.strconv_Itoa n hn.1 hn.2 w hk.tab).mono fun e w' ⟨he, k, os, hw⟩ => ⟨by rw [he, itoa_dec]; rfl, by rw [hw]; exact Lib.below_grow _ _ (Nat.le_refl _) _ _⟩
theorem textsL_step (l : List (List UInt8)) (k : Nat) (t : List UInt8) (h : l[k]? = some t) : textsL (l.take (k + 1)) = ((textsL (l.take k) ++ decL t.length) ++ [58]) ++ t := by
  have hk : k < l.length := (List.getElem?_eq_some_iff.1 h).1
  have he : l[k] = t := (List.getElem?_eq_some_iff.1 h).2
  rw [List.take_succ_eq_append_getElem hk, textsL_snoc, he]
  simp
theorem textsL_take_le (l : List (List UInt8)) (k : Nat) : (textsL (l.take k)).length ≤ (textsL l).length := by
  conv => rhs; rw [← List.take_append_drop k l, textsL_app, List.length_append]
  omega
set_option maxRecDepth 100000 in
set_option maxHeartbeats 4000000 in
theorem textsT_any (A : Option Addr) (c : Nat) (l : List (List UInt8)) (hl : (textsL l).length ≤ 100000000000000) (w : World) (h : RdT w (.slice A l.length c) l) (hk : TabIn w.heap.size w) :
    Calls Tryz.prog 22 #[.slice A l.length c] w fun e w' => e = .returned (tv (textsL l)) ∧ Below w.heap.size w w' := by
  obtain ⟨n, hn⟩ : ∃ n, l.length = n := ⟨_, rfl⟩
  have hnl : n ≤ 100000000000000 := by have := textsL_len l; omega
  have hstep := textsL_step l
  have hle := textsL_take_le l
  have hall : textsL (l.take n) = textsL l := by rw [← hn, List.take_length]
  obtain ⟨W0, hW0⟩ : ∃ W, w.alloc (.cells #[.pointer none, .slice none 0 0] 83) = W := ⟨_, rfl⟩
  obtain ⟨b, hb⟩ : ∃ b, w.heap.size = b := ⟨_, rfl⟩
  have hbld : Bld W0 b b (textsL (l.take 0)) := by rw [← hW0, ← hb]; exact Bld.new w
  have hb0 : Below b w W0 := by rw [← hW0, ← hb]; exact (Below.refl _ _).alloc (Nat.le_refl _) _
  have hrow : ∀ W, Below b w W → RdT W (.slice A n c) l := fun W hW => by rw [← hn]; exact h.below (by rw [hb]; exact hW)
  have hkit : ∀ W, Below b w W → TabIn W.heap.size W := fun W hW => hk.later (by rw [hb]; exact hW)
  have hbs : b ≤ w.heap.size := by omega
  have HN := Lib.hid hn; have HST := Lib.hid hstep; have HLE := Lib.hid hle; have HALL := Lib.hid hall; have HB := Lib.hid hb; have HW := Lib.hid hW0; have HROW := Lib.hid hrow; have HKIT := Lib.hid hkit; have HL := Lib.hid hl
  have BL := Lib.hid hbld; have B0 := Lib.hid hb0; have HBS := Lib.hid hbs
  obtain ⟨X, hX⟩ : ∃ B : ByteArray, ⟨(textsL l).toArray⟩ = B := ⟨_, rfl⟩
  have hXV : tv (textsL l) = .string X := by rw [← hX]; rfl
  have HX := Lib.hid hX
  rw [hn, hXV]
  clear hX hXV
  clear hn hstep hle hall hb hW0 hrow hkit hl hbld hb0 h hk hbs
  go_enter Tryz.func22, Tryz.ntmps22
  go_upto_region 2 with fail
  rw [HW.out, HB.out]
  go_wp2
  go_loopw [8] (fun i W => ∃ k : Nat, k ≤ n ∧ i = .int .i64 k ∧ Hid (Bld W b b (textsL (l.take k)) ∧ Below b w W)) (fun i _ => n - (intOf i).toNat)
  case atStart => exact ⟨0, Nat.zero_le _, rfl, Lib.hid ⟨BL.out, B0.out⟩⟩
  case round =>
    obtain ⟨k, hk, rfl, hT⟩ := hrel
    by_cases hlt : k < n
    · have hkr : decide ((k : Int) < n) = true := by simp; omega
      have hk0 : (0 : Int) ≤ k := by omega
      have hk1 : (k : Int) < n := by omega
      have hka : k < l.length := by rw [HN.out]; exact hlt
      obtain ⟨g, o, rfl, hg, c1⟩ := (HROW.out _ hT.out.2).at k hka
      obtain ⟨t, ht⟩ : ∃ t, l[k] = t := ⟨_, rfl⟩
      have hsome : l[k]? = some t := by rw [List.getElem?_eq_getElem hka, ht]
      rw [ht] at c1
      obtain ⟨ST, hST⟩ : ∃ B : ByteArray, B = ⟨t.toArray⟩ := ⟨_, rfl⟩
      have hts : ST.size = t.length := by rw [hST]; show t.toArray.size = _; simp
      have hTV : tv t = .string ST := by rw [hST]; rfl
      have hTD : ST.data.toList = t := by rw [hST]
      rw [hTV] at c1
      have hnx := HST.out k t hsome
      have hl1 := HLE.out (k + 1)
      have hll := HL.out
      rw [hnx] at hl1
      simp only [List.length_append, List.length_cons, List.length_nil] at hl1
      obtain ⟨P, hP⟩ : ∃ P, textsL (l.take k) = P := ⟨_, rfl⟩
      have hbp : Bld wr b b P := by rw [← hP]; exact hT.out.1
      rw [hP] at hnx hl1
      obtain ⟨SI, hSI⟩ : ∃ B : ByteArray, B = ⟨(decI (t.length : Int)).toArray⟩ := ⟨_, rfl⟩
      have hSD : SI.data.toList = decL t.length := by rw [hSI, ← decI_nat]
      have hSZ : SI.size = (decL t.length).length := by rw [← hSD]; rfl
      have hit := fun W hk => itoaT_any (t.length : Int) ⟨by omega, by omega⟩ W hk
      unfold tv at hit
      rw [← hSI, ← hts] at hit
      have hB1 := fun W (h : Bld W b b P) hb => writeString_any b b P SI W h (by omega) hb
      rw [hSD] at hB1
      have hB2 := fun W (h : Bld W b b (P ++ decL t.length)) hb => writeByte_any b b (P ++ decL t.length) 58 W h (by rw [List.length_append]; omega) hb
      have hB3 := fun W (h : Bld W b b ((P ++ decL t.length) ++ [58])) hb => writeString_any b b ((P ++ decL t.length) ++ [58]) ST W h (by simp only [List.length_append, List.length_cons, List.length_nil]; omega) hb
      rw [hTD, ← hnx] at hB3
      have HIT := Lib.hid hit; have HB1 := Lib.hid hB1; have HB2 := Lib.hid hB2; have HB3 := Lib.hid hB3; have HBP := Lib.hid hbp
      clear hit hB1 hB2 hB3 hbp hnx hl1 hll hP hSD hSZ hSI hTD hTV hts hST hsome ht hg hka
      go_upto_region 5 with fail
      go_wp2_with fail
      refine (HIT.out _ (HKIT.out _ hT.out.2)).mono ?_
      rintro e w1 ⟨rfl, hb1⟩
      have Q1 := Lib.hid (hT.out.2.trans (hb1.mono (Nat.le_trans HBS.out hT.out.2.size))); have P1 := Lib.hid (HBP.out.below hb1)
      clear hb1
      dsimp only
      go_wp2_with fail
      refine (HB1.out _ P1.out (Nat.le_trans HBS.out Q1.out.size)).mono ?_
      rintro e w2 ⟨rfl, h2, hb2, -⟩
      have Q2 := Lib.hid (Q1.out.trans hb2); have P2 := Lib.hid h2
      clear hb2 h2
      dsimp only
      go_wp2_with fail
      refine (HB2.out _ P2.out (Nat.le_trans HBS.out Q2.out.size)).mono ?_
      rintro e w3 ⟨rfl, h3, hb3, -⟩
      have Q3 := Lib.hid (Q2.out.trans hb3); have P3 := Lib.hid h3
      clear hb3 h3
      dsimp only
      go_wp2_with fail
      refine (HB3.out _ P3.out (Nat.le_trans HBS.out Q3.out.size)).mono ?_
      rintro e w4 ⟨rfl, h4, hb4, -⟩
      have Q4 := Lib.hid (Q3.out.trans hb4); have P4 := Lib.hid h4
      clear hb4 h4
      dsimp only
      go_wp2
      go_roundw
      case rel => exact ⟨k + 1, by omega, by go_num, Lib.hid ⟨P4.out, Q4.out⟩⟩
      case measure => simp [intOf]; omega
    · obtain rfl : k = n := by omega
      have hkr : decide ((k : Int) < k) = false := by simp
      have hst := fun W (h : Bld W b b (textsL (l.take k))) hb => bldString_any b b (textsL (l.take k)) W h hb
      rw [HALL.out] at hst
      have P1 : Hid (Bld wr b b (textsL l)) := Lib.hid (by rw [← HALL.out]; exact hT.out.1)
      rw [HX.out] at hst
      have HS := Lib.hid hst
      clear hst hlt
      go_wp2_with fail
      refine (HS.out _ P1.out (Nat.le_trans HBS.out hT.out.2.size)).mono ?_
      rintro e w1 ⟨rfl, hb1⟩
      have Q1 := Lib.hid (hT.out.2.trans hb1)
      clear hb1
      dsimp only
      go_wp2
      go_ret
      refine ⟨rfl, ?_⟩
      have := Q1.out
      rwa [← HB.out] at this
end Go.Proofs.YtkbjpgfdmkmbmaaGreatDoor
namespace Go.Proofs.YtkbjpgfdmkmbmaaGreatDoor
open Go.RowKit
set_option linter.unusedVariables false
set_option linter.unusedSimpArgs false

set_option maxRecDepth 100000 in
set_option maxHeartbeats 4000000 in
theorem linkKey_any (conn sub : List UInt8) (hl : conn.length + sub.length ≤ 1000000) (w : World) (hk : TabIn w.heap.size w) :
    Calls Tryz.prog 11 #[tv conn, tv sub] w fun e w' => e = .returned (tv (lkeyL conn sub)) ∧ Below w.heap.size w w' := by
  have htx := fun (W : World) (R : Nat) (hk : TabIn W.heap.size W) (h : RdT W (.slice (some ⟨R, 0, none⟩) 2 2) [conn, sub]) => textsT_any (some ⟨R, 0, none⟩) 2 [conn, sub] (by have := lkeyL_len conn sub hl; unfold lkeyL at this; rw [List.length_cons] at this; omega) W h hk
  obtain ⟨B0, hB0⟩ : ∃ B : ByteArray, B = ⟨conn.toArray⟩ := ⟨_, rfl⟩
  obtain ⟨B1, hB1⟩ : ∃ B : ByteArray, B = ⟨sub.toArray⟩ := ⟨_, rfl⟩
  have hC : tcells [conn, sub] = [.string B0, .string B1] := by rw [hB0, hB1]; rfl
  obtain ⟨D, hD⟩ : ∃ B : ByteArray, B = ⟨(textsL [conn, sub]).toArray⟩ := ⟨_, rfl⟩
  have hDs : D.size ≤ 1000100 := by
    have := lkeyL_len conn sub hl
    unfold lkeyL at this
    rw [List.length_cons] at this
    rw [hD]; show (textsL [conn, sub]).toArray.size ≤ _
    rw [List.size_toArray]; omega
  have hKD : (⟨(lkeyL conn sub).toArray⟩ : ByteArray) = ByteArray.mk #[108] ++ D := by
    rw [hD]; apply ByteArray.ext; simp [lkeyL, ByteArray.data_append]
  have hk1 : ∀ C t f, TabIn (w.alloc (.cells C t f)).heap.size (w.alloc (.cells C t f)) := fun C t f => hk.later ((Below.refl _ _).alloc (Nat.le_refl _) _)
  unfold tv at htx
  rw [← hD] at htx
  have HDS := Lib.hid hDs; have HKD := Lib.hid hKD
  have HTX := Lib.hid htx; have HC := Lib.hid hC; have HK1 := Lib.hid hk1
  unfold tv
  rw [← hB0, ← hB1]
  clear htx hC hB0 hB1 hD hDs hKD hk1 hk
  go_enter Tryz.func11, Tryz.ntmps11
  go_wp2_with fail
  refine (HTX.out _ _ (HK1.out _ _ _) (rdt_new (heap_alloc_last w _) (by rw [HC.out]))).mono ?_
  rintro e w1 ⟨rfl, hb1⟩
  have B1' := Lib.hid hb1; clear hb1
  have hDs := HDS.out
  go_wp2
  go_ret
  exact ⟨by rw [HKD.out]; rfl, ((Below.refl _ _).alloc (Nat.le_refl _) _).chain B1'.out⟩
theorem one_chG {w : World} {b : Nat} {k v : List UInt8} {K V : ByteArray} {g : Bool} {fr : Nat × Nat} (hk : tv k = .string K) (hv : tv v = .string V) (h : w.heap[b]? = some (.cells #[.string K, .string V, .bool g] 37 fr)) : RdC w (.slice (some ⟨b, 0, none⟩) 1 1) [⟨k, v, g⟩] :=
  ⟨_, 1, rfl, Nat.le_refl _, fun j x hj => by
    obtain rfl : j = 0 := by
      rcases j with _ | j
      · rfl
      · simp at hj
    obtain rfl : _ = x := Option.some.inj hj
    exact ⟨b, 0, rfl, (Array.getElem?_eq_some_iff.1 h).1, by rw [hk]; exact cell_here h, by rw [hv]; exact cell_here h, cell_here h⟩⟩
/-- what Resolve, and Remove, answer -/
def ResSays (B : Nat) (L : List UInt8 × List Ch × Int) (e : Ending) (w' : World) : Prop := ∃ v, e = .returned (.tuple #[tv L.1, v, .int .i64 L.2.2]) ∧ RdC w' v L.2.1 ∧ ∀ g, v.ownBlock = some g → L.2.1.length ≠ 0 → B ≤ g
def RemSays (B : Nat) (L : List Ch × Bool) (e : Ending) (w' : World) : Prop := ∃ v, e = .returned (.tuple #[v, .bool L.2]) ∧ RdC w' v L.1 ∧ ∀ g, v.ownBlock = some g → L.1.length ≠ 0 → B ≤ g
variable {CT : World → (Nat → Prop) → Nat → TP → Prop} {CS : World → (Nat → Prop) → Nat → Nat → RowL → Prop}
set_option maxRecDepth 100000 in
set_option maxHeartbeats 4000000 in
theorem linkFind_any (H : CodeStore CT CS) (w : World) (S : Nat → Prop) (p q : Nat) (rows : RowL) (conn sub : List UInt8) (h : CS w S p q rows) (hl : conn.length + sub.length ≤ 1000000) (hk : TabIn w.heap.size w) :
    Calls Tryz.prog 7 #[.pointer (some ⟨p, 0, none⟩), tv conn, tv sub] w fun e w' => e = .returned (getV (getR rows (lkeyL conn sub))) ∧ Below w.heap.size w w' := by
  have hkey := linkKey_any conn sub hl w hk
  have hget := fun W (hb : Below w.heap.size w W) => H.get W S p q rows (lkeyL conn sub) (H.below h hb)
  have hgv : ∃ (V : ByteArray) (g : Bool), getV (getR rows (lkeyL conn sub)) = .tuple #[.string V, .bool g] := by
    cases getR rows (lkeyL conn sub) with
    | none => exact ⟨_, _, rfl⟩
    | some v => exact ⟨_, _, rfl⟩
  obtain ⟨V, g, hgv⟩ := hgv
  obtain ⟨B0, hB0⟩ : ∃ B : ByteArray, tv conn = .string B := ⟨_, rfl⟩
  obtain ⟨B1, hB1⟩ : ∃ B : ByteArray, tv sub = .string B := ⟨_, rfl⟩
  obtain ⟨KY, hKY⟩ : ∃ B : ByteArray, (⟨(lkeyL conn sub).toArray⟩ : ByteArray) = B := ⟨_, rfl⟩
  have tk : tv (lkeyL conn sub) = .string KY := by rw [← hKY]; rfl
  rw [hB0, hB1, tk] at hkey
  rw [hKY, hgv] at hget
  rw [hB0, hB1, hgv]
  have HKEY := Lib.hid hkey; have HGET := Lib.hid hget
  clear hkey hget hgv hB0 hB1 hKY tk h H hk
  go_enter Tryz.func7, Tryz.ntmps7
  go_wp2_with fail
  refine HKEY.out.mono ?_
  rintro e w1 ⟨rfl, hb1⟩
  have G1 := Lib.hid hb1; clear hb1
  dsimp only
  go_wp2_with fail
  refine (HGET.out w1 G1.out).mono ?_
  rintro e w2 ⟨rfl, hb2⟩
  have G2 := Lib.hid (G1.out.chain hb2); clear hb2
  dsimp only
  go_wp2
  go_ret2
  exact ⟨rfl, G2.out⟩
set_option maxRecDepth 100000 in
set_option maxHeartbeats 4000000 in
theorem linkRemove_at (H : CodeStore CT CS) (w : World) (S : Nat → Prop) (p q : Nat) (rows : RowL) (conn sub : List UInt8) (h : CS w S p q rows) (hl : conn.length + sub.length ≤ 1000000) (hk : TabIn w.heap.size w) :
    Calls Tryz.prog 10 #[.pointer (some ⟨p, 0, none⟩), tv conn, tv sub] w fun e w' =>
      RemSays w.heap.size (unlinkR rows conn sub) e w' ∧ Below w.heap.size w w' := by
  have hfind := linkFind_any H w S p q rows conn sub h hl hk
  have hkey := fun W (hb : Below w.heap.size w W) => linkKey_any conn sub hl W (hk.later hb)
  obtain ⟨B0, hB0⟩ : ∃ B : ByteArray, tv conn = .string B := ⟨_, rfl⟩
  obtain ⟨B1, hB1⟩ : ∃ B : ByteArray, tv sub = .string B := ⟨_, rfl⟩
  obtain ⟨KY, hKY⟩ : ∃ B : ByteArray, (⟨(lkeyL conn sub).toArray⟩ : ByteArray) = B := ⟨_, rfl⟩
  have tk : tv (lkeyL conn sub) = .string KY := by rw [← hKY]; rfl
  rw [hB0, hB1] at hfind
  simp only [hB0, hB1, tk] at hkey
  rw [hB0, hB1]
  unfold unlinkR
  have HKEY := Lib.hid hkey; have TK := Lib.hid tk
  clear hkey hB0 hB1 hKY tk h H hk
  obtain ⟨b, hb⟩ : ∃ b, w.heap.size = b := ⟨_, rfl⟩
  cases hg : getR rows (lkeyL conn sub) with
  | none =>
    rw [hg] at hfind
    have hfind : Calls Tryz.prog 7 #[.pointer (some ⟨p, 0, none⟩), .string B0, .string B1] w fun e w' => e = .returned (.tuple #[.string ⟨#[]⟩, .bool false]) ∧ Below w.heap.size w w' := hfind
    have HFI := Lib.hid hfind
    clear hfind hg hb
    dsimp only
    go_enter Tryz.func10, Tryz.ntmps10
    go_wp2_with fail
    refine HFI.out.mono ?_
    rintro e w1 ⟨rfl, hb1⟩
    have G1 := Lib.hid hb1; clear hb1
    dsimp only
    go_wp2
    go_ret2
    exact ⟨⟨_, rfl, rdc_none _, fun g h h0 => absurd rfl h0⟩, G1.out⟩
  | some vv =>
    rw [hg] at hfind
    obtain ⟨V, hV⟩ : ∃ B : ByteArray, tv vv = .string B := ⟨_, rfl⟩
    have hfind : Calls Tryz.prog 7 #[.pointer (some ⟨p, 0, none⟩), .string B0, .string B1] w fun e w' => e = .returned (.tuple #[.string V, .bool true]) ∧ Below w.heap.size w w' := by rw [← hV]; exact hfind
    have HFI := Lib.hid hfind
    clear hfind hg hb hV
    dsimp only
    go_enter Tryz.func10, Tryz.ntmps10
    go_wp2_with fail
    refine HFI.out.mono ?_
    rintro e w1 ⟨rfl, hb1⟩
    have G1 := Lib.hid hb1; clear hb1
    dsimp only
    go_wp2_with fail
    refine (HKEY.out _ G1.out).mono ?_
    rintro e w2 ⟨rfl, hb2⟩
    have G2 := Lib.hid (G1.out.chain hb2); clear hb2
    have G4 := Lib.hid (G2.out.alloc G2.out.size (.cells #[.string KY, .string ⟨#[]⟩, .bool true] 37 (0, 0)))
    have K4 := Lib.hid (heap_alloc_last w2 (.cells #[.string KY, .string ⟨#[]⟩, .bool true] 37 (0, 0)))
    have S4 := Lib.hid G2.out.size
    dsimp only
    go_wp2
    go_ret2
    exact ⟨⟨_, rfl, one_chG TK.out rfl K4.out, fun g hg _ => by cases hg; exact S4.out⟩, G4.out⟩
set_option maxRecDepth 100000 in
set_option maxHeartbeats 4000000 in
theorem linkResolve_at (H : CodeStore CT CS) (w : World) (S : Nat → Prop) (p q : Nat) (rows : RowL) (cn : ConnP) (sub : List UInt8) (h : CS w S p q rows) (hl : cn.fID.length + sub.length ≤ 1000000) (hrl : rows.length ≤ 100000) (hk : TabIn w.heap.size w) :
    Calls Tryz.prog 13 #[.pointer (some ⟨p, 0, none⟩), cn.val, tv sub] w fun e w' =>
      ResSays w.heap.size (linkR rows cn.fID cn.fOpen sub) e w' ∧ Below w.heap.size w w' := by
  have hfind := fun W (hb : Below w.heap.size w W) => linkFind_any H W S p q rows cn.fID sub (H.below h hb) hl (hk.later hb)
  have hkey := fun W (hb : Below w.heap.size w W) => linkKey_any cn.fID sub hl W (hk.later hb)
  have hkeys := fun W (hb : Below w.heap.size w W) => H.keys W S p q rows [108] (H.below h hb) hrl (by decide)
  obtain ⟨L, hL⟩ : ∃ L, linkR rows cn.fID cn.fOpen sub = L := ⟨_, rfl⟩
  rw [hL]
  obtain ⟨B0, hB0⟩ : ∃ B : ByteArray, B = ⟨cn.fID.toArray⟩ := ⟨_, rfl⟩
  obtain ⟨B1, hB1⟩ : ∃ B : ByteArray, B = ⟨sub.toArray⟩ := ⟨_, rfl⟩
  obtain ⟨KY, hKY⟩ : ∃ B : ByteArray, B = ⟨(lkeyL cn.fID sub).toArray⟩ := ⟨_, rfl⟩
  have h0s : B0.size ≤ 1000000 := by rw [hB0]; show cn.fID.toArray.size ≤ _; rw [List.size_toArray]; omega
  have h1s : B1.size ≤ 1000000 := by rw [hB1]; show sub.toArray.size ≤ _; rw [List.size_toArray]; omega
  obtain ⟨UU, hUU⟩ : ∃ B : ByteArray, B = (B0 ++ ByteArray.mk #[58]) ++ B1 := ⟨_, rfl⟩
  have hU : tv (userL cn.fID sub) = .string UU := by
    rw [hUU, hB0, hB1]; unfold tv userL; congr 1; apply ByteArray.ext; simp [ByteArray.data_append]
  have t0 : tv cn.fID = .string B0 := by rw [hB0]; rfl
  have t1 : tv sub = .string B1 := by rw [hB1]; rfl
  have tk : tv (lkeyL cn.fID sub) = .string KY := by rw [hKY]; rfl
  unfold ConnP.val
  obtain ⟨b, hb⟩ : ∃ b, w.heap.size = b := ⟨_, rfl⟩
  obtain ⟨W0, hW0⟩ : ∃ W, w.alloc (.cells #[.string B0, tv cn.fIssuer, tv cn.fClient, tv cn.fAuth, tv cn.fSecret, .bool cn.fOpen, tv cn.fRules] 40) = W := ⟨_, rfl⟩
  have hb0 : Below w.heap.size w W0 := by rw [← hW0]; exact (Below.refl _ _).alloc (Nat.le_refl _) _
  have k0 : W0.heap[b]? = some (.cells #[.string B0, tv cn.fIssuer, tv cn.fClient, tv cn.fAuth, tv cn.fSecret, .bool cn.fOpen, tv cn.fRules] 40) := by rw [← hW0, ← hb]; exact heap_alloc_last w _
  have hcb : ∀ W, Below W0.heap.size W0 W → W.cell? ⟨b, 0, none⟩ = some (.string B0) ∧ W.cell? ⟨b, 5, none⟩ = some (.bool cn.fOpen) := fun W hb => by
    have k := blk_below k0 hb
    exact ⟨cell_here k, cell_here k⟩
  simp only [t0, t1, tk] at hkey hfind ⊢
  have HKEY := Lib.hid hkey; have HFIND := Lib.hid hfind; have HKEYS := Lib.hid hkeys; have HL := Lib.hid hL; have HCB := Lib.hid hcb; have HB0 := Lib.hid hb0; have HW0 := Lib.hid hW0; have HB := Lib.hid hb; have HU := Lib.hid hU; have H0S := Lib.hid h0s; have H1S := Lib.hid h1s; have TK := Lib.hid tk; have T0 := Lib.hid t0; have HUU := Lib.hid hUU
  clear hkey hfind hkeys hL hcb hb0 hW0 hb hU h0s h1s tk t0 t1 hB0 hB1 hKY k0 h hUU H hk
  go_enter Tryz.func13, Tryz.ntmps13
  go_upto_region 1 with fail
  rw [HW0.out, HB.out]
  have hq := HCB.out _ (Below.refl _ _)
  obtain ⟨q0, q5⟩ := hq
  have hL := HL.out
  unfold linkR at hL
  have hfi := HFIND.out W0 HB0.out
  cases hg : getR rows (lkeyL cn.fID sub) with
  | some v =>
    rw [hg] at hL hfi
    dsimp only at hL
    subst hL
    obtain ⟨V, hV⟩ : ∃ B : ByteArray, B = ⟨v.toArray⟩ := ⟨_, rfl⟩
    have tV : tv v = .string V := by rw [hV]; rfl
    have hfi : Calls Tryz.prog 7 #[.pointer (some ⟨p, 0, none⟩), .string B0, .string B1] W0 fun e w' => e = .returned (.tuple #[.string V, .bool true]) ∧ Below W0.heap.size W0 w' := by rw [← tV]; exact hfi
    have HFI := Lib.hid hfi; have TV := Lib.hid tV
    clear hfi hg hV tV
    go_wp2_with fail
    refine HFI.out.mono ?_
    rintro e w1 ⟨rfl, hb1⟩
    have G1 := Lib.hid (HB0.out.chain hb1); clear hb1
    dsimp only []
    go_wp2
    go_ret3
    exact ⟨⟨_, by rw [TV.out]; rfl, rdc_none _, fun g h h0 => absurd rfl h0⟩, G1.out⟩
  | none =>
    rw [hg] at hL hfi
    dsimp only at hL
    have hfi : Calls Tryz.prog 7 #[.pointer (some ⟨p, 0, none⟩), .string B0, .string B1] W0 fun e w' => e = .returned (.tuple #[.string ⟨#[]⟩, .bool false]) ∧ Below W0.heap.size W0 w' := hfi
    have HFI := Lib.hid hfi
    clear hfi hg
    go_wp2_with fail
    refine HFI.out.mono ?_
    rintro e w1 ⟨rfl, hb1⟩
    have G1 := Lib.hid (HB0.out.chain hb1)
    have C1 := Lib.hid hb1; clear hb1
    dsimp only []
    have hq := HCB.out _ C1.out
    obtain ⟨q0', q5'⟩ := hq
    cases ho : cn.fOpen with
    | false =>
      rw [ho] at hL q5'
      rw [if_pos rfl] at hL
      subst hL
      go_wp2
      go_ret3
      exact ⟨⟨_, rfl, rdc_none _, fun g h h0 => absurd rfl h0⟩, G1.out⟩
    | true =>
      rw [ho] at hL q5'
      rw [if_neg (by decide)] at hL
      go_wp2_with fail
      refine (HKEYS.out w1 G1.out).mono ?_
      rintro e w3 ⟨⟨v, rfl, hv⟩, hb3⟩
      have G3 := Lib.hid (G1.out.chain hb3)
      have C3 := Lib.hid (C1.out.chain hb3); clear hb3
      obtain ⟨AK, cK, rfl, hcK, hRK⟩ := hv
      clear hRK hcK
      obtain ⟨m, hm⟩ : ∃ m, (keysR rows [108]).length = m := ⟨_, rfl⟩
      rw [hm] at hL ⊢
      clear hm
      dsimp only []
      by_cases hm32 : 32 ≤ m
      · rw [if_pos hm32] at hL
        subst hL
        have hm' : (32 : Int) ≤ (m : Int) := by omega
        go_wp2
        go_ret3
        exact ⟨⟨_, rfl, rdc_none _, fun g h h0 => absurd rfl h0⟩, G3.out⟩
      · rw [if_neg hm32] at hL
        subst hL
        have hm' : ¬ (32 : Int) ≤ (m : Int) := by omega
        have h0s := H0S.out
        have h1s := H1S.out
        have h01 : (B0 ++ ByteArray.mk #[58]).size = B0.size + 1 := ByteArray.size_append
        have hq := HCB.out _ C3.out
        obtain ⟨q03, q53⟩ := hq
        have hsum : B0 ++ ByteArray.mk #[58] ++ B1 = UU := HUU.out.symm
        go_upto_region 9 with fail
        try rw [hsum]
        go_wp2_with fail
        refine (HKEY.out _ G3.out).mono ?_
        rintro e w4 ⟨rfl, hb4⟩
        have G4 := Lib.hid (G3.out.chain hb4); clear hb4
        have G5 := Lib.hid (G4.out.alloc G4.out.size (.cells #[.string KY, .string UU, .bool false] 37 (0, 0)))
        have K5 := Lib.hid (heap_alloc_last w4 (.cells #[.string KY, .string UU, .bool false] 37 (0, 0)))
        have S5 := Lib.hid G4.out.size
        dsimp only
        go_wp2
        go_ret3
        exact ⟨⟨_, by rw [HU.out]; rfl, one_chG TK.out HU.out K5.out, fun g hg _ => by cases hg; exact S5.out⟩, G5.out⟩
/-- THE LANDED LINKS -/
theorem codeLink (H : CodeStore CT CS) {w0 : World} (hk : TabIn w0.heap.size w0) : CodeLink w0 CS where
  key := fun w conn sub hb hl => linkKey_any conn sub (by omega) w (hk.later hb)
  find := fun w S p q rows conn sub hb h hl => linkFind_any H w S p q rows conn sub h (by omega) (hk.later hb)
  resolve := fun w S p q rows cn sub hb h hl hr => linkResolve_at H w S p q rows cn sub h (by omega) hr (hk.later hb)
  remove := fun w S p q rows conn sub hb h hl => linkRemove_at H w S p q rows conn sub h (by omega) (hk.later hb)
end Go.Proofs.YtkbjpgfdmkmbmaaGreatDoor
namespace Go.Proofs.YtkbjpgfdmkmbmaaGreatDoor
open Go.RowKit
set_option linter.unusedVariables false

theorem linkFinds_go (A : Option Addr) (c : Nat) (l : List Ch) (x y : ByteArray) {w : World}
    (h : RdC w (.slice A l.length c) l ∧ (∀ g, (Value.slice A l.length c).ownBlock = some g → l.length ≠ 0 → g < w.heap.size) ∧ l.length ≤ 200000000000000 ∧ ∀ x ∈ l, x.key.length ≤ 200000000000000 ∧ x.value.length ≤ 200000000000000)
    (hx : x.size ≤ 1000000000000000) (hy : y.size ≤ 1000000000000000) (hv : NumIn w) :
    Calls Tryz.prog 3 #[.slice A l.length c, .string x, .string y] w fun e w' => e = .returned (.bool true) ∧ Below w.heap.size w w' :=
  linkFinds_row tapeL codeStore A c l x y (codeLink codeStore hv.tab) h hx hy hv.rounds
theorem linkResolves_go (A : Option Addr) (c : Nat) (l : List Ch) (x : ConnP) (y : ByteArray) {w : World}
    (h : RdC w (.slice A l.length c) l ∧ (∀ g, (Value.slice A l.length c).ownBlock = some g → l.length ≠ 0 → g < w.heap.size) ∧ l.length ≤ 200000000000000 ∧ ∀ x ∈ l, x.key.length ≤ 200000000000000 ∧ x.value.length ≤ 200000000000000)
    (hx : x.fID.length ≤ 200000000000000) (hy : y.size ≤ 1000000000000000) (hv : NumIn w) :
    Calls Tryz.prog 4 #[.slice A l.length c, x.val, .string y] w fun e w' => e = .returned (.bool true) ∧ Below w.heap.size w w' :=
  linkResolves_row tapeL codeStore A c l x y (codeLink codeStore hv.tab) h hx hy hv.rounds
end Go.Proofs.YtkbjpgfdmkmbmaaGreatDoor
