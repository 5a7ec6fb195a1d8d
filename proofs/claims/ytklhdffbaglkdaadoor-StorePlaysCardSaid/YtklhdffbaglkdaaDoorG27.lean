/- Texts merged by program, in build order: StoreOpenC, StoreIs. -/
import Derived.Test.YtklhdffbaglkdaaDoorG26
import Derived.Test.YtklhdffbaglkdaaDoorG16
namespace Go.Proofs.YtklhdffbaglkdaaDoor
open Go.RowKit Go.Maps
set_option linter.unusedVariables false
set_option linter.unusedSimpArgs false

theorem changes_of {b : List UInt8} {l : List Ch} (h : changesL b = some l) : recL l = b := by
  unfold changesL at h
  split at h
  · split at h
    · cases h
    · split at h
      · rename_i he
        injection h with h
        subst h
        exact he
      · cases h
  · cases h
theorem openS_none {t : TP} (h : foldR [] (splitL t.b).1 = none) : openS t = (2, [], t) := by
  unfold openS
  rw [h]
theorem openS_some {t : TP} {rows : RowL} (h : foldR [] (splitL t.b).1 = some rows) : openS t = if (splitL t.b).2 < t.b.length then
      (if (t.swap (t.b.take (splitL t.b).2)).2 = 0 then (0, rows, (t.swap (t.b.take (splitL t.b).2)).1) else ((t.swap (t.b.take (splitL t.b).2)).2, [], (t.swap (t.b.take (splitL t.b).2)).1))
    else (0, rows, t) := by
  unfold openS
  rw [h]
/-- what an opening comes to -/
def OpenIs (w : World) (T : Nat → Prop) (q : Nat) (t : TP) (e : Ending) (w' : World) : Prop :=
    (∃ T' : Nat → Prop, CT w' T' q (openS t).2.2 ∧ (∀ b, T' b → T b ∨ w.heap.size ≤ b) ∧
      (((openS t).1 = 0 ∧ ∃ p S, e = .returned (.tuple #[.pointer (some ⟨p, 0, none⟩), .int .i64 0]) ∧ CStore w' S p q (openS t).2.1 ∧ (∀ b, S b → w.heap.size ≤ b ∧ ¬ T' b)) ∨
       ((openS t).1 ≠ 0 ∧ e = .returned (.tuple #[.pointer none, .int .i64 (openS t).1])))) ∧ Only T w w'
set_option maxRecDepth 100000 in
set_option maxHeartbeats 4000000 in
theorem sopen_any (w : World) (T : Nat → Prop) (q : Nat) (t : TP) (hct : CT w T q t) (ht : t.Ok) (htl : t.b.length ≤ 100000) (hro : RoundsIn w) : Calls Tryd.prog 12 #[.pointer (some ⟨q, 0, none⟩)] w fun e w' => OpenIs w T q t e w' := by
  have hby := codeTape.bytes w T q t hct (by omega)
  have hsum := splitL_sum t.b
  have heat := splitL_eat t.b
  have hfew := splitL_few t.b
  obtain ⟨tl, htle⟩ : ∃ n, t.b.length = n := ⟨_, rfl⟩
  obtain ⟨LS, hLS⟩ : ∃ LS, (splitL t.b).1 = LS := ⟨_, rfl⟩
  obtain ⟨NE, hNE⟩ : ∃ NE, (splitL t.b).2 = NE := ⟨_, rfl⟩
  have hop1 := openS_none (t := t)
  have hop2 := fun rows => openS_some (t := t) (rows := rows)
  rw [hLS] at hop1
  simp only [hLS, hNE, htle] at hop2
  have hsp := fun W A c (hb : Below w.heap.size w W) => codeFrame.split W A c t.b (by omega) (hro.below hb)
  rw [htle] at hby
  simp only [htle, hLS, hNE] at hsp
  rw [htle, hLS] at hsum hfew
  rw [htle, hNE] at heat
  rw [htle] at htl
  have BY := Lib.hid hby; have SP := Lib.hid hsp; have SUM := Lib.hid hsum; have EAT := Lib.hid heat; have FEW := Lib.hid hfew; have HOP1 := Lib.hid hop1; have HOP2 := Lib.hid hop2; have HCT := Lib.hid hct; have OK := Lib.hid ht; have HTLE := Lib.hid htle
  clear hby hsp hsum heat hfew hop1 hop2 hct ht htle hLS hNE hro
  go_enter Tryd.func12, Tryd.ntmps12
  go_wp2_with fail
  refine BY.out.mono ?_
  rintro e w1 ⟨⟨A1, c1, rfl, hr1, hn1⟩, hb1⟩
  have hsp := SP.out w1 A1 c1 hb1 hr1.weak
  have S1 := Lib.hid hsp; have R1 := Lib.hid hr1; have N1 := Lib.hid hn1; have B1 := Lib.hid hb1
  clear hsp hr1 hn1 hb1
  dsimp only
  go_wp2_with fail
  refine S1.out.mono ?_
  rintro e w2 ⟨⟨v2, rfl, hrow⟩, hb2⟩
  obtain ⟨A2, c2, hv2⟩ : ∃ A2 c2, v2 = .slice A2 LS.length c2 := by
    obtain ⟨A2, c2, e, _⟩ := hrow
    exact ⟨A2, c2, e⟩
  subst hv2
  obtain ⟨n, hn⟩ : ∃ n, LS.length = n := ⟨_, rfl⟩
  rw [hn]
  have HN := Lib.hid hn; have ROW := Lib.hid hrow; have B2 := Lib.hid (B1.out.chain hb2); have B12 := Lib.hid hb2
  have hnb : n ≤ 100000 := by have := FEW.out; omega
  clear hn hrow hb2
  have hmm := @run_makeMap Tryd.prog
  dsimp only
  go_wp2_with fail
  obtain ⟨W0, hW0⟩ : ∃ W, W = w2.alloc (.map #[] 0) := ⟨_, rfl⟩
  have hb0 : Below w2.heap.size w2 W0 := by rw [hW0]; exact (Below.refl _ _).alloc (Nat.le_refl _) _
  have hm0 : MapAt W0 w2.heap.size [] := by rw [hW0]; exact mapAt_made w2
  rw [← hW0]
  have BW0 := Lib.hid hb0; have M0 := Lib.hid hm0
  clear hW0 hb0 hm0 hmm
  go_loopw [9, 10, 11, 25] (fun _ _ _ i W => ∃ (k : Nat) (rows : RowL), k ≤ n ∧ i = .int .i64 k ∧ Hid (MapAt W w2.heap.size rows ∧ foldR [] (LS.take k) = some rows ∧ Below w2.heap.size w2 W)) (fun _ _ _ i _ => n - (intOf i).toNat)
  case atStart => exact ⟨0, [], Nat.zero_le _, rfl, Lib.hid ⟨M0.out, by rw [List.take_zero]; rfl, BW0.out⟩⟩
  case round =>
    obtain ⟨k, rows, hk, rfl, hT⟩ := hrel
    by_cases hlt : k < n
    · have hkr : decide ((k : Int) < n) = true := by simp; omega
      have hk0 : (0 : Int) ≤ k := by omega
      have hk1 : (k : Int) < n := by omega
      have hkl : k < LS.length := by rw [HN.out]; exact hlt
      obtain ⟨A', c', e, hcc, hrow⟩ := ROW.out.below hT.out.2.2
      cases e
      obtain ⟨g, o, u, rfl, hg, e0, hru⟩ := hrow k _ (List.getElem?_eq_getElem hkl)
      obtain ⟨x, hx⟩ : ∃ x, LS[k] = x := ⟨_, rfl⟩
      rw [hx] at hru
      obtain ⟨au, cu, rfl⟩ := rdw_form hru
      have hxl : x.length ≤ tl := Nat.le_trans (mem_flat LS x (by rw [← hx]; exact List.getElem_mem hkl)) SUM.out
      have htk : LS.take (k + 1) = LS.take k ++ [x] := by rw [List.take_succ_eq_append_getElem hkl, hx]
      have hdr : LS = LS.take k ++ x :: LS.drop (k + 1) := by rw [← hx, List.getElem_cons_drop, List.take_append_drop]
      have hrd := sread_any au x.length cu x rfl (by omega) wr hru
      have hch := read_changes x (by omega)
      have hfl := foldR_len _ _ _ hT.out.2.1
      have hfl2 : (LS.take k).flatten.length ≤ tl := by
        have h1 := SUM.out
        rw [hdr, List.flatten_append, List.length_append] at h1
        omega
      have hrl : rows.length ≤ 100000 := by rw [List.length_nil] at hfl; omega
      have hnone : changesL x = none → openS t = (2, [], t) := fun h => HOP1.out (by rw [hdr]; exact foldR_none _ _ _ _ _ hT.out.2.1 h)
      have hsome : ∀ l, changesL x = some l → foldR [] (LS.take (k + 1)) = some (turnL rows l) := fun l h => by
        rw [htk, foldR_snoc, hT.out.2.1]
        dsimp only
        rw [h]
      obtain ⟨m, hm⟩ : ∃ m, x.length = m := ⟨_, rfl⟩
      rw [hm] at hrd e0 hxl
      have RD := Lib.hid hrd; have HCH := Lib.hid hch; have NONE := Lib.hid hnone; have SOME := Lib.hid hsome; have HM := Lib.hid hm
      clear hrd hch hfl hfl2 hnone hsome hm htk hdr hru hx hrow hcc hkl hg
      go_wp2_with fail
      refine RD.out.mono ?_
      rintro e w3 ⟨hR, hb3⟩
      have B3 := Lib.hid (hT.out.2.2.chain hb3)
      have hm3 := hT.out.1.below hb3
      have M3 := Lib.hid hm3
      clear hb3 hm3
      rcases hR with ⟨hno, rfl⟩ | ⟨l, Al, cl, hl, rfl, hrl2⟩
      · have ho := NONE.out (by rw [← HCH.out]; exact hno)
        have hend : OpenIs w T q t (.returned (.tuple #[.pointer none, .int .i64 2])) w3 := by
          unfold OpenIs
          rw [ho]
          exact ⟨⟨T, codeTape.below HCT.out (B2.out.chain B3.out), fun b hb => .inl hb, .inr ⟨by show (2 : Int) ≠ 0; decide, rfl⟩⟩, Only.of_below (B2.out.chain B3.out)⟩
        have HEND := Lib.hid hend
        clear ho hend hno
        dsimp only
        go_wp2
        go_ret2
        exact HEND.out
      · have hcs : changesL x = some l := by rw [← HCH.out]; exact hl
        have hnext := SOME.out l hcs
        have hrec := changes_of hcs
        have hzx : ∀ y ∈ l, y.key.length ≤ 10000000 ∧ y.val.length ≤ 10000000 := fun y hy => by
          have := recOne_le l y hy
          rw [hrec, HM.out] at this
          omega
        have hll : l.length ≤ 1000000000 := by
          have := changes_len hcs
          rw [HM.out] at this
          omega
        obtain ⟨ln, hln⟩ : ∃ n, l.length = n := ⟨_, rfl⟩
        rw [hln] at hrl2 hll ⊢
        have hcg := schange_any w2.heap.size rows Al ln cl l hln hll hzx (by omega) w3 M3.out hrl2
        have CG := Lib.hid hcg; have NX := Lib.hid hnext
        clear hcg hnext hrec hzx hll hln hrl2 hcs hl
        dsimp only
        go_wp2_with fail
        refine CG.out.mono ?_
        rintro e w4 ⟨rfl, hm4, ho4⟩
        have hb4 : Below w2.heap.size w2 w4 := B3.out.trans (ho4.below B3.out.size (fun i hi => by rw [hi]; exact Nat.le_refl _))
        have M4 := Lib.hid hm4; have B4 := Lib.hid hb4
        clear hm4 ho4 hb4
        dsimp only
        go_wp2
        go_roundw
        case rel => exact ⟨k + 1, _, by omega, by go_num, Lib.hid ⟨M4.out, NX.out, B4.out⟩⟩
        case measure => simp [intOf]; omega
    · obtain rfl : k = n := by omega
      have hkr : decide ((k : Int) < k) = false := by simp
      have htk : LS.take k = LS := by rw [← HN.out]; exact List.take_length
      have hf := hT.out.2.1
      rw [htk] at hf
      have ho := HOP2.out rows hf
      have hbT : ¬ T w2.heap.size := fun e => by have := codeTape.lt HCT.out _ e; have := B2.out.size; omega
      have hbw := B2.out.chain hT.out.2.2
      by_cases hlt : NE < tl
      · rw [if_pos hlt] at ho
        have hr2 : RdAt wr (.slice A1 t.b.length c1) t.b := by rw [HTLE.out]; exact R1.out.below (B12.out.chain hT.out.2.2)
        have htkb := hr2.take NE (by rw [HTLE.out]; omega)
        have hcap : tl ≤ c1 ∧ ∃ g1 o1, A1 = some ⟨g1, o1, none⟩ := by
          obtain ⟨A', c', e, h1, h2, h3⟩ := hr2
          cases e
          rw [HTLE.out] at h1 h3
          refine ⟨h1, ?_⟩
          rcases h3 with ⟨_, h0, _⟩ | ⟨g1, o1, e, _⟩
          · omega
          · exact ⟨g1, o1, e⟩
        have hsw := codeTape.swap wr T q t (.slice A1 NE c1) (t.b.take NE) (codeTape.below HCT.out hbw) OK.out (by rw [HTLE.out]; omega) htkb (by rw [List.length_take, HTLE.out]; omega) (fun g hg hTg => by
          have h1 := N1.out g (by cases A1 <;> exact hg)
          have h2 := codeTape.lt HCT.out g hTg
          omega)
        obtain ⟨hcc, g1, o1, hA1⟩ := hcap
        subst hA1
        obtain ⟨SW, hSW⟩ : ∃ x, t.swap (t.b.take NE) = x := ⟨_, rfl⟩
        rw [hSW] at ho hsw
        obtain ⟨E1, hE1⟩ : ∃ E, SW.2 = E := ⟨_, rfl⟩
        rw [hE1] at ho hsw
        have q1 : (NE : Int) ≤ c1 := by omega
        have q2 : decide ((NE : Int) < tl) = true := by simp; omega
        have q3 : (NE : Int) < tl := by omega
        have q4 : (tl : Int) ≤ c1 := by omega
        have HO := Lib.hid ho; have SWC := Lib.hid hsw; have HBT := Lib.hid hbT; have HBW := Lib.hid hbw
        clear ho hsw hbT hbw hSW hE1 htkb hr2 hf htk
        go_wp2_with fail
        refine SWC.out.mono ?_
        rintro e w3 ⟨rfl, ⟨T', hct', hT'⟩, ho3⟩
        have hm3 : MapAt w3 w2.heap.size rows := hT.out.1.keep (ho3.block _ hT.out.1.lt HBT.out)
        have hoo : Only T w w3 := (Only.of_below HBW.out).trans ho3
        have hTw : ∀ x, T' x → T x ∨ w.heap.size ≤ x := fun x hx => (hT' x hx).imp id (fun h => Nat.le_trans HBW.out.size h)
        by_cases hE : E1 = 0
        · subst hE
          have ho := HO.out
          rw [if_pos rfl] at ho
          obtain ⟨W3, hW3⟩ : ∃ W, W = w3.alloc (.cells #[.pointer (some ⟨q, 0, none⟩), .map (some w2.heap.size)] 78 (0, 0)) := ⟨_, rfl⟩
          have hb3 : Below w3.heap.size w3 W3 := by rw [hW3]; exact (Below.refl _ _).alloc (Nat.le_refl _) _
          have k3 : W3.heap[w3.heap.size]? = some (.cells #[.pointer (some ⟨q, 0, none⟩), .map (some w2.heap.size)] 78 (0, 0)) := by rw [hW3]; exact heap_alloc_last w3 _
          have hend : OpenIs w T q t (.returned (.tuple #[.pointer (some ⟨w3.heap.size, 0, none⟩), .int .i64 0])) W3 := by
            unfold OpenIs
            rw [ho]
            refine ⟨⟨T', codeTape.below hct' hb3, hTw, .inl ⟨rfl, w3.heap.size, fun x => x = w3.heap.size ∨ x = w2.heap.size, rfl, ⟨w2.heap.size, k3, hm3.below hb3, fun x => Iff.rfl⟩, ?_⟩⟩, hoo.trans (Only.of_below hb3)⟩
            rintro x (rfl | rfl)
            · exact ⟨hoo.size, fun e => by have := codeTape.lt hct' _ e; omega⟩
            · refine ⟨B2.out.size, fun e => ?_⟩
              rcases hT' _ e with h | h
              · exact HBT.out h
              · have := hT.out.1.lt; omega
          have HEND := Lib.hid hend; have HW3 := Lib.hid hW3
          clear hend ho hb3 k3 hW3 hct' hT' ho3 hm3 hoo hTw
          dsimp only
          go_wp2
          rw [← HW3.out]
          go_ret2
          exact HEND.out
        · have ho := HO.out
          rw [if_neg hE] at ho
          have hend : OpenIs w T q t (.returned (.tuple #[.pointer none, .int .i64 E1])) w3 := by
            unfold OpenIs
            rw [ho]
            exact ⟨⟨T', hct', hTw, .inr ⟨hE, rfl⟩⟩, hoo⟩
          have HEND := Lib.hid hend
          clear hend ho hct' hT' ho3 hm3 hoo hTw
          dsimp only
          go_wp2
          go_ret2
          exact HEND.out
      · rw [if_neg hlt] at ho
        have q1 : decide ((NE : Int) < tl) = false := by simp; omega
        have q2 : ¬ (NE : Int) < tl := by omega
        obtain ⟨W3, hW3⟩ : ∃ W, W = wr.alloc (.cells #[.pointer (some ⟨q, 0, none⟩), .map (some w2.heap.size)] 78 (0, 0)) := ⟨_, rfl⟩
        have hb3 : Below wr.heap.size wr W3 := by rw [hW3]; exact (Below.refl _ _).alloc (Nat.le_refl _) _
        have k3 : W3.heap[wr.heap.size]? = some (.cells #[.pointer (some ⟨q, 0, none⟩), .map (some w2.heap.size)] 78 (0, 0)) := by rw [hW3]; exact heap_alloc_last wr _
        have hct3 := codeTape.below HCT.out (hbw.chain hb3)
        have hend : OpenIs w T q t (.returned (.tuple #[.pointer (some ⟨wr.heap.size, 0, none⟩), .int .i64 0])) W3 := by
          unfold OpenIs
          rw [ho]
          refine ⟨⟨T, hct3, fun b hb => .inl hb, .inl ⟨rfl, wr.heap.size, fun x => x = wr.heap.size ∨ x = w2.heap.size, rfl, ⟨w2.heap.size, k3, hT.out.1.below hb3, fun x => Iff.rfl⟩, ?_⟩⟩, Only.of_below (hbw.chain hb3)⟩
          rintro x (rfl | rfl)
          · exact ⟨hbw.size, fun e => by have := codeTape.lt HCT.out _ e; have := hbw.size; omega⟩
          · exact ⟨B2.out.size, hbT⟩
        have HEND := Lib.hid hend; have HW3 := Lib.hid hW3
        clear hend ho hf htk hb3 k3 hct3 hW3 hbT hbw
        go_wp2
        rw [← HW3.out]
        go_ret2
        exact HEND.out
end Go.Proofs.YtklhdffbaglkdaaDoor
namespace Go.Proofs.YtklhdffbaglkdaaDoor
open Go.RowKit Go.Maps
set_option linter.unusedVariables false
set_option linter.unusedSimpArgs false

theorem keyOf_any (k : List UInt8) (h : k.length ≤ maxLen) : keyOf Tryd.prog 9 (.string ⟨k.toArray⟩) = some (.string k) := by
  have := Go.WideMaps.keyOf_string_mk (P := Tryd.prog) (k := 9) Tryd.underlying9 (s := ⟨k.toArray⟩) (by simpa [ByteArray.size] using h)
  simpa using this
set_option maxRecDepth 100000 in
/-- 'v, ok := m[k]', of whatever key -/
theorem MapAt.look_ok {w : World} {b : Nat} {rows : RowL} (h : MapAt w b rows) (k : List UInt8) : (Instr.lookup 73 (.map (some b)) (.string ⟨k.toArray⟩) true).run Tryd.prog w = .ok (.tuple #[rowV ((getR rows k).getD []), .bool (getR rows k).isSome]) w := by
  by_cases hk : k.length ≤ maxLen
  · obtain ⟨u, ps, hrun, hv⟩ := h.own.look_ok keyedS Tryd.underMap (zero_row w) (rowE_mk []) (keyOf_any k hk)
    rw [at_rows] at hv
    rw [has_rows] at hrun
    obtain ⟨x, hx1, hx⟩ := rowE_inv hv
    rw [hrun, hx1]
    cases hg : getR rows k with
    | none =>
      rw [hg] at hx
      injection hx with hx _
      injection hx with hx
      injection hx with hx
      rw [← hx]
      rfl
    | some v =>
      rw [hg] at hx
      injection hx with hx _
      injection hx with hx
      injection hx with hx
      rw [← hx]
      rfl
  · have hno : getR rows k = none := by
      cases hg : getR rows k with
      | none => rfl
      | some v =>
        have hmem : ∀ (l : RowL), getR l k = some v → ∃ r ∈ l, r.1 = k := fun l => by
          induction l with
          | nil => intro e; cases e
          | cons r l ih =>
            intro e
            by_cases hr : r.1 = k
            · exact ⟨r, List.mem_cons_self .., hr⟩
            · have e : (if r.1 = k then some r.2 else getR l k) = some v := e
              rw [if_neg hr] at e
              obtain ⟨x, hx, hk⟩ := ih e
              exact ⟨x, List.mem_cons_of_mem _ hx, hk⟩
        obtain ⟨r, hr, e⟩ := hmem rows hg
        have := h.keys_le r hr
        rw [e] at this
        exact absurd this hk
    obtain ⟨⟨es, clock, hb, F, _, _⟩, _⟩ := h
    have hkeys : ∀ x ∈ es.toList, ∃ s : ByteArray, x.key = .string s ∧ s.size ≤ maxLen := fun x hx => by
      obtain ⟨y, hy⟩ := F.reads x hx
      obtain ⟨z, hz, _, hl⟩ := Maps.keyOf_str Tryd.underlying9 (Go.WideElems.rd_key hy)
      exact ⟨⟨z.toArray⟩, hz, by simpa [ByteArray.size] using hl⟩
    have hf : (Instr.findKey 9 (.string ⟨k.toArray⟩) es.toList).run Tryd.prog w = .ok none w := by
      refine MapKept.run_findKey Tryd.underlying9 ?_
      rcases MapKept.findNow_spec (d := .string) (k := .string ⟨k.toArray⟩) trivial es.toList 0 (fun x hx => by obtain ⟨s, e, _⟩ := hkeys x hx; rw [e]; trivial) with ⟨h1, _⟩ | ⟨j, e, h1, h2, h3⟩
      · exact h1
      · obtain ⟨s, e1, hs⟩ := hkeys e (List.mem_of_getElem? h2)
        rw [h3] at e1
        injection e1 with e1
        rw [← e1] at hs
        exact absurd (by simpa [ByteArray.size] using hs) hk
    have hc : (Instr.checkKey true 10000 9 (.string ⟨k.toArray⟩)).run Tryd.prog w = .ok () w := MapKept.run_checkKey Tryd.underlying9 (k := .string ⟨k.toArray⟩) trivial true 9999
    have hc2 : ∀ em, (Instr.checkKey em 10000 9 (.string ⟨k.toArray⟩)).run Tryd.prog w = .ok () w := fun em => MapKept.run_checkKey Tryd.underlying9 (k := .string ⟨k.toArray⟩) trivial em 9999
    rw [hno]
    simp [Instr.lookup, run_underlying Tryd.underMap, MapKept.run_getObj_map hb, hc2, hf, zero_row, Result.andThen]
    rfl
set_option maxRecDepth 100000 in
theorem sget_any (w : World) (S : Nat → Prop) (p q : Nat) (rows : RowL) (k : List UInt8) (h : CStore w S p q rows) : Calls Tryd.prog 26 #[.pointer (some ⟨p, 0, none⟩), .string ⟨k.toArray⟩] w fun e w' => e = .returned (getV (getR rows k)) ∧ Below w.heap.size w w' := by
  obtain ⟨b, hbx, hm, -⟩ := h
  have hlk := hm.look_ok k
  have c0 : w.cell? ⟨p, 0, none⟩ = some (.pointer (some ⟨q, 0, none⟩)) := (cell_here hbx).trans rfl
  have c1 : w.cell? ⟨p, 1, none⟩ = some (.map (some b)) := (cell_here hbx).trans rfl
  obtain ⟨SK, hSK⟩ : ∃ S : ByteArray, S = ⟨k.toArray⟩ := ⟨_, rfl⟩
  obtain ⟨SV, hSV⟩ : ∃ S : ByteArray, S = ⟨((getR rows k).getD []).toArray⟩ := ⟨_, rfl⟩
  obtain ⟨G, hG⟩ : ∃ G, (getR rows k).isSome = G := ⟨_, rfl⟩
  have hgv : getV (getR rows k) = .tuple #[.string SV, .bool G] := by
    rw [hSV, ← hG]
    cases getR rows k <;> rfl
  unfold rowV at hlk
  rw [← hSK, ← hSV, hG] at hlk
  rw [hgv, ← hSK]
  obtain ⟨W1, hW1⟩ : ∃ W, W = w.alloc (.cells #[.string SV] 93 (0, 0)) := ⟨_, rfl⟩
  have hb1 : Below w.heap.size w W1 := by rw [hW1]; exact (Below.refl _ _).alloc (Nat.le_refl _) _
  have k1 : W1.heap[w.heap.size]? = some (.cells #[.string SV] 93 (0, 0)) := by rw [hW1]; exact heap_alloc_last w _
  have e0 : W1.cell? ⟨w.heap.size, 0, none⟩ = some (.string SV) := cell_here k1
  have HW1 := Lib.hid hW1; have B1 := Lib.hid hb1
  clear hgv hG hSV hSK hbx hm hW1 hb1 k1
  go_enter Tryd.func26, Tryd.ntmps26
  go_upto_region 4 with fail
  rw [← HW1.out]
  go_wp2
  go_ret2
  exact ⟨rfl, B1.out⟩
set_option maxRecDepth 100000 in
theorem sget_nil (w : World) (k : ByteArray) : Calls Tryd.prog 26 #[.pointer none, .string k] w fun e w' => e = .returned (getV none) ∧ Below w.heap.size w w' := by
  have hgv : getV none = .tuple #[.string ⟨#[]⟩, .bool false] := rfl
  rw [hgv]
  clear hgv
  go_enter Tryd.func26, Tryd.ntmps26
  go_wp2
  go_ret2
  exact ⟨rfl, Below.refl _ _⟩
set_option maxRecDepth 100000 in
theorem skeysM_any (w : World) (S : Nat → Prop) (p q : Nat) (rows : RowL) (k : List UInt8) (h : CStore w S p q rows) (hl : rows.length ≤ 100000) (hk : k.length ≤ 1000000000000000) : Calls Tryd.prog 27 #[.pointer (some ⟨p, 0, none⟩), .string ⟨k.toArray⟩] w fun e w' => (∃ v, e = .returned v ∧ RdT w' v (keysR rows k)) ∧ Below w.heap.size w w' := by
  obtain ⟨b, hbx, hm, -⟩ := h
  have hks := skeys_any b rows k (by omega) w hm
  have c0 : w.cell? ⟨p, 0, none⟩ = some (.pointer (some ⟨q, 0, none⟩)) := (cell_here hbx).trans rfl
  have c1 : w.cell? ⟨p, 1, none⟩ = some (.map (some b)) := (cell_here hbx).trans rfl
  have KS := Lib.hid hks
  clear hks hbx hm
  go_enter Tryd.func27, Tryd.ntmps27
  go_wp2_with fail
  refine KS.out.mono ?_
  rintro e w1 ⟨⟨v, rfl, hr⟩, hb1⟩
  have B1 := Lib.hid hb1; have R1 := Lib.hid hr
  clear hb1 hr
  dsimp only
  go_wp2
  go_ret
  exact ⟨⟨v, rfl, R1.out⟩, B1.out⟩
set_option maxRecDepth 100000 in
theorem skeysM_nil (w : World) (k : ByteArray) : Calls Tryd.prog 27 #[.pointer none, .string k] w fun e w' => (∃ A c, e = .returned (.slice A 0 c)) ∧ Below w.heap.size w w' := by
  go_enter Tryd.func27, Tryd.ntmps27
  go_wp2
  go_ret
  exact ⟨⟨none, 0, rfl⟩, Below.refl _ _⟩
set_option maxRecDepth 100000 in
theorem sdo_nil (w : World) (v : Value) : Calls Tryd.prog 18 #[.pointer none, v] w fun e w' => e = .returned (.int .i64 1) ∧ Below w.heap.size w w' := by
  go_enter Tryd.func18, Tryd.ntmps18
  go_wp2
  go_ret
  exact ⟨rfl, Below.refl _ _⟩
set_option maxRecDepth 100000 in
theorem sopen_nil (w : World) : Calls Tryd.prog 12 #[.pointer none] w fun e w' => e = .returned (.tuple #[.pointer none, .int .i64 1]) ∧ Below w.heap.size w w' := by
  go_enter Tryd.func12, Tryd.ntmps12
  go_wp2
  go_ret2
  exact ⟨rfl, Below.refl _ _⟩
/-- THE LANDED STORE -/
theorem codeStore : CodeStore CT CStore where
  keep := fun {w w' S p q rows} h hs hb => by
    obtain ⟨b, hbx, hm, hS⟩ := h
    exact ⟨b, (hb p ((hS p).2 (.inl rfl))).trans hbx, hm.keep (hb b ((hS b).2 (.inr rfl))), hS⟩
  lt := fun {w S p q rows} h b hb => by
    obtain ⟨m, hbx, hm, hS⟩ := h
    rcases (hS b).1 hb with rfl | rfl
    · exact (Array.getElem?_eq_some_iff.1 hbx).1
    · exact hm.lt
  rising := fun {w S p q rows} h => by
    obtain ⟨m, hbx, hm, hS⟩ := h
    exact hm.rising
  open_ := sopen_any
  nopen := sopen_nil
  do_ := fun w T S p q t rows A c l hct hcs hST ht htl hr hro h hl hz hz2 _ => sdo_any T S p q t rows A c l w hct hcs hST ht htl hr hro h hl hz hz2
  ndo := fun w v l _ => sdo_nil w v
  get := sget_any
  nget := sget_nil
  keys := skeysM_any
  nkeys := skeysM_nil
end Go.Proofs.YtklhdffbaglkdaaDoor
