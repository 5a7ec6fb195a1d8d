/- Texts merged by program, in build order: LawStoreO, StoreRenew. -/
import Derived.Test.YtklhdffbaglkdaaDoorG19
import Derived.Test.YtklhdffbaglkdaaDoorG16
import Derived.Test.YtklhdffbaglkdaaDoorG17
import Derived.Test.YtklhdffbaglkdaaDoorG05
import Derived.Test.YtklhdffbaglkdaaDoorG20
namespace Go.Proofs.YtklhdffbaglkdaaDoor
open Go.RowKit
set_option linter.unusedVariables false
set_option linter.unusedSimpArgs false

theorem recAll_key : ∀ (l : List Ch) (x : Ch), x ∈ l → x.key.length ≤ (recAll l).length
  | y :: l, x, h => by
    rw [recAll_cons, List.length_append, recOne_len]
    rcases List.mem_cons.1 h with rfl | h
    · omega
    · have := recAll_key l x h; omega
theorem changes_key {b : List UInt8} {l : List Ch} (h : changesL b = some l) : ∀ x ∈ l, x.key.length ≤ b.length := by
  unfold changesL at h
  split at h
  · split at h
    · cases h
    · split at h
      · rename_i he
        injection h with h
        subst h
        intro x hx
        rw [← he, recL_len]
        have := recAll_key _ x hx
        omega
      · cases h
  · cases h
theorem turnL_key (M : Nat) : ∀ (l : List Ch) (rows : RowL), (∀ y ∈ rows, y.1.length ≤ M) → (∀ x ∈ l, x.key.length ≤ M) → ∀ y ∈ turnL rows l, y.1.length ≤ M
  | [], rows, h, _, y, hy => h y hy
  | c :: l, rows, h, hl, y, hy => by
    rw [turnL_cons] at hy
    refine turnL_key M l (turn1 rows c) (fun z hz => ?_) (fun x hx => hl x (List.mem_cons_of_mem _ hx)) y hy
    rcases insL_mem _ _ _ _ z hz with hz | hz
    · exact h z hz
    · rw [hz]; exact hl c (by simp)
theorem foldR_key (M : Nat) : ∀ (r : List (List UInt8)) (rows x : RowL), foldR rows r = some x → (∀ y ∈ rows, y.1.length ≤ M) → r.flatten.length ≤ M → ∀ y ∈ x, y.1.length ≤ M
  | [], rows, x, h, h1, _, y, hy => by
    have h : some rows = some x := h
    injection h with h
    exact h1 y (h ▸ hy)
  | b :: r, rows, x, h, h1, h2, y, hy => by
    rw [List.flatten_cons, List.length_append] at h2
    rw [foldR_cons] at h
    cases hb : changesL b with
    | none => rw [hb] at h; cases h
    | some l =>
      rw [hb] at h
      refine foldR_key M r _ x h (turnL_key M l rows h1 fun z hz => ?_) (by omega) y hy
      have := changes_key hb z hz
      omega
/-- what a tape is opened to: few rows, with short keys, rising -/
theorem openS_rows (t : TP) : (openS t).2.1.length ≤ t.b.length ∧ (∀ y ∈ (openS t).2.1, y.1.length ≤ t.b.length) ∧ Rising (openS t).2.1 := by
  have hs := splitL_sum t.b
  have hnil : ([] : RowL).length ≤ t.b.length ∧ (∀ y ∈ ([] : RowL), y.1.length ≤ t.b.length) ∧ Rising ([] : RowL) := ⟨Nat.zero_le _, fun y hy => (by cases hy), trivial⟩
  unfold openS
  cases hf : foldR [] (splitL t.b).1 with
  | none => exact hnil
  | some rows =>
    have h1 := foldR_len _ _ _ hf
    have h2 := foldR_key t.b.length _ _ _ hf (fun y hy => (by cases hy)) hs
    have h3 := foldR_rising _ [] rows trivial hf
    have hall : rows.length ≤ t.b.length ∧ (∀ y ∈ rows, y.1.length ≤ t.b.length) ∧ Rising rows := ⟨by simp only [List.length_nil] at h1; omega, h2, h3⟩
    dsimp only
    split
    · split
      · exact hall
      · exact hnil
    · exact hall
theorem swap_new (l : List UInt8) : TP.new.swap l = (⟨l, l.length, -1, false⟩, 0) := swap_calm (t := TP.new) (by show (-1 : Int) < 0; decide) rfl l
/-- the code's tape opened beside the reference's -/
theorem codeOpen_two {CT : World → (Nat → Prop) → Nat → TP → Prop} {CS : World → (Nat → Prop) → Nat → Nat → RowL → Prop} (HT : CodeTape CT) (H : CodeStore CT CS) {w0 w : World} {p q : Nat} {t u : TP} (h : Two CT RCT w0 w p q t u) (ht : t.Ok) (hb : t.b.length ≤ 100000) (hr : RoundsIn w0) :
    Calls Tryd.prog 12 #[.pointer (some ⟨p, 0, none⟩)] w fun e w' => ((openS t).1 = 0 → ∃ ps, e = .returned (.tuple #[.pointer (some ⟨ps, 0, none⟩), .int .i64 0]) ∧ (∃ S, CS w' S ps p (openS t).2.1 ∧ ¬ S q) ) ∧ ((openS t).1 ≠ 0 → e = .returned (.tuple #[.pointer none, .int .i64 (openS t).1])) ∧ (∃ T, CT w' T p (openS t).2.2 ∧ ¬ T q) ∧ (∃ v, RT w' q v u) ∧ w0.heap.size ≤ q ∧ Below w0.heap.size w0 w' := by
  obtain ⟨T, X, h1, ⟨v, h2, hX⟩, h3, h4, h5, h6⟩ := h
  have hq : X q := (hX q).2 (.inl rfl)
  have hqlt : q < w.heap.size := h2.lt
  have hTq : ¬ T q := fun h => h3 q h hq
  refine (H.open_ w T p t h1 ht hb (hr.below h6)).mono ?_
  rintro e w' ⟨⟨T', c1, c2, c3⟩, ho⟩
  have hT' : ¬ T' q := fun h => (c2 q h).elim hTq (fun h => by omega)
  refine ⟨fun h0 => ?_, fun h0 => ?_, ⟨T', c1, hT'⟩, ⟨v, h2.keep ho.size (ho.block q hqlt hTq) fun g hg => ho.block g (h2.rd.lt hg) (fun h => h3 g h ((hX g).2 (.inr hg)))⟩, h5 q hq, h6.trans (ho.below h6.size h4)⟩
  · rcases c3 with c3 | c3
    · obtain ⟨_, ps, S, rfl, k1, k2⟩ := c3
      exact ⟨ps, rfl, S, k1, fun h => by have := (k2 q h).1; omega⟩
    · exact absurd h0 c3.1
  · rcases c3 with c3 | c3
    · exact absurd c3.1 h0
    · exact c3.2
set_option maxRecDepth 100000 in
set_option maxHeartbeats 4000000 in
theorem storeOpens_at {CT : World → (Nat → Prop) → Nat → TP → Prop} {CS : World → (Nat → Prop) → Nat → Nat → RowL → Prop} (HT : CodeTape CT) (H : CodeStore CT CS) (A : Option Addr) (c : Nat) (l : List UInt8) {w : World} (hb : RdAt w (.slice A l.length c) l) (hr : RoundsIn w) :
    Calls Tryd.prog 5 #[.slice A l.length c] w fun e w' => e = .returned (.bool true) ∧ Below w.heap.size w w' := by
  have hans := fun W (hb : Below w.heap.size w W) => answers12_any HT H W (hr.below hb)
  obtain ⟨n, hn⟩ : ∃ n, l.length = n := ⟨_, rfl⟩
  have hlt : ∀ g, (Value.slice A l.length c).ownBlock = some g → g < w.heap.size := fun g hg => hb.lt hg
  rw [hn] at hb hlt ⊢
  have HA := Lib.hid hans; have HHT := Lib.hid HT; have HH := Lib.hid H; have HR := Lib.hid hr; have HB := Lib.hid hb; have HLT := Lib.hid hlt; have HN := Lib.hid hn
  clear hans HT H hr hb hlt hn
  by_cases hbig : 3000 < n
  · have hq : decide ((3000 : Int) < n) = true := by simp; omega
    go_enter Tryd.func5, Tryd.ntmps5
    go_wp2_with fail
    refine (HA.out _ (Below.refl _ _)).mono ?_
    rintro e w1 ⟨rfl, hb1⟩
    have B1 := Lib.hid hb1; clear hb1
    dsimp only
    go_wp2
    go_ret
    exact ⟨rfl, B1.out⟩
  have hq : decide ((3000 : Int) < n) = false := by simp; omega
  obtain ⟨t0, ht0⟩ : ∃ t0, (TP.new.swap l) = (t0, 0) := ⟨_, swap_new l⟩
  have hok0 : t0.Ok ∧ t0.b.length ≤ 3000 := by
    have h1 := TP.swap_ok TP.new_ok l
    have h2 := swap_new l
    rw [ht0] at h1 h2
    injection h2 with h2 _
    exact ⟨h1.1, by rw [h2]; show l.length ≤ 3000; have := HN.out; omega⟩
  have hok2 := openS_ok hok0.1
  have hrw := openS_rows t0
  obtain ⟨E, R, t2, hop⟩ : ∃ E R t2, openS t0 = (E, R, t2) := ⟨_, _, _, rfl⟩
  rw [hop] at hok2 hrw
  dsimp only at hok2 hrw
  have HRW := Lib.hid hrw
  clear hrw
  have T0 := Lib.hid ht0; have OK0 := Lib.hid hok0; have OP := Lib.hid hop; have OK2 := Lib.hid hok2
  have hll : l.length ≤ 100000 := by have := HN.out; omega
  have HLL := Lib.hid hll
  clear ht0 hok0 hop hok2 hbig hll
  go_enter Tryd.func5, Tryd.ntmps5
  go_wp2_with fail
  refine (HHT.out.new w).mono ?_
  rintro e w1 ⟨⟨p, S, rfl, hc1, hs1⟩, hb1⟩
  have HC1 := Lib.hid hc1; have HS1 := Lib.hid hs1; have HB1 := Lib.hid hb1
  clear hc1 hs1 hb1
  dsimp only
  go_wp2_with fail
  refine (refNew_any _).mono ?_
  rintro e w2 ⟨⟨q, rfl, hq2, hr2⟩, hb2⟩
  have hstart : Two CT RCT w w2 p q TP.new TP.new := Two.start HHT.out.kept HC1.out HS1.out HB1.out (X := fun b => b = q) ⟨_, hr2, fun b => ⟨fun h => .inl h, fun h => h.elim id (fun h => by cases h)⟩⟩ (fun b hb => by rw [hb]; exact hq2) hb2
  have T2 := Lib.hid hstart
  clear hstart hr2 hb2 hq2 HC1 HS1 HB1
  dsimp only
  go_wp2_with fail
  have hsw := Two.fst HHT.out.kept RCT.kept T2.out (t' := t0) (E := .returned (.int .i64 0)) (f := 24) (args := #[.pointer (some ⟨p, 0, none⟩), .slice A n c]) (P := Tryd.prog) (fun S h hS => by
    have := HHT.out.swap w2 S p TP.new (.slice A n c) l h TP.new_ok (by decide) (HB.out.below T2.out.low) HLL.out (fun g hg hs => by have := HLT.out g hg; have := hS g hs; omega)
    rw [T0.out] at this
    exact this)
  have SW := Lib.hid hsw; clear hsw
  refine SW.out.mono ?_
  rintro e w3 ⟨rfl, h3⟩
  have T3 := Lib.hid h3; clear h3 SW
  dsimp only
  go_wp2_with fail
  have hsw := Two.snd HHT.out.kept RCT.kept T3.out (u' := t0) (E := .returned (.int .i64 0)) (f := 25) (args := #[.pointer (some ⟨q, 0, none⟩), .slice A n c]) (P := Tryd.prog) (fun X h hX => by
    have := refSwap_c w3 X q TP.new (.slice A n c) l h TP.new_ok (HB.out.below T3.out.low).weak HLL.out (fun g hg hs => by have := HLT.out g (rdBlock_own hg); have := hX g hs; omega)
    rw [T0.out] at this
    exact this)
  have SW := Lib.hid hsw; clear hsw
  refine SW.out.mono ?_
  rintro e w4 ⟨rfl, h4⟩
  have T4 := Lib.hid h4; clear h4 SW
  dsimp only
  go_wp2_with fail
  have hco := codeOpen_two HHT.out HH.out T4.out OK0.out.1 (by have := OK0.out.2; omega) HR.out
  rw [OP.out] at hco
  have CO := Lib.hid hco; clear hco
  by_cases hE : E = 0
  · subst hE
    refine CO.out.mono ?_
    rintro e w5 ⟨h1, -, ⟨T, hT1, hT2⟩, ⟨v, hv⟩, hq0, hlow⟩
    obtain ⟨ps, rfl, S, hS1, hS2⟩ := h1 rfl
    have hro := refOpen_any q v t0 OK0.out.1 (by have := OK0.out.2; omega) w5 hv
    unfold Opened at hro
    rw [OP.out] at hro
    have RO := Lib.hid hro; have HT1 := Lib.hid hT1; have HT2 := Lib.hid hT2; have HS1 := Lib.hid hS1; have HS2 := Lib.hid hS2; have HQ0 := Lib.hid hq0; have LOW := Lib.hid hlow
    clear hro hT1 hT2 hS1 hS2 hq0 hlow hv h1
    dsimp only
    go_wp2_with fail
    refine RO.out.mono ?_
    rintro e w6 ⟨h1, -, ho⟩
    have h1 := h1.resolve_right (fun h => h.1 rfl)
    obtain ⟨-, pr, v6, rv, rfl, -, hst, -⟩ := h1
    have hlow6 : Below w.heap.size w w6 := LOW.out.trans (ho.below LOW.out.size (fun i hi => by rw [hi]; exact HQ0.out))
    have hct6 : CT w6 T p t2 := HHT.out.only HT1.out ho (fun b hb e => HT2.out (e ▸ hb))
    have hcs6 : CS w6 S ps p R := HH.out.only HS1.out ho (fun b hb e => HS2.out (e ▸ hb))
    have ST6 := Lib.hid hst; have LOW6 := Lib.hid hlow6; have CT6 := Lib.hid hct6; have CS6 := Lib.hid hcs6
    clear hst hlow6 hct6 hcs6 ho RO
    dsimp only
    have B6 : Hid (Below w6.heap.size w6 w6.drew) := Lib.hid (Below.refl _ _).drew
    obtain ⟨A6, c6, rfl, _⟩ := ST6.out.tape.rd.news
    obtain ⟨L, hL⟩ : ∃ L, t2.b.length = L := ⟨_, rfl⟩
    obtain ⟨X, hX⟩ : ∃ X : ByteArray, X = ⟨t2.b.toArray⟩ := ⟨_, rfl⟩
    have hlen : t2.b.length ≤ 100000000 := by have := OK2.out.2; have := OK0.out.2; omega
    have cB : ∀ W, Below w6.heap.size w6 W → Calls Tryd.prog 21 #[.pointer (some ⟨p, 0, none⟩)] W fun e w' => (∃ A c, e = .returned (.slice A L c) ∧ (convert 40 9 (.slice A L c)).run Tryd.prog w' = .ok (.string X) w' ∧ Hid (∀ W2, Below w'.heap.size w' W2 → (convert 40 9 (.slice A L c)).run Tryd.prog W2 = .ok (.string X) W2)) ∧ Below W.heap.size W w' := fun W hbw =>
      (HHT.out.bytes W T p t2 (HHT.out.below CT6.out hbw) hlen).mono fun e w' ⟨⟨A, c, he, hrd, _⟩, hb⟩ => by
        rw [hL] at he hrd
        have ht : ∀ W2, Below w'.heap.size w' W2 → (convert 40 9 (.slice A L c)).run Tryd.prog W2 = .ok (.string X) W2 := fun W2 h2 => by rw [hX]; exact (hrd.below h2).text
        exact ⟨⟨A, c, he, ht w' (Below.refl _ _), ht⟩, hb⟩
    have cR : ∀ W, Below w6.heap.size w6 W → W.cell? ⟨pr, 1, none⟩ = some rv ∧ W.cell? ⟨q, 0, none⟩ = some (.slice A6 L c6) ∧ (convert 40 9 (.slice A6 L c6)).run Tryd.prog W = .ok (.string X) W := fun W hbw => by
      have h := ST6.out.below hbw
      obtain ⟨⟨b0, b1, _, _⟩, _⟩ := box4_of h.tape.box
      have ht := h.tape.rd.text
      rw [hL] at b0 ht
      rw [hX]
      exact ⟨h.cells.2.1, b0, ht⟩
    have cM : ∀ W, Below w6.heap.size w6 W → Calls Tryd.prog 20 #[.pointer (some ⟨ps, 0, none⟩), rv] W fun e w' => e = .returned (.bool true) ∧ Below W.heap.size W w' := fun W hbw => by
      have hrv := ST6.out.rd
      obtain ⟨Ar, cr, rfl⟩ := rdr_form hrv
      have h0 := OK0.out.2
      have := same12_any HH.out S ps p R R Ar cr (by have := HRW.out.1; omega) (by have := HRW.out.1; omega) (fun r hr => by have := HRW.out.2.1 r hr; omega) HRW.out.2.2 W (HH.out.below CS6.out hbw) (hrv.below hbw)
      rw [decide_eq_true rfl] at this
      exact this
    have CB := Lib.hid cB; have CRR := Lib.hid cR; have CSM := Lib.hid cM
    obtain ⟨r0, r1, r2⟩ := cR _ B6.out
    have hXX : (X.toList == X.toList) = true := by simp
    clear cB cR cM hL hX hlen
    go_upto_region 10 with fail
    refine wp_region_held_drew (S := (fun W => W.cell? ⟨pr, 1, none⟩ = some rv ∧ W.cell? ⟨q, 0, none⟩ = some (.slice A6 L c6) ∧ (convert 40 9 (.slice A6 L c6)).run Tryd.prog W = .ok (.string X) W)) (by kernel_rfl) (CRR.out _ B6.out) (fun hHeld => ?_)
    refine wpAnyH_ready (rs := [0]) (by kernel_rfl) (by simp) ?_
    refine AllReadyH.cons (o := _) (by simp only [List.getElem?_toArray, List.getElem?_cons_succ, List.getElem?_cons_zero]; rfl) (fun K hK => ?_) AllReadyH.nil
    go_simp
    go_at_call 9
    (with_reducible refine (HA.out _ (LOW6.out.chain B6.out)).mono ?_)
    rintro e w7 ⟨rfl, hb7⟩
    have B7 := Lib.hid (B6.out.chain hb7); clear hb7
    dsimp only
    refine hK.out _ _ (CRR.out _ B7.out) (fun hHeld => ?_)
    clear hK K
    try simp only [Act.put, List.setIfInBounds_toArray, List.set_cons_zero, List.set_cons_succ]
    refine wpAnyH_take (i := 1) (oi := _) (v := ?v27) (by simp only [List.getElem?_toArray, List.getElem?_cons_succ, List.getElem?_cons_zero]; rfl) (by kernel_rfl) (by kernel_rfl) (by kernel_rfl) (by exact fun _ _ _ h => h) (Or.inl ⟨by rfl, ?hy27⟩) (by assumption) ?rest27
    case hy27 => (intro w hSw; (try dsimp only at hSw); go_simp; try with_reducible rfl)
    try simp only [Act.put, List.setIfInBounds_toArray, List.set_cons_zero, List.set_cons_succ]
    refine wpAnyH_take (i := 2) (oi := _) (v := ?v28) (by simp only [List.getElem?_toArray, List.getElem?_cons_succ, List.getElem?_cons_zero]; rfl) (by kernel_rfl) (by kernel_rfl) (by kernel_rfl) (by exact fun _ _ _ h => h) (Or.inl ⟨by rfl, ?hy28⟩) (by assumption) ?rest28
    case hy28 => (intro w hSw; (try dsimp only at hSw); go_simp; try with_reducible rfl)
    try simp only [Act.put, List.setIfInBounds_toArray, List.set_cons_zero, List.set_cons_succ]
    refine wpAnyH_take (i := 3) (oi := _) (v := ?v29) (by simp only [List.getElem?_toArray, List.getElem?_cons_succ, List.getElem?_cons_zero]; rfl) (by kernel_rfl) (by kernel_rfl) (by kernel_rfl) (by exact fun _ _ _ h => h) (Or.inl ⟨by rfl, ?hy29⟩) (by assumption) ?rest29
    case hy29 => (intro w hSw; (try dsimp only at hSw); go_simp; try with_reducible rfl)
    try simp only [Act.put, List.setIfInBounds_toArray, List.set_cons_zero, List.set_cons_succ]
    refine wpAnyH_take (i := 4) (oi := _) (v := ?v30) (by simp only [List.getElem?_toArray, List.getElem?_cons_succ, List.getElem?_cons_zero]; rfl) (by kernel_rfl) (by kernel_rfl) (by kernel_rfl) (by exact fun _ _ _ h => h) (Or.inl ⟨by rfl, ?hy30⟩) (by assumption) ?rest30
    case hy30 => (intro w hSw; (try dsimp only at hSw); go_simp; try with_reducible rfl)
    try simp only [Act.put, List.setIfInBounds_toArray, List.set_cons_zero, List.set_cons_succ]
    refine wpAnyH_take (i := 5) (oi := _) (v := ?v31) (by simp only [List.getElem?_toArray, List.getElem?_cons_succ, List.getElem?_cons_zero]; rfl) (by kernel_rfl) (by kernel_rfl) (by kernel_rfl) (by exact fun _ _ _ h => h) (Or.inl ⟨by rfl, ?hy31⟩) (by assumption) ?rest31
    case hy31 => (intro w hSw; (try dsimp only at hSw); go_simp; try with_reducible rfl)
    try simp only [Act.put, List.setIfInBounds_toArray, List.set_cons_zero, List.set_cons_succ]
    refine wpAnyH_take (i := 6) (oi := _) (v := ?v32) (by simp only [List.getElem?_toArray, List.getElem?_cons_succ, List.getElem?_cons_zero]; rfl) (by kernel_rfl) (by kernel_rfl) (by kernel_rfl) (by exact fun _ _ _ h => h) (Or.inl ⟨by rfl, ?hy32⟩) (by assumption) ?rest32
    case hy32 => (intro w hSw; (try dsimp only at hSw); go_simp; try with_reducible rfl)
    try simp only [Act.put, List.setIfInBounds_toArray, List.set_cons_zero, List.set_cons_succ]
    refine wpAnyH_take (i := 7) (oi := _) (v := ?v33) (by simp only [List.getElem?_toArray, List.getElem?_cons_succ, List.getElem?_cons_zero]; rfl) (by kernel_rfl) (by kernel_rfl) (by kernel_rfl) (by exact fun _ _ _ h => h) (Or.inl ⟨by rfl, ?hy33⟩) (by assumption) ?rest33
    case hy33 => (intro w hSw; (try dsimp only at hSw); go_simp; try with_reducible rfl)
    try simp only [Act.put, List.setIfInBounds_toArray, List.set_cons_zero, List.set_cons_succ]
    refine wpAnyH_take (i := 8) (oi := _) (v := ?v34) (by simp only [List.getElem?_toArray, List.getElem?_cons_succ, List.getElem?_cons_zero]; rfl) (by kernel_rfl) (by kernel_rfl) (by kernel_rfl) (by exact fun _ _ _ h => h) (Or.inl ⟨by rfl, ?hy34⟩) (by assumption) ?rest34
    case hy34 => (intro w hSw; (try dsimp only at hSw); go_simp; try with_reducible rfl)
    try simp only [Act.put, List.setIfInBounds_toArray, List.set_cons_zero, List.set_cons_succ]
    refine wpAnyH_take (i := 9) (oi := _) (v := ?v35) (by simp only [List.getElem?_toArray, List.getElem?_cons_succ, List.getElem?_cons_zero]; rfl) (by kernel_rfl) (by kernel_rfl) (by kernel_rfl) (by exact fun _ _ _ h => h) (Or.inl ⟨by rfl, ?hy35⟩) (by assumption) ?rest35
    case hy35 => (intro w hSw; (try dsimp only at hSw); go_simp; try with_reducible rfl)
    try simp only [Act.put, List.setIfInBounds_toArray, List.set_cons_zero, List.set_cons_succ]
    refine wpAnyH_ready (rs := [10]) (by kernel_rfl) (by simp) ?_
    refine AllReadyH.cons (o := _) (by simp only [List.getElem?_toArray, List.getElem?_cons_succ, List.getElem?_cons_zero]; rfl) (fun K hK => ?_) AllReadyH.nil
    go_simp
    go_at_call 20
    (with_reducible refine (CSM.out _ B7.out).mono ?_)
    rintro e w8 ⟨rfl, hb8⟩
    have B8 := Lib.hid (B7.out.chain hb8); clear hb8
    dsimp only
    refine hK.out _ _ (CRR.out _ B8.out) (fun hHeld => ?_)
    clear hK K
    try simp only [Act.put, List.setIfInBounds_toArray, List.set_cons_zero, List.set_cons_succ]
    refine wpAnyH_take (i := 11) (oi := _) (v := ?v37) (by simp only [List.getElem?_toArray, List.getElem?_cons_succ, List.getElem?_cons_zero]; rfl) (by kernel_rfl) (by kernel_rfl) (by kernel_rfl) (by exact fun _ _ _ h => h) (Or.inl ⟨by rfl, ?hy37⟩) (by assumption) ?rest37
    case hy37 => (intro w hSw; (try dsimp only at hSw); go_simp; try with_reducible rfl)
    try simp only [Act.put, List.setIfInBounds_toArray, List.set_cons_zero, List.set_cons_succ]
    refine wpAnyH_take (i := 12) (oi := _) (v := ?v38) (by simp only [List.getElem?_toArray, List.getElem?_cons_succ, List.getElem?_cons_zero]; rfl) (by kernel_rfl) (by kernel_rfl) (by kernel_rfl) (by exact fun _ _ _ h => h) (Or.inl ⟨by rfl, ?hy38⟩) (by assumption) ?rest38
    case hy38 => (intro w hSw; (try dsimp only at hSw); go_simp; try with_reducible rfl)
    try simp only [Act.put, List.setIfInBounds_toArray, List.set_cons_zero, List.set_cons_succ]
    refine wpAnyH_take (i := 15) (oi := _) (v := ?v39) (by simp only [List.getElem?_toArray, List.getElem?_cons_succ, List.getElem?_cons_zero]; rfl) (by kernel_rfl) (by kernel_rfl) (by kernel_rfl) (by exact fun _ _ _ h => h) (Or.inl ⟨by rfl, ?hy39⟩) (by assumption) ?rest39
    case hy39 => (intro w hSw; (try dsimp only at hSw); go_simp; try with_reducible rfl)
    try simp only [Act.put, List.setIfInBounds_toArray, List.set_cons_zero, List.set_cons_succ]
    refine wpAnyH_take (i := 16) (oi := _) (v := ?v40) (by simp only [List.getElem?_toArray, List.getElem?_cons_succ, List.getElem?_cons_zero]; rfl) (by kernel_rfl) (by kernel_rfl) (by kernel_rfl) (by exact fun _ _ _ h => h) (Or.inl ⟨by rfl, ?hy40⟩) (by assumption) ?rest40
    case hy40 => (intro w hSw; (try dsimp only at hSw); go_simp; try with_reducible rfl)
    try simp only [Act.put, List.setIfInBounds_toArray, List.set_cons_zero, List.set_cons_succ]
    refine wpAnyH_take (i := 17) (oi := _) (v := ?v41) (by simp only [List.getElem?_toArray, List.getElem?_cons_succ, List.getElem?_cons_zero]; rfl) (by kernel_rfl) (by kernel_rfl) (by kernel_rfl) (by exact fun _ _ _ h => h) (Or.inl ⟨by rfl, ?hy41⟩) (by assumption) ?rest41
    case hy41 => (intro w hSw; (try dsimp only at hSw); go_simp; try with_reducible rfl)
    try simp only [Act.put, List.setIfInBounds_toArray, List.set_cons_zero, List.set_cons_succ]
    refine wpAnyH_take (i := 18) (oi := _) (v := ?v42) (by simp only [List.getElem?_toArray, List.getElem?_cons_succ, List.getElem?_cons_zero]; rfl) (by kernel_rfl) (by kernel_rfl) (by kernel_rfl) (by exact fun _ _ _ h => h) (Or.inl ⟨by rfl, ?hy42⟩) (by assumption) ?rest42
    case hy42 => (intro w hSw; (try dsimp only at hSw); go_simp; try with_reducible rfl)
    try simp only [Act.put, List.setIfInBounds_toArray, List.set_cons_zero, List.set_cons_succ]
    refine wpAnyH_take (i := 19) (oi := _) (v := ?v43) (by simp only [List.getElem?_toArray, List.getElem?_cons_succ, List.getElem?_cons_zero]; rfl) (by kernel_rfl) (by kernel_rfl) (by kernel_rfl) (by exact fun _ _ _ h => h) (Or.inl ⟨by rfl, ?hy43⟩) (by assumption) ?rest43
    case hy43 => (intro w hSw; (try dsimp only at hSw); go_simp; try with_reducible rfl)
    try simp only [Act.put, List.setIfInBounds_toArray, List.set_cons_zero, List.set_cons_succ]
    refine wpAnyH_ready (rs := [13]) (by kernel_rfl) (by simp) ?_
    refine AllReadyH.cons (o := _) (by simp only [List.getElem?_toArray, List.getElem?_cons_succ, List.getElem?_cons_zero]; rfl) (fun K hK => ?_) AllReadyH.nil
    go_simp
    go_at_call 21
    (with_reducible refine (CB.out _ B8.out).mono ?_)
    rintro e w9 ⟨⟨A8, c8, rfl, hcv, HCV⟩, hb9⟩
    have B9 := Lib.hid (B8.out.chain hb9); clear hb9
    dsimp only
    refine hK.out _ _ (CRR.out _ B9.out) (fun hHeld => ?_)
    clear hK K
    try simp only [Act.put, List.setIfInBounds_toArray, List.set_cons_zero, List.set_cons_succ]
    refine wpAnyH_ready (rs := [14]) (by kernel_rfl) (by simp) ?_
    refine AllReadyH.cons (o := _) (by simp only [List.getElem?_toArray, List.getElem?_cons_succ, List.getElem?_cons_zero]; rfl) (fun K hK => ?_) AllReadyH.nil
    go_simp
    refine hK.out _ _ (by assumption) (fun hHeld => ?_)
    clear hK K
    try simp only [Act.put, List.setIfInBounds_toArray, List.set_cons_zero, List.set_cons_succ]
    refine wpAnyH_take (i := 20) (oi := _) (v := ?v46) (by simp only [List.getElem?_toArray, List.getElem?_cons_succ, List.getElem?_cons_zero]; rfl) (by kernel_rfl) (by kernel_rfl) (by kernel_rfl) (by exact fun _ _ _ h => h) (Or.inl ⟨by rfl, ?hy46⟩) (by assumption) ?rest46
    case hy46 => (intro w hSw; (try dsimp only at hSw); go_simp; try with_reducible rfl)
    try simp only [Act.put, List.setIfInBounds_toArray, List.set_cons_zero, List.set_cons_succ]
    refine wpAnyH_take (i := 21) (oi := _) (v := ?v47) (by simp only [List.getElem?_toArray, List.getElem?_cons_succ, List.getElem?_cons_zero]; rfl) (by kernel_rfl) (by kernel_rfl) (by kernel_rfl) (by exact fun _ _ _ h => h) (Or.inl ⟨by rfl, ?hy47⟩) (by assumption) ?rest47
    case hy47 => (intro w hSw; (try dsimp only at hSw); go_simp; try with_reducible rfl)
    try simp only [Act.put, List.setIfInBounds_toArray, List.set_cons_zero, List.set_cons_succ]
    refine wpAnyH_take (i := 22) (oi := _) (v := ?v48) (by simp only [List.getElem?_toArray, List.getElem?_cons_succ, List.getElem?_cons_zero]; rfl) (by kernel_rfl) (by kernel_rfl) (by kernel_rfl) (by exact fun _ _ _ h => h) (Or.inl ⟨by rfl, ?hy48⟩) (by assumption) ?rest48
    case hy48 => (intro w hSw; (try dsimp only at hSw); go_simp; try with_reducible rfl)
    try simp only [Act.put, List.setIfInBounds_toArray, List.set_cons_zero, List.set_cons_succ]
    refine wpAnyH_take (i := 23) (oi := _) (v := ?v49) (by simp only [List.getElem?_toArray, List.getElem?_cons_succ, List.getElem?_cons_zero]; rfl) (by kernel_rfl) (by kernel_rfl) (by kernel_rfl) (by exact fun _ _ _ h => h) (Or.inl ⟨by rfl, ?hy49⟩) (by assumption) ?rest49
    case hy49 => (intro w hSw; (try dsimp only at hSw); go_simp; try with_reducible rfl)
    try simp only [Act.put, List.setIfInBounds_toArray, List.set_cons_zero, List.set_cons_succ]
    refine wpAnyH_ready (rs := [24]) (by kernel_rfl) (by simp) ?_
    refine AllReadyH.cons (o := _) (by simp only [List.getElem?_toArray, List.getElem?_cons_succ, List.getElem?_cons_zero]; rfl) (fun K hK => ?_) AllReadyH.nil
    go_simp
    refine hK.out _ _ (by assumption) (fun hHeld => ?_)
    clear hK K
    try simp only [Act.put, List.setIfInBounds_toArray, List.set_cons_zero, List.set_cons_succ]
    refine wpAnyH_done (by kernel_rfl) ?_ _
    all_goals
      go_wp2
      go_ret
      exact ⟨rfl, LOW6.out.chain B9.out⟩
  · have hq0 : (E != 0) = true := bne_iff_ne.2 hE
    have hqe : (E != E) = false := by simp
    have hz : (E == 0) = false := by simpa using hE
    refine CO.out.mono ?_
    rintro e w5 ⟨-, h1, -, ⟨v, hv⟩, hqq, hlow⟩
    obtain rfl := h1 hE
    have hro := refOpen_any q v t0 OK0.out.1 (by have := OK0.out.2; omega) w5 hv
    unfold Opened at hro
    rw [OP.out] at hro
    have RO := Lib.hid hro; have HQ0 := Lib.hid hqq; have LOW := Lib.hid hlow; have HE := Lib.hid hE
    clear hro hqq hlow hv h1 hE
    dsimp only
    go_wp2_with fail
    refine RO.out.mono ?_
    rintro e w6 ⟨h1, -, ho⟩
    have h1 := h1.resolve_left (fun h => HE.out h.1)
    obtain ⟨-, rfl⟩ := h1
    have hlow6 : Below w.heap.size w w6 := LOW.out.trans (ho.below LOW.out.size (fun i hi => by rw [hi]; exact HQ0.out))
    have LOW6 := Lib.hid hlow6
    clear hlow6 ho RO
    dsimp only
    have B6 : Hid (Below w6.heap.size w6 w6.drew) := Lib.hid (Below.refl _ _).drew
    go_upto_region 10 with fail
    refine wp_region_held_drew (S := (fun _ => True)) (by kernel_rfl) (trivial) (fun hHeld => ?_)
    refine wpAnyH_ready (rs := [0]) (by kernel_rfl) (by simp) ?_
    refine AllReadyH.cons (o := _) (by simp only [List.getElem?_toArray, List.getElem?_cons_succ, List.getElem?_cons_zero]; rfl) (fun K hK => ?_) AllReadyH.nil
    go_simp
    go_at_call 9
    (with_reducible refine (HA.out _ (LOW6.out.chain B6.out)).mono ?_)
    rintro e w7 ⟨rfl, hb7⟩
    have B7 := Lib.hid (B6.out.chain hb7); clear hb7
    dsimp only
    refine hK.out _ _ (trivial) (fun hHeld => ?_)
    clear hK K
    try simp only [Act.put, List.setIfInBounds_toArray, List.set_cons_zero, List.set_cons_succ]
    refine wpAnyH_take (i := 1) (oi := _) (v := ?v2) (by simp only [List.getElem?_toArray, List.getElem?_cons_succ, List.getElem?_cons_zero]; rfl) (by kernel_rfl) (by kernel_rfl) (by kernel_rfl) (by exact fun _ _ _ h => h) (Or.inl ⟨by rfl, ?hy2⟩) (by assumption) ?rest2
    case hy2 => (intro w hSw; (try dsimp only at hSw); go_simp; try with_reducible rfl)
    try simp only [Act.put, List.setIfInBounds_toArray, List.set_cons_zero, List.set_cons_succ]
    refine wpAnyH_take (i := 2) (oi := _) (v := ?v3) (by simp only [List.getElem?_toArray, List.getElem?_cons_succ, List.getElem?_cons_zero]; rfl) (by kernel_rfl) (by kernel_rfl) (by kernel_rfl) (by exact fun _ _ _ h => h) (Or.inl ⟨by rfl, ?hy3⟩) (by assumption) ?rest3
    case hy3 => (intro w hSw; (try dsimp only at hSw); go_simp; try with_reducible rfl)
    try simp only [Act.put, List.setIfInBounds_toArray, List.set_cons_zero, List.set_cons_succ]
    refine wpAnyH_take (i := 3) (oi := _) (v := ?v4) (by simp only [List.getElem?_toArray, List.getElem?_cons_succ, List.getElem?_cons_zero]; rfl) (by kernel_rfl) (by kernel_rfl) (by kernel_rfl) (by exact fun _ _ _ h => h) (Or.inl ⟨by rfl, ?hy4⟩) (by assumption) ?rest4
    case hy4 => (intro w hSw; (try dsimp only at hSw); go_simp; try with_reducible rfl)
    try simp only [Act.put, List.setIfInBounds_toArray, List.set_cons_zero, List.set_cons_succ]
    refine wpAnyH_take (i := 4) (oi := _) (v := ?v5) (by simp only [List.getElem?_toArray, List.getElem?_cons_succ, List.getElem?_cons_zero]; rfl) (by kernel_rfl) (by kernel_rfl) (by kernel_rfl) (by exact fun _ _ _ h => h) (Or.inl ⟨by rfl, ?hy5⟩) (by assumption) ?rest5
    case hy5 => (intro w hSw; (try dsimp only at hSw); go_simp; try with_reducible rfl)
    try simp only [Act.put, List.setIfInBounds_toArray, List.set_cons_zero, List.set_cons_succ]
    refine wpAnyH_take (i := 5) (oi := _) (v := undef) (by simp only [List.getElem?_toArray, List.getElem?_cons_succ, List.getElem?_cons_zero]; rfl) (by kernel_rfl) (by kernel_rfl) (by kernel_rfl) (by exact fun _ _ _ h => h) (Or.inr ⟨by rfl, rfl⟩) (by assumption) ?rest6
    try simp only [Act.put, List.setIfInBounds_toArray, List.set_cons_zero, List.set_cons_succ]
    refine wpAnyH_take (i := 6) (oi := _) (v := undef) (by simp only [List.getElem?_toArray, List.getElem?_cons_succ, List.getElem?_cons_zero]; rfl) (by kernel_rfl) (by kernel_rfl) (by kernel_rfl) (by exact fun _ _ _ h => h) (Or.inr ⟨by rfl, rfl⟩) (by assumption) ?rest7
    try simp only [Act.put, List.setIfInBounds_toArray, List.set_cons_zero, List.set_cons_succ]
    refine wpAnyH_take (i := 7) (oi := _) (v := undef) (by simp only [List.getElem?_toArray, List.getElem?_cons_succ, List.getElem?_cons_zero]; rfl) (by kernel_rfl) (by kernel_rfl) (by kernel_rfl) (by exact fun _ _ _ h => h) (Or.inr ⟨by rfl, rfl⟩) (by assumption) ?rest8
    try simp only [Act.put, List.setIfInBounds_toArray, List.set_cons_zero, List.set_cons_succ]
    refine wpAnyH_take (i := 8) (oi := _) (v := undef) (by simp only [List.getElem?_toArray, List.getElem?_cons_succ, List.getElem?_cons_zero]; rfl) (by kernel_rfl) (by kernel_rfl) (by kernel_rfl) (by exact fun _ _ _ h => h) (Or.inr ⟨by rfl, rfl⟩) (by assumption) ?rest9
    try simp only [Act.put, List.setIfInBounds_toArray, List.set_cons_zero, List.set_cons_succ]
    refine wpAnyH_take (i := 9) (oi := _) (v := undef) (by simp only [List.getElem?_toArray, List.getElem?_cons_succ, List.getElem?_cons_zero]; rfl) (by kernel_rfl) (by kernel_rfl) (by kernel_rfl) (by exact fun _ _ _ h => h) (Or.inr ⟨by rfl, rfl⟩) (by assumption) ?rest10
    try simp only [Act.put, List.setIfInBounds_toArray, List.set_cons_zero, List.set_cons_succ]
    refine wpAnyH_take (i := 10) (oi := _) (v := undef) (by simp only [List.getElem?_toArray, List.getElem?_cons_succ, List.getElem?_cons_zero]; rfl) (by kernel_rfl) (by kernel_rfl) (by kernel_rfl) (by exact fun _ _ _ h => h) (Or.inr ⟨by rfl, rfl⟩) (by assumption) ?rest11
    try simp only [Act.put, List.setIfInBounds_toArray, List.set_cons_zero, List.set_cons_succ]
    refine wpAnyH_take (i := 11) (oi := _) (v := undef) (by simp only [List.getElem?_toArray, List.getElem?_cons_succ, List.getElem?_cons_zero]; rfl) (by kernel_rfl) (by kernel_rfl) (by kernel_rfl) (by exact fun _ _ _ h => h) (Or.inr ⟨by rfl, rfl⟩) (by assumption) ?rest12
    try simp only [Act.put, List.setIfInBounds_toArray, List.set_cons_zero, List.set_cons_succ]
    refine wpAnyH_take (i := 12) (oi := _) (v := undef) (by simp only [List.getElem?_toArray, List.getElem?_cons_succ, List.getElem?_cons_zero]; rfl) (by kernel_rfl) (by kernel_rfl) (by kernel_rfl) (by exact fun _ _ _ h => h) (Or.inr ⟨by rfl, rfl⟩) (by assumption) ?rest13
    try simp only [Act.put, List.setIfInBounds_toArray, List.set_cons_zero, List.set_cons_succ]
    refine wpAnyH_take (i := 13) (oi := _) (v := undef) (by simp only [List.getElem?_toArray, List.getElem?_cons_succ, List.getElem?_cons_zero]; rfl) (by kernel_rfl) (by kernel_rfl) (by kernel_rfl) (by exact fun _ _ _ h => h) (Or.inr ⟨by rfl, rfl⟩) (by assumption) ?rest14
    try simp only [Act.put, List.setIfInBounds_toArray, List.set_cons_zero, List.set_cons_succ]
    refine wpAnyH_take (i := 14) (oi := _) (v := undef) (by simp only [List.getElem?_toArray, List.getElem?_cons_succ, List.getElem?_cons_zero]; rfl) (by kernel_rfl) (by kernel_rfl) (by kernel_rfl) (by exact fun _ _ _ h => h) (Or.inr ⟨by rfl, rfl⟩) (by assumption) ?rest15
    try simp only [Act.put, List.setIfInBounds_toArray, List.set_cons_zero, List.set_cons_succ]
    refine wpAnyH_take (i := 15) (oi := _) (v := undef) (by simp only [List.getElem?_toArray, List.getElem?_cons_succ, List.getElem?_cons_zero]; rfl) (by kernel_rfl) (by kernel_rfl) (by kernel_rfl) (by exact fun _ _ _ h => h) (Or.inr ⟨by rfl, rfl⟩) (by assumption) ?rest16
    try simp only [Act.put, List.setIfInBounds_toArray, List.set_cons_zero, List.set_cons_succ]
    refine wpAnyH_take (i := 16) (oi := _) (v := undef) (by simp only [List.getElem?_toArray, List.getElem?_cons_succ, List.getElem?_cons_zero]; rfl) (by kernel_rfl) (by kernel_rfl) (by kernel_rfl) (by exact fun _ _ _ h => h) (Or.inr ⟨by rfl, rfl⟩) (by assumption) ?rest17
    try simp only [Act.put, List.setIfInBounds_toArray, List.set_cons_zero, List.set_cons_succ]
    refine wpAnyH_take (i := 17) (oi := _) (v := undef) (by simp only [List.getElem?_toArray, List.getElem?_cons_succ, List.getElem?_cons_zero]; rfl) (by kernel_rfl) (by kernel_rfl) (by kernel_rfl) (by exact fun _ _ _ h => h) (Or.inr ⟨by rfl, rfl⟩) (by assumption) ?rest18
    try simp only [Act.put, List.setIfInBounds_toArray, List.set_cons_zero, List.set_cons_succ]
    refine wpAnyH_take (i := 18) (oi := _) (v := undef) (by simp only [List.getElem?_toArray, List.getElem?_cons_succ, List.getElem?_cons_zero]; rfl) (by kernel_rfl) (by kernel_rfl) (by kernel_rfl) (by exact fun _ _ _ h => h) (Or.inr ⟨by rfl, rfl⟩) (by assumption) ?rest19
    try simp only [Act.put, List.setIfInBounds_toArray, List.set_cons_zero, List.set_cons_succ]
    refine wpAnyH_take (i := 19) (oi := _) (v := undef) (by simp only [List.getElem?_toArray, List.getElem?_cons_succ, List.getElem?_cons_zero]; rfl) (by kernel_rfl) (by kernel_rfl) (by kernel_rfl) (by exact fun _ _ _ h => h) (Or.inr ⟨by rfl, rfl⟩) (by assumption) ?rest20
    try simp only [Act.put, List.setIfInBounds_toArray, List.set_cons_zero, List.set_cons_succ]
    refine wpAnyH_take (i := 20) (oi := _) (v := undef) (by simp only [List.getElem?_toArray, List.getElem?_cons_succ, List.getElem?_cons_zero]; rfl) (by kernel_rfl) (by kernel_rfl) (by kernel_rfl) (by exact fun _ _ _ h => h) (Or.inr ⟨by rfl, rfl⟩) (by assumption) ?rest21
    try simp only [Act.put, List.setIfInBounds_toArray, List.set_cons_zero, List.set_cons_succ]
    refine wpAnyH_take (i := 21) (oi := _) (v := undef) (by simp only [List.getElem?_toArray, List.getElem?_cons_succ, List.getElem?_cons_zero]; rfl) (by kernel_rfl) (by kernel_rfl) (by kernel_rfl) (by exact fun _ _ _ h => h) (Or.inr ⟨by rfl, rfl⟩) (by assumption) ?rest22
    try simp only [Act.put, List.setIfInBounds_toArray, List.set_cons_zero, List.set_cons_succ]
    refine wpAnyH_take (i := 22) (oi := _) (v := ?v23) (by simp only [List.getElem?_toArray, List.getElem?_cons_succ, List.getElem?_cons_zero]; rfl) (by kernel_rfl) (by kernel_rfl) (by kernel_rfl) (by exact fun _ _ _ h => h) (Or.inl ⟨by rfl, ?hy23⟩) (by assumption) ?rest23
    case hy23 => (intro w hSw; (try dsimp only at hSw); go_simp; try with_reducible rfl)
    try simp only [Act.put, List.setIfInBounds_toArray, List.set_cons_zero, List.set_cons_succ]
    refine wpAnyH_take (i := 23) (oi := _) (v := ?v24) (by simp only [List.getElem?_toArray, List.getElem?_cons_succ, List.getElem?_cons_zero]; rfl) (by kernel_rfl) (by kernel_rfl) (by kernel_rfl) (by exact fun _ _ _ h => h) (Or.inl ⟨by rfl, ?hy24⟩) (by assumption) ?rest24
    case hy24 => (intro w hSw; (try dsimp only at hSw); go_simp; try with_reducible rfl)
    try simp only [Act.put, List.setIfInBounds_toArray, List.set_cons_zero, List.set_cons_succ]
    refine wpAnyH_ready (rs := [24]) (by kernel_rfl) (by simp) ?_
    refine AllReadyH.cons (o := _) (by simp only [List.getElem?_toArray, List.getElem?_cons_succ, List.getElem?_cons_zero]; rfl) (fun K hK => ?_) AllReadyH.nil
    go_simp
    refine hK.out _ _ (trivial) (fun hHeld => ?_)
    clear hK K
    try simp only [Act.put, List.setIfInBounds_toArray, List.set_cons_zero, List.set_cons_succ]
    refine wpAnyH_done (by kernel_rfl) ?_ _
    all_goals
      go_wp2
      go_ret
      exact ⟨rfl, LOW6.out.chain B7.out⟩
end Go.Proofs.YtklhdffbaglkdaaDoor
namespace Go.Proofs.YtklhdffbaglkdaaDoor
set_option linter.unusedVariables false

theorem rising_few : ∀ (rows : RowL) (lo hi : Nat), Rising rows → (∀ r ∈ rows, ∃ x : UInt8, r.1 = [x] ∧ lo ≤ x.toNat ∧ x.toNat < hi) → rows.length ≤ hi - lo
  | [], _, _, _, _ => Nat.zero_le _
  | r :: l, lo, hi, hr, h => by
    obtain ⟨x, hx, h1, h2⟩ := h r (by simp)
    have := rising_few l (x.toNat + 1) hi hr.2 fun y hy => by
      obtain ⟨z, hz, _, h4⟩ := h y (List.mem_cons_of_mem _ hy)
      refine ⟨z, hz, ?_, h4⟩
      have hless := hr.1 y hy
      rw [hx, hz] at hless
      rcases (less_cons x z [] []).1 hless with h | h
      · exact h
      · rw [less_irr] at h; cases h.2
    rw [List.length_cons]
    omega
theorem sumR_le (M : Nat) : ∀ (rows : RowL), (∀ r ∈ rows, r.1.length + r.2.length ≤ M) → sumR rows ≤ rows.length * M
  | [], _ => Nat.zero_le _
  | r :: l, h => by
    have h1 := h r (by simp)
    have h2 := sumR_le M l fun y hy => h y (List.mem_cons_of_mem _ hy)
    simp only [sumR, List.length_cons, Nat.succ_mul]
    omega
structure Calm (t : TP) (rows : RowL) : Prop where
  fuse : t.fuse < 0
  down : t.down = false
  ok : t.Ok
  len : t.b.length ≤ 65536
  good : Good t rows rows
  keys : ∀ r ∈ rows, ∃ x : UInt8, r.1 = [x] ∧ 97 ≤ x.toNat ∧ x.toNat < 101
  vals : ∀ r ∈ rows, r.2.length ≤ 6000
theorem calm_new : Calm TP.new [] := ⟨by show (-1 : Int) < 0; decide, rfl, TP.new_ok, by decide, good_new, fun r h => (by cases h), fun r h => (by cases h)⟩
theorem Calm.few {t : TP} {rows : RowL} (h : Calm t rows) : rows.length ≤ 4 := by
  have := rising_few rows 97 101 h.good.rising h.keys
  omega
theorem Calm.recs {t : TP} {rows : RowL} (h : Calm t rows) : (recL (allR rows)).length ≤ 32768 := by
  have h1 := rec_all_le rows
  have h2 := sumR_le 6001 rows fun r hr => by
    obtain ⟨x, hx, _⟩ := h.keys r hr
    have := h.vals r hr
    rw [hx, List.length_singleton]; omega
  have h3 := h.few
  have h4 : rows.length * 6001 ≤ 4 * 6001 := Nat.mul_le_mul_right _ h3
  omega
theorem calm_do {t : TP} {rows : RowL} (h : Calm t rows) (x : UInt8) (v : List UInt8) (hx : 97 ≤ x.toNat ∧ x.toNat < 101) (hv : v.length ≤ 6000) :
    (recL [⟨[x], v, false⟩]).length ≤ 32768 ∧ (recL (allR (turnL rows [⟨[x], v, false⟩]))).length ≤ 32768 ∧ (doS t rows [⟨[x], v, false⟩]).1 = 0 ∧ Calm (doS t rows [⟨[x], v, false⟩]).2.2 (doS t rows [⟨[x], v, false⟩]).2.1 := by
  obtain ⟨ch, hch⟩ : ∃ ch : Ch, ch = ⟨[x], v, false⟩ := ⟨_, rfl⟩
  have hk : ch.key = [x] := by rw [hch]
  have hva : ch.value = v := by rw [hch]
  have hval : ch.val.length ≤ v.length := by
    rw [hch]; unfold Ch.val; simp
  rw [← hch]
  have hmem : ∀ r ∈ turnL rows [ch], r ∈ rows ∨ r = ([x], v) := fun r hr => by
    rw [turnL_cons, turnL_nil] at hr
    have := insL_mem _ _ _ _ r hr
    rw [hk, hva] at this
    exact this
  have hkeys : ∀ r ∈ turnL rows [ch], ∃ z : UInt8, r.1 = [z] ∧ 97 ≤ z.toNat ∧ z.toNat < 101 := fun r hr => by
    rcases hmem r hr with h' | h'
    · exact h.keys r h'
    · exact ⟨x, by rw [h'], hx.1, hx.2⟩
  have hvals : ∀ r ∈ turnL rows [ch], r.2.length ≤ 6000 := fun r hr => by
    rcases hmem r hr with h' | h'
    · exact h.vals r h'
    · rw [h']; exact hv
  have hris : Rising (turnL rows [ch]) := turnL_rising [ch] h.good.rising
  have hfew := rising_few _ 97 101 hris hkeys
  have hrec2 : (recL (allR (turnL rows [ch]))).length ≤ 32768 := by
    have h1 := rec_all_le (turnL rows [ch])
    have h2 := sumR_le 6001 (turnL rows [ch]) fun r hr => by
      obtain ⟨x, hx, _⟩ := hkeys r hr
      have := hvals r hr
      rw [hx, List.length_singleton]; omega
    have h4 : (turnL rows [ch]).length * 6001 ≤ 4 * 6001 := Nat.mul_le_mul_right _ (by omega)
    omega
  have hrec : (recL [ch]).length ≤ 32768 := by
    rw [recL_len, recAll_cons, List.length_append, recOne_len, recAll_nil, hk]
    simp only [List.length_singleton, List.length_nil]
    omega
  have hgood := do_good h.good [ch]
  have hok := doS_ok h.ok rows [ch] h.len
  have hrows := do_rows t rows [ch]
  have hup := do_up t rows [ch] h.down
  have hres : (doS t rows [ch]).1 = 0 ∧ (doS t rows [ch]).2.2.fuse < 0 := by
    by_cases hs : t.b.length + (recL [ch]).length + 8 ≤ 65536
    · rw [doS_calm h.fuse h.down rows [ch] (by simp) hrec hs]
      exact ⟨rfl, h.fuse⟩
    · rw [doS_swap h.fuse h.down rows [ch] (by simp) hrec (by omega) hrec2]
      exact ⟨rfl, h.fuse⟩
  obtain ⟨X, hg, _⟩ := hgood
  rw [if_pos hres.1] at hrows
  refine ⟨hrec, hrec2, hres.1, ⟨hres.2, hup hres.1, hok.1, hok.2, hg.calm (hup hres.1), ?_, ?_⟩⟩
  · rw [hrows]; exact hkeys
  · rw [hrows]; exact hvals
/-- behind a crash: the same rows -/
theorem calm_open {t : TP} {rows : RowL} (h : Calm t rows) (keep : Int) : ∃ T2, openS (t.crash keep) = (0, rows, T2) ∧ (t.crash keep).Ok ∧ (t.crash keep).b.length ≤ 65536 := by
  obtain ⟨Y, T2, e, hY, _⟩ := open_good h.good keep
  have hc := TP.crash_ok h.ok keep
  have hl := h.len
  obtain rfl := hY.elim id id
  exact ⟨T2, e, hc.1, by have := hc.2; omega⟩
end Go.Proofs.YtklhdffbaglkdaaDoor
