/- Texts merged by program, in build order: LawStoreR. -/
import Derived.Test.YtklhdffbaglkdaaDoorG21
import Derived.Test.YtklhdffbaglkdaaDoorG20
import Derived.Test.YtklhdffbaglkdaaDoorG05
namespace Go.Proofs.YtklhdffbaglkdaaDoor
open Go.RowKit
set_option linter.unusedVariables false
set_option linter.unusedSimpArgs false

/-- a row of bytes, of just this length -/
def VRowS (w : World) (g m : Nat) : Prop := ∃ (L : List UInt8) (C : Array Value), L.length = m ∧ w.heap[g]? = some (.cells C 5 (0, 0)) ∧ C.toList = cells L
theorem VRowS.below {w w' : World} {g m : Nat} (h : VRowS w g m) (hb : Below w.heap.size w w') : VRowS w' g m := by
  obtain ⟨L, C, h1, h2, h3⟩ := h
  exact ⟨L, C, h1, (hb.block g (Array.getElem?_eq_some_iff.1 h2).1).trans h2, h3⟩
theorem VRowS.set {w : World} {g m : Nat} (h : VRowS w g m) (i : Nat) (x : UInt8) : VRowS (w.setCell ⟨g, i, none⟩ (.int .u8 x.toNat)) g m := by
  obtain ⟨L, C, h1, h2, h3⟩ := h
  refine ⟨L.set i x, C.setIfInBounds i (.int .u8 x.toNat), by rw [List.length_set]; exact h1, set_here h2 _, ?_⟩
  rw [Array.toList_setIfInBounds, h3]
  unfold cells
  rw [List.map_set]
theorem VRowS.cell {w : World} {g m : Nat} (h : VRowS w g m) (i : Nat) (hi : i < m) : (∃ u : UInt8, w.cell? ⟨g, i, none⟩ = some (.int .u8 (u.toNat : Int))) ∧ w.frozen? ⟨g, i, none⟩ = false := by
  obtain ⟨L, C, h1, h2, h3⟩ := h
  refine ⟨⟨L[i]'(by omega), ?_⟩, frozen_here h2 i⟩
  rw [cell_here h2]
  have : C[i]? = C.toList[i]? := by simp
  rw [this, h3]
  simp [cells, show i < L.length by omega]
theorem VRowS.rd {w : World} {g m : Nat} (h : VRowS w g m) (hm : m ≤ 100000) : ∃ L : List UInt8, L.length = m ∧ RdAt w (.slice (some ⟨g, 0, none⟩) m m) L := by
  obtain ⟨L, C, h1, h2, h3⟩ := h
  subst h1
  refine ⟨L, rfl, some ⟨g, 0, none⟩, L.length, rfl, Nat.le_refl _, by omega, .inr ⟨g, 0, rfl, (Array.getElem?_eq_some_iff.1 h2).1, fun j u hu => ?_⟩⟩
  rw [Addr.add_lit, cell_here h2, Nat.zero_add, show C[j]? = C.toList[j]? by simp, h3]
  exact hu
variable {CT : World → (Nat → Prop) → Nat → TP → Prop} {CS : World → (Nat → Prop) → Nat → Nat → RowL → Prop}
/-- changes that lie in a block newer than the store -/
theorem Sto.do_fresh (HT : CodeTape CT) (H : CodeStore CT CS) {w0 w w1 : World} {p q : Nat} {t : TP} {rows : RowL} (h : Sto CT CS w0 w p q t rows []) (hb1 : Below w.heap.size w w1) (b : Nat) (l : List Ch) (ht : t.Ok) (hb : t.b.length ≤ 100000) (hrl : rows.length ≤ 50000) (hr : RoundsIn w0) (hc : RdC w1 (.slice (some ⟨b, 0, none⟩) l.length l.length) l) (hll : l.length ≤ 50000) (h1 : (recL l).length ≤ 1000000) (h2 : (recL (allR (turnL rows l))).length ≤ 1000000) (hbw : w.heap.size ≤ b) :
    Calls Tryd.prog 18 #[.pointer (some ⟨p, 0, none⟩), .slice (some ⟨b, 0, none⟩) l.length l.length] w1 fun e w' => e = .returned (.int .i64 (doS t rows l).1) ∧ Sto CT CS w0 w' p q (doS t rows l).2.2 (doS t rows l).2.1 [] ∧ w1.heap.size ≤ w'.heap.size ∧ ∀ i, w.heap.size ≤ i → i < w1.heap.size → w'.heap[i]? = w1.heap[i]? := by
  obtain ⟨T, S, k1, k2, k3, k4, _⟩ := h.out
  have hlow := h.low.chain hb1
  refine (H.do_ w1 T S p q t rows (some ⟨b, 0, none⟩) l.length l (HT.below k1 hb1) (H.below k2 hb1) k3 ht hb hrl (hr.below hlow) hc hll h1 h2 (fun g h0 hg => by
    have hgg : some b = some g := hg
    injection hgg with hgg
    subst hgg
    exact ⟨fun h => by have := HT.lt k1 b h; omega, fun h => by have := H.lt k2 b h; omega⟩)).mono ?_
  rintro e w' ⟨rfl, ⟨T', S', c1, c2, c3, c4⟩, ho⟩
  refine ⟨rfl, ⟨⟨T', S', c1, c2, c3, fun b hx => ?_, fun x hx => by cases hx⟩, hlow.trans (ho.below hlow.size (fun b hb => k4 b hb))⟩, ho.size, fun i hi hi2 => ho.block i hi2 fun hx => ?_⟩
  · rcases c4 b hx with h' | h' | h'
    · exact k4 b (.inl h')
    · exact k4 b (.inr h')
    · exact Nat.le_trans hlow.size h'
  · rcases hx with hx | hx
    · have := HT.lt k1 i hx; omega
    · have := H.lt k2 i hx; omega
theorem Sto.bytes (HT : CodeTape CT) {w0 w : World} {p q : Nat} {t : TP} {rows : RowL} {vs : List (Value × RowL)} (h : Sto CT CS w0 w p q t rows vs) (hb : t.b.length ≤ 100000000) :
    Calls Tryd.prog 21 #[.pointer (some ⟨q, 0, none⟩)] w fun e w' => (∃ A c, e = .returned (.slice A t.b.length c)) ∧ Below w.heap.size w w' := by
  obtain ⟨T, S, k1, k2, k3, k4, k6⟩ := h.out
  exact (HT.bytes w T q t k1 hb).mono fun e w' ⟨⟨A, c, he, _⟩, hb⟩ => ⟨⟨A, c, he⟩, hb⟩
theorem oneC (w : World) (b : Nat) (x : UInt8) (L : List UInt8) (h : w.heap[b]? = some (.cells #[.string ⟨#[x]⟩, .string ⟨L.toArray⟩, .bool false] 61 (0, 0))) : RdC w (.slice (some ⟨b, 0, none⟩) 1 1) [⟨[x], L, false⟩] :=
  ⟨_, 1, rfl, Nat.le_refl _, fun k y hk => by
    obtain rfl : k = 0 := by
      rcases k with _ | k
      · rfl
      · simp at hk
    obtain rfl : (⟨[x], L, false⟩ : Ch) = y := by simpa using hk
    exact ⟨b, 0, rfl, (Array.getElem?_eq_some_iff.1 h).1, cell_here h, cell_here h, cell_here h⟩⟩
/-- opened again: the elder store stands too -/
theorem Sto.reopen2 (HT : CodeTape CT) (H : CodeStore CT CS) {w0 w : World} {p q : Nat} {t t' : TP} {rows rows' : RowL} {vs : List (Value × RowL)} (h : Sto CT CS w0 w p q t rows vs) (ht : t.Ok) (hb : t.b.length ≤ 100000) (hr : RoundsIn w0) (ho : openS t = (0, rows', t')) :
    Calls Tryd.prog 12 #[.pointer (some ⟨q, 0, none⟩)] w fun e w' => ∃ p', e = .returned (.tuple #[.pointer (some ⟨p', 0, none⟩), .int .i64 0]) ∧ (∃ S, CS w' S p q rows) ∧ (∃ S, CS w' S p' q rows') ∧ Below w0.heap.size w0 w' := by
  obtain ⟨T, S, k1, k2, k3, k4, k6⟩ := h.out
  have hopen := H.open_ w T q t k1 ht hb (hr.below h.low)
  rw [ho] at hopen
  refine hopen.mono ?_
  rintro e w' ⟨⟨T1, c1, c2, h' | h'⟩, ho⟩
  case inr => exact absurd rfl h'.1
  obtain ⟨-, p', S', rfl, c3, c4⟩ := h'
  exact ⟨p', rfl, ⟨S, H.only k2 ho k3⟩, ⟨S', c3⟩, h.low.trans (ho.below h.low.size (fun b hb => k4 b (.inl hb)))⟩
theorem made_bytes (m : Nat) : (madeCells (Value.int .u8 0).cells (m * 1)).toList = cells (List.replicate m 0) := by
  unfold madeCells cells
  apply List.ext_getElem
  · simp
  · intro i h1 h2
    simp [Value.cells, Nat.mod_one]
set_option maxRecDepth 100000 in
set_option maxHeartbeats 4000000 in
theorem storeRenews_at {CT : World → (Nat → Prop) → Nat → TP → Prop} {CS : World → (Nat → Prop) → Nat → Nat → RowL → Prop} (HT : CodeTape CT) (H : CodeStore CT CS) (x0 x1 x2 : Int) (h0 : (Lit.int .u8 x0).wf = true) (h1 : (Lit.int .u16 x1).wf = true) (h2 : (Lit.int .u8 x2).wf = true) (w : World) (hr : RoundsIn w) :
    Calls Tryd.prog 7 #[.int .u8 x0, .int .u16 x1, .int .u8 x2] w fun e w' => e = .returned (.bool true) ∧ Below w.heap.size w w' := by
  have hans := fun W (hb : Below w.heap.size w W) => answers12_any HT H W (hr.below hb)
  obtain ⟨N, hN, hN2⟩ : ∃ N : Nat, x0 % 40 = (N : Int) ∧ N < 40 := by
    refine ⟨(x0 % 40).toNat, ?_, ?_⟩ <;> omega
  obtain ⟨M, hM, hM2⟩ : ∃ M : Nat, x1 % 6000 = (M : Int) ∧ M < 6000 := by
    refine ⟨(x1 % 6000).toNat, ?_, ?_⟩ <;> omega
  obtain ⟨K, hK, hK2⟩ : ∃ K : Nat, x2 % 4 = (K : Int) ∧ K < 4 := by
    refine ⟨(x2 % 4).toNat, ?_, ?_⟩ <;> omega
  have e0 : 0 ≤ x0 ∧ x0 < 256 := by
    simp [Lit.wf, IntKind.min, IntKind.max, IntKind.signed, IntKind.bits] at h0; omega
  have e1 : 0 ≤ x1 ∧ x1 < 65536 := by
    simp [Lit.wf, IntKind.min, IntKind.max, IntKind.signed, IntKind.bits] at h1; omega
  have e2 : 0 ≤ x2 ∧ x2 < 256 := by
    simp [Lit.wf, IntKind.min, IntKind.max, IntKind.signed, IntKind.bits] at h2; omega
  have t0 : Int.tmod x0 40 = (N : Int) := by rw [Int.tmod_eq_emod_of_nonneg e0.1]; exact hN
  have t1 : Int.tmod x1 6000 = (M : Int) := by rw [Int.tmod_eq_emod_of_nonneg e1.1]; exact hM
  have t2 : Int.tmod x2 4 = (K : Int) := by rw [Int.tmod_eq_emod_of_nonneg e2.1]; exact hK
  have HA := Lib.hid hans; have HHT := Lib.hid HT; have HH := Lib.hid H; have HR := Lib.hid hr
  clear hans HT H hr h0 h1 h2 e0 e1 e2
  go_enter Tryd.func7, Tryd.ntmps7
  go_wp2_with fail
  refine (HHT.out.new w).mono ?_
  rintro e w2 ⟨⟨q, T, rfl, hct, hT⟩, hb2⟩
  have hop := Sto.start HHT.out HH.out hct hT hb2 (HR.out.below hb2)
  have OPEN := Lib.hid hop
  clear hb2 hct hT hop
  dsimp only
  go_wp2_with fail
  refine OPEN.out.mono ?_
  rintro e w3 ⟨p, rfl, st⟩
  have ST3 := Lib.hid st; clear st OPEN
  dsimp only
  go_wp2_with fail
  go_loopw [12] (fun i W => ∃ k : Nat, k ≤ N ∧ i = .int .i64 k ∧ Hid (∃ t rows, Calm t rows ∧ Sto CT CS w W p q t rows [])) (fun i _ => N - (intOf i).toNat)
  case atStart => exact ⟨0, Nat.zero_le _, rfl, Lib.hid ⟨_, _, calm_new, ST3.out⟩⟩
  case round =>
    obtain ⟨k, hk, rfl, hT⟩ := hrel
    by_cases hlt : k < N
    · have hkr : decide ((k : Int) < N) = true := by simp; omega
      rename World => WO
      obtain ⟨t, rows, hcalm, hst⟩ := hT.out
      have CALM := Lib.hid hcalm; have ST := Lib.hid hst
      clear hcalm hst hT
      obtain ⟨i0, hi, hz0, hz1, hz2⟩ := info_parts Tryd.infoByte
      have hmk := run_makeSlice WO 40 5 i0 _ Tryd.underlying40 hi hz0 .i64 .i64 (M : Int) (M : Int) (by omega) (Int.le_refl _) (by rw [hz1]; simp; omega) (by rw [hz2]; omega) (by omega)
      rw [hz1] at hmk
      rw [Int.toNat_natCast] at hmk
      obtain ⟨C, hC⟩ : ∃ C, C = madeCells (Value.int .u8 0).cells (M * 1) := ⟨_, rfl⟩
      rw [← hC] at hmk
      have hv0 : VRowS (WO.alloc (.cells C 5)) WO.heap.size M := ⟨List.replicate M 0, C, by simp, heap_alloc_last WO _, by rw [hC]; exact made_bytes M⟩
      have hb0 : Below WO.heap.size WO (WO.alloc (.cells C 5)) := (Below.refl _ _).alloc (Nat.le_refl _) _
      obtain ⟨W4, hW4⟩ : ∃ W4, WO.alloc (.cells C 5) = W4 := ⟨_, rfl⟩
      obtain ⟨g, hg⟩ : ∃ g, WO.heap.size = g := ⟨_, rfl⟩
      rw [hW4] at hv0 hb0
      have hmk2 : (Instr.makeSlice 40 (.int .i64 (M : Int)) (.int .i64 (M : Int))).run Tryd.prog WO = .ok (.slice (some ⟨g, 0, none⟩) M M) W4 := by
        rw [hmk, ← hW4, ← hg]
      have HB0 := Lib.hid hb0; have HV0 := Lib.hid hv0; have HG := Lib.hid hg
      clear hmk hv0 hb0 hW4 hC hi hz0 hz1 hz2 hg
      have hw8 : IntKind.u8.wrap (k : Int) = (k : Int) := by rw [IntKind.wrap_u8]; omega
      obtain ⟨xk, hxk⟩ : ∃ xk : UInt8, (k : Int) = (xk.toNat : Int) := byte_ex (by simp [Lit.wf, IntKind.min, IntKind.max, IntKind.signed, IntKind.bits]; omega)
      have HXK := Lib.hid hxk
      clear hxk
      go_wp2_with fail
      go_loopw [14] (fun j W => ∃ m : Nat, m ≤ M ∧ j = .int .i64 m ∧ Hid (VRowS W g M ∧ Below WO.heap.size WO W)) (fun j _ => M - (intOf j).toNat)
      case atStart => exact ⟨0, Nat.zero_le _, rfl, Lib.hid ⟨by have := HV0.out; rwa [HG.out] at this, HB0.out⟩⟩
      case round =>
        obtain ⟨m, hm, rfl, hV⟩ := hrel
        by_cases hml : m < M
        · have hmr : decide ((m : Int) < M) = true := by simp; omega
          have hm0 : (0 : Int) ≤ m := by omega
          have hm1 : (m : Int) < M := by omega
          obtain ⟨⟨u, hu⟩, hfz⟩ := hV.out.1.cell m hml
          go_wp2
          go_roundw
          case rel => exact ⟨m + 1, by omega, by go_num, Lib.hid ⟨by rw [HXK.out]; exact hV.out.1.set m xk, hV.out.2.setCell (by have := HG.out; show WO.heap.size ≤ g; omega) _⟩⟩
          case measure => simp [intOf]; omega
        · obtain rfl : M = m := by omega
          have hmr : decide ((M : Int) < M) = false := by simp
          obtain ⟨L, hLl, hrd⟩ := hV.out.1.rd (by omega)
          obtain ⟨V, hV2⟩ : ∃ V : ByteArray, V = ⟨L.toArray⟩ := ⟨_, rfl⟩
          obtain ⟨R, hR, hR2⟩ : ∃ R : Nat, (k : Int) % ((K : Int) + 1) = (R : Int) ∧ R < 4 := by
            have h1 := Int.emod_nonneg (k : Int) (show (K : Int) + 1 ≠ 0 by omega)
            have h2 := Int.emod_lt_of_pos (k : Int) (show (0 : Int) < (K : Int) + 1 by omega)
            exact ⟨((k : Int) % ((K : Int) + 1)).toNat, by omega, by omega⟩
          have hRt : Int.tmod (k : Int) ((K : Int) + 1) = (R : Int) := by rw [Int.tmod_eq_emod_of_nonneg (by omega)]; exact hR
          have hne : (((K : Int) + 1) == 0) = false := by simp; omega
          have hne2 : ¬ ((K : Int) + 1 = 0) := by omega
          have hwR : IntKind.i64.wrap (R : Int) = (R : Int) := by rw [IntKind.wrap_i64]; omega
          have hwR8 : IntKind.u8.wrap (R : Int) = (R : Int) := by rw [IntKind.wrap_u8]; omega
          obtain ⟨xb, hxb⟩ : ∃ xb : UInt8, (97 + (R : Int)) = (xb.toNat : Int) := byte_ex (by simp [Lit.wf, IntKind.min, IntKind.max, IntKind.signed, IntKind.bits]; omega)
          have hw97 : IntKind.u8.wrap (97 + (R : Int)) = (xb.toNat : Int) := by rw [← hxb, IntKind.wrap_u8]; omega
          obtain ⟨d1, d2, d3, d4⟩ := calm_do CALM.out xb L (by omega) (by omega)
          obtain ⟨t', ht'⟩ : ∃ t', (doS t rows [⟨[xb], L, false⟩]).2.2 = t' := ⟨_, rfl⟩
          obtain ⟨rows', hrows'⟩ : ∃ r, (doS t rows [⟨[xb], L, false⟩]).2.1 = r := ⟨_, rfl⟩
          have cD : ∀ W b, Below WO.heap.size WO W → W.heap[b]? = some (.cells #[.string ⟨#[xb]⟩, .string V, .bool false] 61 (0, 0)) → WO.heap.size ≤ b → Calls Tryd.prog 18 #[.pointer (some ⟨p, 0, none⟩), .slice (some ⟨b, 0, none⟩) 1 1] W fun e w' => e = .returned (.int .i64 0) ∧ Sto CT CS w w' p q t' rows' [] ∧ W.heap.size ≤ w'.heap.size ∧ ∀ i, WO.heap.size ≤ i → i < W.heap.size → w'.heap[i]? = W.heap[i]? := fun W b hbw hb hbo => by
            rw [hV2] at hb
            have := ST.out.do_fresh HHT.out HH.out hbw b [⟨[xb], L, false⟩] CALM.out.ok (by have := CALM.out.len; omega) (by have := CALM.out.few; omega) HR.out (oneC W b xb L hb) (by simp) (by omega) (by omega) hbo
            rw [d3, ht', hrows'] at this
            exact this
          rw [ht', hrows'] at d4
          have cV : ∀ W, wr.heap.size ≤ W.heap.size → W.heap[g]? = wr.heap[g]? → (convert 40 9 (.slice (some ⟨g, 0, none⟩) M M)).run Tryd.prog W = .ok (.string V) W := fun W hs hg => by
            rw [hV2]
            exact (hrd.keep hs (fun g' hg' => by
              have hgg : some g = some g' := hg'
              injection hgg with hgg
              rw [← hgg]; exact hg)).text
          have cB : ∀ W, Sto CT CS w W p q t' rows' [] → Calls Tryd.prog 21 #[.pointer (some ⟨q, 0, none⟩)] W fun e w' => (∃ A c, e = .returned (.slice A t'.b.length c)) ∧ Below W.heap.size W w' := fun W hW => hW.bytes HHT.out (by have := d4.len; omega)
          obtain ⟨TL, hTL⟩ : ∃ TL, t'.b.length = TL := ⟨_, rfl⟩
          have hTL2 : decide ((65536 : Int) < (TL : Int)) = false := by have := d4.len; simp; omega
          rw [hTL] at cB
          have hgl : g < wr.heap.size := by
            obtain ⟨L0, C0, _, h2, _⟩ := hV.out.1
            exact (Array.getElem?_eq_some_iff.1 h2).1
          have hcv7 := conv_newD wr [xb] #[.int .u8 (xb.toNat : Int)] 1 1 rfl rfl
          have hsz : (wr.alloc (.cells #[.int .u8 (xb.toNat : Int)] 5)).heap.size = wr.heap.size + 1 := by simp
          have hK2 := heap_alloc_last (wr.alloc (.cells #[.int .u8 (xb.toNat : Int)] 5)) (.cells #[.string ⟨#[xb]⟩, .string V, .bool false] 61)
          rw [hsz] at hK2
          have hB2 : Below WO.heap.size WO ((wr.alloc (.cells #[.int .u8 (xb.toNat : Int)] 5)).alloc (.cells #[.string ⟨#[xb]⟩, .string V, .bool false] 61)).drew := ((hV.out.2.alloc hV.out.2.size _).alloc (by rw [hsz]; have := hV.out.2.size; omega) _).drew
          have hgk : (((wr.alloc (.cells #[.int .u8 (xb.toNat : Int)] 5)).alloc (.cells #[.string ⟨#[xb]⟩, .string V, .bool false] 61)).drew).heap[g]? = wr.heap[g]? := (Below.heap_alloc _ _ _ (by rw [hsz]; omega)).trans (Below.heap_alloc _ _ _ hgl)
          have hg2 : g < (((wr.alloc (.cells #[.int .u8 (xb.toNat : Int)] 5)).alloc (.cells #[.string ⟨#[xb]⟩, .string V, .bool false] 61)).drew).heap.size ∧ wr.heap.size ≤ (((wr.alloc (.cells #[.int .u8 (xb.toNat : Int)] 5)).alloc (.cells #[.string ⟨#[xb]⟩, .string V, .bool false] 61)).drew).heap.size := by
            constructor <;> simp <;> omega
          have hwo : WO.heap.size ≤ wr.heap.size + 1 := by have := hV.out.2.size; omega
          have HK2 := Lib.hid hK2; have HB2 := Lib.hid hB2; have HGK := Lib.hid hgk; have HG2 := Lib.hid hg2; have HWO := Lib.hid hwo
          clear hsz hK2 hB2 hgk hg2 hwo
          have CD := Lib.hid cD; have CV := Lib.hid cV; have CB := Lib.hid cB; have D4 := Lib.hid d4; have HRD := Lib.hid hrd; have HGL := Lib.hid hgl
          have BW : Hid (Below WO.heap.size WO wr) := Lib.hid hV.out.2
          clear cD cV cB d1 d2 d3 d4 ht' hrows' hrd hV2 hLl hTL hxb hgl
          go_upto_region 14 with fail
          refine wp_region_held_drew (S := (fun W => (convert 40 9 (.slice (some ⟨g, 0, none⟩) M M)).run Tryd.prog W = .ok (.string V) W)) (by kernel_rfl) (CV.out _ (Nat.le_refl _) rfl) (fun hHeld => ?_)
          refine wpAnyH_take (i := 0) (oi := _) (v := ?v1) (by simp only [List.getElem?_toArray, List.getElem?_cons_succ, List.getElem?_cons_zero]; rfl) (by kernel_rfl) (by kernel_rfl) (by kernel_rfl) (by exact fun _ _ _ h => h) (Or.inl ⟨by rfl, ?hy1⟩) (by assumption) ?rest1
          case hy1 => (intro w hSw; (try dsimp only at hSw); go_simp; try with_reducible rfl)
          try simp only [Act.put, List.setIfInBounds_toArray, List.set_cons_zero, List.set_cons_succ]
          refine wpAnyH_take (i := 1) (oi := _) (v := ?v2) (by simp only [List.getElem?_toArray, List.getElem?_cons_succ, List.getElem?_cons_zero]; rfl) (by kernel_rfl) (by kernel_rfl) (by kernel_rfl) (by exact fun _ _ _ h => h) (Or.inl ⟨by rfl, ?hy2⟩) (by assumption) ?rest2
          case hy2 => (intro w hSw; (try dsimp only at hSw); go_simp; try with_reducible rfl)
          try simp only [Act.put, List.setIfInBounds_toArray, List.set_cons_zero, List.set_cons_succ]
          refine wpAnyH_take (i := 2) (oi := _) (v := ?v3) (by simp only [List.getElem?_toArray, List.getElem?_cons_succ, List.getElem?_cons_zero]; rfl) (by kernel_rfl) (by kernel_rfl) (by kernel_rfl) (by exact fun _ _ _ h => h) (Or.inl ⟨by rfl, ?hy3⟩) (by assumption) ?rest3
          case hy3 => (intro w hSw; (try dsimp only at hSw); go_simp; try with_reducible rfl)
          try simp only [Act.put, List.setIfInBounds_toArray, List.set_cons_zero, List.set_cons_succ]
          refine wpAnyH_take (i := 3) (oi := _) (v := ?v4) (by simp only [List.getElem?_toArray, List.getElem?_cons_succ, List.getElem?_cons_zero]; rfl) (by kernel_rfl) (by kernel_rfl) (by kernel_rfl) (by exact fun _ _ _ h => h) (Or.inl ⟨by rfl, ?hy4⟩) (by assumption) ?rest4
          case hy4 => (intro w hSw; (try dsimp only at hSw); go_simp; try with_reducible rfl)
          try simp only [Act.put, List.setIfInBounds_toArray, List.set_cons_zero, List.set_cons_succ]
          refine wpAnyH_take (i := 4) (oi := _) (v := ?v5) (by simp only [List.getElem?_toArray, List.getElem?_cons_succ, List.getElem?_cons_zero]; rfl) (by kernel_rfl) (by kernel_rfl) (by kernel_rfl) (by exact fun _ _ _ h => h) (Or.inl ⟨by rfl, ?hy5⟩) (by assumption) ?rest5
          case hy5 => (intro w hSw; (try dsimp only at hSw); go_simp; try with_reducible rfl)
          try simp only [Act.put, List.setIfInBounds_toArray, List.set_cons_zero, List.set_cons_succ]
          refine wpAnyH_take (i := 5) (oi := _) (v := ?v6) (by simp only [List.getElem?_toArray, List.getElem?_cons_succ, List.getElem?_cons_zero]; rfl) (by kernel_rfl) (by kernel_rfl) (by kernel_rfl) (by exact fun _ _ _ h => h) (Or.inl ⟨by rfl, ?hy6⟩) (by assumption) ?rest6
          case hy6 => (intro w hSw; (try dsimp only at hSw); go_simp; try with_reducible rfl)
          try simp only [Act.put, List.setIfInBounds_toArray, List.set_cons_zero, List.set_cons_succ]
          refine wpAnyH_take (i := 8) (oi := _) (v := ?v7) (by simp only [List.getElem?_toArray, List.getElem?_cons_succ, List.getElem?_cons_zero]; rfl) (by kernel_rfl) (by kernel_rfl) (by kernel_rfl) (by exact fun _ _ _ h => h) (Or.inl ⟨by rfl, ?hy7⟩) (by assumption) ?rest7
          case hy7 => (intro w hSw; (try dsimp only at hSw); go_simp; try with_reducible rfl)
          try simp only [Act.put, List.setIfInBounds_toArray, List.set_cons_zero, List.set_cons_succ]
          refine wpAnyH_take (i := 9) (oi := _) (v := ?v8) (by simp only [List.getElem?_toArray, List.getElem?_cons_succ, List.getElem?_cons_zero]; rfl) (by kernel_rfl) (by kernel_rfl) (by kernel_rfl) (by exact fun _ _ _ h => h) (Or.inl ⟨by rfl, ?hy8⟩) (by assumption) ?rest8
          case hy8 => (intro w hSw; (try dsimp only at hSw); go_simp; try with_reducible rfl)
          try simp only [Act.put, List.setIfInBounds_toArray, List.set_cons_zero, List.set_cons_succ]
          refine wpAnyH_ready (rs := [6]) (by kernel_rfl) (by simp) ?_
          refine AllReadyH.cons (o := _) (by simp only [List.getElem?_toArray, List.getElem?_cons_succ, List.getElem?_cons_zero]; rfl) (fun K hK => ?_) AllReadyH.nil
          go_simp
          refine hK.out _ _ (CV.out _ (by simp) (Below.heap_alloc _ _ _ HGL.out)) (fun hHeld => ?_)
          clear hK K
          try simp only [Act.put, List.setIfInBounds_toArray, List.set_cons_zero, List.set_cons_succ]
          refine wpAnyH_ready (rs := [7]) (by kernel_rfl) (by simp) ?_
          refine AllReadyH.cons (o := _) (by simp only [List.getElem?_toArray, List.getElem?_cons_succ, List.getElem?_cons_zero]; rfl) (fun K hK => ?_) AllReadyH.nil
          go_simp
          refine hK.out _ _ (CV.out _ (by simp) (Below.heap_alloc _ _ _ HGL.out)) (fun hHeld => ?_)
          clear hK K
          try simp only [Act.put, List.setIfInBounds_toArray, List.set_cons_zero, List.set_cons_succ]
          refine wpAnyH_take (i := 10) (oi := _) (v := ?v11) (by simp only [List.getElem?_toArray, List.getElem?_cons_succ, List.getElem?_cons_zero]; rfl) (by kernel_rfl) (by kernel_rfl) (by kernel_rfl) (by exact fun _ _ _ h => h) (Or.inl ⟨by rfl, ?hy11⟩) (by assumption) ?rest11
          case hy11 => (intro w hSw; (try dsimp only at hSw); go_simp; try with_reducible rfl)
          try simp only [Act.put, List.setIfInBounds_toArray, List.set_cons_zero, List.set_cons_succ]
          refine wpAnyH_ready (rs := [11]) (by kernel_rfl) (by simp) ?_
          refine AllReadyH.cons (o := _) (by simp only [List.getElem?_toArray, List.getElem?_cons_succ, List.getElem?_cons_zero]; rfl) (fun K hK => ?_) AllReadyH.nil
          go_simp
          refine hK.out _ _ (CV.out _ (by simp; omega) ((Below.heap_alloc _ _ _ (by have := HGL.out; simp; omega)).trans (Below.heap_alloc _ _ _ HGL.out))) (fun hHeld => ?_)
          clear hK K
          try simp only [Act.put, List.setIfInBounds_toArray, List.set_cons_zero, List.set_cons_succ]
          refine wpAnyH_ready (rs := [12]) (by kernel_rfl) (by simp) ?_
          refine AllReadyH.cons (o := _) (by simp only [List.getElem?_toArray, List.getElem?_cons_succ, List.getElem?_cons_zero]; rfl) (fun K hK => ?_) AllReadyH.nil
          go_simp
          go_at_call 18
          (with_reducible refine (CD.out _ _ HB2.out HK2.out HWO.out).mono ?_)
          rintro e w8 ⟨rfl, hst8, hs8, hk8⟩
          have hv8 : wr.heap.size ≤ w8.heap.size ∧ w8.heap[g]? = wr.heap[g]? := ⟨Nat.le_trans HG2.out.2 hs8, (hk8 g (by have := HG.out; omega) HG2.out.1).trans HGK.out⟩
          have ST8 := Lib.hid hst8; have V8 := Lib.hid hv8; clear hst8 hs8 hk8 hv8
          dsimp only
          refine hK.out _ _ (CV.out _ V8.out.1 V8.out.2) (fun hHeld => ?_)
          clear hK K
          try simp only [Act.put, List.setIfInBounds_toArray, List.set_cons_zero, List.set_cons_succ]
          refine wpAnyH_take (i := 13) (oi := _) (v := ?v14) (by simp only [List.getElem?_toArray, List.getElem?_cons_succ, List.getElem?_cons_zero]; rfl) (by kernel_rfl) (by kernel_rfl) (by kernel_rfl) (by exact fun _ _ _ h => h) (Or.inl ⟨by rfl, ?hy14⟩) (by assumption) ?rest14
          case hy14 => (intro w hSw; (try dsimp only at hSw); go_simp; try with_reducible rfl)
          try simp only [Act.put, List.setIfInBounds_toArray, List.set_cons_zero, List.set_cons_succ]
          refine wpAnyH_take (i := 14) (oi := _) (v := ?v15) (by simp only [List.getElem?_toArray, List.getElem?_cons_succ, List.getElem?_cons_zero]; rfl) (by kernel_rfl) (by kernel_rfl) (by kernel_rfl) (by exact fun _ _ _ h => h) (Or.inl ⟨by rfl, ?hy15⟩) (by assumption) ?rest15
          case hy15 => (intro w hSw; (try dsimp only at hSw); go_simp; try with_reducible rfl)
          try simp only [Act.put, List.setIfInBounds_toArray, List.set_cons_zero, List.set_cons_succ]
          refine wpAnyH_take (i := 15) (oi := _) (v := ?v16) (by simp only [List.getElem?_toArray, List.getElem?_cons_succ, List.getElem?_cons_zero]; rfl) (by kernel_rfl) (by kernel_rfl) (by kernel_rfl) (by exact fun _ _ _ h => h) (Or.inl ⟨by rfl, ?hy16⟩) (by assumption) ?rest16
          case hy16 => (intro w hSw; (try dsimp only at hSw); go_simp; try with_reducible rfl)
          try simp only [Act.put, List.setIfInBounds_toArray, List.set_cons_zero, List.set_cons_succ]
          refine wpAnyH_ready (rs := [16]) (by kernel_rfl) (by simp) ?_
          refine AllReadyH.cons (o := _) (by simp only [List.getElem?_toArray, List.getElem?_cons_succ, List.getElem?_cons_zero]; rfl) (fun K hK => ?_) AllReadyH.nil
          go_simp
          go_at_call 21
          (with_reducible refine (CB.out _ ST8.out).mono ?_)
          rintro e w9 ⟨⟨A9, c9, rfl⟩, hb9⟩
          have hv9 : wr.heap.size ≤ w9.heap.size ∧ w9.heap[g]? = wr.heap[g]? := ⟨Nat.le_trans V8.out.1 hb9.size, (hb9.block g (Nat.lt_of_lt_of_le HGL.out V8.out.1)).trans V8.out.2⟩
          have ST9 := Lib.hid (ST8.out.later HHT.out HH.out hb9); have V9 := Lib.hid hv9; clear hb9 hv9
          dsimp only
          refine hK.out _ _ (CV.out _ V9.out.1 V9.out.2) (fun hHeld => ?_)
          clear hK K
          try simp only [Act.put, List.setIfInBounds_toArray, List.set_cons_zero, List.set_cons_succ]
          refine wpAnyH_take (i := 17) (oi := _) (v := ?v18) (by simp only [List.getElem?_toArray, List.getElem?_cons_succ, List.getElem?_cons_zero]; rfl) (by kernel_rfl) (by kernel_rfl) (by kernel_rfl) (by exact fun _ _ _ h => h) (Or.inl ⟨by rfl, ?hy18⟩) (by assumption) ?rest18
          case hy18 => (intro w hSw; (try dsimp only at hSw); go_simp; try with_reducible rfl)
          try simp only [Act.put, List.setIfInBounds_toArray, List.set_cons_zero, List.set_cons_succ]
          refine wpAnyH_take (i := 18) (oi := _) (v := ?v19) (by simp only [List.getElem?_toArray, List.getElem?_cons_succ, List.getElem?_cons_zero]; rfl) (by kernel_rfl) (by kernel_rfl) (by kernel_rfl) (by exact fun _ _ _ h => h) (Or.inl ⟨by rfl, ?hy19⟩) (by assumption) ?rest19
          case hy19 => (intro w hSw; (try dsimp only at hSw); go_simp; try with_reducible rfl)
          try simp only [Act.put, List.setIfInBounds_toArray, List.set_cons_zero, List.set_cons_succ]
          refine wpAnyH_take (i := 19) (oi := _) (v := ?v20) (by simp only [List.getElem?_toArray, List.getElem?_cons_succ, List.getElem?_cons_zero]; rfl) (by kernel_rfl) (by kernel_rfl) (by kernel_rfl) (by exact fun _ _ _ h => h) (Or.inl ⟨by rfl, ?hy20⟩) (by assumption) ?rest20
          case hy20 => (intro w hSw; (try dsimp only at hSw); go_simp; try with_reducible rfl)
          try simp only [Act.put, List.setIfInBounds_toArray, List.set_cons_zero, List.set_cons_succ]
          refine wpAnyH_done (by kernel_rfl) ?_ _
          all_goals
            go_wp2
            go_roundw
            case rel => exact ⟨k + 1, by omega, by go_num, Lib.hid ⟨t', rows', D4.out, ST9.out⟩⟩
            case measure => simp [intOf]; omega
    · obtain rfl : k = N := by omega
      have hkr : decide ((k : Int) < k) = false := by simp
      obtain ⟨t, rows, hcalm, hst⟩ := hT.out
      have CALM := Lib.hid hcalm; have ST := Lib.hid hst
      clear hcalm hst hT
      obtain ⟨T2, o1, o2, o3⟩ := calm_open CALM.out 0
      have O1 := Lib.hid o1; have O2 := Lib.hid o2; have O3 := Lib.hid o3
      clear o1 o2 o3
      go_wp2_with fail
      have CRA := Lib.hid (Sto.crash HHT.out HH.out ST.out CALM.out.ok (by have := CALM.out.len; omega) 0 (by decide))
      refine CRA.out.mono ?_
      rintro e w5 ⟨rfl, st⟩
      have ST5 := Lib.hid st; clear st CRA
      dsimp only
      go_wp2_with fail
      have REO := Lib.hid (Sto.reopen2 HHT.out HH.out ST5.out O2.out (by have := O3.out; omega) HR.out O1.out)
      refine REO.out.mono ?_
      rintro e w6 ⟨p2, rfl, ⟨S1, hs1⟩, ⟨S2, hs2⟩, hlow⟩
      have CS1 := Lib.hid hs1; have CS2 := Lib.hid hs2; have LOW := Lib.hid hlow
      obtain ⟨n, hn⟩ : ∃ n, rows.length = n := ⟨_, rfl⟩
      have hn4 : n ≤ 4 := by have := CALM.out.few; omega
      have hkl : (keysR rows []).length = n := by rw [keysR_all, List.length_map, hn]
      have hk1 := HH.out.keys w6 S1 p q rows [] hs1 (by omega) (by decide)
      have hk2 := fun W (hb : Below w6.heap.size w6 W) => HH.out.keys W S2 p2 q rows [] (HH.out.below hs2 hb) (by omega) (by decide)
      have hg1 := fun W (hb : Below w6.heap.size w6 W) k => HH.out.get W S1 p q rows k (HH.out.below hs1 hb)
      have hg2 := fun W (hb : Below w6.heap.size w6 W) k => HH.out.get W S2 p2 q rows k (HH.out.below hs2 hb)
      have K1 := Lib.hid hk1; have K2 := Lib.hid hk2; have G1 := Lib.hid hg1; have G2 := Lib.hid hg2; have KL := Lib.hid hkl; have HN := Lib.hid hn
      clear hs1 hs2 hlow hk1 hk2 hg1 hg2 hkl hn REO
      dsimp only
      go_wp2_with fail
      have k1 : Calls Tryd.prog 27 #[.pointer (some ⟨p, 0, none⟩), .string ⟨#[]⟩] w6 _ := K1.out
      refine k1.mono ?_
      rintro e w7 ⟨⟨v7, rfl, hr7⟩, hb7⟩
      clear k1
      obtain ⟨A7, c7, rfl⟩ := rdt_form hr7
      rw [KL.out] at hr7 ⊢
      have B7 := Lib.hid hb7; have R7 := Lib.hid hr7
      clear hb7 hr7
      dsimp only
      go_wp2_with fail
      go_loopw [18] (fun i W => ∃ j : Nat, j ≤ n ∧ i = .int .i64 j ∧ Hid (Below w7.heap.size w7 W)) (fun i _ => n - (intOf i).toNat)
      case atStart => exact ⟨0, Nat.zero_le _, rfl, Lib.hid (Below.refl _ _)⟩
      case round =>
        obtain ⟨j, hj, rfl, hV⟩ := hrel
        by_cases hjl : j < n
        · have hjr : decide ((j : Int) < n) = true := by simp; omega
          have hj0 : (0 : Int) ≤ j := by omega
          have hj1 : (j : Int) < n := by omega
          have hjk : j < (keysR rows []).length := by rw [KL.out]; exact hjl
          have hjn : j < rows.length := by rw [HN.out]; exact hjl
          have hkey : (keysR rows [])[j] = rows[j].1 := by
            have : (keysR rows [])[j]? = (rows.map (·.1))[j]? := by rw [keysR_all]
            rw [List.getElem?_eq_getElem hjk, List.getElem?_map, List.getElem?_eq_getElem hjn] at this
            exact Option.some.inj this
          obtain ⟨gg, o, rfl, hgg, c1⟩ := (R7.out.below hV.out).at j hjk
          rw [hkey] at c1
          have hgr := getR_at rows j rows[j] CALM.out.good.rising (List.getElem?_eq_getElem hjn)
          obtain ⟨x, hx⟩ : ∃ x, rows[j] = x := ⟨_, rfl⟩
          rw [hx] at c1 hgr
          have hgw : ∀ W, Below wr.heap.size wr W → W.cell? ⟨gg, o + j, none⟩ = some (tv x.1) := fun W hb => (World.cell?_of_block (hb.block gg hgg)).trans c1
          have hq1 := fun W (hb : Below wr.heap.size wr W) => G1.out W (B7.out.chain (hV.out.chain hb)) x.1
          have hq2 := fun W (hb : Below wr.heap.size wr W) => G2.out W (B7.out.chain (hV.out.chain hb)) x.1
          rw [hgr] at hq1 hq2
          obtain ⟨KB, hKB⟩ : ∃ S : ByteArray, S = ⟨x.1.toArray⟩ := ⟨_, rfl⟩
          obtain ⟨VB, hVB⟩ : ∃ S : ByteArray, S = ⟨x.2.toArray⟩ := ⟨_, rfl⟩
          unfold getV at hq1 hq2
          unfold tv at c1 hgw
          rw [← hKB] at c1 hgw hq1 hq2
          simp only [← hVB] at hq1 hq2
          have hVV : (!VB.toList == VB.toList) = false := by simp
          have GW := Lib.hid hgw; have Q1 := Lib.hid hq1; have Q2 := Lib.hid hq2
          clear hgw hq1 hq2 hKB hVB hgr hx hkey hjk hjn hgg
          go_wp2_with fail
          refine (Q1.out _ (Below.refl _ _)).mono ?_
          rintro e w8 ⟨rfl, hb8⟩
          have c2 := GW.out w8 hb8
          have B8 := Lib.hid hb8; clear hb8
          dsimp only
          go_wp2_with fail
          refine (Q2.out _ B8.out).mono ?_
          rintro e w9 ⟨rfl, hb9⟩
          have B9 := Lib.hid (B8.out.chain hb9); clear hb9
          dsimp only
          go_wp2
          go_roundw
          case rel => exact ⟨j + 1, by omega, by go_num, Lib.hid (hV.out.chain B9.out)⟩
          case measure => simp [intOf]; omega
        · obtain rfl : j = n := by omega
          have hjr : decide ((j : Int) < j) = false := by simp
          go_wp2_with fail
          refine (HA.out _ (LOW.out.chain (B7.out.chain hV.out))).mono ?_
          rintro e w8 ⟨rfl, hb8⟩
          have B8 := Lib.hid (hV.out.chain hb8); clear hb8
          dsimp only
          go_wp2_with fail
          have k2 : Calls Tryd.prog 27 #[.pointer (some ⟨p2, 0, none⟩), .string ⟨#[]⟩] w8 _ := K2.out w8 (B7.out.chain B8.out)
          refine k2.mono ?_
          rintro e w9 ⟨⟨v9, rfl, hr9⟩, hb9⟩
          clear k2
          have htx := refTexts_any (.slice A7 j c7) v9 (keysR rows []) (keysR rows []) (by rw [KL.out]; omega) (by rw [KL.out]; omega) w9 ((R7.out.below B8.out).below hb9) hr9
          rw [decide_eq_true rfl] at htx
          have TX := Lib.hid htx; have B9 := Lib.hid (B8.out.chain hb9)
          clear htx hr9 hb9
          dsimp only
          go_wp2_with fail
          refine TX.out.mono ?_
          rintro e w10 ⟨rfl, hb10⟩
          have B10 := Lib.hid (B9.out.chain hb10); clear hb10
          dsimp only
          go_wp2
          go_ret
          exact ⟨rfl, LOW.out.chain (B7.out.chain B10.out)⟩
end Go.Proofs.YtklhdffbaglkdaaDoor
