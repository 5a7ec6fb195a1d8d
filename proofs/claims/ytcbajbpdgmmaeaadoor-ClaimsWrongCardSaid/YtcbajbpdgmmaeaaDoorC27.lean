/- Texts merged by program, in build order: ClaimsHoldK, OpenValue. -/
import Derived.Test.YtcbajbpdgmmaeaaDoorC25
import Derived.Test.YtcbajbpdgmmaeaaDoorC26
import Derived.Test.YtcbajbpdgmmaeaaDoorC21
import Derived.Test.YtcbajbpdgmmaeaaDoorC24
import Derived.Test.YtcbajbpdgmmaeaaDoorC13
import Derived.ProofKit
import Derived.ChangeMaps5
import Derived.Deep.Slices
import Derived.SizedLaws
namespace Go.Proofs.YtcbajbpdgmmaeaaDoor
open Go.RowKit
set_option linter.unusedVariables false
theorem claimsKeys_any (S1 S2 : ByteArray) (h1 : S1.size ≤ maxLen) (h2 : S2.size ≤ maxLen) (w : World) (hk : KitIn w.heap.size w) :
    Calls Tryd.prog 7 #[.string S1, .string S2] w fun e w' => e = .returned (.bool true) ∧ Below w.heap.size w w' := claimsKeys_at makeSays_any codeCheck_any S1 S2 h1 h2 w hk
theorem claimsFit_any {H : Type} (S1 S2 S3 S4 : ByteArray) (exp now : Int) (h1 : S1.size ≤ maxLen) (h2 : S2.size ≤ maxLen) (h3 : S3.size ≤ maxLen) (h4 : S4.size ≤ maxLen) (hi : (Lit.int .i64 exp).wf = true) (he : (Lit.int .i64 now).wf = true) (w : World)
    (hb : Rows.uptoBulkAll ([.lit (.string S1.data.toList), .lit (.string S2.data.toList), .lit (.string S3.data.toList), .lit (.string S4.data.toList), .lit (.int .i64 exp), .lit (.int .i64 now)] : List (DataW H)) ≤ 1048576) (hk : KitIn w.heap.size w) :
    Calls Tryd.prog 5 #[.string S1, .string S2, .string S3, .string S4, .int .i64 exp, .int .i64 now] w fun e w' => e = .returned (.bool true) ∧ Below w.heap.size w w' := by
  have hz : ∀ S : ByteArray, S.data.toList.length = S.size := fun S => rfl
  simp only [Rows.uptoBulkAll, Rows.uptoBulk, hz] at hb
  exact claimsFit_at makeSays_any codeCheck_any S1 S2 S3 S4 exp now h1 h2 h3 h4 (by omega) w hk
theorem claimsWrong_any (x : Int) (v : V) (cs : List Value) {B : Nat} {w : World} (hx : (Lit.int .u8 x).wf = true) (hv : VIs w 0 w.heap.size v cs ∧ v.wt ≤ B) (hk : KitIn w.heap.size w) :
    Calls Tryd.prog 6 #[.int .u8 x, .agg cs.toArray] w fun e w' => e = .returned (.bool true) ∧ Below w.heap.size w w' := claimsWrong_at makeSays_any codeCheck_any x v cs hx hv hk
end Go.Proofs.YtcbajbpdgmmaeaaDoor
namespace Go.Proofs.YtcbajbpdgmmaeaaDoor
open Go.ChangeShapes Go.WideShapes Go.ChangeAt Go.RowKit
set_option linter.unusedVariables false
set_option linter.unusedSimpArgs false

theorem Tryd.laidOutV : laidOutB Tryd.prog = true := by kernel_rfl
theorem Tryd.cellsVal : Tryd.prog.cellsOf 28 = 5 := by kernel_rfl
theorem Tryd.cellsStrV : Tryd.prog.cellsOf 9 = 1 := by kernel_rfl
theorem Tryd.cellsIntV : Tryd.prog.cellsOf 3 = 1 := by kernel_rfl
theorem Tryd.cellsI64V : Tryd.prog.cellsOf 2 = 1 := by kernel_rfl
theorem Tryd.cellsSlV : Tryd.prog.cellsOf 25 = 1 := by kernel_rfl
theorem Tryd.cellsSsV : Tryd.prog.cellsOf 26 = 1 := by kernel_rfl
theorem bulk_in {H : Type} : ∀ {l : List (DataW H)} {d : DataW H}, d ∈ l → Rows.uptoBulk d ≤ Rows.uptoBulkAll l
  | d0 :: l, d, hd => by
    have e : Rows.uptoBulkAll (d0 :: l) = Rows.uptoBulk d0 + Rows.uptoBulkAll l := by conv => lhs; unfold Rows.uptoBulkAll
    rw [e]
    rcases List.mem_cons.1 hd with rfl | h
    · omega
    · have := bulk_in h; omega
theorem bulkAll_nil {H : Type} : Rows.uptoBulkAll ([] : List (DataW H)) = 0 := by unfold Rows.uptoBulkAll; rfl
theorem bulkAll_cons {H : Type} (d : DataW H) (l : List (DataW H)) : Rows.uptoBulkAll (d :: l) = Rows.uptoBulk d + Rows.uptoBulkAll l := by conv => lhs; unfold Rows.uptoBulkAll
theorem bulkAll_snoc {H : Type} (l : List (DataW H)) (d : DataW H) : Rows.uptoBulkAll (l ++ [d]) = Rows.uptoBulkAll l + Rows.uptoBulk d := by
  induction l with
  | nil => rw [List.nil_append, bulkAll_cons, bulkAll_nil]; omega
  | cons a r ih => rw [List.cons_append, bulkAll_cons, bulkAll_cons, ih]; omega
theorem spot_none {W : World} {a : Addr} {v : Value} (h : W.cell? a = some v) : a = ⟨a.block, a.off, none⟩ := by
  obtain ⟨b, o, sp⟩ := a
  unfold World.cell? at h
  cases sp with
  | none => rfl
  | some z =>
    simp only at h
    split at h
    · simp at h
    · cases h
theorem kwts_map {H : Type} (f : Nat → ByteArray) (D : Nat → DataW H) : ∀ (is : List Nat), (∀ i ∈ is, D i = .lit (.string (f i).data.toList)) → kwts (is.map fun i => (f i).data.toList) = Rows.uptoBulkAll (is.map D)
  | [], _ => by rw [List.map_nil, List.map_nil, kwts_nil, bulkAll_nil]
  | i :: r, h => by
    rw [List.map_cons, List.map_cons, kwts_cons, bulkAll_cons, kwts_map f D r (fun j hj => h j (by simp [hj])), h i (by simp)]
    have : Rows.uptoBulk (DataW.lit (.string (f i).data.toList) : DataW H) = (f i).data.toList.length + 1 := by unfold Rows.uptoBulk; rfl
    rw [this]; omega
/-- a row of texts, as keys -/
theorem keys_of_trod {H : Type} {enc : TypeId × Value → H} {W : World} {fuel : Nat} {cs : List Value} {x : DataW H × List MemPlace}
    (h : DataW.trod enc Tryd.prog W 0 (fun _ => true) true fuel 26 cs = some x) :
    ∃ (A : Option Addr) (c : Nat) (ks : List (List UInt8)), cs = [.slice A ks.length c] ∧ ks.length ≤ 9223372036854775807 ∧ (∀ y ∈ ks, y.length ≤ 9223372036854775807) ∧ (ks = [] ∨ ∃ b o, A = some ⟨b, o, none⟩ ∧ KIs W 0 W.heap.size ks b o) ∧ kwts ks ≤ Rows.uptoBulk x.1 := by
  have hlt := DataW.trod_lt _ _ _ _ h
  rcases Go.Deep.open_slice1 Tryd.underlying26 Tryd.cellsStrV h with ⟨rfl, rfl⟩ | ⟨a, len, cap, m, n, V, D, Pl, rfl, _, hl, hm, hmm, rfl, hi⟩
  · exact ⟨none, 0, [], rfl, by simp, by simp, .inl rfl, by rw [kwts_nil]; exact Nat.zero_le _⟩
  · simp only [if_true] at hmm
    subst hmm
    have hall : ∀ i, ∃ s : ByteArray, i < m → W.cell? (a.add i) = some (.string s) ∧ D i = .lit (.string s.data.toList) ∧ s.size ≤ maxLen := by
      intro i
      by_cases him : i < m
      · obtain ⟨hc, ht⟩ := hi i him
        obtain ⟨s, hs, hx, hz⟩ := DataW.trod_string Tryd.underlying9 ht
        injection hs with hs
        injection hx with hx
        exact ⟨s, fun _ => ⟨by rw [hc, hs], hx, hz⟩⟩
      · exact ⟨⟨#[]⟩, fun h => absurd h him⟩
    obtain ⟨f, hf⟩ := Classical.axiomOfChoice hall
    refine ⟨some a, m, (List.range len).map (fun i => (f i).data.toList), by simp, by simp; unfold maxLen at hm; omega, ?_, ?_, ?_⟩
    · intro y hy
      obtain ⟨i, hi', rfl⟩ := List.mem_map.1 hy
      have := (hf i (by have := List.mem_range.1 hi'; omega)).2.2
      unfold maxLen at this
      show (f i).size ≤ _
      omega
    · by_cases h0 : len = 0
      · subst h0; exact .inl rfl
      · have hc0 := (hf 0 (by omega)).1
        have ha : a = ⟨a.block, a.off, none⟩ := spot_none (v := .string (f 0)) (by simpa [Addr.add] using hc0)
        refine .inr ⟨a.block, a.off, by rw [← ha], KIs.of (Nat.zero_le _) ?_ fun i hi' => ?_⟩
        · exact hlt (.cell a.block a.off) (by
            rw [List.mem_append]
            exact .inl (MemPlace.mem_row.2 ⟨0, by omega, by simp⟩))
        · have hil : i < len := by simpa using hi'
          have := (hf i (by omega)).1
          rw [ha, Addr.add_lit] at this
          rw [this]; simp
    · rw [kwts_map f D (List.range len) (fun i hi' => (hf i (by have := List.mem_range.1 hi'; omega)).2.1)]
      show _ ≤ Rows.uptoBulk (DataW.slice _ _)
      unfold Rows.uptoBulk
      omega
set_option maxRecDepth 100000 in
/-- five cells that read as a value, and its memory; how much it is -/
theorem value_of_trod {H : Type} {enc : TypeId × Value → H} {W : World} : ∀ (fuel : Nat) {cs : List Value} {x : DataW H × List MemPlace},
    DataW.trod enc Tryd.prog W 0 (fun _ => true) true fuel 28 cs = some x → ∃ v : V, VIs W 0 W.heap.size v cs ∧ v.wt ≤ Rows.uptoBulk x.1 := by
  intro fuel
  induction fuel using Nat.strongRecOn with
  | _ fuel ih =>
  intro cs x h
  obtain ⟨xs, m, hm, hx, hlen, hxl, hf⟩ := DataW.trod_struct Tryd.underlying28 h
  rw [Tryd.cellsVal] at hlen
  match cs, hlen with
  | [c0, c1, c2, c3, c4], _ =>
    have h0 := hf 0 { name := "Kind", type := 3, offset := 0, embedded := false, tag := "", pkgPath := "", byteOffset := 0 } rfl
    have h1 := hf 1 { name := "Num", type := 2, offset := 1, embedded := false, tag := "", pkgPath := "", byteOffset := 8 } rfl
    have h2 := hf 2 { name := "Text", type := 9, offset := 2, embedded := false, tag := "", pkgPath := "", byteOffset := 16 } rfl
    have h3 := hf 3 { name := "List", type := 25, offset := 3, embedded := false, tag := "", pkgPath := "", byteOffset := 32 } rfl
    have h4 := hf 4 { name := "Keys", type := 26, offset := 4, embedded := false, tag := "", pkgPath := "", byteOffset := 56 } rfl
    rw [Tryd.cellsIntV] at h0
    rw [Tryd.cellsI64V] at h1
    rw [Tryd.cellsStrV] at h2
    rw [Tryd.cellsSlV] at h3
    rw [Tryd.cellsSsV] at h4
    match xs, hxl with
    | [y0, y1, y2, y3, y4], _ =>
      simp only [List.getElem?_cons_zero, List.getElem?_cons_succ, List.drop_zero, List.drop_succ_cons, List.take_succ_cons, List.take_zero] at h0 h1 h2 h3 h4
      obtain ⟨k, e0, z0, -⟩ := DataW.trod_int Tryd.underlying3 h0
      obtain ⟨n, e1, z1, -⟩ := DataW.trod_int Tryd.underlying2 h1
      obtain ⟨t, e2, z2, ht⟩ := DataW.trod_string Tryd.underlying9 h2
      obtain ⟨A', c', ks, e4, hkl, hky, hkm, hkw⟩ := keys_of_trod h4
      have hlt3 := DataW.trod_lt _ _ _ _ h3
      have hlist : ∃ (A : Option Addr) (c : Nat) (l : List V), [c3] = [.slice A l.length c] ∧ l.length ≤ 9223372036854775807 ∧ (l = [] ∨ ∃ b o, A = some ⟨b, o, none⟩ ∧ LIs W 0 W.heap.size l b o) ∧ V.wts l ≤ Rows.uptoBulk y3.1 := by
        rcases DataW.trod_slice Tryd.underlying25 h3 with ⟨hc, hy⟩ | ⟨a, len, cap, elems, rest, q, hq, hc, hy, _, hl, hcm, hel, hat, _, _⟩
        · exact ⟨none, 0, [], hc, by simp, .inl rfl, by rw [wts_nil]; exact Nat.zero_le _⟩
        · rw [Tryd.cellsVal] at hat hy
          have hspot : 0 < len → a = ⟨a.block, a.off, none⟩ := fun h0 => by
            have hb := hat 0 h0
            rw [List.getElem?_eq_getElem (show 0 < elems.length by omega)] at hb
            obtain ⟨cs', hb1, hb2⟩ := Option.bind_eq_some_iff.1 hb
            obtain ⟨_, hl5, hat5⟩ := World.cells?_some hb1
            have := hat5 0 (by decide)
            match cs', hl5 with
            | [d0, d1, d2, d3, d4], _ => exact spot_none (v := d0) (by simpa [Addr.add] using this)
          have hall : ∀ i, ∃ u : V, (hi : i < len) → ∃ (hi' : i < elems.length) (cs' : List Value), Five W a.block (a.off + i * 5) cs' ∧ VIs W 0 W.heap.size u cs' ∧ u.wt ≤ Rows.uptoBulk elems[i].1 := by
            intro i
            by_cases hi : i < len
            · have hi' : i < elems.length := by omega
              have hb := hat i hi
              have ha := hspot (by omega)
              obtain ⟨b, o, sp⟩ := a
              obtain rfl : sp = none := by injection ha
              rw [List.getElem?_eq_getElem hi'] at hb
              obtain ⟨cs', hb1, hb2⟩ := Option.bind_eq_some_iff.1 hb
              obtain ⟨u, hu1, hu2⟩ := ih q (by omega) hb2
              obtain ⟨_, hl5, hat5⟩ := World.cells?_some hb1
              refine ⟨u, fun _ => ⟨hi', cs', ?_, hu1, hu2⟩⟩
              match cs', hl5 with
              | [d0, d1, d2, d3, d4], _ =>
                have g0 := hat5 0 (by decide)
                have g1 := hat5 1 (by decide)
                have g2 := hat5 2 (by decide)
                have g3 := hat5 3 (by decide)
                have g4 := hat5 4 (by decide)
                simp only [List.getElem?_cons_zero, List.getElem?_cons_succ, Addr.add_lit] at g0 g1 g2 g3 g4
                exact ⟨d0, d1, d2, d3, d4, rfl, by simpa using g0, g1, g2, g3, g4⟩
            · exact ⟨V.zero, fun h => absurd h hi⟩
          obtain ⟨f, hf'⟩ := Classical.axiomOfChoice hall
          refine ⟨some a, cap, (List.range len).map f, by rw [hc]; simp, by simp; unfold maxLen at hcm; omega, ?_, ?_⟩
          · by_cases h0 : len = 0
            · subst h0; exact .inl rfl
            · have ha := hspot (by omega)
              refine .inr ⟨a.block, a.off, by rw [← ha], LIs.of (Nat.zero_le _) ?_ fun i hi' => ?_⟩
              · exact hlt3 (.cell a.block a.off) (by
                  rw [hy, List.mem_append]
                  exact .inl (MemPlace.mem_row.2 ⟨0, by omega, by simp⟩))
              · have hil : i < len := by simpa using hi'
                obtain ⟨_, cs', h5, hv, _⟩ := hf' i hil
                exact ⟨cs', h5, by simpa using hv⟩
          · have hgen : ∀ (j : Nat), j ≤ len → V.wts ((List.range j).map f) ≤ Rows.uptoBulkAll ((elems.take j).map (·.1)) := by
              intro j
              induction j with
              | zero => intro _; show V.wts [] ≤ _; rw [wts_nil]; exact Nat.zero_le _
              | succ j ihj =>
                intro hj
                obtain ⟨hj', _, _, _, hw⟩ := hf' j (by omega)
                rw [List.range_succ, List.map_append, List.map_singleton, wts_snoc, List.take_succ_eq_append_getElem hj', List.map_append, List.map_singleton, bulkAll_snoc]
                have := ihj (by omega)
                omega
            have := hgen len (Nat.le_refl _)
            rw [← hel, List.take_length] at this
            rw [hy]
            show _ ≤ Rows.uptoBulk (DataW.slice _ _)
            unfold Rows.uptoBulk
            rw [← hel]
            omega
      obtain ⟨A, c, l, e3, hll, hlm, hlw⟩ := hlist
      injection e0 with e0; injection e1 with e1; injection e2 with e2; injection e3 with e3; injection e4 with e4
      subst e0; subst e1; subst e2; subst e3; subst e4
      refine ⟨.mk k n t.data.toList l ks, VIs.mk ⟨hll, hkl, by unfold maxLen at ht; exact ht, hky⟩ hkm hlm, ?_⟩
      rw [wt_mk, hx]
      show _ ≤ Rows.uptoBulk (DataW.agg _)
      unfold Rows.uptoBulk
      simp only [List.map_cons, List.map_nil, bulkAll_cons, bulkAll_nil]
      have b2 : Rows.uptoBulk y2.1 = t.data.toList.length + 1 := by rw [z2]; unfold Rows.uptoBulk; rfl
      omega
set_option maxRecDepth 100000 in
/-- an argument that is a value -/
theorem open_value {H : Type} {enc : TypeId × Value → H} {W : World} {base : Nat} {v : Value} {d : DataW H} {ps : List MemPlace} (hval : Value.okWide Tryd.prog W .any base 28 v)
    (hd : DataW.Trod enc Tryd.prog W 0 (fun _ => true) true 28 v d ps) : ∃ (u : V) (cs : List Value), v = .agg cs.toArray ∧ VIs W 0 W.heap.size u cs ∧ u.wt ≤ Rows.uptoBulk d := by
  obtain ⟨cs, rfl, hcs⟩ := okWide_struct Tryd.underlying28 hval
  obtain ⟨fuel, hf⟩ := hd
  obtain ⟨u, h1, h2⟩ := value_of_trod fuel hf
  obtain ⟨cs⟩ := cs
  exact ⟨u, cs, rfl, h1, h2⟩
set_option maxRecDepth 100000 in
theorem open_val {H : Type} {enc : TypeId × Value → H} {W : World} {base : Nat} {v : Value} {d : DataW H} {ps : List MemPlace} (hval : Value.okWide Tryd.prog W .any base 28 v)
    (hd : DataW.Trod enc Tryd.prog W 0 (fun _ => true) true 28 v d ps) (_ : ∀ x ∈ ps, x.block < W.heap.size) (_ : ∀ n ∈ d.weights Tryd.prog 28, n ≤ reachBytes) :
    ∃ (u : V) (cs : List Value), v = .agg cs.toArray ∧ VIs W 0 W.heap.size u cs ∧ u.wt ≤ Rows.uptoBulk d := open_value hval hd
end Go.Proofs.YtcbajbpdgmmaeaaDoor
