/- Arguments that are slices of texts, sessions, codes, families. Written by wip/gen/gopen13.py. -/
import Derived.Test.YtefnkkjmcfpiaaaDoorOpenActs
import Derived.Test.YtefnkkjmcfpiaaaDoorRowVals
namespace Go.Proofs.YtefnkkjmcfpiaaaDoor
open Go.ChangeShapes Go.WideShapes Go.ChangeAt Go.RowKit
set_option linter.unusedVariables false

theorem decI_size13 (n : Int) (h : -9223372036854775808 ≤ n ∧ n ≤ 9223372036854775807) : (decI n).length ≤ 21 := by
  have := decL_len n.natAbs 20 (Nat.lt_of_le_of_lt (show n.natAbs ≤ 9223372036854775808 by omega) (by decide)) (by decide)
  unfold decI; split
  · rw [List.length_cons]; omega
  · omega
theorem Tryd.cellsStrR : Tryd.prog.cellsOf 9 = 1 := by kernel_rfl
theorem Tryd.bytesStrR : Tryd.prog.bytesOf 9 = 16 := by kernel_rfl
theorem Tryd.cellsStrsR : Tryd.prog.cellsOf 22 = 1 := by kernel_rfl
theorem weightsAll_inR {H : Type} {P : Program} {e : TypeId} : ∀ {l : List (DataW H)} {d : DataW H}, d ∈ l → ∀ n ∈ d.weights P e, n ∈ DataW.weightsAll P e l
  | d0 :: l, d, hd, n, hn => by
    simp only [DataW.weightsAll, List.mem_append]
    rcases List.mem_cons.1 hd with rfl | h
    · exact Or.inl hn
    · exact Or.inr (weightsAll_inR h n hn)
theorem bulkAll_nilR {H : Type} : Rows.uptoBulkAll ([] : List (DataW H)) = 0 := by unfold Rows.uptoBulkAll; rfl
theorem bulkAll_consR {H : Type} (d : DataW H) (l : List (DataW H)) : Rows.uptoBulkAll (d :: l) = Rows.uptoBulk d + Rows.uptoBulkAll l := by conv => lhs; unfold Rows.uptoBulkAll
theorem bulk_strR {H : Type} (b : List UInt8) : Rows.uptoBulk (.lit (.string b) : DataW H) = b.length + 1 := by unfold Rows.uptoBulk; rfl
theorem bulk_sliceR {H : Type} (e sp : List (DataW H)) : Rows.uptoBulk (.slice e sp) = Rows.uptoBulkAll e + Rows.uptoBulkAll sp + 1 := by conv => lhs; unfold Rows.uptoBulk
theorem bulk_aggR {H : Type} (e : List (DataW H)) : Rows.uptoBulk (.agg e) = Rows.uptoBulkAll e + 1 := by conv => lhs; unfold Rows.uptoBulk
theorem bulk_mapR {H : Type} (D : Nat → DataW H) (f : Nat → List UInt8) : ∀ (r : List Nat), (∀ i ∈ r, D i = .lit (.string (f i))) → Rows.uptoBulkAll (r.map D) = ((r.map f).map List.length).sum + r.length
  | [], _ => by simp [bulkAll_nilR]
  | i :: r, h => by
    rw [List.map_cons, List.map_cons, List.map_cons, bulkAll_consR, bulk_mapR D f r (fun j hj => h j (List.mem_cons_of_mem _ hj)), h i (List.mem_cons_self ..), bulk_strR, List.sum_cons, List.length_cons]
    omega
/-- what is known of a slice of texts that lies in memory -/
def Strs13 (W : World) (v : Value) (l : List (List UInt8)) : Prop := RdT W v l ∧ l.length ≤ 200000000000000 ∧ ∀ x ∈ l, x.length ≤ 200000000000000
set_option maxRecDepth 100000 in
/-- a cell that is a slice of texts -/
theorem strs_of_trod {H : Type} {enc : TypeId × Value → H} {W : World} {fuel : Nat} {cs : List Value} {x : DataW H × List MemPlace}
    (h : DataW.trod enc Tryd.prog W 0 (fun _ => true) true fuel 22 cs = some x) (hwt : ∀ n ∈ x.1.weights Tryd.prog 22, n ≤ reachBytes) :
    ∃ (v : Value) (l : List (List UInt8)), cs = [v] ∧ Strs13 W v l ∧ (l.map List.length).sum + l.length ≤ Rows.uptoBulk x.1 := by
  have hreach : reachBytes ≤ 200000000000000 := by decide
  rcases Go.Deep.open_slice1 Tryd.underlying22 Tryd.cellsStrR h with ⟨rfl, rfl⟩ | ⟨a, len, cap, m, n, V, D, Pl, rfl, _, hl, hm, hmm, rfl, hi⟩
  · exact ⟨_, [], rfl, ⟨⟨none, 0, rfl, Nat.le_refl _, fun k l hk => by simp only [List.getElem?_nil] at hk; cases hk⟩, Nat.zero_le _, fun x hx => by cases hx⟩, Nat.zero_le _⟩
  · simp only [if_true] at hmm
    subst hmm
    have hsp : 0 < m → a = ⟨a.block, a.off, none⟩ ∧ a.block < W.heap.size := by
      intro h0
      obtain ⟨he, hg⟩ := spot_none_b (hi 0 h0).1
      obtain ⟨b, o, sp⟩ := a
      simp only [Addr.add] at he hg
      injection he with e1 e2 e3
      simp only at e3 ⊢
      exact ⟨by rw [e3], hg⟩
    have hall : ∀ i, ∃ (x : List UInt8), i < m → W.cell? ⟨a.block, a.off + i, none⟩ = some (tv x) ∧ D i = .lit (.string x) := by
      intro i
      by_cases him : i < m
      · obtain ⟨h1, h2⟩ := hi i him
        obtain ⟨s, hc, hd, _⟩ := DataW.trod_string Tryd.underlying9 h2
        rw [List.singleton_inj] at hc
        obtain ⟨e1, e2⟩ := hsp (by omega)
        rw [e1, Addr.add_lit, hc] at h1
        exact ⟨s.data.toList, fun _ => ⟨by rw [h1]; simp [tv], congrArg Prod.fst hd⟩⟩
      · exact ⟨[], fun h => absurd h him⟩
    obtain ⟨f, hf⟩ := Classical.axiomOfChoice hall
    have hlen : len ≤ reachBytes := by
      have := hwt ((len + (m - len)) * Tryd.prog.bytesOf 9) (by simp [DataW.weights, Tryd.underlying22])
      rw [Tryd.bytesStrR] at this
      omega
    refine ⟨_, (List.range len).map f, rfl, ⟨⟨some a, m, by simp, by simpa using hl, fun k x hk => ?_⟩, by simp only [List.length_map, List.length_range]; omega, fun x hx' => ?_⟩, ?_⟩
    · obtain ⟨hk1, rfl⟩ := List.getElem?_eq_some_iff.1 hk
      have hk' : k < len := by simpa using hk1
      obtain ⟨e1, e2⟩ := hsp (by omega)
      simp only [List.getElem_map, List.getElem_range]
      exact ⟨a.block, a.off, by rw [← e1], e2, (hf k (by omega)).1⟩
    · obtain ⟨i, hi', rfl⟩ := List.mem_map.1 hx'
      have hil : i < len := by simpa using hi'
      have hD := (hf i (by omega)).2
      have hin : D i ∈ (List.range len).map D := List.mem_map.2 ⟨i, by simpa using hil, rfl⟩
      have hmem : ∀ n ∈ (D i).weights Tryd.prog 9, n ≤ reachBytes := fun n hn => hwt n (by
        simp only [DataW.weights, Tryd.underlying22, List.mem_cons, List.mem_append]
        exact .inr (.inl (weightsAll_inR hin n hn)))
      rw [hD] at hmem
      exact Nat.le_trans (hmem _ (by simp [DataW.weights])) hreach
    · have hb := bulk_mapR D f (List.range len) (fun i hi' => (hf i (by have := List.mem_range.1 hi'; omega)).2)
      simp only [bulk_sliceR, List.length_map, List.length_range] at hb ⊢
      omega
set_option maxRecDepth 100000 in
/-- what is read of a slice of texts -/
theorem open_strs {H : Type} {enc : TypeId × Value → H} {W : World} {base : Nat} {v : Value} {d : DataW H} {ps : List MemPlace} (hval : Value.okWide Tryd.prog W .any base 22 v)
    (hd : DataW.Trod enc Tryd.prog W 0 (fun _ => true) true 22 v d ps) (hlt : ∀ x ∈ ps, x.block < W.heap.size) (hwt : ∀ n ∈ d.weights Tryd.prog 22, n ≤ reachBytes) :
    ∃ (A : Option Addr) (c : Nat) (l : List (List UInt8)), v = .slice A l.length c ∧ Strs13 W (.slice A l.length c) l := by
  obtain ⟨a0, len, cap, rfl⟩ := okWide_slice Tryd.underlying22 hval
  obtain ⟨fuel, hf⟩ := hd
  obtain ⟨v, l, hc, h, _⟩ := strs_of_trod hf hwt
  simp only [Value.cells] at hc
  have hc : Value.slice a0 len cap = v := by simpa using hc
  subst hc
  obtain ⟨A, c, e, h1⟩ := id h.1
  rw [e] at h ⊢
  exact ⟨A, c, l, rfl, h⟩
theorem Tryd.cellsSess : Tryd.prog.cellsOf 35 = 12 := by kernel_rfl
theorem Tryd.cellsIntR : Tryd.prog.cellsOf 3 = 1 := by kernel_rfl
set_option maxRecDepth 100000 in
set_option maxHeartbeats 1000000 in
theorem open_sess {H : Type} {enc : TypeId × Value → H} {W : World} {base : Nat} {v : Value} {d : DataW H} {ps : List MemPlace} (hval : Value.okWide Tryd.prog W .any base 35 v)
    (hd : DataW.Trod enc Tryd.prog W 0 (fun _ => true) true 35 v d ps) (hlt : ∀ x ∈ ps, x.block < W.heap.size) (hwt : ∀ n ∈ d.weights Tryd.prog 35, n ≤ reachBytes) :
    ∃ x : Sess, v = x.val ∧ x.ok ∧ (∀ t ∈ x.texts, t.length ≤ 200000000000000) ∧ (x.texts.map List.length).sum ≤ Rows.uptoBulk d + 42 := by
  have hreach : reachBytes ≤ 200000000000000 := by decide
  obtain ⟨cs, rfl, hcs⟩ := okWide_struct Tryd.underlying35 hval
  obtain ⟨fuel, hf⟩ := hd
  obtain ⟨xs, m, _, hx, hlen, hxl, hf⟩ := DataW.trod_struct Tryd.underlying35 hf
  rw [Tryd.cellsSess] at hlen
  obtain ⟨cs⟩ := cs
  simp only [Value.cells] at hlen hf
  match cs, hlen with
  | [c0, c1, c2, c3, c4, c5, c6, c7, c8, c9, c10, c11], _ =>
    have h0 := hf 0 { name := "Cookie", type := 9, offset := 0, embedded := false, tag := "", pkgPath := "", byteOffset := 0 } rfl
    rw [Tryd.cellsStrR] at h0
    have h1 := hf 1 { name := "Client", type := 9, offset := 1, embedded := false, tag := "", pkgPath := "", byteOffset := 16 } rfl
    rw [Tryd.cellsStrR] at h1
    have h2 := hf 2 { name := "Redirect", type := 9, offset := 2, embedded := false, tag := "", pkgPath := "", byteOffset := 32 } rfl
    rw [Tryd.cellsStrR] at h2
    have h3 := hf 3 { name := "State", type := 9, offset := 3, embedded := false, tag := "", pkgPath := "", byteOffset := 48 } rfl
    rw [Tryd.cellsStrR] at h3
    have h4 := hf 4 { name := "Nonce", type := 9, offset := 4, embedded := false, tag := "", pkgPath := "", byteOffset := 64 } rfl
    rw [Tryd.cellsStrR] at h4
    have h5 := hf 5 { name := "Scope", type := 9, offset := 5, embedded := false, tag := "", pkgPath := "", byteOffset := 80 } rfl
    rw [Tryd.cellsStrR] at h5
    have h6 := hf 6 { name := "Challenge", type := 9, offset := 6, embedded := false, tag := "", pkgPath := "", byteOffset := 96 } rfl
    rw [Tryd.cellsStrR] at h6
    have h7 := hf 7 { name := "Stage", type := 3, offset := 7, embedded := false, tag := "", pkgPath := "", byteOffset := 112 } rfl
    rw [Tryd.cellsIntR] at h7
    have h8 := hf 8 { name := "Conn", type := 9, offset := 8, embedded := false, tag := "", pkgPath := "", byteOffset := 120 } rfl
    rw [Tryd.cellsStrR] at h8
    have h9 := hf 9 { name := "UpState", type := 9, offset := 9, embedded := false, tag := "", pkgPath := "", byteOffset := 136 } rfl
    rw [Tryd.cellsStrR] at h9
    have h10 := hf 10 { name := "UpNonce", type := 9, offset := 10, embedded := false, tag := "", pkgPath := "", byteOffset := 152 } rfl
    rw [Tryd.cellsStrR] at h10
    have h11 := hf 11 { name := "Ends", type := 3, offset := 11, embedded := false, tag := "", pkgPath := "", byteOffset := 168 } rfl
    rw [Tryd.cellsIntR] at h11
    match xs, hxl with
    | [y0, y1, y2, y3, y4, y5, y6, y7, y8, y9, y10, y11], _ =>
      simp only [List.getElem?_cons_zero, List.getElem?_cons_succ] at h0 h1 h2 h3 h4 h5 h6 h7 h8 h9 h10 h11
      obtain ⟨a0, e0, w0, _⟩ := DataW.trod_string Tryd.underlying9 h0
      obtain ⟨a1, e1, w1, _⟩ := DataW.trod_string Tryd.underlying9 h1
      obtain ⟨a2, e2, w2, _⟩ := DataW.trod_string Tryd.underlying9 h2
      obtain ⟨a3, e3, w3, _⟩ := DataW.trod_string Tryd.underlying9 h3
      obtain ⟨a4, e4, w4, _⟩ := DataW.trod_string Tryd.underlying9 h4
      obtain ⟨a5, e5, w5, _⟩ := DataW.trod_string Tryd.underlying9 h5
      obtain ⟨a6, e6, w6, _⟩ := DataW.trod_string Tryd.underlying9 h6
      obtain ⟨a7, e7, w7, z7⟩ := DataW.trod_int Tryd.underlying3 h7
      obtain ⟨a8, e8, w8, _⟩ := DataW.trod_string Tryd.underlying9 h8
      obtain ⟨a9, e9, w9, _⟩ := DataW.trod_string Tryd.underlying9 h9
      obtain ⟨a10, e10, w10, _⟩ := DataW.trod_string Tryd.underlying9 h10
      obtain ⟨a11, e11, w11, z11⟩ := DataW.trod_int Tryd.underlying3 h11
      simp only [List.drop_succ_cons, List.drop_zero, List.take_succ_cons, List.take_zero, List.singleton_inj] at e0 e1 e2 e3 e4 e5 e6 e7 e8 e9 e10 e11
      subst e0 e1 e2 e3 e4 e5 e6 e7 e8 e9 e10 e11
      have hd : d = .agg [.lit (.string a0.data.toList), .lit (.string a1.data.toList), .lit (.string a2.data.toList), .lit (.string a3.data.toList), .lit (.string a4.data.toList), .lit (.string a5.data.toList), .lit (.string a6.data.toList), y7.1, .lit (.string a8.data.toList), .lit (.string a9.data.toList), .lit (.string a10.data.toList), y11.1] := by
        have := congrArg Prod.fst hx
        rw [show d = (d, ps).1 from rfl, this, w0, w1, w2, w3, w4, w5, w6, w8, w9, w10]; rfl
      rw [hd] at hwt
      have q0 : a0.data.toList.length ≤ 200000000000000 := Nat.le_trans (hwt _ (by simp [DataW.weights, Tryd.underlying35, DataW.weightsEach])) hreach
      have q1 : a1.data.toList.length ≤ 200000000000000 := Nat.le_trans (hwt _ (by simp [DataW.weights, Tryd.underlying35, DataW.weightsEach])) hreach
      have q2 : a2.data.toList.length ≤ 200000000000000 := Nat.le_trans (hwt _ (by simp [DataW.weights, Tryd.underlying35, DataW.weightsEach])) hreach
      have q3 : a3.data.toList.length ≤ 200000000000000 := Nat.le_trans (hwt _ (by simp [DataW.weights, Tryd.underlying35, DataW.weightsEach])) hreach
      have q4 : a4.data.toList.length ≤ 200000000000000 := Nat.le_trans (hwt _ (by simp [DataW.weights, Tryd.underlying35, DataW.weightsEach])) hreach
      have q5 : a5.data.toList.length ≤ 200000000000000 := Nat.le_trans (hwt _ (by simp [DataW.weights, Tryd.underlying35, DataW.weightsEach])) hreach
      have q6 : a6.data.toList.length ≤ 200000000000000 := Nat.le_trans (hwt _ (by simp [DataW.weights, Tryd.underlying35, DataW.weightsEach])) hreach
      have q8 : a8.data.toList.length ≤ 200000000000000 := Nat.le_trans (hwt _ (by simp [DataW.weights, Tryd.underlying35, DataW.weightsEach])) hreach
      have q9 : a9.data.toList.length ≤ 200000000000000 := Nat.le_trans (hwt _ (by simp [DataW.weights, Tryd.underlying35, DataW.weightsEach])) hreach
      have q10 : a10.data.toList.length ≤ 200000000000000 := Nat.le_trans (hwt _ (by simp [DataW.weights, Tryd.underlying35, DataW.weightsEach])) hreach
      have ci : ∀ n : Int, (Lit.int .i64 n).wf = true → -9223372036854775808 ≤ n ∧ n ≤ 9223372036854775807 := fun n h => by
        simp [Lit.wf, IntKind.min, IntKind.max, IntKind.signed, IntKind.bits] at h
        omega
      have hbk : Rows.uptoBulk d = _ := congrArg Rows.uptoBulk hd
      simp only [bulk_aggR, bulkAll_consR, bulkAll_nilR, bulk_strR] at hbk
      have i7 := decI_size13 _ (ci _ z7)
      have i11 := decI_size13 _ (ci _ z11)
      refine ⟨⟨a0.data.toList, a1.data.toList, a2.data.toList, a3.data.toList, a4.data.toList, a5.data.toList, a6.data.toList, a7, a8.data.toList, a9.data.toList, a10.data.toList, a11⟩, ?_, ⟨ci _ z7, ci _ z11⟩, fun t ht => ?_, ?_⟩
      · simp [Sess.val, tv]
      · simp only [Sess.texts, List.mem_cons, List.not_mem_nil, or_false] at ht
        rcases ht with rfl | rfl | rfl | rfl | rfl | rfl | rfl | rfl | rfl | rfl | rfl | rfl
        · exact q0
        · exact q1
        · exact q2
        · exact q3
        · exact q4
        · exact q5
        · exact q6
        · exact Nat.le_trans (decI_size13 _ (ci _ z7)) (by decide)
        · exact q8
        · exact q9
        · exact q10
        · exact Nat.le_trans (decI_size13 _ (ci _ z11)) (by decide)
      · rw [hbk]
        simp only [Sess.texts, List.map_cons, List.map_nil, List.sum_cons, List.sum_nil]
        omega
theorem Tryd.cellsCod : Tryd.prog.cellsOf 41 = 13 := by kernel_rfl
set_option maxRecDepth 100000 in
set_option maxHeartbeats 1000000 in
theorem open_cod {H : Type} {enc : TypeId × Value → H} {W : World} {base : Nat} {v : Value} {d : DataW H} {ps : List MemPlace} (hval : Value.okWide Tryd.prog W .any base 41 v)
    (hd : DataW.Trod enc Tryd.prog W 0 (fun _ => true) true 41 v d ps) (hlt : ∀ x ∈ ps, x.block < W.heap.size) (hwt : ∀ n ∈ d.weights Tryd.prog 41, n ≤ reachBytes) :
    ∃ x : Cod, v = x.val ∧ x.ok ∧ (∀ t ∈ x.texts, t.length ≤ 200000000000000) ∧ (x.texts.map List.length).sum ≤ Rows.uptoBulk d + 42 := by
  have hreach : reachBytes ≤ 200000000000000 := by decide
  obtain ⟨cs, rfl, hcs⟩ := okWide_struct Tryd.underlying41 hval
  obtain ⟨fuel, hf⟩ := hd
  obtain ⟨xs, m, _, hx, hlen, hxl, hf⟩ := DataW.trod_struct Tryd.underlying41 hf
  rw [Tryd.cellsCod] at hlen
  obtain ⟨cs⟩ := cs
  simp only [Value.cells] at hlen hf
  match cs, hlen with
  | [c0, c1, c2, c3, c4, c5, c6, c7, c8, c9, c10, c11, c12], _ =>
    have h0 := hf 0 { name := "Code", type := 9, offset := 0, embedded := false, tag := "", pkgPath := "", byteOffset := 0 } rfl
    rw [Tryd.cellsStrR] at h0
    have h1 := hf 1 { name := "Client", type := 9, offset := 1, embedded := false, tag := "", pkgPath := "", byteOffset := 16 } rfl
    rw [Tryd.cellsStrR] at h1
    have h2 := hf 2 { name := "Redirect", type := 9, offset := 2, embedded := false, tag := "", pkgPath := "", byteOffset := 32 } rfl
    rw [Tryd.cellsStrR] at h2
    have h3 := hf 3 { name := "Challenge", type := 9, offset := 3, embedded := false, tag := "", pkgPath := "", byteOffset := 48 } rfl
    rw [Tryd.cellsStrR] at h3
    have h4 := hf 4 { name := "Nonce", type := 9, offset := 4, embedded := false, tag := "", pkgPath := "", byteOffset := 64 } rfl
    rw [Tryd.cellsStrR] at h4
    have h5 := hf 5 { name := "Scope", type := 9, offset := 5, embedded := false, tag := "", pkgPath := "", byteOffset := 80 } rfl
    rw [Tryd.cellsStrR] at h5
    have h6 := hf 6 { name := "User", type := 9, offset := 6, embedded := false, tag := "", pkgPath := "", byteOffset := 96 } rfl
    rw [Tryd.cellsStrR] at h6
    have h7 := hf 7 { name := "Conn", type := 9, offset := 7, embedded := false, tag := "", pkgPath := "", byteOffset := 112 } rfl
    rw [Tryd.cellsStrR] at h7
    have h8 := hf 8 { name := "Sub", type := 9, offset := 8, embedded := false, tag := "", pkgPath := "", byteOffset := 128 } rfl
    rw [Tryd.cellsStrR] at h8
    have h9 := hf 9 { name := "Claims", type := 9, offset := 9, embedded := false, tag := "", pkgPath := "", byteOffset := 144 } rfl
    rw [Tryd.cellsStrR] at h9
    have h10 := hf 10 { name := "Refresh", type := 9, offset := 10, embedded := false, tag := "", pkgPath := "", byteOffset := 160 } rfl
    rw [Tryd.cellsStrR] at h10
    have h11 := hf 11 { name := "Ends", type := 3, offset := 11, embedded := false, tag := "", pkgPath := "", byteOffset := 176 } rfl
    rw [Tryd.cellsIntR] at h11
    have h12 := hf 12 { name := "Family", type := 9, offset := 12, embedded := false, tag := "", pkgPath := "", byteOffset := 184 } rfl
    rw [Tryd.cellsStrR] at h12
    match xs, hxl with
    | [y0, y1, y2, y3, y4, y5, y6, y7, y8, y9, y10, y11, y12], _ =>
      simp only [List.getElem?_cons_zero, List.getElem?_cons_succ] at h0 h1 h2 h3 h4 h5 h6 h7 h8 h9 h10 h11 h12
      obtain ⟨a0, e0, w0, _⟩ := DataW.trod_string Tryd.underlying9 h0
      obtain ⟨a1, e1, w1, _⟩ := DataW.trod_string Tryd.underlying9 h1
      obtain ⟨a2, e2, w2, _⟩ := DataW.trod_string Tryd.underlying9 h2
      obtain ⟨a3, e3, w3, _⟩ := DataW.trod_string Tryd.underlying9 h3
      obtain ⟨a4, e4, w4, _⟩ := DataW.trod_string Tryd.underlying9 h4
      obtain ⟨a5, e5, w5, _⟩ := DataW.trod_string Tryd.underlying9 h5
      obtain ⟨a6, e6, w6, _⟩ := DataW.trod_string Tryd.underlying9 h6
      obtain ⟨a7, e7, w7, _⟩ := DataW.trod_string Tryd.underlying9 h7
      obtain ⟨a8, e8, w8, _⟩ := DataW.trod_string Tryd.underlying9 h8
      obtain ⟨a9, e9, w9, _⟩ := DataW.trod_string Tryd.underlying9 h9
      obtain ⟨a10, e10, w10, _⟩ := DataW.trod_string Tryd.underlying9 h10
      obtain ⟨a11, e11, w11, z11⟩ := DataW.trod_int Tryd.underlying3 h11
      obtain ⟨a12, e12, w12, _⟩ := DataW.trod_string Tryd.underlying9 h12
      simp only [List.drop_succ_cons, List.drop_zero, List.take_succ_cons, List.take_zero, List.singleton_inj] at e0 e1 e2 e3 e4 e5 e6 e7 e8 e9 e10 e11 e12
      subst e0 e1 e2 e3 e4 e5 e6 e7 e8 e9 e10 e11 e12
      have hd : d = .agg [.lit (.string a0.data.toList), .lit (.string a1.data.toList), .lit (.string a2.data.toList), .lit (.string a3.data.toList), .lit (.string a4.data.toList), .lit (.string a5.data.toList), .lit (.string a6.data.toList), .lit (.string a7.data.toList), .lit (.string a8.data.toList), .lit (.string a9.data.toList), .lit (.string a10.data.toList), y11.1, .lit (.string a12.data.toList)] := by
        have := congrArg Prod.fst hx
        rw [show d = (d, ps).1 from rfl, this, w0, w1, w2, w3, w4, w5, w6, w7, w8, w9, w10, w12]; rfl
      rw [hd] at hwt
      have q0 : a0.data.toList.length ≤ 200000000000000 := Nat.le_trans (hwt _ (by simp [DataW.weights, Tryd.underlying41, DataW.weightsEach])) hreach
      have q1 : a1.data.toList.length ≤ 200000000000000 := Nat.le_trans (hwt _ (by simp [DataW.weights, Tryd.underlying41, DataW.weightsEach])) hreach
      have q2 : a2.data.toList.length ≤ 200000000000000 := Nat.le_trans (hwt _ (by simp [DataW.weights, Tryd.underlying41, DataW.weightsEach])) hreach
      have q3 : a3.data.toList.length ≤ 200000000000000 := Nat.le_trans (hwt _ (by simp [DataW.weights, Tryd.underlying41, DataW.weightsEach])) hreach
      have q4 : a4.data.toList.length ≤ 200000000000000 := Nat.le_trans (hwt _ (by simp [DataW.weights, Tryd.underlying41, DataW.weightsEach])) hreach
      have q5 : a5.data.toList.length ≤ 200000000000000 := Nat.le_trans (hwt _ (by simp [DataW.weights, Tryd.underlying41, DataW.weightsEach])) hreach
      have q6 : a6.data.toList.length ≤ 200000000000000 := Nat.le_trans (hwt _ (by simp [DataW.weights, Tryd.underlying41, DataW.weightsEach])) hreach
      have q7 : a7.data.toList.length ≤ 200000000000000 := Nat.le_trans (hwt _ (by simp [DataW.weights, Tryd.underlying41, DataW.weightsEach])) hreach
      have q8 : a8.data.toList.length ≤ 200000000000000 := Nat.le_trans (hwt _ (by simp [DataW.weights, Tryd.underlying41, DataW.weightsEach])) hreach
      have q9 : a9.data.toList.length ≤ 200000000000000 := Nat.le_trans (hwt _ (by simp [DataW.weights, Tryd.underlying41, DataW.weightsEach])) hreach
      have q10 : a10.data.toList.length ≤ 200000000000000 := Nat.le_trans (hwt _ (by simp [DataW.weights, Tryd.underlying41, DataW.weightsEach])) hreach
      have q12 : a12.data.toList.length ≤ 200000000000000 := Nat.le_trans (hwt _ (by simp [DataW.weights, Tryd.underlying41, DataW.weightsEach])) hreach
      have ci : ∀ n : Int, (Lit.int .i64 n).wf = true → -9223372036854775808 ≤ n ∧ n ≤ 9223372036854775807 := fun n h => by
        simp [Lit.wf, IntKind.min, IntKind.max, IntKind.signed, IntKind.bits] at h
        omega
      have hbk : Rows.uptoBulk d = _ := congrArg Rows.uptoBulk hd
      simp only [bulk_aggR, bulkAll_consR, bulkAll_nilR, bulk_strR] at hbk
      have i11 := decI_size13 _ (ci _ z11)
      refine ⟨⟨a0.data.toList, a1.data.toList, a2.data.toList, a3.data.toList, a4.data.toList, a5.data.toList, a6.data.toList, a7.data.toList, a8.data.toList, a9.data.toList, a10.data.toList, a11, a12.data.toList⟩, ?_, ci _ z11, fun t ht => ?_, ?_⟩
      · simp [Cod.val, tv]
      · simp only [Cod.texts, List.mem_cons, List.not_mem_nil, or_false] at ht
        rcases ht with rfl | rfl | rfl | rfl | rfl | rfl | rfl | rfl | rfl | rfl | rfl | rfl | rfl
        · exact q0
        · exact q1
        · exact q2
        · exact q3
        · exact q4
        · exact q5
        · exact q6
        · exact q7
        · exact q8
        · exact q9
        · exact q10
        · exact Nat.le_trans (decI_size13 _ (ci _ z11)) (by decide)
        · exact q12
      · rw [hbk]
        simp only [Cod.texts, List.map_cons, List.map_nil, List.sum_cons, List.sum_nil]
        omega
theorem Tryd.cellsFam : Tryd.prog.cellsOf 47 = 12 := by kernel_rfl
theorem Tryd.cellsBoolR : Tryd.prog.cellsOf 4 = 1 := by kernel_rfl
set_option maxRecDepth 100000 in
set_option maxHeartbeats 1000000 in
theorem open_fam {H : Type} {enc : TypeId × Value → H} {W : World} {base : Nat} {v : Value} {d : DataW H} {ps : List MemPlace} (hval : Value.okWide Tryd.prog W .any base 47 v)
    (hd : DataW.Trod enc Tryd.prog W 0 (fun _ => true) true 47 v d ps) (hlt : ∀ x ∈ ps, x.block < W.heap.size) (hwt : ∀ n ∈ d.weights Tryd.prog 47, n ≤ reachBytes) :
    ∃ (x : Fam) (ov : Value), v = x.val ov ∧ Strs13 W ov x.fOld ∧ (∀ t ∈ x.texts, t.length ≤ 200000000000000) ∧ (x.texts.map List.length).sum + x.fOld.length ≤ Rows.uptoBulk d + 1 := by
  have hreach : reachBytes ≤ 200000000000000 := by decide
  obtain ⟨cs, rfl, hcs⟩ := okWide_struct Tryd.underlying47 hval
  obtain ⟨fuel, hf⟩ := hd
  obtain ⟨xs, m, _, hx, hlen, hxl, hf⟩ := DataW.trod_struct Tryd.underlying47 hf
  rw [Tryd.cellsFam] at hlen
  obtain ⟨cs⟩ := cs
  simp only [Value.cells] at hlen hf
  match cs, hlen with
  | [c0, c1, c2, c3, c4, c5, c6, c7, c8, c9, c10, c11], _ =>
    have h0 := hf 0 { name := "ID", type := 9, offset := 0, embedded := false, tag := "", pkgPath := "", byteOffset := 0 } rfl
    rw [Tryd.cellsStrR] at h0
    have h1 := hf 1 { name := "Client", type := 9, offset := 1, embedded := false, tag := "", pkgPath := "", byteOffset := 16 } rfl
    rw [Tryd.cellsStrR] at h1
    have h2 := hf 2 { name := "User", type := 9, offset := 2, embedded := false, tag := "", pkgPath := "", byteOffset := 32 } rfl
    rw [Tryd.cellsStrR] at h2
    have h3 := hf 3 { name := "Conn", type := 9, offset := 3, embedded := false, tag := "", pkgPath := "", byteOffset := 48 } rfl
    rw [Tryd.cellsStrR] at h3
    have h4 := hf 4 { name := "Sub", type := 9, offset := 4, embedded := false, tag := "", pkgPath := "", byteOffset := 64 } rfl
    rw [Tryd.cellsStrR] at h4
    have h5 := hf 5 { name := "Nonce", type := 9, offset := 5, embedded := false, tag := "", pkgPath := "", byteOffset := 80 } rfl
    rw [Tryd.cellsStrR] at h5
    have h6 := hf 6 { name := "Scope", type := 9, offset := 6, embedded := false, tag := "", pkgPath := "", byteOffset := 96 } rfl
    rw [Tryd.cellsStrR] at h6
    have h7 := hf 7 { name := "Claims", type := 9, offset := 7, embedded := false, tag := "", pkgPath := "", byteOffset := 112 } rfl
    rw [Tryd.cellsStrR] at h7
    have h8 := hf 8 { name := "Refresh", type := 9, offset := 8, embedded := false, tag := "", pkgPath := "", byteOffset := 128 } rfl
    rw [Tryd.cellsStrR] at h8
    have h9 := hf 9 { name := "Up", type := 9, offset := 9, embedded := false, tag := "", pkgPath := "", byteOffset := 144 } rfl
    rw [Tryd.cellsStrR] at h9
    have h10 := hf 10 { name := "Old", type := 22, offset := 10, embedded := false, tag := "", pkgPath := "", byteOffset := 160 } rfl
    rw [Tryd.cellsStrsR] at h10
    have h11 := hf 11 { name := "Revoked", type := 4, offset := 11, embedded := false, tag := "", pkgPath := "", byteOffset := 184 } rfl
    rw [Tryd.cellsBoolR] at h11
    match xs, hxl with
    | [y0, y1, y2, y3, y4, y5, y6, y7, y8, y9, y10, y11], _ =>
      simp only [List.getElem?_cons_zero, List.getElem?_cons_succ] at h0 h1 h2 h3 h4 h5 h6 h7 h8 h9 h10 h11
      obtain ⟨a0, e0, w0, _⟩ := DataW.trod_string Tryd.underlying9 h0
      obtain ⟨a1, e1, w1, _⟩ := DataW.trod_string Tryd.underlying9 h1
      obtain ⟨a2, e2, w2, _⟩ := DataW.trod_string Tryd.underlying9 h2
      obtain ⟨a3, e3, w3, _⟩ := DataW.trod_string Tryd.underlying9 h3
      obtain ⟨a4, e4, w4, _⟩ := DataW.trod_string Tryd.underlying9 h4
      obtain ⟨a5, e5, w5, _⟩ := DataW.trod_string Tryd.underlying9 h5
      obtain ⟨a6, e6, w6, _⟩ := DataW.trod_string Tryd.underlying9 h6
      obtain ⟨a7, e7, w7, _⟩ := DataW.trod_string Tryd.underlying9 h7
      obtain ⟨a8, e8, w8, _⟩ := DataW.trod_string Tryd.underlying9 h8
      obtain ⟨a9, e9, w9, _⟩ := DataW.trod_string Tryd.underlying9 h9
      obtain ⟨a10, l10, e10, w10, k10⟩ := strs_of_trod h10 (fun n hn => hwt n (by
        rw [show d = (d, ps).1 from rfl, congrArg Prod.fst hx]
        simp [DataW.weights, Tryd.underlying47, DataW.weightsEach, hn]))
      obtain ⟨a11, e11, w11⟩ := DataW.trod_bool Tryd.underlying4 h11
      simp only [List.drop_succ_cons, List.drop_zero, List.take_succ_cons, List.take_zero, List.singleton_inj] at e0 e1 e2 e3 e4 e5 e6 e7 e8 e9 e10 e11
      subst e0 e1 e2 e3 e4 e5 e6 e7 e8 e9 e10 e11
      have hd : d = .agg [.lit (.string a0.data.toList), .lit (.string a1.data.toList), .lit (.string a2.data.toList), .lit (.string a3.data.toList), .lit (.string a4.data.toList), .lit (.string a5.data.toList), .lit (.string a6.data.toList), .lit (.string a7.data.toList), .lit (.string a8.data.toList), .lit (.string a9.data.toList), y10.1, y11.1] := by
        have := congrArg Prod.fst hx
        rw [show d = (d, ps).1 from rfl, this, w0, w1, w2, w3, w4, w5, w6, w7, w8, w9]; rfl
      rw [hd] at hwt
      have q0 : a0.data.toList.length ≤ 200000000000000 := Nat.le_trans (hwt _ (by simp [DataW.weights, Tryd.underlying47, DataW.weightsEach])) hreach
      have q1 : a1.data.toList.length ≤ 200000000000000 := Nat.le_trans (hwt _ (by simp [DataW.weights, Tryd.underlying47, DataW.weightsEach])) hreach
      have q2 : a2.data.toList.length ≤ 200000000000000 := Nat.le_trans (hwt _ (by simp [DataW.weights, Tryd.underlying47, DataW.weightsEach])) hreach
      have q3 : a3.data.toList.length ≤ 200000000000000 := Nat.le_trans (hwt _ (by simp [DataW.weights, Tryd.underlying47, DataW.weightsEach])) hreach
      have q4 : a4.data.toList.length ≤ 200000000000000 := Nat.le_trans (hwt _ (by simp [DataW.weights, Tryd.underlying47, DataW.weightsEach])) hreach
      have q5 : a5.data.toList.length ≤ 200000000000000 := Nat.le_trans (hwt _ (by simp [DataW.weights, Tryd.underlying47, DataW.weightsEach])) hreach
      have q6 : a6.data.toList.length ≤ 200000000000000 := Nat.le_trans (hwt _ (by simp [DataW.weights, Tryd.underlying47, DataW.weightsEach])) hreach
      have q7 : a7.data.toList.length ≤ 200000000000000 := Nat.le_trans (hwt _ (by simp [DataW.weights, Tryd.underlying47, DataW.weightsEach])) hreach
      have q8 : a8.data.toList.length ≤ 200000000000000 := Nat.le_trans (hwt _ (by simp [DataW.weights, Tryd.underlying47, DataW.weightsEach])) hreach
      have q9 : a9.data.toList.length ≤ 200000000000000 := Nat.le_trans (hwt _ (by simp [DataW.weights, Tryd.underlying47, DataW.weightsEach])) hreach
      have hbk : Rows.uptoBulk d = _ := congrArg Rows.uptoBulk hd
      simp only [bulk_aggR, bulkAll_consR, bulkAll_nilR, bulk_strR] at hbk
      refine ⟨⟨a0.data.toList, a1.data.toList, a2.data.toList, a3.data.toList, a4.data.toList, a5.data.toList, a6.data.toList, a7.data.toList, a8.data.toList, a9.data.toList, l10, a11⟩, c10, ?_, w10, fun t ht => ?_, ?_⟩
      · simp [Fam.val, tv]
      · simp only [Fam.texts, List.mem_append, List.mem_cons, List.not_mem_nil, or_false] at ht
        rcases ht with (rfl | rfl | rfl | rfl | rfl | rfl | rfl | rfl | rfl | rfl | rfl) | ht
        · exact q0
        · exact q1
        · exact q2
        · exact q3
        · exact q4
        · exact q5
        · exact q6
        · exact q7
        · exact q8
        · exact q9
        · split <;> simp
        · exact w10.2.2 t ht
      · rw [hbk]
        have k0 : (if a11 = true then ([49] : List UInt8) else [48]).length = 1 := by split <;> rfl
        simp only [Fam.texts, List.map_append, List.map_cons, List.map_nil, List.sum_append, List.sum_cons, List.sum_nil, k0]
        omega
end Go.Proofs.YtefnkkjmcfpiaaaDoor
