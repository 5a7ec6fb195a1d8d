/- Texts merged by program, in build order: OpenCfg, OpenPairs, AskGo, OpenTexty, AskSmall. -/
import Derived.Test.YtlcpehmdhnakpaaDoorG15
import Derived.Test.YtlcpehmdhnakpaaDoorG02
import Derived.Test.YtlcpehmdhnakpaaDoorG03
import Derived.ProofKit
import Derived.ChangeMaps5
import Derived.Deep.Slices
import Derived.SizedLaws
import Derived.Test.YtlcpehmdhnakpaaDoorG10
import Derived.Test.YtlcpehmdhnakpaaDoorG11
import Derived.Test.YtlcpehmdhnakpaaDoorG13
import Derived.Test.YtlcpehmdhnakpaaDoorG14
import Derived.Test.YtlcpehmdhnakpaaDoorG01
import Derived.Test.YtlcpehmdhnakpaaDoorG05
import Derived.Test.YtlcpehmdhnakpaaDoorG08
import Derived.Deep.Cut
set_option linter.unusedVariables false
set_option linter.unusedSimpArgs false
namespace Go.Proofs.YtlcpehmdhnakpaaDoor
open Go.ChangeShapes Go.WideShapes Go.ChangeAt Go.RowKit
set_option linter.unusedVariables false

theorem Tryd.cellsCli : Tryd.prog.cellsOf 43 = 3 := by kernel_rfl
theorem Tryd.cellsStrK : Tryd.prog.cellsOf 9 = 1 := by kernel_rfl
theorem Tryd.cellsStrsK : Tryd.prog.cellsOf 41 = 1 := by kernel_rfl
theorem Tryd.bytesCli : Tryd.prog.bytesOf 43 = 56 := by kernel_rfl
theorem weightsAll_inK {H : Type} {P : Program} {e : TypeId} : ∀ {l : List (DataW H)} {d : DataW H}, d ∈ l → ∀ n ∈ d.weights P e, n ∈ DataW.weightsAll P e l
  | d0 :: l, d, hd, n, hn => by
    simp only [DataW.weightsAll, List.mem_append]
    rcases List.mem_cons.1 hd with rfl | h
    · exact Or.inl hn
    · exact Or.inr (weightsAll_inK h n hn)
set_option maxRecDepth 100000 in
/-- three cells that read as a client -/
theorem cli_of_trod {H : Type} {enc : TypeId × Value → H} {W : World} {n : Nat} {cs : List Value} {x : DataW H × List MemPlace}
    (h : DataW.trod enc Tryd.prog W 0 (fun _ => true) true n 43 cs = some x) (hwt : ∀ n ∈ x.1.weights Tryd.prog 43, n ≤ reachBytes) : ∃ (r : CliP) (u : Value), cs = [tv r.cID, tv r.cSecret, u] ∧ RdT W u r.cReds ∧ r.fit := by
  have hreach : reachBytes ≤ 200000000000000 := by decide
  obtain ⟨xs, m, _, hx, hlen, hxl, hf⟩ := DataW.trod_struct Tryd.underlying43 h
  rw [Tryd.cellsCli] at hlen
  match cs, hlen with
  | [c0, c1, c2], _ =>
    have h0 : DataW.trod enc Tryd.prog W 0 (fun _ => true) true m 9 [c0] = xs[0]? := by
      have := hf 0 { name := "ID", type := 9, offset := 0, embedded := false, tag := "", pkgPath := "", byteOffset := 0 } rfl
      rwa [Tryd.cellsStrK] at this
    have h1 : DataW.trod enc Tryd.prog W 0 (fun _ => true) true m 9 [c1] = xs[1]? := by
      have := hf 1 { name := "Secret", type := 9, offset := 1, embedded := false, tag := "", pkgPath := "", byteOffset := 16 } rfl
      rwa [Tryd.cellsStrK] at this
    have h2 : DataW.trod enc Tryd.prog W 0 (fun _ => true) true m 41 [c2] = xs[2]? := by
      have := hf 2 { name := "Redirects", type := 41, offset := 2, embedded := false, tag := "", pkgPath := "", byteOffset := 32 } rfl
      rwa [Tryd.cellsStrsK] at this
    match xs, hxl with
    | [y0, y1, y2], _ =>
      simp only [List.getElem?_cons_zero, List.getElem?_cons_succ] at h0 h1 h2
      obtain ⟨a, ha, ya, _⟩ := DataW.trod_string Tryd.underlying9 h0
      obtain ⟨b, hb, yb, _⟩ := DataW.trod_string Tryd.underlying9 h1
      rw [List.singleton_inj] at ha hb
      obtain ⟨u, l, hu, hs, _, h16⟩ := strs_of_trodW h2 (fun n hn => hwt n (by
        rw [hx]
        simp only [DataW.weights, Tryd.underlying43, List.map_cons, List.map_nil]
        simp [DataW.weightsEach, hn]))
      rw [List.singleton_inj] at hu
      rw [hx, ya, yb] at hwt
      refine ⟨⟨a.data.toList, b.data.toList, l⟩, u, by rw [ha, hb, hu]; simp [tv], hs.1, Nat.le_trans (hwt _ ?_) hreach, Nat.le_trans (hwt _ ?_) hreach, Nat.le_trans h16 (by decide), hs.2.2⟩ <;> simp [DataW.weights, Tryd.underlying43, DataW.weightsEach]
set_option maxRecDepth 100000 in
/-- a cell that is a slice of clients -/
theorem clis_of_trod {H : Type} {enc : TypeId × Value → H} {W : World} {fuel : Nat} {cs : List Value} {x : DataW H × List MemPlace}
    (h : DataW.trod enc Tryd.prog W 0 (fun _ => true) true fuel 24 cs = some x) (hwt : ∀ n ∈ x.1.weights Tryd.prog 24, n ≤ reachBytes) :
    ∃ (v : Value) (l : List CliP), cs = [v] ∧ RdCl W v l ∧ l.length ≤ 200000000000000 ∧ ∀ r ∈ l, r.fit := by
  have hreach : reachBytes ≤ 200000000000000 := by decide
  rcases Go.Deep.open_slice Tryd.underlying24 h with ⟨hcs, hx⟩ | ⟨a, len, cap, m, n, D, Pl, hcs, _, hl, hm, hmm, hx, hi⟩
  · exact ⟨_, [], hcs, ⟨none, 0, rfl, Nat.le_refl _, fun k a hk => by simp at hk⟩, Nat.zero_le _, fun x hx => by cases hx⟩
  · simp only [if_true] at hmm
    subst hmm
    rw [Tryd.cellsCli] at hi hx
    subst hx
    have hlen : len ≤ reachBytes := by
      have := hwt ((len + (m - len)) * Tryd.prog.bytesOf 43) (by simp [DataW.weights, Tryd.underlying24])
      rw [Tryd.bytesCli] at this
      omega
    have hDw : ∀ i, i < len → ∀ n ∈ (D i).weights Tryd.prog 43, n ≤ reachBytes := fun i hil n hn => by
      have hin : D i ∈ (List.range len).map D := List.mem_map.2 ⟨i, by simpa using hil, rfl⟩
      exact hwt n (by
        simp only [DataW.weights, Tryd.underlying24, List.mem_cons, List.mem_append]
        exact .inr (.inl (weightsAll_inK hin n hn)))
    have hall : ∀ i, ∃ (x : CliP) (u : Value), i < len → a = ⟨a.block, a.off, none⟩ ∧ a.block < W.heap.size ∧ W.cell? ⟨a.block, a.off + i * 3, none⟩ = some (tv x.cID) ∧ W.cell? ⟨a.block, a.off + i * 3 + 1, none⟩ = some (tv x.cSecret) ∧ W.cell? ⟨a.block, a.off + i * 3 + 2, none⟩ = some u ∧ RdT W u x.cReds ∧ x.fit := by
      intro i
      by_cases him : i < len
      · obtain ⟨cs', hc, ht'⟩ := hi i (by omega)
        obtain ⟨r, u, rfl, hs⟩ := cli_of_trod ht' (hDw i him)
        obtain ⟨_, _, hat⟩ := World.cells?_some hc
        have a0 := hat 0 (by simp)
        have a1 := hat 1 (by simp)
        have a2 := hat 2 (by simp)
        obtain ⟨cs0, hc0, ht0⟩ := hi 0 (by omega)
        obtain ⟨r0, u0, rfl, _⟩ := cli_of_trod ht0 (hDw 0 (by omega))
        obtain ⟨_, _, hat0⟩ := World.cells?_some hc0
        have b0 := hat0 0 (by simp)
        rw [Nat.zero_mul] at b0
        simp only [Addr.add, if_true] at b0
        obtain ⟨e1, e2⟩ := spot_none_b b0
        rw [e1, Addr.add_lit, Addr.add_lit] at a0 a1 a2
        exact ⟨r, u, fun _ => ⟨e1, e2, by simpa using a0, by simpa using a1, by simpa using a2, hs⟩⟩
      · exact ⟨⟨[], [], []⟩, .nilIface, fun h => absurd h him⟩
    obtain ⟨f, hf⟩ := Classical.axiomOfChoice hall
    refine ⟨_, (List.range len).map f, hcs, ⟨some a, m, by simp, by simpa using hl, fun k x hk => ?_⟩, by simp only [List.length_map, List.length_range]; omega, fun x hx' => ?_⟩
    · obtain ⟨hk1, rfl⟩ := List.getElem?_eq_some_iff.1 hk
      have hk' : k < len := by simpa using hk1
      obtain ⟨u, hu⟩ := hf k
      obtain ⟨h1, h2, h3, h4, h5, h6, _⟩ := hu hk'
      simp only [List.getElem_map, List.getElem_range]
      exact ⟨a.block, a.off, u, by rw [← h1], h2, h3, h4, h5, h6⟩
    · obtain ⟨i, hi', rfl⟩ := List.mem_map.1 hx'
      have hil : i < len := by simpa using hi'
      obtain ⟨u, hu⟩ := hf i
      exact (hu hil).2.2.2.2.2.2
set_option maxRecDepth 100000 in
/-- what is read of a client -/
theorem open_cli {H : Type} {enc : TypeId × Value → H} {W : World} {base : Nat} {v : Value} {d : DataW H} {ps : List MemPlace} (hval : Value.okWide Tryd.prog W .any base 43 v)
    (hd : DataW.Trod enc Tryd.prog W 0 (fun _ => true) true 43 v d ps) (hlt : ∀ x ∈ ps, x.block < W.heap.size) (hwt : ∀ n ∈ d.weights Tryd.prog 43, n ≤ reachBytes) :
    ∃ (r : CliP) (u : Value), v = .agg #[tv r.cID, tv r.cSecret, u] ∧ RdT W u r.cReds ∧ r.fit := by
  obtain ⟨cs, rfl, hcs⟩ := okWide_struct Tryd.underlying43 hval
  obtain ⟨fuel, hf⟩ := hd
  obtain ⟨r, u, e, h1, h2⟩ := cli_of_trod hf hwt
  obtain ⟨cs⟩ := cs
  simp only [Value.cells] at e
  rw [e]
  exact ⟨r, u, rfl, h1, h2⟩
theorem Tryd.cellsConnK : Tryd.prog.cellsOf 128 = 7 := by kernel_rfl
theorem Tryd.cellsBoolK : Tryd.prog.cellsOf 4 = 1 := by kernel_rfl
theorem Tryd.bytesConnK : Tryd.prog.bytesOf 128 = 104 := by kernel_rfl
theorem Tryd.cellsCfg : Tryd.prog.cellsOf 27 = 5 := by kernel_rfl
theorem Tryd.cellsKeyK : Tryd.prog.cellsOf 23 = 2 := by kernel_rfl
theorem Tryd.cellsClisK : Tryd.prog.cellsOf 24 = 1 := by kernel_rfl
theorem Tryd.cellsConnsK : Tryd.prog.cellsOf 25 = 1 := by kernel_rfl
set_option maxRecDepth 100000 in
set_option maxHeartbeats 1000000 in
/-- seven cells that read as a connector -/
theorem cnn_of_trod {H : Type} {enc : TypeId × Value → H} {W : World} {n : Nat} {cs : List Value} {x : DataW H × List MemPlace}
    (h : DataW.trod enc Tryd.prog W 0 (fun _ => true) true n 128 cs = some x) (hwt : ∀ n ∈ x.1.weights Tryd.prog 128, n ≤ reachBytes) : ∃ r : ConnP, cs = [tv r.fID, tv r.fIssuer, tv r.fClient, tv r.fAuth, tv r.fSecret, .bool r.fOpen, tv r.fRules] ∧ r.fit := by
  have hreach : reachBytes ≤ 200000000000000 := by decide
  obtain ⟨xs, m, _, hx, hlen, hxl, hf⟩ := DataW.trod_struct Tryd.underlying128 h
  rw [Tryd.cellsConnK] at hlen
  match cs, hlen with
  | [c0, c1, c2, c3, c4, c5, c6], _ =>
    have h0 : DataW.trod enc Tryd.prog W 0 (fun _ => true) true m 9 [c0] = xs[0]? := by
      have := hf 0 { name := "ID", type := 9, offset := 0, embedded := false, tag := "", pkgPath := "", byteOffset := 0 } rfl
      rwa [Tryd.cellsStrK] at this
    have h1 : DataW.trod enc Tryd.prog W 0 (fun _ => true) true m 9 [c1] = xs[1]? := by
      have := hf 1 { name := "Issuer", type := 9, offset := 1, embedded := false, tag := "", pkgPath := "", byteOffset := 16 } rfl
      rwa [Tryd.cellsStrK] at this
    have h2 : DataW.trod enc Tryd.prog W 0 (fun _ => true) true m 9 [c2] = xs[2]? := by
      have := hf 2 { name := "Client", type := 9, offset := 2, embedded := false, tag := "", pkgPath := "", byteOffset := 32 } rfl
      rwa [Tryd.cellsStrK] at this
    have h3 : DataW.trod enc Tryd.prog W 0 (fun _ => true) true m 9 [c3] = xs[3]? := by
      have := hf 3 { name := "Auth", type := 9, offset := 3, embedded := false, tag := "", pkgPath := "", byteOffset := 48 } rfl
      rwa [Tryd.cellsStrK] at this
    have h4 : DataW.trod enc Tryd.prog W 0 (fun _ => true) true m 9 [c4] = xs[4]? := by
      have := hf 4 { name := "Secret", type := 9, offset := 4, embedded := false, tag := "", pkgPath := "", byteOffset := 64 } rfl
      rwa [Tryd.cellsStrK] at this
    have h5 : DataW.trod enc Tryd.prog W 0 (fun _ => true) true m 4 [c5] = xs[5]? := by
      have := hf 5 { name := "Open", type := 4, offset := 5, embedded := false, tag := "", pkgPath := "", byteOffset := 80 } rfl
      rwa [Tryd.cellsBoolK] at this
    have h6 : DataW.trod enc Tryd.prog W 0 (fun _ => true) true m 9 [c6] = xs[6]? := by
      have := hf 6 { name := "Rules", type := 9, offset := 6, embedded := false, tag := "", pkgPath := "", byteOffset := 88 } rfl
      rwa [Tryd.cellsStrK] at this
    match xs, hxl with
    | [y0, y1, y2, y3, y4, y5, y6], _ =>
      simp only [List.getElem?_cons_zero, List.getElem?_cons_succ] at h0 h1 h2 h3 h4 h5 h6
      obtain ⟨a0, e0, w0, _⟩ := DataW.trod_string Tryd.underlying9 h0
      obtain ⟨a1, e1, w1, _⟩ := DataW.trod_string Tryd.underlying9 h1
      obtain ⟨a2, e2, w2, _⟩ := DataW.trod_string Tryd.underlying9 h2
      obtain ⟨a3, e3, w3, _⟩ := DataW.trod_string Tryd.underlying9 h3
      obtain ⟨a4, e4, w4, _⟩ := DataW.trod_string Tryd.underlying9 h4
      obtain ⟨a5, e5, w5⟩ := DataW.trod_bool Tryd.underlying4 h5
      obtain ⟨a6, e6, w6, _⟩ := DataW.trod_string Tryd.underlying9 h6
      rw [List.singleton_inj] at e0 e1 e2 e3 e4 e5 e6
      rw [hx, w0, w1, w2, w3, w4, w6] at hwt
      refine ⟨⟨a0.data.toList, a1.data.toList, a2.data.toList, a3.data.toList, a4.data.toList, a5, a6.data.toList⟩, by rw [e0, e1, e2, e3, e4, e5, e6]; simp [tv], ?_⟩
      refine ⟨Nat.le_trans (hwt _ ?_) hreach, Nat.le_trans (hwt _ ?_) hreach, Nat.le_trans (hwt _ ?_) hreach, Nat.le_trans (hwt _ ?_) hreach, Nat.le_trans (hwt _ ?_) hreach, Nat.le_trans (hwt _ ?_) hreach⟩ <;> simp [DataW.weights, Tryd.underlying128, DataW.weightsEach]
set_option maxRecDepth 100000 in
/-- a cell that is a slice of connectors -/
theorem cnns_of_trod {H : Type} {enc : TypeId × Value → H} {W : World} {fuel : Nat} {cs : List Value} {x : DataW H × List MemPlace}
    (h : DataW.trod enc Tryd.prog W 0 (fun _ => true) true fuel 25 cs = some x) (hwt : ∀ n ∈ x.1.weights Tryd.prog 25, n ≤ reachBytes) :
    ∃ (v : Value) (l : List ConnP), cs = [v] ∧ RdCn W v l ∧ l.length ≤ 200000000000000 ∧ ∀ r ∈ l, r.fit := by
  have hreach : reachBytes ≤ 200000000000000 := by decide
  rcases Go.Deep.open_slice Tryd.underlying25 h with ⟨hcs, hx⟩ | ⟨a, len, cap, m, n, D, Pl, hcs, _, hl, hm, hmm, hx, hi⟩
  · exact ⟨_, [], hcs, ⟨none, 0, rfl, Nat.le_refl _, fun k a hk => by simp at hk⟩, Nat.zero_le _, fun x hx => by cases hx⟩
  · simp only [if_true] at hmm
    subst hmm
    rw [Tryd.cellsConnK] at hi hx
    subst hx
    have hlen : len ≤ reachBytes := by
      have := hwt ((len + (m - len)) * Tryd.prog.bytesOf 128) (by simp [DataW.weights, Tryd.underlying25])
      rw [Tryd.bytesConnK] at this
      omega
    have hDw : ∀ i, i < len → ∀ n ∈ (D i).weights Tryd.prog 128, n ≤ reachBytes := fun i hil n hn => by
      have hin : D i ∈ (List.range len).map D := List.mem_map.2 ⟨i, by simpa using hil, rfl⟩
      exact hwt n (by
        simp only [DataW.weights, Tryd.underlying25, List.mem_cons, List.mem_append]
        exact .inr (.inl (weightsAll_inK hin n hn)))
    have hall : ∀ i, ∃ x : ConnP, i < len → a = ⟨a.block, a.off, none⟩ ∧ a.block < W.heap.size ∧ W.cell? ⟨a.block, a.off + i * 7, none⟩ = some (tv x.fID) ∧ W.cell? ⟨a.block, a.off + i * 7 + 1, none⟩ = some (tv x.fIssuer) ∧ W.cell? ⟨a.block, a.off + i * 7 + 2, none⟩ = some (tv x.fClient) ∧ W.cell? ⟨a.block, a.off + i * 7 + 3, none⟩ = some (tv x.fAuth) ∧
        W.cell? ⟨a.block, a.off + i * 7 + 4, none⟩ = some (tv x.fSecret) ∧ W.cell? ⟨a.block, a.off + i * 7 + 5, none⟩ = some (.bool x.fOpen) ∧ W.cell? ⟨a.block, a.off + i * 7 + 6, none⟩ = some (tv x.fRules) ∧ x.fit := by
      intro i
      by_cases him : i < len
      · obtain ⟨cs', hc, ht'⟩ := hi i (by omega)
        obtain ⟨r, rfl, hs⟩ := cnn_of_trod ht' (hDw i him)
        obtain ⟨_, _, hat⟩ := World.cells?_some hc
        have a0 := hat 0 (by simp)
        have a1 := hat 1 (by simp)
        have a2 := hat 2 (by simp)
        have a3 := hat 3 (by simp)
        have a4 := hat 4 (by simp)
        have a5 := hat 5 (by simp)
        have a6 := hat 6 (by simp)
        obtain ⟨cs0, hc0, ht0⟩ := hi 0 (by omega)
        obtain ⟨r0, rfl, _⟩ := cnn_of_trod ht0 (hDw 0 (by omega))
        obtain ⟨_, _, hat0⟩ := World.cells?_some hc0
        have b0 := hat0 0 (by simp)
        rw [Nat.zero_mul] at b0
        simp only [Addr.add, if_true] at b0
        obtain ⟨e1, e2⟩ := spot_none_b b0
        rw [e1, Addr.add_lit, Addr.add_lit] at a0 a1 a2 a3 a4 a5 a6
        exact ⟨r, fun _ => ⟨e1, e2, by simpa using a0, by simpa using a1, by simpa using a2, by simpa using a3, by simpa using a4, by simpa using a5, by simpa using a6, hs⟩⟩
      · exact ⟨⟨[], [], [], [], [], false, []⟩, fun h => absurd h him⟩
    obtain ⟨f, hf⟩ := Classical.axiomOfChoice hall
    refine ⟨_, (List.range len).map f, hcs, ⟨some a, m, by simp, by simpa using hl, fun k x hk => ?_⟩, by simp only [List.length_map, List.length_range]; omega, fun x hx' => ?_⟩
    · obtain ⟨hk1, rfl⟩ := List.getElem?_eq_some_iff.1 hk
      have hk' : k < len := by simpa using hk1
      obtain ⟨h1, h2, h3, h4, h5, h6, h7, h8, h9, _⟩ := hf k hk'
      simp only [List.getElem_map, List.getElem_range]
      exact ⟨a.block, a.off, by rw [← h1], h2, h3, h4, h5, h6, h7, h8, h9⟩
    · obtain ⟨i, hi', rfl⟩ := List.mem_map.1 hx'
      have hil : i < len := by simpa using hi'
      exact (hf i hil).2.2.2.2.2.2.2.2.2
set_option maxRecDepth 100000 in
set_option maxHeartbeats 1000000 in
/-- what is read of a config -/
theorem open_cfg {H : Type} {enc : TypeId × Value → H} {W : World} {base : Nat} {v : Value} {d : DataW H} {ps : List MemPlace} (hval : Value.okWide Tryd.prog W .any base 27 v)
    (hd : DataW.Trod enc Tryd.prog W 0 (fun _ => true) true 27 v d ps) (hlt : ∀ x ∈ ps, x.block < W.heap.size) (hwt : ∀ n ∈ d.weights Tryd.prog 27, n ≤ reachBytes) :
    ∃ (x : CfgP) (A : Option Addr) (c : Nat) (A' : Option Addr) (c' : Nat), v = x.val A x.gClients.length c A' x.gConns.length c' ∧ CfgIs W x A x.gClients.length c A' x.gConns.length c' ∧ x.fit := by
  have hreach : reachBytes ≤ 200000000000000 := by decide
  obtain ⟨cs, rfl, hcs⟩ := okWide_struct Tryd.underlying27 hval
  obtain ⟨fuel, hf⟩ := hd
  obtain ⟨xs, m, _, hx, hlen, hxl, hf⟩ := DataW.trod_struct Tryd.underlying27 hf
  rw [Tryd.cellsCfg] at hlen
  obtain ⟨cs⟩ := cs
  simp only [Value.cells] at hlen hf
  match cs, hlen with
  | [c0, c1, c2, c3, c4], _ =>
    have h0 : DataW.trod enc Tryd.prog W 0 (fun _ => true) true m 9 [c0] = xs[0]? := by
      have := hf 0 { name := "Issuer", type := 9, offset := 0, embedded := false, tag := "", pkgPath := "", byteOffset := 0 } rfl
      rwa [Tryd.cellsStrK] at this
    have h1 : DataW.trod enc Tryd.prog W 0 (fun _ => true) true m 23 [c1, c2] = xs[1]? := by
      have := hf 1 { name := "Key", type := 23, offset := 1, embedded := false, tag := "", pkgPath := "", byteOffset := 16 } rfl
      rwa [Tryd.cellsKeyK] at this
    have h2 : DataW.trod enc Tryd.prog W 0 (fun _ => true) true m 24 [c3] = xs[2]? := by
      have := hf 2 { name := "Clients", type := 24, offset := 3, embedded := false, tag := "", pkgPath := "", byteOffset := 48 } rfl
      rwa [Tryd.cellsClisK] at this
    have h3 : DataW.trod enc Tryd.prog W 0 (fun _ => true) true m 25 [c4] = xs[3]? := by
      have := hf 3 { name := "Conns", type := 25, offset := 4, embedded := false, tag := "", pkgPath := "", byteOffset := 72 } rfl
      rwa [Tryd.cellsConnsK] at this
    match xs, hxl with
    | [y0, y1, y2, y3], _ =>
      simp only [List.getElem?_cons_zero, List.getElem?_cons_succ] at h0 h1 h2 h3
      obtain ⟨a, ha, ya, _⟩ := DataW.trod_string Tryd.underlying9 h0
      rw [List.singleton_inj] at ha
      have hd : d = .agg [y0.1, y1.1, y2.1, y3.1] := by
        have := congrArg Prod.fst hx
        rw [show d = (d, ps).1 from rfl, this]; rfl
      rw [hd] at hwt
      have w1 : ∀ n ∈ y1.1.weights Tryd.prog 23, n ≤ reachBytes := fun n hn => hwt n (by simp [DataW.weights, Tryd.underlying27, DataW.weightsEach, hn])
      have w2 : ∀ n ∈ y2.1.weights Tryd.prog 24, n ≤ reachBytes := fun n hn => hwt n (by simp [DataW.weights, Tryd.underlying27, DataW.weightsEach, hn])
      have w3 : ∀ n ∈ y3.1.weights Tryd.prog 25, n ≤ reachBytes := fun n hn => hwt n (by simp [DataW.weights, Tryd.underlying27, DataW.weightsEach, hn])
      have w0 : a.data.toList.length ≤ reachBytes := hwt _ (by rw [ya]; simp [DataW.weights, Tryd.underlying27, DataW.weightsEach])
      obtain ⟨xk, mk, _, hxk, hlenk, hxlk, hfk⟩ := DataW.trod_struct Tryd.underlying23 h1
      have k0 : DataW.trod enc Tryd.prog W 0 (fun _ => true) true mk 9 [c1] = xk[0]? := by
        have := hfk 0 { name := "ID", type := 9, offset := 0, embedded := false, tag := "", pkgPath := "", byteOffset := 0 } rfl
        rwa [Tryd.cellsStrK] at this
      have k1 : DataW.trod enc Tryd.prog W 0 (fun _ => true) true mk 9 [c2] = xk[1]? := by
        have := hfk 1 { name := "Secret", type := 9, offset := 1, embedded := false, tag := "", pkgPath := "", byteOffset := 16 } rfl
        rwa [Tryd.cellsStrK] at this
      match xk, hxlk with
      | [z0, z1], _ =>
        simp only [List.getElem?_cons_zero, List.getElem?_cons_succ] at k0 k1
        obtain ⟨b, hb, yb, _⟩ := DataW.trod_string Tryd.underlying9 k0
        obtain ⟨e, he, ye, _⟩ := DataW.trod_string Tryd.underlying9 k1
        rw [List.singleton_inj] at hb he
        rw [hxk, yb, ye] at w1
        obtain ⟨vc, lc, hvc, hc1, hc2, hc3⟩ := clis_of_trod h2 w2
        obtain ⟨vn, ln, hvn, hn1, hn2, hn3⟩ := cnns_of_trod h3 w3
        rw [List.singleton_inj] at hvc hvn
        obtain ⟨A, c, e1, _⟩ := id hc1
        obtain ⟨A', c', e2, _⟩ := id hn1
        refine ⟨⟨a.data.toList, b.data.toList, e.data.toList, lc, ln⟩, A, c, A', c', ?_, ⟨rfl, rfl, by rw [← e1]; exact hc1, by rw [← e2]; exact hn1⟩, Nat.le_trans w0 hreach, Nat.le_trans (w1 _ ?_) hreach, Nat.le_trans (w1 _ ?_) hreach, hc2, hc3, hn2, hn3⟩
        · rw [ha, hb, he, hvc, hvn, e1, e2]; simp [CfgP.val, tv]
        · simp [DataW.weights, Tryd.underlying23, DataW.weightsEach]
        · simp [DataW.weights, Tryd.underlying23, DataW.weightsEach]
end Go.Proofs.YtlcpehmdhnakpaaDoor
namespace Go.Proofs.YtlcpehmdhnakpaaDoor
open Go.ChangeShapes Go.WideShapes Go.ChangeAt Go.RowKit

theorem Tryd.laidOutP : laidOutB Tryd.prog = true := by kernel_rfl
theorem Tryd.cellsPair : Tryd.prog.cellsOf 39 = 2 := by kernel_rfl
theorem Tryd.bytesPair : Tryd.prog.bytesOf 39 = 32 := by kernel_rfl
theorem Tryd.cellsStr : Tryd.prog.cellsOf 9 = 1 := by kernel_rfl

set_option maxRecDepth 100000 in
/-- two cells that read as a pair -/
theorem open_pair {H : Type} {enc : TypeId × Value → H} {W : World} {base : Nat} {sp : Nat → Bool} {held : Bool} {n : Nat} {cs : List Value} {x : DataW H × List MemPlace}
    (h : DataW.trod enc Tryd.prog W base sp held n 39 cs = some x) : ∃ a b : ByteArray, cs = [.string a, .string b] ∧ x.1 = .agg [.lit (.string a.data.toList), .lit (.string b.data.toList)] := by
  obtain ⟨xs, m, _, hx, hlen, hxl, hf⟩ := DataW.trod_struct Tryd.underlying39 h
  rw [Tryd.cellsPair] at hlen
  match cs, hlen with
  | [c0, c1], _ =>
    have h0 : DataW.trod enc Tryd.prog W base sp held m 9 [c0] = xs[0]? := by
      have := hf 0 { name := "Key", type := 9, offset := 0, embedded := false, tag := "", pkgPath := "", byteOffset := 0 } rfl
      rwa [Tryd.cellsStr] at this
    have h1 : DataW.trod enc Tryd.prog W base sp held m 9 [c1] = xs[1]? := by
      have := hf 1 { name := "Value", type := 9, offset := 1, embedded := false, tag := "", pkgPath := "", byteOffset := 16 } rfl
      rwa [Tryd.cellsStr] at this
    match xs, hxl with
    | [y0, y1], _ =>
      simp only [List.getElem?_cons_zero, List.getElem?_cons_succ] at h0 h1
      obtain ⟨a, ha, ya, za⟩ := DataW.trod_string Tryd.underlying9 h0
      obtain ⟨b, hb, yb, zb⟩ := DataW.trod_string Tryd.underlying9 h1
      simp at ha hb
      exact ⟨a, b, by rw [ha, hb], by rw [hx, ya, yb]; rfl⟩

theorem weightsAll_in {H : Type} {P : Program} {e : TypeId} : ∀ {l : List (DataW H)} {d : DataW H}, d ∈ l → ∀ n ∈ d.weights P e, n ∈ DataW.weightsAll P e l
  | d0 :: l, d, hd, n, hn => by
    simp only [DataW.weightsAll, List.mem_append]
    rcases List.mem_cons.1 hd with rfl | h
    · exact Or.inl hn
    · exact Or.inr (weightsAll_in h n hn)

set_option maxRecDepth 100000 in
/-- what is read of a slice of pairs: the pairs; their texts are no longer than a text may be -/
theorem open_pairs {H : Type} {enc : TypeId × Value → H} {W : World} {base : Nat} {v : Value} {d : DataW H} {ps : List MemPlace} (hval : Value.okWide Tryd.prog W .any base 37 v)
    (hd : DataW.Trod enc Tryd.prog W 0 (fun _ => true) true 37 v d ps) (hlt : ∀ x ∈ ps, x.block < W.heap.size) (hwt : ∀ n ∈ d.weights Tryd.prog 37, n ≤ reachBytes) :
    ∃ (A : Option Addr) (c : Nat) (l : PL), v = .slice A l.length c ∧ Prs W W.heap.size A l ∧ l.length ≤ reachBytes ∧ ∀ p ∈ l, p.1.length ≤ reachBytes ∧ p.2.length ≤ reachBytes := by
  obtain ⟨a0, len, cap, rfl⟩ := okWide_slice Tryd.underlying37 hval
  obtain ⟨fuel, hf⟩ := hd
  rcases Go.Deep.open_slice Tryd.underlying37 hf with ⟨hcs, hx⟩ | ⟨a, len', cap', m, n, D, Pl, hcs, _, hl, hm, hmm, hx, hi⟩
  · simp [Value.cells] at hcs
    obtain ⟨rfl, rfl, rfl⟩ := hcs
    exact ⟨none, 0, [], rfl, Prs.nil _ _ _, Nat.zero_le _, by simp⟩
  · simp [Value.cells] at hcs
    obtain ⟨rfl, rfl, rfl⟩ := hcs
    simp only [if_true] at hmm
    subst hmm
    rw [Tryd.cellsPair] at hi hx
    have hall : ∀ i, ∃ x : ByteArray × ByteArray, i < m → W.cell? (a.add (i * 2)) = some (.string x.1) ∧ W.cell? (a.add (i * 2 + 1)) = some (.string x.2) ∧ D i = .agg [.lit (.string x.1.data.toList), .lit (.string x.2.data.toList)] := by
      intro i
      by_cases him : i < m
      · obtain ⟨cs', hc, ht'⟩ := hi i him
        obtain ⟨u, u', rfl, hD⟩ := open_pair ht'
        obtain ⟨_, _, hat⟩ := World.cells?_some hc
        refine ⟨(u, u'), fun _ => ⟨?_, ?_, hD⟩⟩
        · have := hat 0 (by decide); simpa [Addr.add] using this
        · have := hat 1 (by decide); rw [Go.Deep.add_add] at this; simpa using this
      · exact ⟨(⟨#[]⟩, ⟨#[]⟩), fun h => absurd h him⟩
    obtain ⟨f, hf⟩ := Classical.axiomOfChoice hall
    let g : Nat → List UInt8 × List UInt8 := fun i => ((f i).1.data.toList, (f i).2.data.toList)
    simp only [Prod.mk.injEq] at hx
    have hlen : len ≤ reachBytes := by
      have := hwt ((len + (m - len)) * Tryd.prog.bytesOf 39) (by rw [hx.1]; simp [DataW.weights, Tryd.underlying37])
      rw [Tryd.bytesPair] at this
      omega
    refine ⟨some a, m, (List.range len).map g, by simp, fun k hk => ?_, by simpa using hlen, ?_⟩
    · have hk' : k < len := by simpa using hk
      refine ⟨a, rfl, ?_, ?_, ?_⟩
      · have hb : MemPlace.cell a.block a.off ∈ ps := by
          rw [hx.2, List.mem_append]
          exact .inl (MemPlace.mem_row.2 ⟨0, by omega, by simp⟩)
        exact hlt _ hb
      · rw [(hf k (by omega)).1]; simp [g]
      · rw [add_next, (hf k (by omega)).2.1]; simp [g]
    · intro p hp
      obtain ⟨i, hi', rfl⟩ := List.mem_map.1 hp
      have hil : i < len := by simpa using hi'
      have hD := (hf i (by omega)).2.2
      have hin : D i ∈ (List.range len).map D := List.mem_map.2 ⟨i, by simpa using hil, rfl⟩
      have hmem : ∀ n ∈ (D i).weights Tryd.prog 39, n ≤ reachBytes := fun n hn => hwt n (by
        rw [hx.1]
        simp only [DataW.weights, Tryd.underlying37, List.mem_cons, List.mem_append]
        exact .inr (.inl (weightsAll_in hin n hn)))
      rw [hD] at hmem
      refine ⟨hmem _ ?_, hmem _ ?_⟩ <;> simp [DataW.weights, Tryd.underlying39, DataW.weightsEach, g]
end Go.Proofs.YtlcpehmdhnakpaaDoor
namespace Go.Proofs.YtlcpehmdhnakpaaDoor
open Go.RowKit
set_option linter.unusedVariables false

theorem tvdA (x : ByteArray) : tv x.data.toList = .string x := by simp [tv]
theorem askChecks_go (x : CfgP) (A : Option Addr) (c : Nat) (A' : Option Addr) (c' : Nat) (q : ByteArray) {w : World} (h : CfgIs w x A x.gClients.length c A' x.gConns.length c' ∧ x.fit) (hq : q.size ≤ 200000000000000) (hv : CodeAsk w) :
    Calls Tryd.prog 3 #[x.val A x.gClients.length c A' x.gConns.length c', .string q] w fun e w' => e = .returned (.bool true) ∧ Below w.heap.size w w' := by
  have := askChecks_at hv x A _ c A' _ c' q.data.toList h.1 h.2 hq
  rwa [tvdA] at this
theorem askBack_go (x : CfgP) (A : Option Addr) (c : Nat) (A' : Option Addr) (c' : Nat) (AL : Option Addr) (cl : Nat) (l : PL) {w : World} (h : CfgIs w x A x.gClients.length c A' x.gConns.length c' ∧ x.fit) (hl : Prs w w.heap.size AL l ∧ l.length ≤ reachBytes ∧ ∀ p ∈ l, p.1.length ≤ reachBytes ∧ p.2.length ≤ reachBytes) (hv : CodeAsk w) :
    Calls Tryd.prog 4 #[x.val A x.gClients.length c A' x.gConns.length c', .slice AL l.length cl] w fun e w' => e = .returned (.bool true) ∧ Below w.heap.size w w' := by
  have hr : reachBytes ≤ 200000000000000 := by decide
  exact askBack_at hv x A _ c A' _ c' AL cl l h.1 h.2 (Nat.le_trans hl.2.1 hr) (fun y hy => ⟨Nat.le_trans (hl.2.2 y hy).1 hr, Nat.le_trans (hl.2.2 y hy).2 hr⟩) hl.1
theorem askTwice_go (x : CfgP) (A : Option Addr) (c : Nat) (A' : Option Addr) (c' : Nat) (AL : Option Addr) (cl : Nat) (l : PL) (n : Int) {w : World} (h : CfgIs w x A x.gClients.length c A' x.gConns.length c' ∧ x.fit) (hl : Prs w w.heap.size AL l ∧ l.length ≤ reachBytes ∧ ∀ p ∈ l, p.1.length ≤ reachBytes ∧ p.2.length ≤ reachBytes) (hn : (Lit.int .u8 n).wf = true) (hv : CodeAsk w) :
    Calls Tryd.prog 6 #[x.val A x.gClients.length c A' x.gConns.length c', .slice AL l.length cl, .int .u8 n] w fun e w' => e = .returned (.bool true) ∧ Below w.heap.size w w' := by
  have hr : reachBytes ≤ 200000000000000 := by decide
  have hb : 0 ≤ n ∧ n ≤ 255 := by simpa [Lit.wf, IntKind.min, IntKind.max, IntKind.signed, IntKind.bits] using hn
  have := askTwice_at hv x A _ c A' _ c' AL cl l n.toNat h.1 h.2 (Nat.le_trans hl.2.1 hr) (fun y hy => ⟨Nat.le_trans (hl.2.2 y hy).1 hr, Nat.le_trans (hl.2.2 y hy).2 hr⟩) hl.1 (by omega)
  rwa [show ((n.toNat : Nat) : Int) = n by omega] at this
theorem askWhole_go (tu dr : Int) (ST NO : ByteArray) {w : World} (h1 : (Lit.int .u8 tu).wf = true) (h2 : (Lit.int .u8 dr).wf = true) (hs : ST.size ≤ 200000000000000) (hn : NO.size ≤ 200000000000000) (hv : CodeAsk w) :
    Calls Tryd.prog 5 #[.int .u8 tu, .int .u8 dr, .string ST, .string NO] w fun e w' => e = .returned (.bool true) ∧ Below w.heap.size w w' := by
  have b1 : 0 ≤ tu ∧ tu ≤ 255 := by simpa [Lit.wf, IntKind.min, IntKind.max, IntKind.signed, IntKind.bits] using h1
  have b2 : 0 ≤ dr ∧ dr ≤ 255 := by simpa [Lit.wf, IntKind.min, IntKind.max, IntKind.signed, IntKind.bits] using h2
  have hs' : ST.data.toList.length ≤ 200000000000000 := hs
  have hn' : NO.data.toList.length ≤ 200000000000000 := hn
  have := askWhole_at hv ST.data.toList NO.data.toList tu.toNat dr.toNat (by omega) (by omega) hs' hn'
  rwa [show (⟨ST.data.toList.toArray⟩ : ByteArray) = ST by simp, show (⟨NO.data.toList.toArray⟩ : ByteArray) = NO by simp, show ((tu.toNat : Nat) : Int) = tu by omega, show ((dr.toNat : Nat) : Int) = dr by omega] at this
end Go.Proofs.YtlcpehmdhnakpaaDoor
namespace Go.Proofs.YtlcpehmdhnakpaaDoor
open Go.ChangeShapes Go.WideShapes Go.ChangeAt Go.RowKit
set_option linter.unusedVariables false

set_option maxRecDepth 100000 in
theorem open_texty {H : Type} {enc : TypeId × Value → H} {W : World} {base : Nat} {v : Value} {d : DataW H} {ps : List MemPlace} (hval : Value.okWide Tryd.prog W .any base 9 v)
    (hd : DataW.Trod enc Tryd.prog W 0 (fun _ => true) true 9 v d ps) (_ : ∀ x ∈ ps, x.block < W.heap.size) (hwt : ∀ n ∈ d.weights Tryd.prog 9, n ≤ reachBytes) :
    ∃ x : ByteArray, v = .string x ∧ x.size ≤ 200000000000000 := by
  obtain ⟨x, rfl, rfl, rfl, _⟩ := Go.ChangeMaps.open_string Tryd.underlying9 hval hd
  have h := hwt x.data.toList.length (by simp [DataW.weights])
  have hr : reachBytes ≤ 200000000000000 := by decide
  exact ⟨x, rfl, by simpa using Nat.le_trans h hr⟩
end Go.Proofs.YtlcpehmdhnakpaaDoor
namespace Go.Proofs.YtlcpehmdhnakpaaDoor
open Go.RowKit
set_option linter.unusedVariables false
set_option linter.unusedSimpArgs false

set_option maxRecDepth 100000 in
theorem askTold_any (A : Option Addr) (c : Nat) (l : PL) (key : List UInt8) (w : World) (hl : l.length ≤ 64) (hp : Prs w w.heap.size A l) :
    Calls Tryd.prog 31 #[.slice A l.length c, .string ⟨key.toArray⟩] w fun e w' => e = .returned (.string ⟨(gP l key).toArray⟩) ∧ Below w.heap.size w w' := by
  have hg := get_any A c w.heap.size l key (by unfold maxLen; omega) w (Nat.le_refl _) hp
  obtain ⟨n, hn⟩ : ∃ n, l.length = n := ⟨_, rfl⟩
  obtain ⟨V, hV⟩ : ∃ z : ByteArray, (⟨((getL l key).getD []).toArray⟩ : ByteArray) = z := ⟨_, rfl⟩
  obtain ⟨K, hK⟩ : ∃ z : ByteArray, (⟨key.toArray⟩ : ByteArray) = z := ⟨_, rfl⟩
  obtain ⟨B, hB⟩ : ∃ z, (getL l key).isSome = z := ⟨_, rfl⟩
  rw [hn, hV, hK, hB] at hg
  rw [hn, hK, show (⟨(gP l key).toArray⟩ : ByteArray) = V from hV]
  have HG := Lib.hid hg
  clear hg hn hV hK hB hl hp
  go_enter Tryd.func31, Tryd.ntmps31
  go_wp2_with fail
  refine HG.out.mono ?_
  rintro e w1 ⟨rfl, hb⟩
  have HB := Lib.hid hb; clear hb
  dsimp only
  go_wp2
  go_ret
  exact ⟨rfl, HB.out⟩
theorem askBrief_any (s : ByteArray) (w : World) :
    Calls Tryd.prog 37 #[.string s] w fun e w' => e = .returned (.bool (decide (s.size ≤ 256))) ∧ w = w' := by
  go_enter Tryd.func37, Tryd.ntmps37
  go_wp2
  go_ret
  exact ⟨ret_bool (by rw [Bool.eq_iff_iff]; simp; omega), rfl⟩
set_option maxRecDepth 100000 in
set_option maxHeartbeats 4000000 in
theorem askRead_any (A : Option Addr) (c : Nat) (l : PL) (w : World) (hl : l.length ≤ 64) (hp : Prs w w.heap.size A l) :
    Calls Tryd.prog 18 #[.slice A l.length c] w fun e w' => e = .returned (askAll l).val ∧ Below w.heap.size w w' := by
  unfold askAll AskV.val tv
  dsimp only
  obtain ⟨np, hnp⟩ : ∃ z, l.length = z := ⟨_, rfl⟩
  obtain ⟨VC, hVC⟩ : ∃ z : ByteArray, (⟨(gP l kCid).toArray⟩ : ByteArray) = z := ⟨_, rfl⟩
  have gVC : ∀ W, Below w.heap.size w W → Calls Tryd.prog 31 #[.slice A np c, .string ⟨#[99, 108, 105, 101, 110, 116, 95, 105, 100]⟩] W fun e w' => e = .returned (.string VC) ∧ Below W.heap.size W w' := fun W hB => by
    have h := askTold_any A c l kCid W hl ((hp.below hB).more hB.size)
    rw [hnp] at h
    rw [← hVC]; exact h
  rw [hVC]
  have GVC := Lib.hid gVC
  clear gVC hVC
  obtain ⟨VR, hVR⟩ : ∃ z : ByteArray, (⟨(gP l kRed).toArray⟩ : ByteArray) = z := ⟨_, rfl⟩
  have gVR : ∀ W, Below w.heap.size w W → Calls Tryd.prog 31 #[.slice A np c, .string ⟨#[114, 101, 100, 105, 114, 101, 99, 116, 95, 117, 114, 105]⟩] W fun e w' => e = .returned (.string VR) ∧ Below W.heap.size W w' := fun W hB => by
    have h := askTold_any A c l kRed W hl ((hp.below hB).more hB.size)
    rw [hnp] at h
    rw [← hVR]; exact h
  rw [hVR]
  have GVR := Lib.hid gVR
  clear gVR hVR
  obtain ⟨VS, hVS⟩ : ∃ z : ByteArray, (⟨(gP l kSta).toArray⟩ : ByteArray) = z := ⟨_, rfl⟩
  have gVS : ∀ W, Below w.heap.size w W → Calls Tryd.prog 31 #[.slice A np c, .string ⟨#[115, 116, 97, 116, 101]⟩] W fun e w' => e = .returned (.string VS) ∧ Below W.heap.size W w' := fun W hB => by
    have h := askTold_any A c l kSta W hl ((hp.below hB).more hB.size)
    rw [hnp] at h
    rw [← hVS]; exact h
  rw [hVS]
  have GVS := Lib.hid gVS
  clear gVS hVS
  obtain ⟨VN, hVN⟩ : ∃ z : ByteArray, (⟨(gP l kNon).toArray⟩ : ByteArray) = z := ⟨_, rfl⟩
  have gVN : ∀ W, Below w.heap.size w W → Calls Tryd.prog 31 #[.slice A np c, .string ⟨#[110, 111, 110, 99, 101]⟩] W fun e w' => e = .returned (.string VN) ∧ Below W.heap.size W w' := fun W hB => by
    have h := askTold_any A c l kNon W hl ((hp.below hB).more hB.size)
    rw [hnp] at h
    rw [← hVN]; exact h
  rw [hVN]
  have GVN := Lib.hid gVN
  clear gVN hVN
  obtain ⟨VO, hVO⟩ : ∃ z : ByteArray, (⟨(gP l kSco).toArray⟩ : ByteArray) = z := ⟨_, rfl⟩
  have gVO : ∀ W, Below w.heap.size w W → Calls Tryd.prog 31 #[.slice A np c, .string ⟨#[115, 99, 111, 112, 101]⟩] W fun e w' => e = .returned (.string VO) ∧ Below W.heap.size W w' := fun W hB => by
    have h := askTold_any A c l kSco W hl ((hp.below hB).more hB.size)
    rw [hnp] at h
    rw [← hVO]; exact h
  rw [hVO]
  have GVO := Lib.hid gVO
  clear gVO hVO
  obtain ⟨VH, hVH⟩ : ∃ z : ByteArray, (⟨(gP l kCha).toArray⟩ : ByteArray) = z := ⟨_, rfl⟩
  have gVH : ∀ W, Below w.heap.size w W → Calls Tryd.prog 31 #[.slice A np c, .string ⟨#[99, 111, 100, 101, 95, 99, 104, 97, 108, 108, 101, 110, 103, 101]⟩] W fun e w' => e = .returned (.string VH) ∧ Below W.heap.size W w' := fun W hB => by
    have h := askTold_any A c l kCha W hl ((hp.below hB).more hB.size)
    rw [hnp] at h
    rw [← hVH]; exact h
  rw [hVH]
  have GVH := Lib.hid gVH
  clear gVH hVH
  rw [hnp]
  obtain ⟨b, hb⟩ : ∃ b, w.heap.size = b := ⟨_, rfl⟩
  obtain ⟨W0, hW0⟩ : ∃ W, w.alloc (.cells #[.string ⟨#[]⟩, .string ⟨#[]⟩, .string ⟨#[]⟩, .string ⟨#[]⟩, .string ⟨#[]⟩, .string ⟨#[]⟩] 30) = W := ⟨_, rfl⟩
  have hb0 : Below w.heap.size w W0 := by rw [← hW0]; exact (Below.refl _ _).alloc (Nat.le_refl _) _
  have k0 : W0.heap[b]? = some (.cells #[.string ⟨#[]⟩, .string ⟨#[]⟩, .string ⟨#[]⟩, .string ⟨#[]⟩, .string ⟨#[]⟩, .string ⟨#[]⟩] 30 (0, 0)) := by rw [← hW0, ← hb]; exact heap_alloc_last w _
  have HB := Lib.hid hb; have HW0 := Lib.hid hW0; have HB0 := Lib.hid hb0; have K0 := Lib.hid k0
  clear hb hW0 hb0 k0 hp hl hnp
  go_enter Tryd.func18, Tryd.ntmps18
  go_upto_region 1 with fail
  rw [HW0.out, HB.out]
  go_wp2_with fail
  refine (GVC.out _ HB0.out).mono ?_
  rintro e w1 ⟨rfl, hb1⟩
  have B1 := Lib.hid ((HB0.out).chain hb1)
  have K1 := Lib.hid (blk_below K0.out hb1)
  clear hb1
  dsimp only
  go_wp2_with fail
  refine (GVR.out _ B1.out).mono ?_
  rintro e w2 ⟨rfl, hb2⟩
  have B2 := Lib.hid ((B1.out).chain hb2)
  have K2 := Lib.hid (blk_below K1.out hb2)
  clear hb2
  dsimp only
  go_wp2_with fail
  refine (GVS.out _ B2.out).mono ?_
  rintro e w3 ⟨rfl, hb3⟩
  have B3 := Lib.hid ((B2.out).chain hb3)
  have K3 := Lib.hid (blk_below K2.out hb3)
  clear hb3
  dsimp only
  go_wp2_with fail
  refine (GVN.out _ B3.out).mono ?_
  rintro e w4 ⟨rfl, hb4⟩
  have B4 := Lib.hid ((B3.out).chain hb4)
  have K4 := Lib.hid (blk_below K3.out hb4)
  clear hb4
  dsimp only
  go_wp2_with fail
  refine (GVO.out _ B4.out).mono ?_
  rintro e w5 ⟨rfl, hb5⟩
  have B5 := Lib.hid ((B4.out).chain hb5)
  have K5 := Lib.hid (blk_below K4.out hb5)
  clear hb5
  dsimp only
  go_wp2_with fail
  refine (GVH.out _ B5.out).mono ?_
  rintro e w6 ⟨rfl, hb6⟩
  have B6 := Lib.hid ((B5.out).chain hb6)
  have K6 := Lib.hid (blk_below K5.out hb6)
  clear hb6
  obtain ⟨⟨y0, y1, y2, y3, y4, y5⟩, z0, z1, z2, z3, z4, z5⟩ := cellsK6_of K6.out
  dsimp only
  go_wp2_with fail
  obtain ⟨wf, hwf⟩ : ∃ wf, wf = setK6 w6 b (.string VC) (.string VR) (.string VS) (.string VN) (.string VO) (.string VH) := ⟨_, rfl⟩
  change bodyPost _ _ _ _ _ (setK6 w6 b (.string VC) (.string VR) (.string VS) (.string VN) (.string VO) (.string VH))
  rw [← hwf]
  have hbf : Below w.heap.size w wf := by rw [hwf]; exact setK6_below B6.out (by have := HB.out; omega) _ _ _ _ _ _
  have hyf : wf.heap[b]? = some (.cells #[.string VC, .string VR, .string VS, .string VN, .string VO, .string VH] 30 (0, 0)) := by rw [hwf]; exact setK6_here K6.out
  obtain ⟨⟨a0, a1, a2, a3, a4, a5⟩, -⟩ := cellsK6_of hyf
  have HBF := Lib.hid hbf
  clear hwf hbf hyf y0 y1 y2 y3 y4 y5 z0 z1 z2 z3 z4 z5
  refine bodyPost_ret (v := .agg #[.string VC, .string VR, .string VS, .string VN, .string VO, .string VH]) (by simp [results, Tryd.results18, go_sem, a0, a1, a2, a3, a4, a5]) rfl ⟨rfl, HBF.out⟩
set_option maxRecDepth 100000 in
set_option maxHeartbeats 4000000 in
theorem askAnswerable_any (C R S N O H : ByteArray) (w : World) :
    Calls Tryd.prog 21 #[.agg #[.string C, .string R, .string S, .string N, .string O, .string H]] w fun e w' => e = .returned (.agg #[.string C, .string R, .string (if 256 < S.size then ⟨#[]⟩ else S), .string ⟨#[]⟩, .string ⟨#[]⟩, .string ⟨#[]⟩]) ∧ Below w.heap.size w w' := by
  obtain ⟨T, hT⟩ : ∃ T : ByteArray, (if 256 < S.size then ⟨#[]⟩ else S) = T := ⟨_, rfl⟩
  rw [hT]
  have HT := Lib.hid hT
  clear hT
  obtain ⟨b, hb⟩ : ∃ b, w.heap.size = b := ⟨_, rfl⟩
  obtain ⟨W0, hW0⟩ : ∃ W, (w.alloc (.cells #[.string C, .string R, .string S, .string N, .string O, .string H] 30)).alloc (.cells #[.string ⟨#[]⟩, .string ⟨#[]⟩, .string ⟨#[]⟩, .string ⟨#[]⟩, .string ⟨#[]⟩, .string ⟨#[]⟩] 30) = W := ⟨_, rfl⟩
  have hb0 : Below w.heap.size w W0 := by rw [← hW0]; exact ((Below.refl _ _).alloc (Nat.le_refl _) _).alloc (by simp) _
  have k0 : W0.heap[b]? = some (.cells #[.string C, .string R, .string S, .string N, .string O, .string H] 30 (0, 0)) := by rw [← hW0, ← hb]; exact alloc_block (heap_alloc_last w _)
  have k1 : W0.heap[b + 1]? = some (.cells #[.string ⟨#[]⟩, .string ⟨#[]⟩, .string ⟨#[]⟩, .string ⟨#[]⟩, .string ⟨#[]⟩, .string ⟨#[]⟩] 30 (0, 0)) := by rw [← hW0, ← hb]; exact fresh_at _ (by simp)
  have HB := Lib.hid hb; have HW0 := Lib.hid hW0; have HB0 := Lib.hid hb0; have K0 := Lib.hid k0; have K1 := Lib.hid k1
  obtain ⟨⟨y0, y1, y2, y3, y4, y5⟩, -⟩ := cellsK6_of k0
  clear hb hW0 hb0 k0 k1
  go_enter Tryd.func21, Tryd.ntmps21
  go_upto_region 1 with fail
  rw [HW0.out, HB.out]
  go_upto_region 2 with fail
  obtain ⟨W1, hW1⟩ : ∃ W, W0.alloc (.cells #[.string C, .string R, .string ⟨#[]⟩, .string ⟨#[]⟩, .string ⟨#[]⟩, .string ⟨#[]⟩] 30) = W := ⟨_, rfl⟩
  have hz := HB0.out.size
  have hz1 : b + 2 ≤ W0.heap.size := by have := (Array.getElem?_eq_some_iff.1 K1.out).1; omega
  obtain ⟨p, hp⟩ : ∃ p, W0.heap.size = p := ⟨_, rfl⟩
  have hb1 : Below w.heap.size w W1 := by rw [← hW1]; exact HB0.out.alloc hz _
  have k0 := alloc_block (x := .cells #[.string C, .string R, .string ⟨#[]⟩, .string ⟨#[]⟩, .string ⟨#[]⟩, .string ⟨#[]⟩] 30) K0.out
  have k1 := alloc_block (x := .cells #[.string C, .string R, .string ⟨#[]⟩, .string ⟨#[]⟩, .string ⟨#[]⟩, .string ⟨#[]⟩] 30) K1.out
  have k2 : W1.heap[p]? = some (.cells #[.string C, .string R, .string ⟨#[]⟩, .string ⟨#[]⟩, .string ⟨#[]⟩, .string ⟨#[]⟩] 30 (0, 0)) := by rw [← hW1, ← hp]; exact heap_alloc_last W0 _
  rw [hW1] at k0 k1
  rw [hp] at hz1
  rw [hW1, hp]
  have hbr := askBrief_any S W1
  have HW1 := Lib.hid hW1; have HB1 := Lib.hid hb1; have K01 := Lib.hid k0; have K11 := Lib.hid k1; have K2 := Lib.hid k2; have HZ1 := Lib.hid hz1; have HBR := Lib.hid hbr; have HP := Lib.hid hp
  clear y0 y1 y2 y3 y4 y5
  obtain ⟨⟨y0, y1, y2, y3, y4, y5⟩, -⟩ := cellsK6_of k0
  clear hW1 hb1 k0 k1 k2 hz1 hbr hz hp
  have hfin : ∀ (W : World) (T : ByteArray), Below w.heap.size w W → W.heap[b + 1]? = some (.cells #[.string ⟨#[]⟩, .string ⟨#[]⟩, .string ⟨#[]⟩, .string ⟨#[]⟩, .string ⟨#[]⟩, .string ⟨#[]⟩] 30 (0, 0)) → Below w.heap.size w (setK6 W (b + 1) (.string C) (.string R) (.string T) (.string ⟨#[]⟩) (.string ⟨#[]⟩) (.string ⟨#[]⟩)) ∧ (setK6 W (b + 1) (.string C) (.string R) (.string T) (.string ⟨#[]⟩) (.string ⟨#[]⟩) (.string ⟨#[]⟩)).heap[b + 1]? = some (.cells #[.string C, .string R, .string T, .string ⟨#[]⟩, .string ⟨#[]⟩, .string ⟨#[]⟩] 30 (0, 0)) := fun W T h1 h2 => ⟨setK6_below h1 (by have := HB.out; omega) _ _ _ _ _ _, setK6_here h2⟩
  have HFIN := Lib.hid hfin
  clear hfin
  by_cases h : S.size ≤ 256
  · have hd : decide (S.size ≤ 256) = true := by simp [h]
    have hT := HT.out
    rw [if_neg (by omega)] at hT
    subst hT
    have HBR2 := Lib.hid (show Calls Tryd.prog 37 #[.string S] W1 fun e w' => e = .returned (.bool true) ∧ W1 = w' by have := HBR.out; rwa [hd] at this)
    clear h hd HBR
    go_wp2_with fail
    refine HBR2.out.mono ?_
    rintro e w2 ⟨rfl, rfl⟩
    dsimp only
    obtain ⟨⟨n0, n1, n2, n3, n4, n5⟩, m0, m1, m2, m3, m4, m5⟩ := cellsK6_of K2.out
    obtain ⟨W3, hW3⟩ : ∃ W, W1.setCell ⟨p, 2, none⟩ (.string S) = W := ⟨_, rfl⟩
    have k2 : W3.heap[p]? = some (.cells #[.string C, .string R, .string S, .string ⟨#[]⟩, .string ⟨#[]⟩, .string ⟨#[]⟩] 30 (0, 0)) := by rw [← hW3]; have := set_here (o := 2) K2.out (.string S); simpa using this
    have k1 : W3.heap[b + 1]? = some (.cells #[.string ⟨#[]⟩, .string ⟨#[]⟩, .string ⟨#[]⟩, .string ⟨#[]⟩, .string ⟨#[]⟩, .string ⟨#[]⟩] 30 (0, 0)) := by rw [← hW3]; exact (set_there _ (by have := HZ1.out; omega)).trans K11.out
    have hb3 : Below w.heap.size w W3 := by rw [← hW3]; exact HB1.out.setCell (p := ⟨p, 2, none⟩) (by show w.heap.size ≤ p; have := HB.out; have := HZ1.out; omega) _
    go_upto_region 4 with fail
    try rw [hW3]
    obtain ⟨hbf, hyf⟩ := HFIN.out W3 S hb3 k1
    clear y0 y1 y2 y3 y4 y5 n0 n1 n2 n3 n4 n5 m0 m1 m2 m3 m4 m5 hW3
    obtain ⟨⟨n0, n1, n2, n3, n4, n5⟩, -⟩ := cellsK6_of k2
    obtain ⟨⟨q0, q1, q2, q3, q4, q5⟩, m0, m1, m2, m3, m4, m5⟩ := cellsK6_of k1
    clear k1 k2 hb3
    go_wp2_with fail
    obtain ⟨wf, hwf⟩ : ∃ wf, wf = setK6 W3 (b + 1) (.string C) (.string R) (.string S) (.string ⟨#[]⟩) (.string ⟨#[]⟩) (.string ⟨#[]⟩) := ⟨_, rfl⟩
    change bodyPost _ _ _ _ _ (setK6 W3 (b + 1) (.string C) (.string R) (.string S) (.string ⟨#[]⟩) (.string ⟨#[]⟩) (.string ⟨#[]⟩))
    rw [← hwf] at hbf hyf ⊢
    obtain ⟨⟨a0, a1, a2, a3, a4, a5⟩, -⟩ := cellsK6_of hyf
    have HBF := Lib.hid hbf
    clear hwf hbf hyf n0 n1 n2 n3 n4 n5 q0 q1 q2 q3 q4 q5 m0 m1 m2 m3 m4 m5
    refine bodyPost_ret (v := .agg #[.string C, .string R, .string S, .string ⟨#[]⟩, .string ⟨#[]⟩, .string ⟨#[]⟩]) (by simp [results, Tryd.results21, go_sem, a0, a1, a2, a3, a4, a5]) rfl ⟨rfl, HBF.out⟩
  · have hd : decide (S.size ≤ 256) = false := by simp; omega
    have hT := HT.out
    rw [if_pos (by omega)] at hT
    subst hT
    have HBR2 := Lib.hid (show Calls Tryd.prog 37 #[.string S] W1 fun e w' => e = .returned (.bool false) ∧ W1 = w' by have := HBR.out; rwa [hd] at this)
    clear h hd HBR
    go_wp2_with fail
    refine HBR2.out.mono ?_
    rintro e w2 ⟨rfl, rfl⟩
    dsimp only
    go_upto_region 4 with fail
    obtain ⟨hbf, hyf⟩ := HFIN.out W1 ⟨#[]⟩ HB1.out K11.out
    clear y0 y1 y2 y3 y4 y5
    obtain ⟨⟨n0, n1, n2, n3, n4, n5⟩, -⟩ := cellsK6_of K2.out
    obtain ⟨⟨q0, q1, q2, q3, q4, q5⟩, m0, m1, m2, m3, m4, m5⟩ := cellsK6_of K11.out
    go_wp2_with fail
    obtain ⟨wf, hwf⟩ : ∃ wf, wf = setK6 W1 (b + 1) (.string C) (.string R) (.string ⟨#[]⟩) (.string ⟨#[]⟩) (.string ⟨#[]⟩) (.string ⟨#[]⟩) := ⟨_, rfl⟩
    change bodyPost _ _ _ _ _ (setK6 W1 (b + 1) (.string C) (.string R) (.string ⟨#[]⟩) (.string ⟨#[]⟩) (.string ⟨#[]⟩) (.string ⟨#[]⟩))
    rw [← hwf] at hbf hyf ⊢
    obtain ⟨⟨a0, a1, a2, a3, a4, a5⟩, -⟩ := cellsK6_of hyf
    have HBF := Lib.hid hbf
    clear hwf hbf hyf n0 n1 n2 n3 n4 n5 q0 q1 q2 q3 q4 q5 m0 m1 m2 m3 m4 m5
    refine bodyPost_ret (v := .agg #[.string C, .string R, .string ⟨#[]⟩, .string ⟨#[]⟩, .string ⟨#[]⟩, .string ⟨#[]⟩]) (by simp [results, Tryd.results21, go_sem, a0, a1, a2, a3, a4, a5]) rfl ⟨rfl, HBF.out⟩
end Go.Proofs.YtlcpehmdhnakpaaDoor
