/- Texts merged by program, in build order: FrameRef, HeldMore, FrameRefS, HashTurn. -/
import Derived.Test.YtklhdffbaglkdaaDoorG02
import Derived.Test.YtklhdffbaglkdaaDoorG04
import Derived.Lib.AppendStr
import Derived.Deep.RegionLaw
import Derived.Deep.RegionWith
import Derived.Deep.Cut
import Derived.Deep.RegionHeld3
namespace Go.Proofs.YtklhdffbaglkdaaDoor
open Go.RowKit
set_option linter.unusedVariables false
set_option linter.unusedSimpArgs false

set_option maxRecDepth 100000 in
theorem refFour_any (n : Nat) (hn : n < 2147483648) (w : World) :
    Calls Tryd.prog 63 #[.int .i64 n] w fun e w' => (e = .returned (.slice (some ⟨w.heap.size, 0, none⟩) 4 4) ∧ Buf w' w.heap.size (.slice (some ⟨w.heap.size, 0, none⟩) 4 4) (four n)) ∧ Below w.heap.size w w' := by
  go_enter Tryd.func63, Tryd.ntmps63
  go_wp2
  go_ret
  refine ⟨⟨rfl, ⟨rfl, .inr ⟨w.heap.size, 4, _, rfl, Nat.le_refl _, heap_alloc_last w _, Nat.le_refl _, by unfold maxLen; decide, rfl, ?_⟩⟩⟩, (Below.refl _ _).alloc (Nat.le_refl _) _⟩
  simp only [four, cells, List.map_cons, List.map_nil, UInt8.toNat_ofNat', List.length_cons, List.length_nil]
  show [_, _, _, _] = [_, _, _, _]
  have e : n / 16777216 % 2 ^ 8 = n / 16777216 := by omega
  rw [e]
  simp
theorem rdw_at {w : World} {A : Option Addr} {c : Nat} {l : List UInt8} (h : RdW w (.slice A l.length c) l) (h0 : 0 < l.length) : ∃ g o, A = some ⟨g, o, none⟩ ∧ g < w.heap.size ∧ ∀ i, i < l.length → w.cell? ⟨g, o + i, none⟩ = some (.int .u8 (b4 l i : Nat)) := by
  obtain ⟨A', c', e, h1, h2, h3⟩ := h
  cases e
  rcases h3 with ⟨h3, _⟩ | ⟨g, o, rfl, hg, h3⟩
  · omega
  · refine ⟨g, o, rfl, hg, fun i hi => ?_⟩
    have := h3 i (.int .u8 (b4 l i : Nat)) (by
      unfold cells b4
      rw [List.getElem?_map, List.getElem?_eq_getElem hi, List.getD_eq_getElem?_getD, List.getElem?_eq_getElem hi]
      rfl)
    rwa [Addr.add_lit] at this
set_option maxRecDepth 100000 in
theorem refNumber_any (A : Option Addr) (c : Nat) (l : List UInt8) (h4 : 4 ≤ l.length) (w : World) (h : RdW w (.slice A l.length c) l) (hl : l.length ≤ 1000000) :
    Calls Tryd.prog 54 #[.slice A l.length c] w fun e w' => e = .returned (.int .i64 (num4 l)) ∧ Below w.heap.size w w' := by
  obtain ⟨g, o, rfl, hg, hc⟩ := rdw_at h (by omega)
  have c0 := hc 0 (by omega)
  have c1 := hc 1 (by omega)
  have c2 := hc 2 (by omega)
  have c3 := hc 3 (by omega)
  rw [Nat.add_zero] at c0
  have hb : ∀ i, b4 l i < 256 := fun i => (l.getD i 0).toNat_lt
  obtain ⟨x0, e0⟩ : ∃ x, b4 l 0 = x := ⟨_, rfl⟩
  obtain ⟨x1, e1⟩ : ∃ x, b4 l 1 = x := ⟨_, rfl⟩
  obtain ⟨x2, e2⟩ : ∃ x, b4 l 2 = x := ⟨_, rfl⟩
  obtain ⟨x3, e3⟩ : ∃ x, b4 l 3 = x := ⟨_, rfl⟩
  have b0 := hb 0
  have b1 := hb 1
  have b2 := hb 2
  have b3 := hb 3
  have hn : num4 l = x0 * 16777216 + x1 * 65536 + x2 * 256 + x3 := by unfold num4; rw [e0, e1, e2, e3]
  rw [e0] at c0 b0
  rw [e1] at c1 b1
  rw [e2] at c2 b2
  rw [e3] at c3 b3
  rw [hn]
  obtain ⟨n, hN⟩ : ∃ n, l.length = n := ⟨_, rfl⟩
  rw [hN]
  rw [hN] at h4
  have k0 : (0 : Int) < n := by omega
  have k1 : (1 : Int) < n := by omega
  have k2 : (2 : Int) < n := by omega
  have k3 : (3 : Int) < n := by omega
  clear hc hb hn e0 e1 e2 e3 h hN hl
  go_enter Tryd.func54, Tryd.ntmps54
  go_wp2
  go_quiet (fail)
  go_wp2
  go_ret
  exact ⟨ret_int (by simp), belowDrewN (Below.refl _ _) _⟩
/-- 'string(b)' of bytes within an argument -/
theorem RdW.text {w : World} {v : Value} {l : List UInt8} (h : RdW w v l) : (convert 40 9 v).run Tryd.prog w = .ok (.string ⟨l.toArray⟩) w := by
  obtain ⟨A, c, rfl, h1, h2, h3⟩ := h
  rcases h3 with ⟨h0, rfl⟩ | ⟨g, o, rfl, hg, h3⟩
  · obtain rfl : l = [] := List.length_eq_zero_iff.1 h0
    cases A with
    | none => exact (RdAt.nil w).text
    | some a => exact run_convert_bytes_back (P := Tryd.prog) w 40 9 5 a 0 [] Tryd.underlying40 Tryd.underlying5 Tryd.underlying9 (fun j hj => absurd hj (Nat.not_lt_zero _))
  · exact run_convert_bytes_back (P := Tryd.prog) w 40 9 5 ⟨g, o, none⟩ c l Tryd.underlying40 Tryd.underlying5 Tryd.underlying9 (fun j hj => h3 j _ (by simp [cells, hj]))
set_option maxRecDepth 100000 in
set_option maxHeartbeats 4000000 in
theorem refFrame_any (A : Option Addr) (c : Nat) (l : List UInt8) (hl : l.length ≤ 100000) (w : World) (h : RdW w (.slice A l.length c) l) :
    Calls Tryd.prog 41 #[.slice A l.length c] w fun e w' => (∃ v, e = .returned v ∧ Buf w' w.heap.size v (frameL l)) ∧ Below w.heap.size w w' := by
  obtain ⟨i0, hi, hz0, hz1, hz2⟩ := info_parts Tryd.infoByte
  have h4 := refFour_any l.length (by omega) w
  have hRW := fun W (hb : Below w.heap.size w W) => (h.below hb).text
  have hNW : ∀ W, Below w.heap.size w W → (A = none ∧ l.length = 0 ∧ c = 0) ∨ ∃ ad, A = some ad ∧ ∀ j u, (cells l)[j]? = some u → W.cell? (ad.add j) = some u := fun W hb => by
    obtain ⟨A1, c1, e1, hA1⟩ := (h.below hb).news
    cases e1
    exact hA1
  have hll : (cells l).length = l.length * 1 := by rw [Nat.mul_one]; simp [cells]
  have hsum := fun W => refSum_any ⟨(four l.length ++ l).toArray⟩ (by show (four l.length ++ l).toArray.size ≤ _; simp [four_len]; omega) W
  obtain ⟨SM, hSM⟩ : ∃ S : ByteArray, S = ⟨(sumL (four l.length ++ l)).toArray⟩ := ⟨_, rfl⟩
  have hSMs : SM.size = 32 := by rw [hSM]; rfl
  have hmk : Lib.strCells (SM.extract 0 4) = cells (markF l) := by
    rw [hSM]
    unfold Lib.strCells cells markF
    rw [ByteArray.data_extract]
    simp
  have hmks : (SM.extract 0 4).size = 4 := by rw [ByteArray.size_extract]; omega
  have hsd : (⟨(four l.length ++ l).toArray⟩ : ByteArray).data.toList = four l.length ++ l := by simp
  rw [hsd, ← hSM] at hsum
  have s1 := fun W => run_string_add_sum (P := Tryd.prog) W ⟨(four l.length).toArray⟩ ⟨l.toArray⟩ (by show (four l.length).toArray.size + l.toArray.size ≤ _; simp [four_len]; omega)
  have sj : (⟨(four l.length).toArray⟩ : ByteArray) ++ ⟨l.toArray⟩ = ⟨(four l.length ++ l).toArray⟩ := by
    apply ByteArray.ext; simp [ByteArray.data_append]
  rw [sj] at s1
  have hfr : cells (four l.length) ++ Lib.strCells (SM.extract 0 4) ++ cells l = cells (frameL l) := by
    rw [hmk, ← cells_app, ← cells_app]; rfl
  have hfl : 4 + 4 + l.length = (frameL l).length := by rw [frameL_len]
  obtain ⟨F4, hF4⟩ : ∃ S : ByteArray, S = ⟨(four l.length).toArray⟩ := ⟨_, rfl⟩
  obtain ⟨LB, hLB⟩ : ∃ S : ByteArray, S = ⟨l.toArray⟩ := ⟨_, rfl⟩
  obtain ⟨FL, hFL⟩ : ∃ S : ByteArray, S = ⟨(four l.length ++ l).toArray⟩ := ⟨_, rfl⟩
  rw [← hF4, ← hLB, ← hFL] at s1
  rw [← hFL] at hsum
  simp only [← hLB] at hRW
  obtain ⟨n, hn⟩ : ∃ n, l.length = n := ⟨_, rfl⟩
  have H4 := Lib.hid h4; have HRW := Lib.hid hRW; have HNW := Lib.hid hNW; have HLL := Lib.hid hll; have HSUM := Lib.hid hsum; have HFR := Lib.hid hfr; have HFL := Lib.hid hfl; have HF4 := Lib.hid hF4; have HMKS := Lib.hid hmks
  have HL := Lib.hid hl
  rw [hn] at *
  clear h4 hRW hNW hll hsum hfr hfl hF4 hLB hFL hSM hmk hsd sj h hl hmks
  go_enter Tryd.func41, Tryd.ntmps41
  go_wp2_with fail
  refine H4.out.mono ?_
  rintro e w1 ⟨⟨rfl, hB1⟩, hb1⟩
  have ht1 : (convert 40 9 (.slice (some ⟨w.heap.size, 0, none⟩) 4 4)).run Tryd.prog w1 = .ok (.string F4) w1 := by rw [HF4.out]; exact hB1.text
  have ht2 := HRW.out w1 hb1
  have HB1 := Lib.hid hB1; have Hb1 := Lib.hid hb1
  clear hB1 hb1
  dsimp only
  go_wp2_with fail
  refine (HSUM.out _).mono ?_
  rintro e w2 ⟨rfl, hb2⟩
  have hB2 : Buf w2 w.heap.size (.slice (some ⟨w.heap.size, 0, none⟩) 4 4) (four n) := own_below HB1.out hb2
  have HB2 := Lib.hid hB2; have Hb2 := Lib.hid (Hb1.out.chain hb2)
  clear ht1 ht2 hB2 hb2 s1
  dsimp only
  go_wp2_with (at_builtin; refine Lib.wpList_append_own_string _ rfl _ _ 40 9 rfl w.heap.size 5 i0 Tryd.underlying40 Tryd.underlying9 hi hz0 hz1 hz2 _ _ _ rfl HB2.out (SM.extract 0 4) rfl (by have := HMKS.out; rw [four_len]; unfold maxLen; omega) (by have := HMKS.out; rw [four_len]; omega) Hb2.out.size ?_)
  intro v3 w3 hown3 hg3 _
  rw [four_len] at hown3
  have hb3 := Hb2.out.grown hg3 Hb2.out.size (fun j hj => (HB2.out.lt j hj).1)
  go_wp2_with (at_builtin; refine wpList_append_opt rfl _ _ 40 rfl w.heap.size 5 i0 _ 1 1 Tryd.underlying40 hi hz0 hz1 hz2 rfl (by decide) _ _ _ rfl hown3 A n c (cells l) rfl HLL.out (HNW.out _ hb3) (cells_one _) (by have := HL.out; unfold maxLen; show 4 + 4 + n ≤ _; omega) (by have := HL.out; show (4 + 4 + n) * 1 ≤ _; omega) hb3.size ?_)
  intro v4 w4 hown4 hg4 _
  have hb4 := hb3.grown hg4 hb3.size (fun j hj => (hown3.lt j hj).1)
  go_wp2
  go_ret
  exact ⟨⟨_, rfl, Buf.cut hown4 HFL.out HFR.out⟩, hb4⟩
end Go.Proofs.YtklhdffbaglkdaaDoor
namespace Go.Proofs.YtklhdffbaglkdaaDoor
variable {P : Program} {ops : Array Oper} {Q : Exit → Act → World → Prop} {md : Region.Mode} {S S' : World → Prop}
theorem wpAnyH_more (h : ∀ w, S' w → S w) : ∀ (fuel : Nat) (listed : Array Bool) (a : Act) (w : World), wpAnyH P md ops Q S' fuel listed a w → wpAnyH P md ops Q S fuel listed a w
  | 0, _, _, _, hw => hw
  | fuel + 1, _, _, _, hw => ⟨hw.1, fun i hi => wpOp_mono (fun a' w' h' => ⟨h w' h'.1, wpAnyH_more h fuel _ a' w' h'.2⟩) (hw.2 i hi)⟩
end Go.Proofs.YtklhdffbaglkdaaDoor
namespace Go.Proofs.YtklhdffbaglkdaaDoor
open Go.RowKit
set_option linter.unusedVariables false
set_option linter.unusedSimpArgs false

/-- a slice that reads as these bytes each -/
def RdB (w : World) (v : Value) (ls : List (List UInt8)) : Prop :=
  ∃ A c, v = .slice A ls.length c ∧ ls.length ≤ c ∧ ∀ k l, ls[k]? = some l → ∃ g o u, A = some ⟨g, o, none⟩ ∧ g < w.heap.size ∧ w.cell? ⟨g, o + k, none⟩ = some u ∧ RdW w u l
theorem RdB.below {w w' : World} {v : Value} {ls : List (List UInt8)} (h : RdB w v ls) (hb : Below w.heap.size w w') : RdB w' v ls := by
  obtain ⟨A, c, rfl, hc, h⟩ := h
  refine ⟨A, c, rfl, hc, fun k l hk => ?_⟩
  obtain ⟨g, o, u, rfl, hg, hu, hr⟩ := h k l hk
  exact ⟨g, o, u, rfl, Nat.lt_of_lt_of_le hg hb.size, (World.cell?_of_block (hb.block g hg)).trans hu, hr.below hb⟩
theorem rdw_form {w : World} {u : Value} {l : List UInt8} (h : RdW w u l) : ∃ A c, u = .slice A l.length c := by
  obtain ⟨A, c, rfl, _⟩ := h
  exact ⟨A, c, rfl⟩
theorem rdb_form {w : World} {u : Value} {l : List (List UInt8)} (h : RdB w u l) : ∃ A c, u = .slice A l.length c := by
  obtain ⟨A, c, rfl, _⟩ := h
  exact ⟨A, c, rfl⟩
/-- a piece -/
theorem RdW.sub {w : World} {g o c : Nat} {l : List UInt8} (h : RdW w (.slice (some ⟨g, o, none⟩) l.length c) l) (hpos : 0 < l.length) (i j : Nat) (hij : i ≤ j) (hj : j ≤ l.length) : RdW w (.slice (some ⟨g, o + i, none⟩) (j - i) (c - i)) ((l.drop i).take (j - i)) := by
  obtain ⟨A', c', e, h1, h2, h3⟩ := h
  cases e
  have hl : ((l.drop i).take (j - i)).length = j - i := by rw [List.length_take, List.length_drop]; omega
  refine ⟨some ⟨g, o + i, none⟩, c - i, by rw [hl], by rw [hl]; omega, by omega, .inr ⟨g, o + i, rfl, ?_⟩⟩
  rcases h3 with ⟨h0, _⟩ | ⟨g', o', e, hg, h3⟩
  · omega
  · injection e with e; injection e with e1 e2
    subst e1; subst e2
    refine ⟨hg, fun y u hu => ?_⟩
    have hy : (cells l)[i + y]? = some u := by
      unfold cells at hu ⊢
      rw [List.getElem?_map] at hu ⊢
      rw [List.getElem?_take] at hu
      split at hu
      · rwa [List.getElem?_drop] at hu
      · cases hu
    have := h3 (i + y) u hy
    rw [Addr.add_lit] at this ⊢
    rw [Nat.add_assoc]; exact this
theorem RdW.subIf {w : World} {g o c : Nat} {l : List UInt8} (h : RdW w (.slice (some ⟨g, o, none⟩) l.length c) l) (hpos : 0 < l.length) (i j : Nat) (hij : i ≤ j) (hj : j ≤ l.length) : RdW w (.slice (if c = i then some ⟨g, o, none⟩ else some ⟨g, o + i, none⟩) (j - i) (c - i)) ((l.drop i).take (j - i)) := by
  by_cases hc : c = i
  · have hcl : l.length ≤ c := by
      obtain ⟨A', c', e, h1, h2, h3⟩ := h
      cases e
      exact h1
    have hl : ((l.drop i).take (j - i)).length = j - i := by rw [List.length_take, List.length_drop]; omega
    rw [if_pos hc]
    exact ⟨_, c - i, by rw [hl], by omega, by omega, .inl ⟨by omega, by omega⟩⟩
  · rw [if_neg hc]
    exact h.sub hpos i j hij hj
theorem Tryd.infoBs : (Tryd.prog.info? 40).map (fun i => (i.zero, i.size, i.bytes)) = some (some (.slice none 0 0), 1, 24) := by kernel_rfl
/-- a row of the call's own of slices of bytes -/
def BRow (w : World) (B : Nat) (v : Value) (vs : List Value) (ls : List (List UInt8)) : Prop :=
  w.ownsRow B 40 1 v ls.length vs ∧ vs.length = ls.length ∧ (∀ u ∈ vs, u.oneCell' = true) ∧ ∀ (k : Nat) (l : List UInt8), ls[k]? = some l → ∃ u, vs[k]? = some u ∧ RdW w u l
theorem BRow.rd {w : World} {B : Nat} {v : Value} {vs : List Value} {ls : List (List UInt8)} (h : BRow w B v vs ls) : RdB w v ls := by
  obtain ⟨ho, hl, h1, hr⟩ := h
  have hc := fun g => World.ownsRow.cells (g := g) ho
  rcases ho.2 with ⟨rfl, h0⟩ | ⟨g, cap, cur, rfl, hB, hg, h4, h5, _⟩
  · obtain rfl := List.length_eq_zero_iff.1 h0
    exact ⟨none, 0, rfl, Nat.le_refl _, fun k l hk => by simp only [List.getElem?_nil] at hk; cases hk⟩
  · refine ⟨_, cap, rfl, h4, fun k l hk => ?_⟩
    obtain ⟨u, hu, hru⟩ := hr k l hk
    have := hc g rfl k u hu
    rw [Addr.add_lit] at this
    exact ⟨g, 0, u, rfl, (Array.getElem?_eq_some_iff.1 hg).1, this, hru⟩
theorem BRow.below {w w' : World} {B : Nat} {v : Value} {vs : List Value} {ls : List (List UInt8)} (h : BRow w B v vs ls) (hb : Below w.heap.size w w') : BRow w' B v vs ls :=
  ⟨own_below h.1 hb, h.2.1, h.2.2.1, fun k l hk => by
    obtain ⟨u, hu, hr⟩ := h.2.2.2 k l hk
    exact ⟨u, hu, hr.below hb⟩⟩
set_option maxRecDepth 100000 in
set_option maxHeartbeats 4000000 in
theorem refSplit_more (A : Option Addr) (c : Nat) (b : List UInt8) (hl : b.length ≤ 100000) (w : World) (h : RdW w (.slice A b.length c) b) :
    Calls Tryd.prog 33 #[.slice A b.length c] w fun e w' => (∃ v vs, e = .returned (.tuple #[v, .int .i64 ((splitL b).2 : Nat)]) ∧ BRow w' w.heap.size v vs (splitL b).1 ∧ ∀ u ∈ vs, ∀ g', rdBlock u = some g' → A.map (·.block) = some g') ∧ Below w.heap.size w w' := by
  obtain ⟨i0, hi, hz0, hz1, hz2⟩ := info_parts Tryd.infoBs
  obtain ⟨m, hm⟩ : ∃ m, b.length = m := ⟨_, rfl⟩
  have hgo : 0 < m → ∃ g o, A = some ⟨g, o, none⟩ := fun h0 => by
    obtain ⟨g, o, hA, _⟩ := rdw_at h (by omega)
    exact ⟨g, o, hA⟩
  have hcm : m ≤ c ∧ c ≤ 9223372036854775807 := by
    obtain ⟨A', c', e, h1, h2, h3⟩ := h
    cases e
    exact ⟨by omega, h2⟩
  have HRD := Lib.hid h; have HM := Lib.hid hm
  rw [hm] at hl ⊢
  clear h hm
  go_enter Tryd.func33, Tryd.ntmps33
  go_wp2
  go_loopw [4, 5] (fun out i W => ∃ (k : Nat) (pre : List (List UInt8)) (vs : List Value), k ≤ m ∧ i = .int .i64 k ∧ Hid (BRow W w.heap.size out vs pre ∧ pre.length ≤ k ∧ splitL b = (pre ++ (splitL (b.drop k)).1, k + (splitL (b.drop k)).2) ∧ Below w.heap.size w W) ∧ Hid (∀ u ∈ vs, ∀ g', rdBlock u = some g' → g' < w.heap.size ∧ A.map (·.block) = some g')) (fun _ i _ => m - (intOf i).toNat)
  case atStart => exact ⟨0, [], [], Nat.zero_le _, rfl, Lib.hid ⟨⟨World.ownsRow_nil _ _ _ _, rfl, by simp, fun k l hk => by simp at hk⟩, Nat.le_refl _, by simp, Below.refl _ _⟩, Lib.hid (fun u hu => by cases hu)⟩
  case round =>
    obtain ⟨k, pre, vs, hk, rfl, hT, hV⟩ := hrel
    by_cases h8 : k + 8 ≤ m
    · have d8 : decide ((8 : Int) ≤ (m : Int) - k) = true := by simp; omega
      obtain ⟨g, o, rfl⟩ := hgo (by omega)
      have hrd : RdW wr (.slice (some ⟨g, o, none⟩) m c) b := by rw [← HM.out]; exact HRD.out.below hT.out.2.2.2
      obtain ⟨D, hD⟩ : ∃ D, b.drop k = D := ⟨_, rfl⟩
      have hDl : D.length = m - k := by rw [← hD, List.length_drop, HM.out]
      have hDr : RdW wr (.slice (some ⟨g, o + k, none⟩) (m - k) (c - k)) D := by
        have h1 := hrd
        rw [← HM.out] at h1
        have h2 := RdW.sub h1 (by have := HM.out; omega) k b.length (by have := HM.out; omega) (Nat.le_refl _)
        rw [List.take_of_length_le (by rw [List.length_drop]; omega), hD, HM.out] at h2
        exact h2
      have hnum := refNumber_any (some ⟨g, o + k, none⟩) (c - k) D (by omega) wr (by rw [hDl]; exact hDr) (by omega)
      rw [hDl] at hnum
      obtain ⟨s, hs⟩ : ∃ s, num4 D = s := ⟨_, rfl⟩
      rw [hs] at hnum
      have hs32 : s < 4294967296 := by rw [← hs]; exact num4_lt D
      have hsp := hT.out.2.2.1
      rw [hD] at hsp
      have HNUM := Lib.hid hnum; have HDR := Lib.hid hDr; have HDL := Lib.hid hDl; have HS := Lib.hid hs; have HSP := Lib.hid hsp; have HD := Lib.hid hD
      clear hnum hDr hDl hs hsp hD hrd
      go_wp2_with fail
      refine HNUM.out.mono ?_
      rintro e w1 ⟨rfl, hb1⟩
      have HB1 := Lib.hid hb1; clear hb1
      dsimp only
      by_cases hok : s ≤ 32768 ∧ s ≤ m - k - 8
      · obtain ⟨hk1, hk2⟩ := hok
        have d1 : decide ((32768 : Int) < s) = false := by simp; omega
        have d2 : decide ((m : Int) - k - 8 < s) = false := by simp; omega
        have hPW : ∀ W, Below wr.heap.size wr W → RdW W (.slice (if c = k + 8 then some ⟨g, o, none⟩ else some ⟨g, o + (k + 8), none⟩) s (c - (k + 8))) ((b.drop (k + 8)).take s) := fun W hb => by
          have h1 := HRD.out.below (hT.out.2.2.2.chain hb)
          have h2 := RdW.subIf h1 (by have := HM.out; omega) (k + 8) (k + 8 + s) (by omega) (by have := HM.out; omega)
          rw [show k + 8 + s - (k + 8) = s by omega] at h2
          exact h2
        have hSW : ∀ W, Below wr.heap.size wr W → RdW W (.slice (some ⟨g, o + k, none⟩) (k + 8 + s - k) (c - k)) ((b.drop k).take (8 + s)) := fun W hb => by
          have h1 := HRD.out.below (hT.out.2.2.2.chain hb)
          have h2 := RdW.sub h1 (by have := HM.out; omega) k (k + 8 + s) (by omega) (by have := HM.out; omega)
          rw [show k + 8 + s - k = 8 + s by omega] at h2 ⊢
          exact h2
        obtain ⟨P, hP⟩ : ∃ P, (b.drop (k + 8)).take s = P := ⟨_, rfl⟩
        have hPl : P.length = s := by rw [← hP, List.length_take, List.length_drop, HM.out]; omega
        have hPD : P = (D.drop 8).take s := by rw [← hP, ← HD.out, List.drop_drop]
        rw [hP] at hPW
        obtain ⟨PA, hPA⟩ : ∃ PA, (if c = k + 8 then some ⟨g, o, none⟩ else some ⟨g, o + (k + 8), none⟩ : Option Addr) = PA := ⟨_, rfl⟩
        rw [hPA] at hPW
        have hframe := fun W (hb : Below wr.heap.size wr W) => refFrame_any PA (c - (k + 8)) P (by omega) W (by rw [hPl]; exact hPW W hb)
        rw [hPl] at hframe
        obtain ⟨FS, hFS⟩ : ∃ F : ByteArray, F = ⟨(frameL P).toArray⟩ := ⟨_, rfl⟩
        obtain ⟨FR, hFR⟩ : ∃ F : ByteArray, F = ⟨((b.drop k).take (8 + s)).toArray⟩ := ⟨_, rfl⟩
        have hstr : ∀ W, Below wr.heap.size wr W → (convert 40 9 (.slice (some ⟨g, o + k, none⟩) (k + 8 + s - k) (c - k))).run Tryd.prog W = .ok (.string FR) W := fun W hb => by rw [hFR]; exact (hSW W hb).text
        have hne : (!FS.toList == FR.toList) = !decide (frameL P = (b.drop k).take (8 + s)) := by
          rw [hFS, hFR, ByteArray.toList_eq, ByteArray.toList_eq]
          show (!frameL P == (b.drop k).take (8 + s)) = _
          by_cases h : frameL P = (b.drop k).take (8 + s) <;> simp [h]
        have hgp : ∀ g', rdBlock (.slice PA s (c - (k + 8))) = some g' → g' < w.heap.size ∧ (some (⟨g, o, none⟩ : Addr)).map (·.block) = some g' := fun g' hg => by
          obtain ⟨g1, o1, e1, hg1, _⟩ := rdw_at HRD.out (by have := HM.out; omega)
          injection e1 with e1; injection e1 with e1 _
          have h1 := rdBlock_own hg
          rw [← hPA] at h1
          have h2 : g = g' := by
            split at h1
            · injection h1
            · injection h1
          subst h2
          exact ⟨by omega, rfl⟩
        have HGP := Lib.hid hgp; clear hgp
        have HFRAME := Lib.hid hframe; have HFS := Lib.hid hFS; have HSTR := Lib.hid hstr; have HNE := Lib.hid hne; have HPW := Lib.hid hPW; have HPD := Lib.hid hPD; have HPA := Lib.hid hPA; have HPL := Lib.hid hPl
        clear hframe hFS hFR hstr hne hPW hPD hPA hPl hP hSW
        go_upto_region 7 with fail
        rw [HPA.out, show k + 8 + s - (k + 8) = s by omega]
        have B1D := Lib.hid (HB1.out.drew)
        have q1 : IntKind.i64.wrap ((k : Int) + 8) = (k : Int) + 8 := wraps_i64 _ (by omega) (by omega)
        have q2 : IntKind.i64.wrap ((k : Int) + 8 + s) = (k : Int) + 8 + s := wraps_i64 _ (by omega) (by omega)
        have q3 : (0 : Int) ≤ (k : Int) + 8 + s := by omega
        have q4 : (k : Int) + 8 + s ≤ c := by omega
        have q5 : ((k : Int) + 8 + s).toNat = k + 8 + s := by omega
        have q6 : k ≤ k + 8 + s := by omega
        have q7 : ¬ c = k := by omega
        refine wp_region_held_drew (S := (fun W => (convert 40 9 (.slice (some ⟨g, o + k, none⟩) (k + 8 + s - k) (c - k))).run Tryd.prog W = .ok (.string FR) W)) (by kernel_rfl) (HSTR.out _ B1D.out) (fun hHeld => ?_)
        refine wpAnyH_take (i := 0) (oi := _) (v := ?v0) (by simp only [List.getElem?_toArray, List.getElem?_cons_succ, List.getElem?_cons_zero]; rfl) (by kernel_rfl) (by kernel_rfl) (by kernel_rfl) (by exact fun _ _ _ h => h) (Or.inl ⟨by rfl, ?hy0⟩) (by assumption) ?rest0
        case hy0 => (intro w hSw; (try dsimp only at hSw); go_simp; try with_reducible rfl)
        simp only [Act.put, List.setIfInBounds_toArray, List.set_cons_zero, List.set_cons_succ]
        refine wpAnyH_take (i := 3) (oi := _) (v := ?v3) (by simp only [List.getElem?_toArray, List.getElem?_cons_succ, List.getElem?_cons_zero]; rfl) (by kernel_rfl) (by kernel_rfl) (by kernel_rfl) (by exact fun _ _ _ h => h) (Or.inl ⟨by rfl, ?hy3⟩) (by assumption) ?rest3
        case hy3 => (intro w hSw; (try dsimp only at hSw); go_simp; try with_reducible rfl)
        simp only [Act.put, List.setIfInBounds_toArray, List.set_cons_zero, List.set_cons_succ]
        refine wpAnyH_take (i := 4) (oi := _) (v := ?v4) (by simp only [List.getElem?_toArray, List.getElem?_cons_succ, List.getElem?_cons_zero]; rfl) (by kernel_rfl) (by kernel_rfl) (by kernel_rfl) (by exact fun _ _ _ h => h) (Or.inl ⟨by rfl, ?hy4⟩) (by assumption) ?rest4
        case hy4 => (intro w hSw; (try dsimp only at hSw); go_simp; try with_reducible rfl)
        simp only [Act.put, List.setIfInBounds_toArray, List.set_cons_zero, List.set_cons_succ]
        refine wpAnyH_take (i := 5) (oi := _) (v := ?v5) (by simp only [List.getElem?_toArray, List.getElem?_cons_succ, List.getElem?_cons_zero]; rfl) (by kernel_rfl) (by kernel_rfl) (by kernel_rfl) (by exact fun _ _ _ h => h) (Or.inl ⟨by rfl, ?hy5⟩) (by assumption) ?rest5
        case hy5 => (intro w hSw; (try dsimp only at hSw); go_simp; try with_reducible rfl)
        simp only [Act.put, List.setIfInBounds_toArray, List.set_cons_zero, List.set_cons_succ]
        refine wpAnyH_take (i := 6) (oi := _) (v := ?v6) (by simp only [List.getElem?_toArray, List.getElem?_cons_succ, List.getElem?_cons_zero]; rfl) (by kernel_rfl) (by kernel_rfl) (by kernel_rfl) (by exact fun _ _ _ h => h) (Or.inl ⟨by rfl, ?hy6⟩) (by assumption) ?rest6
        case hy6 => (intro w hSw; (try dsimp only at hSw); go_simp; try with_reducible rfl)
        simp only [Act.put, List.setIfInBounds_toArray, List.set_cons_zero, List.set_cons_succ]
        refine wpAnyH_take (i := 7) (oi := _) (v := ?v7) (by simp only [List.getElem?_toArray, List.getElem?_cons_succ, List.getElem?_cons_zero]; rfl) (by kernel_rfl) (by kernel_rfl) (by kernel_rfl) (by exact fun _ _ _ h => h) (Or.inl ⟨by rfl, ?hy7⟩) (by assumption) ?rest7
        case hy7 => (intro w hSw; (try dsimp only at hSw); go_simp; try with_reducible rfl)
        simp only [Act.put, List.setIfInBounds_toArray, List.set_cons_zero, List.set_cons_succ]
        refine wpAnyH_take (i := 8) (oi := _) (v := ?v8) (by simp only [List.getElem?_toArray, List.getElem?_cons_succ, List.getElem?_cons_zero]; rfl) (by kernel_rfl) (by kernel_rfl) (by kernel_rfl) (by exact fun _ _ _ h => h) (Or.inl ⟨by rfl, ?hy8⟩) (by assumption) ?rest8
        case hy8 => (intro w hSw; (try dsimp only at hSw); go_simp; try with_reducible rfl)
        simp only [Act.put, List.setIfInBounds_toArray, List.set_cons_zero, List.set_cons_succ]
        refine wpAnyH_take (i := 9) (oi := _) (v := ?v9) (by simp only [List.getElem?_toArray, List.getElem?_cons_succ, List.getElem?_cons_zero]; rfl) (by kernel_rfl) (by kernel_rfl) (by kernel_rfl) (by exact fun _ _ _ h => h) (Or.inl ⟨by rfl, ?hy9⟩) (by assumption) ?rest9
        case hy9 => (intro w hSw; (try dsimp only at hSw); go_simp; try with_reducible rfl)
        simp only [Act.put, List.setIfInBounds_toArray, List.set_cons_zero, List.set_cons_succ]
        refine wpAnyH_take (i := 10) (oi := _) (v := ?v10) (by simp only [List.getElem?_toArray, List.getElem?_cons_succ, List.getElem?_cons_zero]; rfl) (by kernel_rfl) (by kernel_rfl) (by kernel_rfl) (by exact fun _ _ _ h => h) (Or.inl ⟨by rfl, ?hy10⟩) (by assumption) ?rest10
        case hy10 => (intro w hSw; (try dsimp only at hSw); go_simp; try with_reducible rfl)
        simp only [Act.put, List.setIfInBounds_toArray, List.set_cons_zero, List.set_cons_succ]
        refine wpAnyH_ready (rs := [1]) (by kernel_rfl) (by simp) ?_
        refine AllReadyH.cons (o := _) (by simp only [List.getElem?_toArray, List.getElem?_cons_succ, List.getElem?_cons_zero]; rfl) (fun K hK => ?_) AllReadyH.nil
        go_simp
        go_at_call 41
        (with_reducible refine (HFRAME.out _ B1D.out).mono ?_)
        rintro e w2 ⟨⟨v2, rfl, hB2⟩, hb2⟩
        have hcv : (convert 40 9 v2).run Tryd.prog w2 = .ok (.string FS) w2 := by rw [HFS.out]; exact hB2.text
        have B2 := Lib.hid (B1D.out.chain hb2); clear hb2 hB2
        dsimp only
        refine hK.out _ _ (HSTR.out _ B2.out) (fun hHeld => ?_)
        clear hK K
        try simp only [Act.put, List.setIfInBounds_toArray, List.set_cons_zero, List.set_cons_succ]
        refine wpAnyH_ready (rs := [2]) (by kernel_rfl) (by simp) ?_
        refine AllReadyH.cons (o := _) (by simp only [List.getElem?_toArray, List.getElem?_cons_succ, List.getElem?_cons_zero]; rfl) (fun K hK => ?_) AllReadyH.nil
        go_simp
        refine hK.out _ _ (by assumption) (fun hHeld => ?_)
        clear hK K
        try simp only [Act.put, List.setIfInBounds_toArray, List.set_cons_zero, List.set_cons_succ]
        refine wpAnyH_take (i := 11) (oi := _) (v := ?v11) (by simp only [List.getElem?_toArray, List.getElem?_cons_succ, List.getElem?_cons_zero]; rfl) (by kernel_rfl) (by kernel_rfl) (by kernel_rfl) (by exact fun _ _ _ h => h) (Or.inl ⟨by rfl, ?hy11⟩) (by assumption) ?rest11
        case hy11 => (intro w hSw; (try dsimp only at hSw); go_simp; try with_reducible rfl)
        simp only [Act.put, List.setIfInBounds_toArray, List.set_cons_zero, List.set_cons_succ]
        refine wpAnyH_done (by kernel_rfl) ?_ _
        clear q1 q2 q3 q4 q5 q6 q7 hcv
        have hHeld := 0
        clear hHeld
        by_cases heq : frameL P = (b.drop k).take (8 + s)
        · have hnf : (!FS.toList == FR.toList) = false := by rw [HNE.out, decide_eq_true heq]; rfl
          rw [hnf]
          clear hnf
          have hfs : firstL D = some s := by
            unfold firstL
            rw [HS.out, HDL.out, ← HPD.out, ← HD.out, if_pos ⟨by omega, hk1, by omega, heq⟩]
          have hsp2 : splitL b = ((pre ++ [P]) ++ (splitL (b.drop (k + 8 + s))).1, k + 8 + s + (splitL (b.drop (k + 8 + s))).2) := by
            rw [HSP.out, splitL_some hfs, ← HPD.out, ← HD.out, List.drop_drop]
            simp only [List.append_assoc, List.cons_append, List.nil_append]
            rw [show k + (8 + s) = k + 8 + s by omega, show k + (8 + s + (splitL (b.drop (k + 8 + s))).2) = k + 8 + s + (splitL (b.drop (k + 8 + s))).2 by omega]
          have HSP2 := Lib.hid hsp2
          clear heq hfs hsp2
          have hbw : Below w.heap.size w w2 := hT.out.2.2.2.chain B2.out
          have hown := own_below hT.out.1.1 B2.out
          have hsz := hbw.size
          have HBW := Lib.hid hbw; clear hbw
          have hprl := hT.out.2.1
          go_wp2_with (at_builtin; refine wpList_append_own _ rfl (.tmp 48) (.tmp 50) 70 rfl w.heap.size 40 i0 _ 1 24 Tryd.underlying70 hi hz0 hz1 hz2 rfl (by decide) _ _ _ rfl (World.ownsRow.alloc hown _) ⟨_, 0, none⟩ 1 1 [.slice PA s (c - (k + 8))] rfl rfl (new_cells _ #[_] _) (by intro u hu; simp at hu; subst hu; rfl) (by unfold maxLen; omega) (by omega) (by simp; omega) ?_)
          intro v' w3 hown' hg' _
          have hb3 : Below w.heap.size w w3 := (HBW.out.alloc hsz _).grown hg' (by simp; omega) (fun j hj => (hown.lt j hj).1)
          go_wp2
          go_roundw
          case rel =>
            refine ⟨k + 8 + s, pre ++ [P], vs ++ [.slice PA s (c - (k + 8))], by omega, by go_num, Lib.hid ⟨⟨?_, by rw [List.length_append, List.length_append, hT.out.1.2.1]; rfl, fun u hu => ?_, fun j l hj => ?_⟩, by rw [List.length_append]; show pre.length + 1 ≤ _; omega, HSP2.out, hb3⟩, Lib.hid fun u hu g' hg => ?_⟩
            · rw [List.length_append]; exact hown'
            · rcases List.mem_append.1 hu with hu | hu
              · exact hT.out.1.2.2.1 u hu
              · rw [List.mem_singleton] at hu; subst hu; rfl
            · have hk3 : ∀ u, (∀ g', rdBlock u = some g' → g' < w.heap.size) → ∀ l, RdW wr u l → RdW w3 u l := fun u hu l hr => hr.keep (Nat.le_trans B2.out.size (Nat.le_trans (by simp) hg'.size)) fun g' hg => (hb3.block g' (hu g' hg)).trans (hT.out.2.2.2.block g' (hu g' hg)).symm
              by_cases hjp : j < pre.length
              · rw [List.getElem?_append_left hjp] at hj
                obtain ⟨u, hu, hr⟩ := hT.out.1.2.2.2 j l hj
                exact ⟨u, by rw [List.getElem?_append_left (by rw [hT.out.1.2.1]; exact hjp)]; exact hu, hk3 u (fun g' hg => (hV.out u (List.mem_of_getElem? hu) g' hg).1) l hr⟩
              · rw [List.getElem?_append_right (by omega)] at hj
                obtain ⟨h0, rfl⟩ : j - pre.length = 0 ∧ P = l := by
                  rcases hz : j - pre.length with _ | q
                  · rw [hz] at hj; exact ⟨rfl, by simpa using hj⟩
                  · rw [hz] at hj; simp at hj
                exact ⟨.slice PA s (c - (k + 8)), by rw [List.getElem?_append_right (by rw [hT.out.1.2.1]; omega), hT.out.1.2.1, h0]; rfl, hk3 _ (fun g' hg => (HGP.out g' hg).1) P (HPW.out wr (Below.refl _ _))⟩
            · rcases List.mem_append.1 hu with hu | hu
              · exact hV.out u hu g' hg
              · rw [List.mem_singleton] at hu; subst hu; exact HGP.out g' hg
          case measure => simp [intOf]; omega
        · have hnf : (!FS.toList == FR.toList) = true := by rw [HNE.out, decide_eq_false heq]; rfl
          rw [hnf]
          clear hnf
          have hfn : firstL D = none := by
            unfold firstL
            rw [HS.out, HDL.out, ← HPD.out, ← HD.out, if_neg (fun h => heq h.2.2.2)]
          have hsn : splitL b = (pre, k) := by rw [HSP.out, splitL_none hfn]; simp
          have HSN := Lib.hid hsn; clear hsn hfn heq
          go_wp2
          go_ret2
          rw [HSN.out]
          exact ⟨⟨_, vs, rfl, hT.out.1.below B2.out, fun u hu g' hg => (hV.out u hu g' hg).2⟩, hT.out.2.2.2.chain B2.out⟩
      · have hfn : firstL D = none := by
          unfold firstL
          rw [if_neg (fun h => hok ⟨by rw [← HS.out]; exact h.2.1, by have := h.2.2.1; rw [HS.out, HDL.out] at this; exact this⟩)]
        have hsn : splitL b = (pre, k) := by rw [HSP.out, splitL_none hfn]; simp
        have HSN := Lib.hid hsn; clear hsn hfn
        by_cases hb : 32768 < s
        · have d1 : decide ((32768 : Int) < s) = true := by simp; omega
          clear hok
          go_wp2
          go_ret2
          rw [HSN.out]
          exact ⟨⟨_, vs, rfl, hT.out.1.below HB1.out, fun u hu g' hg => (hV.out u hu g' hg).2⟩, hT.out.2.2.2.chain HB1.out⟩
        · have d1 : decide ((32768 : Int) < s) = false := by simp; omega
          have d2 : decide ((m : Int) - k - 8 < s) = true := by simp; omega
          clear hok
          go_wp2
          go_ret2
          rw [HSN.out]
          exact ⟨⟨_, vs, rfl, hT.out.1.below HB1.out, fun u hu g' hg => (hV.out u hu g' hg).2⟩, hT.out.2.2.2.chain HB1.out⟩
    · have d8 : decide ((8 : Int) ≤ (m : Int) - k) = false := by simp; omega
      have hfn : firstL (b.drop k) = none := by
        unfold firstL
        rw [if_neg (fun h => by have := h.1; rw [List.length_drop, HM.out] at this; omega)]
      have hsn : splitL b = (pre, k) := by rw [hT.out.2.2.1, splitL_none hfn]; simp
      have HSN := Lib.hid hsn; clear hsn hfn
      go_wp2
      go_ret2
      rw [HSN.out]
      exact ⟨⟨_, vs, rfl, hT.out.1, fun u hu g' hg => (hV.out u hu g' hg).2⟩, hT.out.2.2.2⟩
theorem refSplit_any (A : Option Addr) (c : Nat) (b : List UInt8) (hl : b.length ≤ 100000) (w : World) (h : RdW w (.slice A b.length c) b) :
    Calls Tryd.prog 33 #[.slice A b.length c] w fun e w' => (∃ v, e = .returned (.tuple #[v, .int .i64 ((splitL b).2 : Nat)]) ∧ RdB w' v (splitL b).1) ∧ Below w.heap.size w w' :=
  (refSplit_more A c b hl w h).mono fun e w' ⟨⟨v, vs, he, hr, _⟩, hb⟩ => ⟨⟨v, he, hr.rd⟩, hb⟩
end Go.Proofs.YtklhdffbaglkdaaDoor
namespace Go.Proofs.YtklhdffbaglkdaaDoor
open Go.RowKit

theorem rotl_int (x : UInt32) (n : Nat) : bits .or .u32 ((x.toNat : Int) * 2 ^ (32 - n) % 4294967296) ((x.toNat : Int) / 2 ^ n) = ((rotr x n).toNat : Int) := by
  have h1 : (x.toNat : Int) / 2 ^ n = ((x.toNat / 2 ^ n : Nat) : Int) := by rw [Int.natCast_ediv, Int.natCast_pow]; rfl
  have h2 : (x.toNat : Int) * 2 ^ (32 - n) % 4294967296 = ((x.toNat * 2 ^ (32 - n) % 4294967296 : Nat) : Int) := by rw [Int.natCast_emod, Int.natCast_mul, Int.natCast_pow]; rfl
  rw [rotr_nat, h1, h2, Nat.or_comm]
  exact bits_word_or _ _ (Nat.mod_lt _ (by decide)) (Nat.lt_of_le_of_lt (Nat.div_le_self _ _) (w_lt x))
theorem rotl_any (x : UInt32) (n : Nat) (h0 : 1 ≤ n) (h1 : n ≤ 31) (w : World) :
    Calls Tryd.prog 101 #[.int .u32 (x.toNat : Int), .int .i64 (-(n : Int))] w fun e w' => e = .returned (.int .u32 ((rotr x n).toNat : Int)) ∧ w = w' := by
  have hx := w_lt x
  obtain ⟨m, hm⟩ : ∃ m, 32 - n = m := ⟨_, rfl⟩
  have hmI : (m : Int) = 32 - (n : Int) := by omega
  have hb : bits .and .u64 (IntKind.u64.wrap (-(n : Int))) 31 = (m : Int) := by
    have e : IntKind.u64.wrap (-(n : Int)) = ((18446744073709551616 - n : Nat) : Int) := by rw [IntKind.wrap_u64]; omega
    have := (bits_nat .u64 64 (by decide) (fun k h0 h1 => by rw [IntKind.wrap_u64]; omega) (18446744073709551616 - n) 31 (by omega) (by decide)).1
    rw [e]
    refine this.trans ?_
    have h31 : (18446744073709551616 - n) &&& 31 = (18446744073709551616 - n) % 32 := Nat.and_two_pow_sub_one_eq_mod _ 5
    rw [h31]; omega
  have b1 : (m : Int) ≤ 31 := by omega
  have b0 : (1 : Int) ≤ (m : Int) := by omega
  have hw : IntKind.u64.wrap (32 - (m : Int)) = (n : Int) := by rw [IntKind.wrap_u64]; omega
  have HM := Lib.hid hm
  clear hm hmI
  go_enter Tryd.func101, Tryd.ntmps101
  go_wp2
  go_ret
  exact ⟨ret_int (by have := rotl_int x n; rw [HM.out] at this; exact this), rfl⟩
/-- by a number that is written out -/
theorem rotl_q (x : UInt32) (m : Int) (h0 : -31 ≤ m) (h1 : m ≤ -1) (w : World) :
    Calls Tryd.prog 101 #[.int .u32 (x.toNat : Int), .int .i64 m] w fun e w' => e = .returned (.int .u32 ((rotr x (-m).toNat).toNat : Int)) ∧ w = w' := by
  have := rotl_any x (-m).toNat (by omega) (by omega) w
  have e : -(((-m).toNat : Nat) : Int) = m := by omega
  rw [e] at this; exact this
theorem turned_any (x : UInt32) (a b c : Nat) (ha0 : 1 ≤ a) (ha : a ≤ 31) (hb0 : 1 ≤ b) (hb : b ≤ 31) (hc0 : 1 ≤ c) (hc : c ≤ 31) (w : World) :
    Calls Tryd.prog 99 #[.int .u32 (x.toNat : Int), .int .i64 (a : Int), .int .i64 (b : Int), .int .i64 (c : Int)] w fun e w' =>
      e = .returned (.int .u32 ((xorW (xorW (rotr x a) (rotr x b)) (rotr x c)).toNat : Int)) ∧ w = w' := by
  have hv : bits .xor .u32 (bits .xor .u32 ((rotr x a).toNat : Int) ((rotr x b).toNat : Int)) ((rotr x c).toNat : Int) = ((xorW (xorW (rotr x a) (rotr x b)) (rotr x c)).toNat : Int) := by rw [w_xor, w_xor]
  have HV := Lib.hid hv; clear hv
  go_enter Tryd.func99, Tryd.ntmps99
  go_wp2_with (go_at_call 101; refine (rotl_any x _ (by omega) (by omega) _).mono ?_; rintro e w' ⟨rfl, rfl⟩)
  go_ret
  exact ⟨ret_int HV.out, rfl⟩
theorem turned_q (x : UInt32) (a b c : Int) (ha0 : 1 ≤ a) (ha : a ≤ 31) (hb0 : 1 ≤ b) (hb : b ≤ 31) (hc0 : 1 ≤ c) (hc : c ≤ 31) (w : World) :
    Calls Tryd.prog 99 #[.int .u32 (x.toNat : Int), .int .i64 a, .int .i64 b, .int .i64 c] w fun e w' =>
      e = .returned (.int .u32 ((xorW (xorW (rotr x a.toNat) (rotr x b.toNat)) (rotr x c.toNat)).toNat : Int)) ∧ w' = w := by
  have := turned_any x a.toNat b.toNat c.toNat (by omega) (by omega) (by omega) (by omega) (by omega) (by omega) w
  rw [show ((a.toNat : Nat) : Int) = a by omega, show ((b.toNat : Nat) : Int) = b by omega, show ((c.toNat : Nat) : Int) = c by omega] at this
  exact this.mono fun _ _ h => ⟨h.1, h.2.symm⟩
end Go.Proofs.YtklhdffbaglkdaaDoor
