/- The reference's frames: a number in four bytes, and back. -/
import Derived.Test.YtdflghphjhejdaaDoorFramePure
import Derived.Test.YtdflghphjhejdaaDoorRdAt
import Derived.Test.YtdflghphjhejdaaDoorRefSum
import Derived.Lib.AppendStr
import Derived.Deep.RegionLaw
import Derived.Deep.RegionWith
import Derived.Deep.Cut
namespace Go.Proofs.YtdflghphjhejdaaDoor
open Go.RowKit
set_option linter.unusedVariables false
set_option linter.unusedSimpArgs false

set_option maxRecDepth 100000 in
theorem refFour_any (n : Nat) (hn : n < 2147483648) (w : World) :
    Calls Tryd.prog 15 #[.int .i64 n] w fun e w' => (e = .returned (.slice (some ⟨w.heap.size, 0, none⟩) 4 4) ∧ Buf w' w.heap.size (.slice (some ⟨w.heap.size, 0, none⟩) 4 4) (four n)) ∧ Below w.heap.size w w' := by
  go_enter Tryd.func15, Tryd.ntmps15
  go_wp2
  go_ret
  refine ⟨⟨rfl, ⟨rfl, .inr ⟨w.heap.size, 4, _, rfl, Nat.le_refl _, heap_alloc_last w _, Nat.le_refl _, by unfold maxLen; decide, rfl, ?_⟩⟩⟩, (Below.refl _ _).alloc (Nat.le_refl _) _⟩
  simp only [four, cells, List.map_cons, List.map_nil, UInt8.toNat_ofNat', List.length_cons, List.length_nil]
  show [_, _, _, _] = [_, _, _, _]
  have e : n / 16777216 % 2 ^ 8 = n / 16777216 := by omega
  rw [e]
  simp
theorem rdw_at {w : World} {A : Option Addr} {c : Nat} {l : List UInt8} (h : RdW w (.slice A l.length c) l) (h0 : 0 < l.length) : ∃ g o, A = some ⟨g, o, none⟩ ∧ g < w.heap.size ∧ ∀ i, i < l.length → w.cell? ⟨g, o + i, none⟩ = some (.int .u8 (b4 l i : Nat)) := by
  obtain ⟨A', c', e, h1, h2, h3⟩ := h
  cases e
  rcases h3 with ⟨h3, _⟩ | ⟨g, o, rfl, hg, h3⟩
  · omega
  · refine ⟨g, o, rfl, hg, fun i hi => ?_⟩
    have := h3 i (.int .u8 (b4 l i : Nat)) (by
      unfold cells b4
      rw [List.getElem?_map, List.getElem?_eq_getElem hi, List.getD_eq_getElem?_getD, List.getElem?_eq_getElem hi]
      rfl)
    rwa [Addr.add_lit] at this
set_option maxRecDepth 100000 in
theorem refNumber_any (A : Option Addr) (c : Nat) (l : List UInt8) (h4 : 4 ≤ l.length) (w : World) (h : RdW w (.slice A l.length c) l) (hl : l.length ≤ 1000000) :
    Calls Tryd.prog 19 #[.slice A l.length c] w fun e w' => e = .returned (.int .i64 (num4 l)) ∧ Below w.heap.size w w' := by
  obtain ⟨g, o, rfl, hg, hc⟩ := rdw_at h (by omega)
  have c0 := hc 0 (by omega)
  have c1 := hc 1 (by omega)
  have c2 := hc 2 (by omega)
  have c3 := hc 3 (by omega)
  rw [Nat.add_zero] at c0
  have hb : ∀ i, b4 l i < 256 := fun i => (l.getD i 0).toNat_lt
  obtain ⟨x0, e0⟩ : ∃ x, b4 l 0 = x := ⟨_, rfl⟩
  obtain ⟨x1, e1⟩ : ∃ x, b4 l 1 = x := ⟨_, rfl⟩
  obtain ⟨x2, e2⟩ : ∃ x, b4 l 2 = x := ⟨_, rfl⟩
  obtain ⟨x3, e3⟩ : ∃ x, b4 l 3 = x := ⟨_, rfl⟩
  have b0 := hb 0
  have b1 := hb 1
  have b2 := hb 2
  have b3 := hb 3
  have hn : num4 l = x0 * 16777216 + x1 * 65536 + x2 * 256 + x3 := by unfold num4; rw [e0, e1, e2, e3]
  rw [e0] at c0 b0
  rw [e1] at c1 b1
  rw [e2] at c2 b2
  rw [e3] at c3 b3
  rw [hn]
  obtain ⟨n, hN⟩ : ∃ n, l.length = n := ⟨_, rfl⟩
  rw [hN]
  rw [hN] at h4
  have k0 : (0 : Int) < n := by omega
  have k1 : (1 : Int) < n := by omega
  have k2 : (2 : Int) < n := by omega
  have k3 : (3 : Int) < n := by omega
  clear hc hb hn e0 e1 e2 e3 h hN hl
  go_enter Tryd.func19, Tryd.ntmps19
  go_wp2
  go_quiet (fail)
  go_wp2
  go_ret
  exact ⟨ret_int (by simp), belowDrewN (Below.refl _ _) _⟩
/-- 'string(b)' of bytes within an argument -/
theorem RdW.text {w : World} {v : Value} {l : List UInt8} (h : RdW w v l) : (convert 23 9 v).run Tryd.prog w = .ok (.string ⟨l.toArray⟩) w := by
  obtain ⟨A, c, rfl, h1, h2, h3⟩ := h
  rcases h3 with ⟨h0, rfl⟩ | ⟨g, o, rfl, hg, h3⟩
  · obtain rfl : l = [] := List.length_eq_zero_iff.1 h0
    cases A with
    | none => exact (RdAt.nil w).text
    | some a => exact run_convert_bytes_back (P := Tryd.prog) w 23 9 5 a 0 [] Tryd.underlying23 Tryd.underlying5 Tryd.underlying9 (fun j hj => absurd hj (Nat.not_lt_zero _))
  · exact run_convert_bytes_back (P := Tryd.prog) w 23 9 5 ⟨g, o, none⟩ c l Tryd.underlying23 Tryd.underlying5 Tryd.underlying9 (fun j hj => h3 j _ (by simp [cells, hj]))
set_option maxRecDepth 100000 in
set_option maxHeartbeats 4000000 in
theorem refFrame_any (A : Option Addr) (c : Nat) (l : List UInt8) (hl : l.length ≤ 100000) (w : World) (h : RdW w (.slice A l.length c) l) :
    Calls Tryd.prog 9 #[.slice A l.length c] w fun e w' => (∃ v, e = .returned v ∧ Buf w' w.heap.size v (frameL l)) ∧ Below w.heap.size w w' := by
  obtain ⟨i0, hi, hz0, hz1, hz2⟩ := info_parts Tryd.infoByte
  have h4 := refFour_any l.length (by omega) w
  have hRW := fun W (hb : Below w.heap.size w W) => (h.below hb).text
  have hNW : ∀ W, Below w.heap.size w W → (A = none ∧ l.length = 0 ∧ c = 0) ∨ ∃ ad, A = some ad ∧ ∀ j u, (cells l)[j]? = some u → W.cell? (ad.add j) = some u := fun W hb => by
    obtain ⟨A1, c1, e1, hA1⟩ := (h.below hb).news
    cases e1
    exact hA1
  have hll : (cells l).length = l.length * 1 := by rw [Nat.mul_one]; simp [cells]
  have hsum := fun W => refSum_any ⟨(four l.length ++ l).toArray⟩ (by show (four l.length ++ l).toArray.size ≤ _; simp [four_len]; omega) W
  obtain ⟨SM, hSM⟩ : ∃ S : ByteArray, S = ⟨(sumL (four l.length ++ l)).toArray⟩ := ⟨_, rfl⟩
  have hSMs : SM.size = 32 := by rw [hSM]; rfl
  have hmk : Lib.strCells (SM.extract 0 4) = cells (markF l) := by
    rw [hSM]
    unfold Lib.strCells cells markF
    rw [ByteArray.data_extract]
    simp
  have hmks : (SM.extract 0 4).size = 4 := by rw [ByteArray.size_extract]; omega
  have hsd : (⟨(four l.length ++ l).toArray⟩ : ByteArray).data.toList = four l.length ++ l := by simp
  rw [hsd, ← hSM] at hsum
  have s1 := fun W => run_string_add_sum (P := Tryd.prog) W ⟨(four l.length).toArray⟩ ⟨l.toArray⟩ (by show (four l.length).toArray.size + l.toArray.size ≤ _; simp [four_len]; omega)
  have sj : (⟨(four l.length).toArray⟩ : ByteArray) ++ ⟨l.toArray⟩ = ⟨(four l.length ++ l).toArray⟩ := by
    apply ByteArray.ext; simp [ByteArray.data_append]
  rw [sj] at s1
  have hfr : cells (four l.length) ++ Lib.strCells (SM.extract 0 4) ++ cells l = cells (frameL l) := by
    rw [hmk, ← cells_app, ← cells_app]; rfl
  have hfl : 4 + 4 + l.length = (frameL l).length := by rw [frameL_len]
  obtain ⟨F4, hF4⟩ : ∃ S : ByteArray, S = ⟨(four l.length).toArray⟩ := ⟨_, rfl⟩
  obtain ⟨LB, hLB⟩ : ∃ S : ByteArray, S = ⟨l.toArray⟩ := ⟨_, rfl⟩
  obtain ⟨FL, hFL⟩ : ∃ S : ByteArray, S = ⟨(four l.length ++ l).toArray⟩ := ⟨_, rfl⟩
  rw [← hF4, ← hLB, ← hFL] at s1
  rw [← hFL] at hsum
  simp only [← hLB] at hRW
  obtain ⟨n, hn⟩ : ∃ n, l.length = n := ⟨_, rfl⟩
  have H4 := Lib.hid h4; have HRW := Lib.hid hRW; have HNW := Lib.hid hNW; have HLL := Lib.hid hll; have HSUM := Lib.hid hsum; have HFR := Lib.hid hfr; have HFL := Lib.hid hfl; have HF4 := Lib.hid hF4; have HMKS := Lib.hid hmks
  have HL := Lib.hid hl
  rw [hn] at *
  clear h4 hRW hNW hll hsum hfr hfl hF4 hLB hFL hSM hmk hsd sj h hl hmks
  go_enter Tryd.func9, Tryd.ntmps9
  go_wp2_with fail
  refine H4.out.mono ?_
  rintro e w1 ⟨⟨rfl, hB1⟩, hb1⟩
  have ht1 : (convert 23 9 (.slice (some ⟨w.heap.size, 0, none⟩) 4 4)).run Tryd.prog w1 = .ok (.string F4) w1 := by rw [HF4.out]; exact hB1.text
  have ht2 := HRW.out w1 hb1
  have HB1 := Lib.hid hB1; have Hb1 := Lib.hid hb1
  clear hB1 hb1
  dsimp only
  go_wp2_with fail
  refine (HSUM.out _).mono ?_
  rintro e w2 ⟨rfl, hb2⟩
  have hB2 : Buf w2 w.heap.size (.slice (some ⟨w.heap.size, 0, none⟩) 4 4) (four n) := own_below HB1.out hb2
  have HB2 := Lib.hid hB2; have Hb2 := Lib.hid (Hb1.out.chain hb2)
  clear ht1 ht2 hB2 hb2 s1
  dsimp only
  go_wp2_with (at_builtin; refine Lib.wpList_append_own_string _ rfl _ _ 23 9 rfl w.heap.size 5 i0 Tryd.underlying23 Tryd.underlying9 hi hz0 hz1 hz2 _ _ _ rfl HB2.out (SM.extract 0 4) rfl (by have := HMKS.out; rw [four_len]; unfold maxLen; omega) (by have := HMKS.out; rw [four_len]; omega) Hb2.out.size ?_)
  intro v3 w3 hown3 hg3 _
  rw [four_len] at hown3
  have hb3 := Hb2.out.grown hg3 Hb2.out.size (fun j hj => (HB2.out.lt j hj).1)
  go_wp2_with (at_builtin; refine wpList_append_opt rfl _ _ 23 rfl w.heap.size 5 i0 _ 1 1 Tryd.underlying23 hi hz0 hz1 hz2 rfl (by decide) _ _ _ rfl hown3 A n c (cells l) rfl HLL.out (HNW.out _ hb3) (cells_one _) (by have := HL.out; unfold maxLen; show 4 + 4 + n ≤ _; omega) (by have := HL.out; show (4 + 4 + n) * 1 ≤ _; omega) hb3.size ?_)
  intro v4 w4 hown4 hg4 _
  have hb4 := hb3.grown hg4 hb3.size (fun j hj => (hown3.lt j hj).1)
  go_wp2
  go_ret
  exact ⟨⟨_, rfl, Buf.cut hown4 HFL.out HFR.out⟩, hb4⟩
end Go.Proofs.YtdflghphjhejdaaDoor
