/- Texts merged by program, in build order: JsonPut. -/
import Derived.Test.YtcbajbpdgmmaeaaDoorC07
import Derived.Test.YtcbajbpdgmmaeaaDoorC11
import Derived.Deep.DeepCutAuto
import Derived.Deep.DrawnRows
namespace Go.Proofs.YtcbajbpdgmmaeaaDoor
open Go.RowKit
set_option linter.unusedVariables false
set_option linter.unusedSimpArgs false

attribute [local go_sem ↓] Go.wp_at_zero Go.wp_at_succ
set_option maxRecDepth 100000 in
set_option maxHeartbeats 40000000 in
theorem refPut_new : PutNew := by
  intro k n t l ks key x w L N L0 N0 A A' c c' x0 x1 x2 x3 x4 hl hk hz hkz hne hN hN0 hL0 hnil hit hx
  obtain ⟨i0, hI0, hz0, hz1, hz2⟩ := info_parts Tryd.infoValR
  obtain ⟨j0, hj, hy0, hy1, hy2⟩ := info_parts Tryd.infoStrR
  obtain ⟨W3, hW3⟩ : ∃ W3, W3 = (((w.alloc (.cells #[.int .i64 k, .int .i64 n, .string ⟨t.toArray⟩, .slice A l.length c, .slice A' ks.length c'] 28)).alloc (.cells #[x0, x1, x2, x3, x4] 28)).alloc (.cells #[.int .i64 0, .int .i64 0, .string ⟨#[]⟩, .slice none 0 0, .slice none 0 0] 28)) := ⟨_, rfl⟩
  have b3 : Below w.heap.size w W3 := by rw [hW3]; exact (((Below.refl _ _).alloc (Nat.le_refl _) _).alloc (by simp) _).alloc (by simp; omega) _
  have z3 : W3.heap.size = w.heap.size + 3 := by rw [hW3]; simp
  have y1 : W3.heap[w.heap.size]? = some (.cells #[.int .i64 k, .int .i64 n, .string ⟨t.toArray⟩, .slice A l.length c, .slice A' ks.length c'] 28 (0, 0)) := by rw [hW3]; exact alloc_block (alloc_block (heap_alloc_last w _))
  have y2 : W3.heap[w.heap.size + 1]? = some (.cells #[x0, x1, x2, x3, x4] 28 (0, 0)) := by
    rw [hW3]; refine alloc_block ?_
    have := heap_alloc_last (w.alloc (.cells #[.int .i64 k, .int .i64 n, .string ⟨t.toArray⟩, .slice A l.length c, .slice A' ks.length c'] 28)) (.cells #[x0, x1, x2, x3, x4] 28)
    simpa using this
  have y3 : W3.heap[w.heap.size + 2]? = some (.cells #[.int .i64 0, .int .i64 0, .string ⟨#[]⟩, .slice none 0 0, .slice none 0 0] 28 (0, 0)) := by
    rw [hW3]
    have := heap_alloc_last ((w.alloc (.cells #[.int .i64 k, .int .i64 n, .string ⟨t.toArray⟩, .slice A l.length c, .slice A' ks.length c'] 28)).alloc (.cells #[x0, x1, x2, x3, x4] 28)) (.cells #[.int .i64 0, .int .i64 0, .string ⟨#[]⟩, .slice none 0 0, .slice none 0 0] 28)
    simpa using this
  have hsz : (W3.heap.size : Nat) = w.heap.size + 3 := z3
  have ST : ∀ W, Below W3.heap.size W3 W → (W.cell? ⟨w.heap.size, 3, none⟩ = some (.slice A l.length c) ∧ W.cell? ⟨w.heap.size, 4, none⟩ = some (.slice A' ks.length c')) ∧ Below W3.heap.size W3 W := fun W hb =>
    ⟨⟨(hb.cell (p := ⟨w.heap.size, 3, none⟩) (by show w.heap.size < _; omega)).trans (cell_here y1), (hb.cell (p := ⟨w.heap.size, 4, none⟩) (by show w.heap.size < _; omega)).trans (cell_here y1)⟩, hb⟩
  obtain ⟨xs, hxl, hxc, hx1, hxe⟩ : ∃ xs : List Value, xs.length = l.length * 5 ∧ ((A = none ∧ l.length = 0 ∧ c = 0) ∨ ∃ ad, A = some ad ∧ ∀ W, Below W3.heap.size W3 W → ∀ j u, xs[j]? = some u → W.cell? (ad.add j) = some u) ∧ (∀ u ∈ xs, u.oneCell' = true) ∧
      ∀ i (h : i < l.length), ∃ c0 c1 c2 c3 c4, xs[i * 5]? = some c0 ∧ xs[i * 5 + 1]? = some c1 ∧ xs[i * 5 + 2]? = some c2 ∧ xs[i * 5 + 3]? = some c3 ∧ xs[i * 5 + 4]? = some c4 ∧ VIs w L0 N0 l[i] [c0, c1, c2, c3, c4] := by
    rcases hnil with ⟨rfl, _, rfl, _, rfl, _⟩ | ⟨b, o, b', o', rfl, rfl, hl1, hk1⟩
    · exact ⟨[], by simp, .inl ⟨rfl, rfl, rfl⟩, by simp, fun i h => absurd h (Nat.not_lt_zero _)⟩
    · obtain ⟨xs, n1, n2, n3, n4⟩ := flat_items hl1
      refine ⟨xs, n1, .inr ⟨_, rfl, fun W hW j u hu => ?_⟩, n3, fun i h => ?_⟩
      · obtain ⟨hb, hc⟩ := n2 j u hu
        rw [Addr.add_lit]
        refine (hW.cell (p := ⟨b, o + j, none⟩) (by show b < _; omega)).trans ((b3.cell (p := ⟨b, o + j, none⟩) (by show b < _; omega)).trans hc)
      · obtain ⟨c0, c1, c2, c3, c4, e0, e1, e2, e3, e4, hv⟩ := n4 i h
        exact ⟨c0, c1, c2, c3, c4, e0, e1, e2, e3, e4, hit i h _ hv⟩
  have hkc : ((A' = none ∧ ks.length = 0 ∧ c' = 0) ∨ ∃ ad, A' = some ad ∧ ∀ W, Below W3.heap.size W3 W → ∀ j u, (ksCells ks)[j]? = some u → W.cell? (ad.add j) = some u) := by
    rcases hnil with ⟨_, rfl, _, rfl, _, rfl⟩ | ⟨b, o, b', o', rfl, rfl, hl1, hk1⟩
    · exact .inl ⟨rfl, rfl, rfl⟩
    · refine .inr ⟨_, rfl, fun W hW j u hu => ?_⟩
      have hj : j < ks.length := by have := (List.getElem?_eq_some_iff.1 hu).1; unfold ksCells at this; simpa using this
      obtain ⟨_, hb, hc⟩ := hk1.get j hj
      have hu' : u = .string ⟨ks[j].toArray⟩ := by
        unfold ksCells at hu
        rw [List.getElem?_map, List.getElem?_eq_getElem hj] at hu
        exact (Option.some.inj hu).symm
      rw [hu', Addr.add_lit]
      exact (hW.cell (p := ⟨b', o' + j, none⟩) (by show b' < _; omega)).trans ((b3.cell (p := ⟨b', o' + j, none⟩) (by show b' < _; omega)).trans hc)
  have hxe3 : ∀ i (h : i < l.length), ∃ c0 c1 c2 c3 c4, xs[i * 5]? = some c0 ∧ xs[i * 5 + 1]? = some c1 ∧ xs[i * 5 + 2]? = some c2 ∧ xs[i * 5 + 3]? = some c3 ∧ xs[i * 5 + 4]? = some c4 ∧ VIs W3 L0 N0 l[i] [c0, c1, c2, c3, c4] := fun i h => by
    obtain ⟨c0, c1, c2, c3, c4, e0, e1, e2, e3, e4, hv⟩ := hxe i h
    exact ⟨c0, c1, c2, c3, c4, e0, e1, e2, e3, e4, hv.below (b3.mono hN0)⟩
  have hx3 := hx.below (b3.mono hN0)
  have HW3 := Lib.hid hW3; have B3 := Lib.hid b3; have Z3 := Lib.hid z3; have Y1 := Lib.hid y1; have Y2 := Lib.hid y2; have Y3 := Lib.hid y3; have STH := Lib.hid ST; have HXE := Lib.hid hxe3; have HX1 := Lib.hid hx1; have HXC := Lib.hid hxc; have HKC := Lib.hid hkc; have HXL := Lib.hid hxl; have HNE := Lib.hid hne; have HX := Lib.hid hx3; have HZ := Lib.hid hz; have HIT := Lib.hid hit
  clear hx3 hxe3 hW3 b3 z3 y1 y2 y3 hsz ST hxe hx1 hxc hkc hxl hne hx hz hit hnil
  go_enter Tryd.func17, Tryd.ntmps17
  go_upto_region 1 with fail
  rw [← HW3.out]
  go_cut [7] (fun s7 wx => ∃ (p : Nat) (lv kv : Value), s7 = .pointer (some ⟨p, 0, none⟩) ∧ W3.heap.size ≤ p ∧ OSt W3.heap.size p L0 N0 W3 wx lv kv l ks xs)
  case first =>
    refine wp_region_invA (fun a0 listed a' wr => ∃ u7 u9 u10 u11 u12 u13 u14 u15 u16 u17, a' = acts1 a0 u7 u9 u10 u11 u12 u13 u14 u15 u16 u17 ∧ R1 W3.heap.size w.heap.size W3 A A' l.length c c' ks xs (fun j => listed.getD j false = true) u7 u9 u10 u11 u12 u13 u14 u15 u16 u17 wr) (by kernel_rfl) (by kernel_rfl) ?h0 ?hstep ?hend
    case h0 =>
      have nl : ∀ j, ¬ (Array.replicate 11 false).getD j false = true := fun j h => by rw [getD_replicate_false] at h; cases h
      refine ⟨undef, undef, undef, undef, undef, undef, undef, undef, undef, undef, (by simp only [acts1, List.setIfInBounds_toArray, List.set_cons_zero, List.set_cons_succ]), ?_⟩
      exact ⟨fun h => absurd h (nl _), fun h => absurd h (nl _), fun h => absurd h (nl _), fun h => absurd h (nl _), fun h => absurd h (nl _), fun h => absurd h (nl _), fun h => absurd h (nl _), fun h => absurd h (nl _), fun h => absurd h (nl _), fun h => absurd h (nl _), Below.drew (Below.refl _ _)⟩
    case hstep =>
      rintro listed a' wr i hc hi ⟨u7, u9, u10, u11, u12, u13, u14, u15, u16, u17, ha, h⟩
      have hi11 : i < 11 := ready_lt hi
      have hno := ready_not hi
      have hL := listed_iff listed i
      have hii := listed_now hc hi
      have hB : W3.heap.size ≤ wr.heap.size := h.low.size
      have HL := Lib.hid hL; have HII := Lib.hid hii; have H := Lib.hid h; have HC := Lib.hid hc; have HI := Lib.hid hi; have HNO := Lib.hid hno
      clear hL hii hno h hc
      rcases (by omega : i = 0 ∨ i = 1 ∨ i = 2 ∨ i = 3 ∨ i = 4 ∨ i = 5 ∨ i = 6 ∨ i = 7 ∨ i = 8 ∨ i = 9 ∨ i = 10) with rfl | rfl | rfl | rfl | rfl | rfl | rfl | rfl | rfl | rfl | rfl
      · clear hi11 hi
        subst ha
        refine wpOp_step (o := _) rfl (fun K hK => ?_)
        have HK := Lib.hid hK; clear hK
        simp only [acts1, List.setIfInBounds_toArray, List.set_cons_zero, List.set_cons_succ]
        go_simp
        exact HK.out _ _ ⟨u7, .slice (some ⟨wr.heap.size, 0, none⟩) 0 0, u10, u11, u12, u13, u14, u15, u16, u17, (by simp only [acts1, List.setIfInBounds_toArray, List.set_cons_zero, List.set_cons_succ]), H.out.s0 HL.out HII.out hB⟩
      · clear hi11 hi
        subst ha
        refine wpOp_step (o := _) rfl (fun K hK => ?_)
        have HK := Lib.hid hK; clear hK
        simp only [acts1, List.setIfInBounds_toArray, List.set_cons_zero, List.set_cons_succ]
        go_simp
        exact HK.out _ _ ⟨u7, u9, .pointer (some ⟨w.heap.size, 4, none⟩), u11, u12, u13, u14, u15, u16, u17, (by simp only [acts1, List.setIfInBounds_toArray, List.set_cons_zero, List.set_cons_succ]), H.out.s1 HL.out HII.out⟩
      · clear hi11 hi
        subst ha
        obtain rfl := H.out.f1 (ready_on HI.out (show Region.waitsFor .any _ 2 1 = true by kernel_rfl))
        obtain ⟨⟨-, hc4⟩, -⟩ := STH.out wr H.out.low
        refine wpOp_step (o := _) rfl (fun K hK => ?_)
        have HK := Lib.hid hK; clear hK
        simp only [acts1, List.setIfInBounds_toArray, List.set_cons_zero, List.set_cons_succ]
        go_simp
        exact HK.out _ _ ⟨u7, u9, .pointer (some ⟨w.heap.size, 4, none⟩), .slice A' ks.length c', u12, u13, u14, u15, u16, u17, (by simp only [acts1, List.setIfInBounds_toArray, List.set_cons_zero, List.set_cons_succ]), H.out.s2 HL.out HII.out⟩
      · clear hi11 hi
        have HA := Lib.hid ha; clear ha
        obtain rfl := H.out.f2 (ready_on HI.out (show Region.waitsFor .any _ 3 2 = true by kernel_rfl))
        obtain ⟨g, rfl, h0⟩ := H.out.f0 (ready_on HI.out (show Region.waitsFor .any _ 3 0 = true by kernel_rfl)) HNO.out
        refine wpOp_at (fun o => o.guard = none ∧ o.dst = some 12 ∧ o.op = .call { callee := .builtin .append, args := #[.tmp 9, .tmp 11], argTypes := #[26, 26] }) ⟨_, rfl, rfl, rfl, rfl⟩ (fun o ⟨hog, hod, hop⟩ K hK => ?_)
        have HK := Lib.hid hK; clear hK
        refine step_append_opt hog (.tmp 9) (.tmp 11) 26 hop W3.heap.size 9 j0 _ 1 16 Tryd.underlying26 hj hy0 hy1 hy2 rfl (by decide) (.slice (some ⟨g, 0, none⟩) 0 0) 0 [] (by rw [HA.out]; simp only [acts1, List.setIfInBounds_toArray, List.set_cons_zero, List.set_cons_succ]; rfl) h0 A' ks.length c' (ksCells ks) (by rw [HA.out]; simp only [acts1, List.setIfInBounds_toArray, List.set_cons_zero, List.set_cons_succ]; rfl) (by simp [ksCells]) (by rcases HKC.out with h | ⟨ad, e1, e2⟩; exact Or.inl h; exact Or.inr ⟨ad, e1, fun j u hu => e2 _ H.out.low j u hu⟩) (ks_one ks) (by unfold maxLen; omega) (by omega) hB ?_
        intro v' w1 hK3 gK at3
        rw [Nat.zero_add, List.nil_append] at hK3
        rw [hod]
        exact HK.out _ _ ⟨u7, .slice (some ⟨g, 0, none⟩) 0 0, u10, .slice A' ks.length c', v', u13, u14, u15, u16, u17, (by rw [HA.out]; simp only [acts1, Act.put, List.setIfInBounds_toArray, List.set_cons_zero, List.set_cons_succ]), H.out.s3 HL.out HII.out h0 hB hK3 gK (fun h => HNO.out (HC.out.on (show Region.waitsFor .any _ 8 3 = true by kernel_rfl) h)) (fun h => HNO.out (HC.out.on (show Region.waitsFor .any _ 10 3 = true by kernel_rfl) h))⟩
      · clear hi11 hi
        subst ha
        refine wpOp_step (o := _) rfl (fun K hK => ?_)
        have HK := Lib.hid hK; clear hK
        simp only [acts1, List.setIfInBounds_toArray, List.set_cons_zero, List.set_cons_succ]
        go_simp
        exact HK.out _ _ ⟨u7, u9, u10, u11, u12, .slice (some ⟨wr.heap.size, 0, none⟩) 0 0, u14, u15, u16, u17, (by simp only [acts1, List.setIfInBounds_toArray, List.set_cons_zero, List.set_cons_succ]), H.out.s4 HL.out HII.out hB (fun h => HNO.out (HC.out.on (show Region.waitsFor .any _ 7 4 = true by kernel_rfl) h))⟩
      · clear hi11 hi
        subst ha
        refine wpOp_step (o := _) rfl (fun K hK => ?_)
        have HK := Lib.hid hK; clear hK
        simp only [acts1, List.setIfInBounds_toArray, List.set_cons_zero, List.set_cons_succ]
        go_simp
        exact HK.out _ _ ⟨u7, u9, u10, u11, u12, u13, .pointer (some ⟨w.heap.size, 3, none⟩), u15, u16, u17, (by simp only [acts1, List.setIfInBounds_toArray, List.set_cons_zero, List.set_cons_succ]), H.out.s5 HL.out HII.out⟩
      · clear hi11 hi
        subst ha
        obtain rfl := H.out.f5 (ready_on HI.out (show Region.waitsFor .any _ 6 5 = true by kernel_rfl))
        obtain ⟨⟨hc3, -⟩, -⟩ := STH.out wr H.out.low
        refine wpOp_step (o := _) rfl (fun K hK => ?_)
        have HK := Lib.hid hK; clear hK
        simp only [acts1, List.setIfInBounds_toArray, List.set_cons_zero, List.set_cons_succ]
        go_simp
        exact HK.out _ _ ⟨u7, u9, u10, u11, u12, u13, .pointer (some ⟨w.heap.size, 3, none⟩), .slice A l.length c, u16, u17, (by simp only [acts1, List.setIfInBounds_toArray, List.set_cons_zero, List.set_cons_succ]), H.out.s6 HL.out HII.out⟩
      · clear hi11 hi
        have HA := Lib.hid ha; clear ha
        obtain rfl := H.out.f6 (ready_on HI.out (show Region.waitsFor .any _ 7 6 = true by kernel_rfl))
        have d4 := (ready_on HI.out (show Region.waitsFor .any _ 7 4 = true by kernel_rfl))
        obtain ⟨g, rfl, h4⟩ := H.out.f4 d4 HNO.out
        refine wpOp_at (fun o => o.guard = none ∧ o.dst = some 16 ∧ o.op = .call { callee := .builtin .append, args := #[.tmp 13, .tmp 15], argTypes := #[25, 25] }) ⟨_, rfl, rfl, rfl, rfl⟩ (fun o ⟨hog, hod, hop⟩ K hK => ?_)
        have HK := Lib.hid hK; clear hK
        refine step_append_opt hog (.tmp 13) (.tmp 15) 25 hop W3.heap.size 28 i0 _ 5 80 Tryd.underlying25 hI0 hz0 hz1 hz2 rfl (by decide) (.slice (some ⟨g, 0, none⟩) 0 0) 0 [] (by rw [HA.out]; simp only [acts1, List.setIfInBounds_toArray, List.set_cons_zero, List.set_cons_succ]; rfl) h4 A l.length c xs (by rw [HA.out]; simp only [acts1, List.setIfInBounds_toArray, List.set_cons_zero, List.set_cons_succ]; rfl) HXL.out (by rcases HXC.out with h | ⟨ad, e1, e2⟩; exact Or.inl h; exact Or.inr ⟨ad, e1, fun j u hu => e2 _ H.out.low j u hu⟩) HX1.out (by unfold maxLen; omega) (by omega) hB ?_
        intro v' w1 hL7 gL at7
        rw [Nat.zero_add, List.nil_append] at hL7
        rw [hod]
        exact HK.out _ _ ⟨u7, u9, u10, u11, u12, .slice (some ⟨g, 0, none⟩) 0 0, u14, .slice A l.length c, v', u17, (by rw [HA.out]; simp only [acts1, Act.put, List.setIfInBounds_toArray, List.set_cons_zero, List.set_cons_succ]), H.out.s7 HL.out HII.out h4 d4 HNO.out hB hL7 gL at7 (fun h => HNO.out (HC.out.on (show Region.waitsFor .any _ 8 7 = true by kernel_rfl) h)) (fun h => HNO.out (HC.out.on (show Region.waitsFor .any _ 10 7 = true by kernel_rfl) h))⟩
      · clear hi11 hi
        subst ha
        obtain ⟨K1, k1, rfl⟩ := own_formR (H.out.f3 (ready_on HI.out (show Region.waitsFor .any _ 8 3 = true by kernel_rfl)))
        obtain ⟨L1, l1, rfl⟩ := own_formR (H.out.f7 (ready_on HI.out (show Region.waitsFor .any _ 8 7 = true by kernel_rfl)))
        refine wpOp_step (o := _) rfl (fun K hK => ?_)
        have HK := Lib.hid hK; clear hK
        simp only [acts1, List.setIfInBounds_toArray, List.set_cons_zero, List.set_cons_succ]
        go_simp
        exact HK.out _ _ ⟨u7, u9, u10, u11, _, u13, u14, u15, _, _, (by simp only [acts1, List.setIfInBounds_toArray, List.set_cons_zero, List.set_cons_succ]), H.out.s8 HL.out HII.out⟩
      · clear hi11 hi
        subst ha
        refine wpOp_step (o := _) rfl (fun K hK => ?_)
        have HK := Lib.hid hK; clear hK
        simp only [acts1, List.setIfInBounds_toArray, List.set_cons_zero, List.set_cons_succ]
        go_simp
        exact HK.out _ _ ⟨.pointer (some ⟨wr.heap.size, 0, none⟩), u9, u10, u11, u12, u13, u14, u15, u16, u17, (by simp only [acts1, List.setIfInBounds_toArray, List.set_cons_zero, List.set_cons_succ]), H.out.s9 HL.out HII.out hB (fun h => HNO.out (HC.out.on (show Region.waitsFor .any _ 10 9 = true by kernel_rfl) h))⟩
      · clear hi11 hi
        subst ha
        have d3 := HC.out.on (show Region.waitsFor .any _ 8 3 = true by kernel_rfl) (ready_on HI.out (show Region.waitsFor .any _ 10 8 = true by kernel_rfl))
        have d7 := HC.out.on (show Region.waitsFor .any _ 8 7 = true by kernel_rfl) (ready_on HI.out (show Region.waitsFor .any _ 10 8 = true by kernel_rfl))
        have d9 := (ready_on HI.out (show Region.waitsFor .any _ 10 9 = true by kernel_rfl))
        obtain ⟨K1, k1, rfl⟩ := own_formR (H.out.f3 d3)
        obtain ⟨L1, l1, rfl⟩ := own_formR (H.out.f7 d7)
        obtain rfl := H.out.f8 (ready_on HI.out (show Region.waitsFor .any _ 10 8 = true by kernel_rfl))
        obtain ⟨p, rfl, hp, ⟨cs, hv, z1, -⟩, -, -⟩ := H.out.f9 d9
        rw [z1 HNO.out] at hv
        obtain ⟨⟨p0, p1, p2, p3, p4⟩, q0, q1, q2, q3, q4⟩ := box_of hv
        refine wpOp_step (o := _) rfl (fun K hK => ?_)
        have HK := Lib.hid hK; clear hK
        simp only [acts1, List.setIfInBounds_toArray, List.set_cons_zero, List.set_cons_succ]
        go_simp
        exact HK.out _ _ ⟨.pointer (some ⟨p, 0, none⟩), u9, u10, u11, _, u13, u14, u15, _, _, (by simp only [acts1, List.setIfInBounds_toArray, List.set_cons_zero, List.set_cons_succ]), H.out.s10 HL.out HII.out d3 d7 d9 HNO.out rfl⟩
    case hend =>
      rintro listed a' wr hall ⟨u7, u9, u10, u11, u12, u13, u14, u15, u16, u17, rfl, h⟩
      obtain ⟨p, rfl, hp, ⟨cs, hv, -, z2⟩, -, q2⟩ := h.f9 (hall 9 (by decide))
      obtain rfl := z2 (hall 10 (by decide))
      have hst : OSt W3.heap.size p L0 N0 W3 wr u16 u12 l ks xs := ⟨hv, h.f7 (hall 7 (by decide)), h.f3 (hall 3 (by decide)), q2 (hall 7 (by decide)), HXE.out, h.low⟩
      clear h hall z2 q2 hv
      simp only [acts1, List.setIfInBounds_toArray, List.set_cons_zero, List.set_cons_succ]
      go_wp2_with fail
      go_meet
      exact ⟨p, _, _, rfl, hp, hst⟩
  case rest =>
    obtain ⟨p, lv, kv, rfl, hp, hst⟩ := hcut
    obtain ⟨LA, lc, rfl⟩ := own_formR hst.rowL
    obtain ⟨KA, kc, rfl⟩ := own_formR hst.rowK
    have hps := (Array.getElem?_eq_some_iff.1 hst.var).1
    have hz := Z3.out
    have z3x : wc.heap[w.heap.size + 2]? = some (.cells #[.int .i64 0, .int .i64 0, .string ⟨#[]⟩, .slice none 0 0, .slice none 0 0] 28 (0, 0)) := (hst.low.block _ (by omega)).trans Y3.out
    have x3x : wc.heap[w.heap.size + 1]? = some (.cells #[x0, x1, x2, x3, x4] 28 (0, 0)) := (hst.low.block _ (by omega)).trans Y2.out
    have hkc : ∀ j (h : j < ks.length), ∃ g, KA = some ⟨g, 0, none⟩ ∧ wc.cell? ⟨g, j, none⟩ = some (.string ⟨ks[j].toArray⟩) := fun j h => by
      rcases hst.rowK.2 with ⟨_, h0⟩ | ⟨g, cap, cur, hv, _⟩
      · omega
      · injection hv with e1 e2 e3
        refine ⟨g, e1, ?_⟩
        have := World.ownsRow.cells (g := g) hst.rowK (by rw [e1]; rfl) j (.string ⟨ks[j].toArray⟩) (by unfold ksCells; rw [List.getElem?_map, List.getElem?_eq_getElem h]; rfl)
        rwa [Addr.add_lit, Nat.zero_add] at this
    obtain ⟨⟨p0, p1, p2, p3, p4⟩, q0, q1, q2, q3, q4⟩ := box_of hst.var
    have HST := Lib.hid hst; have Z3X := Lib.hid z3x; have X3X := Lib.hid x3x; have KC := Lib.hid hkc
    clear hst z3x x3x hkc hz
    go_wp2
    go_loop [8] (fun i => ∃ j : Nat, j ≤ ks.length ∧ i = .int .i64 j) (fun i => ks.length - (intOf i).toNat)
    case atStart => exact ⟨0, Nat.zero_le _, rfl⟩
    case round =>
      obtain ⟨j, hjk, rfl⟩ := hrel
      by_cases hlt : j < ks.length
      · obtain ⟨g, rfl, hc⟩ := KC.out j hlt
        have hkn : ks[j] ≠ key := fun e => HNE.out (by rw [← e]; exact List.getElem_mem hlt)
        generalize ks[j] = y at *
        have hbe : (y == key) = false := by rw [beq_eq_false_iff_ne]; exact hkn
        have hj0 : (0 : Int) ≤ j := by omega
        have hj1 : (j : Int) < ks.length := by omega
        clear hkn
        go_wp2
        go_round
        case rel => exact ⟨j + 1, by omega, by go_num⟩
        case measure => simp [intOf]; omega
      · obtain rfl : j = ks.length := by omega
        have HLOW := Lib.hid HST.out.low
        have HPS : p < wc.heap.size := hps
        have ST2 : ∀ W, Below W3.heap.size W3 W → (W.cell? ⟨w.heap.size + 1, 0, none⟩ = some x0 ∧ W.cell? ⟨w.heap.size + 1, 1, none⟩ = some x1 ∧ W.cell? ⟨w.heap.size + 1, 2, none⟩ = some x2 ∧ W.cell? ⟨w.heap.size + 1, 3, none⟩ = some x3 ∧ W.cell? ⟨w.heap.size + 1, 4, none⟩ = some x4) ∧ Below W3.heap.size W3 W := fun W hb => by
          have hz := Z3.out
          exact ⟨(box_of ((hb.block (w.heap.size + 1) (by omega)).trans Y2.out)).1, hb⟩
        have hx5 : ∀ u ∈ [x0, x1, x2, x3, x4], u.oneCell' = true := five_oneR HX.out
        have STX := Lib.hid ST2; have HX5 := Lib.hid hx5
        clear ST2 hx5
        go_upto_region 8 with fail
        go_cut [42] (fun _ wx => ∃ (lv kv : Value), OSt W3.heap.size p L0 N0 W3 wx lv kv (l ++ [x]) (ks ++ [key]) (xs ++ [x0, x1, x2, x3, x4]))
        case first =>
          refine wp_region_invA (fun a0 listed a' wr => ∃ u38 u39 u40 u41 u42 u43 u44 u45 u46 u47 u48 u49, a' = acts8 a0 u38 u39 u40 u41 u42 u43 u44 u45 u46 u47 u48 u49 ∧ R8 W3.heap.size p W3 (.slice LA l.length lc) (.slice KA ks.length kc) l.length ks xs key x0 x1 x2 x3 x4 (fun j => listed.getD j false = true) u38 u39 u40 u41 u42 u43 u44 u45 u46 u47 u48 u49 wr) (by kernel_rfl) (by kernel_rfl) ?h0 ?hstep ?hend
          case h0 =>
            have nl : ∀ j, ¬ (Array.replicate 14 false).getD j false = true := fun j h => by rw [getD_replicate_false] at h; cases h
            refine ⟨u38, u39, u40, u41, u42, u43, u44, u45, u46, u47, u48, u49, (by simp only [acts8, List.setIfInBounds_toArray, List.set_cons_zero, List.set_cons_succ]), ?_⟩
            exact ⟨fun h => absurd h (nl _), fun h => absurd h (nl _), fun h => absurd h (nl _), fun h => absurd h (nl _), fun h => absurd h (nl _), fun _ => World.ownsRow.drew HST.out.rowK, fun h => absurd h (nl _), fun h => absurd h (nl _), fun h => absurd h (nl _), fun h => absurd h (nl _), fun h => absurd h (nl _), fun _ => World.ownsRow.drew HST.out.rowL, fun h => absurd h (nl _), fun h => absurd h (nl _), ⟨_, _, drew_block HST.out.var, fun _ => rfl, fun h => absurd h (nl _), fun _ => rfl, fun h => absurd h (nl _)⟩, Below.drew HST.out.low⟩
          case hstep =>
            rintro listed a' wr i hc hi ⟨u38, u39, u40, u41, u42, u43, u44, u45, u46, u47, u48, u49, ha, h⟩
            have hi14 : i < 14 := ready_lt hi
            have hno := ready_not hi
            have hL := listed_iff listed i
            have hii := listed_now hc hi
            have hB : W3.heap.size ≤ wr.heap.size := h.low.size
            have HL := Lib.hid hL; have HII := Lib.hid hii; have H := Lib.hid h; have HC := Lib.hid hc; have HI := Lib.hid hi; have HNO := Lib.hid hno
            clear hL hii hno h hc
            rcases (by omega : i = 0 ∨ i = 1 ∨ i = 2 ∨ i = 3 ∨ i = 4 ∨ i = 5 ∨ i = 6 ∨ i = 7 ∨ i = 8 ∨ i = 9 ∨ i = 10 ∨ i = 11 ∨ i = 12 ∨ i = 13) with rfl | rfl | rfl | rfl | rfl | rfl | rfl | rfl | rfl | rfl | rfl | rfl | rfl | rfl
            · clear hi14 hi
              subst ha
              refine wpOp_step (o := _) rfl (fun K hK => ?_)
              have HK := Lib.hid hK; clear hK
              simp only [acts8, List.setIfInBounds_toArray, List.set_cons_zero, List.set_cons_succ]
              go_simp
              exact HK.out _ _ ⟨.pointer (some ⟨p, 4, none⟩), u39, u40, u41, u42, u43, u44, u45, u46, u47, u48, u49, (by simp only [acts8, List.setIfInBounds_toArray, List.set_cons_zero, List.set_cons_succ]), H.out.s0 HL.out HII.out⟩
            · clear hi14 hi
              subst ha
              obtain rfl := H.out.f0 (ready_on HI.out (show Region.waitsFor .any _ 1 0 = true by kernel_rfl))
              obtain ⟨lv', kv', hv, e1, -, -, -⟩ := H.out.var
              obtain rfl := e1 (fun h11 => HNO.out (HC.out.on (show Region.waitsFor .any _ 11 1 = true by kernel_rfl) h11))
              have hc4 := (cell_here (o := 4) hv).trans rfl
              have hc4' : wr.cell? ⟨p, 4, none⟩ = some (.slice KA ks.length kc) := hc4
              refine wpOp_step (o := _) rfl (fun K hK => ?_)
              have HK := Lib.hid hK; clear hK
              simp only [acts8, List.setIfInBounds_toArray, List.set_cons_zero, List.set_cons_succ]
              go_simp
              exact HK.out _ _ ⟨.pointer (some ⟨p, 4, none⟩), .slice KA ks.length kc, u40, u41, u42, u43, u44, u45, u46, u47, u48, u49, (by simp only [acts8, List.setIfInBounds_toArray, List.set_cons_zero, List.set_cons_succ]), H.out.s1 HL.out HII.out⟩
            · clear hi14 hi
              subst ha
              refine wpOp_step (o := _) rfl (fun K hK => ?_)
              have HK := Lib.hid hK; clear hK
              simp only [acts8, List.setIfInBounds_toArray, List.set_cons_zero, List.set_cons_succ]
              go_simp
              exact HK.out _ _ ⟨u38, u39, .string ⟨key.toArray⟩, u41, u42, u43, u44, u45, u46, u47, u48, u49, (by simp only [acts8, List.setIfInBounds_toArray, List.set_cons_zero, List.set_cons_succ]), H.out.s2 HL.out HII.out⟩
            · clear hi14 hi
              subst ha
              obtain rfl := H.out.f2 (ready_on HI.out (show Region.waitsFor .any _ 3 2 = true by kernel_rfl))
              refine wpOp_step (o := _) rfl (fun K hK => ?_)
              have HK := Lib.hid hK; clear hK
              simp only [acts8, List.setIfInBounds_toArray, List.set_cons_zero, List.set_cons_succ]
              go_simp
              exact HK.out _ _ ⟨u38, u39, .string ⟨key.toArray⟩, .slice (some ⟨wr.heap.size, 0, none⟩) 1 1, u42, u43, u44, u45, u46, u47, u48, u49, (by simp only [acts8, List.setIfInBounds_toArray, List.set_cons_zero, List.set_cons_succ]), H.out.s3 HL.out HII.out hB⟩
            · clear hi14 hi
              have HA := Lib.hid ha; clear ha
              obtain rfl := H.out.f1 (ready_on HI.out (show Region.waitsFor .any _ 4 1 = true by kernel_rfl))
              obtain ⟨g, rfl, hg⟩ := H.out.f3 (ready_on HI.out (show Region.waitsFor .any _ 4 3 = true by kernel_rfl)) HNO.out
              refine wpOp_at (fun o => o.guard = none ∧ o.dst = some 42 ∧ o.op = .call { callee := .builtin .append, args := #[.tmp 39, .tmp 41], argTypes := #[26, 26] }) ⟨_, rfl, rfl, rfl, rfl⟩ (fun o ⟨hog, hod, hop⟩ K hK => ?_)
              have HK := Lib.hid hK; clear hK
              refine step_append_opt hog (.tmp 39) (.tmp 41) 26 hop W3.heap.size 9 j0 _ 1 16 Tryd.underlying26 hj hy0 hy1 hy2 rfl (by decide) (.slice KA ks.length kc) ks.length (ksCells ks) (by rw [HA.out]; simp only [acts8, List.setIfInBounds_toArray, List.set_cons_zero, List.set_cons_succ]; rfl) (H.out.k4 HNO.out) (some ⟨g, 0, none⟩) 1 1 [.string ⟨key.toArray⟩] (by rw [HA.out]; simp only [acts8, List.setIfInBounds_toArray, List.set_cons_zero, List.set_cons_succ]; rfl) rfl (Or.inr ⟨_, rfl, one_at hg⟩) (by intro u hu; simp at hu; subst hu; rfl) (by unfold maxLen; omega) (by omega) hB ?_
              intro v' w1 hK4 gK at4
              have n11 : ¬ listed.getD 11 false = true := fun h11 => HNO.out (HC.out.on (show Region.waitsFor .any _ 11 4 = true by kernel_rfl) h11)
              rw [hod]
              exact HK.out _ _ ⟨u38, .slice KA ks.length kc, u40, .slice (some ⟨g, 0, none⟩) 1 1, v', u43, u44, u45, u46, u47, u48, u49, (by rw [HA.out]; simp only [acts8, Act.put, List.setIfInBounds_toArray, List.set_cons_zero, List.set_cons_succ]), H.out.s4 HL.out HII.out HNO.out n11 hB hK4 gK⟩
            · clear hi14 hi
              subst ha
              refine wpOp_step (o := _) rfl (fun K hK => ?_)
              have HK := Lib.hid hK; clear hK
              simp only [acts8, List.setIfInBounds_toArray, List.set_cons_zero, List.set_cons_succ]
              go_simp
              exact HK.out _ _ ⟨u38, u39, u40, u41, u42, .pointer (some ⟨p, 3, none⟩), u44, u45, u46, u47, u48, u49, (by simp only [acts8, List.setIfInBounds_toArray, List.set_cons_zero, List.set_cons_succ]), H.out.s5 HL.out HII.out⟩
            · clear hi14 hi
              subst ha
              obtain rfl := H.out.f5 (ready_on HI.out (show Region.waitsFor .any _ 6 5 = true by kernel_rfl))
              obtain ⟨lv', kv', hv, -, -, e3, -⟩ := H.out.var
              obtain rfl := e3 (fun h13 => HNO.out (HC.out.on (show Region.waitsFor .any _ 13 6 = true by kernel_rfl) h13))
              have hc3' : wr.cell? ⟨p, 3, none⟩ = some (.slice LA l.length lc) := cell_here (o := 3) hv
              refine wpOp_step (o := _) rfl (fun K hK => ?_)
              have HK := Lib.hid hK; clear hK
              simp only [acts8, List.setIfInBounds_toArray, List.set_cons_zero, List.set_cons_succ]
              go_simp
              exact HK.out _ _ ⟨u38, u39, u40, u41, u42, .pointer (some ⟨p, 3, none⟩), .slice LA l.length lc, u45, u46, u47, u48, u49, (by simp only [acts8, List.setIfInBounds_toArray, List.set_cons_zero, List.set_cons_succ]), H.out.s6 HL.out HII.out⟩
            · clear hi14 hi
              subst ha
              obtain ⟨⟨c0, c1, c2, c3, c4⟩, -⟩ := STX.out wr H.out.low
              refine wpOp_step (o := _) rfl (fun K hK => ?_)
              have HK := Lib.hid hK; clear hK
              simp only [acts8, List.setIfInBounds_toArray, List.set_cons_zero, List.set_cons_succ]
              go_simp
              exact HK.out _ _ ⟨u38, u39, u40, u41, u42, u43, u44, .agg #[x0, x1, x2, x3, x4], u46, u47, u48, u49, (by simp only [acts8, List.setIfInBounds_toArray, List.set_cons_zero, List.set_cons_succ]), H.out.s7 HL.out HII.out⟩
            · clear hi14 hi
              subst ha
              obtain rfl := H.out.f7 (ready_on HI.out (show Region.waitsFor .any _ 8 7 = true by kernel_rfl))
              refine wpOp_step (o := _) rfl (fun K hK => ?_)
              have HK := Lib.hid hK; clear hK
              simp only [acts8, List.setIfInBounds_toArray, List.set_cons_zero, List.set_cons_succ]
              go_simp
              exact HK.out _ _ ⟨u38, u39, u40, u41, u42, u43, u44, .agg #[x0, x1, x2, x3, x4], .slice (some ⟨wr.heap.size, 0, none⟩) 1 1, u47, u48, u49, (by simp only [acts8, List.setIfInBounds_toArray, List.set_cons_zero, List.set_cons_succ]), H.out.s8 HL.out HII.out hB⟩
            · clear hi14 hi
              have HA := Lib.hid ha; clear ha
              obtain rfl := H.out.f6 (ready_on HI.out (show Region.waitsFor .any _ 9 6 = true by kernel_rfl))
              obtain ⟨g, rfl, hg⟩ := H.out.f8 (ready_on HI.out (show Region.waitsFor .any _ 9 8 = true by kernel_rfl)) HNO.out
              refine wpOp_at (fun o => o.guard = none ∧ o.dst = some 47 ∧ o.op = .call { callee := .builtin .append, args := #[.tmp 44, .tmp 46], argTypes := #[25, 25] }) ⟨_, rfl, rfl, rfl, rfl⟩ (fun o ⟨hog, hod, hop⟩ K hK => ?_)
              have HK := Lib.hid hK; clear hK
              refine step_append_opt hog (.tmp 44) (.tmp 46) 25 hop W3.heap.size 28 i0 _ 5 80 Tryd.underlying25 hI0 hz0 hz1 hz2 rfl (by decide) (.slice LA l.length lc) l.length xs (by rw [HA.out]; simp only [acts8, List.setIfInBounds_toArray, List.set_cons_zero, List.set_cons_succ]; rfl) (H.out.k9 HNO.out) (some ⟨g, 0, none⟩) 1 1 [x0, x1, x2, x3, x4] (by rw [HA.out]; simp only [acts8, List.setIfInBounds_toArray, List.set_cons_zero, List.set_cons_succ]; rfl) rfl (Or.inr ⟨_, rfl, five_at hg⟩) HX5.out (by unfold maxLen; omega) (by omega) hB ?_
              intro v' w1 hL9 gL at9
              have n13 : ¬ listed.getD 13 false = true := fun h13 => HNO.out (HC.out.on (show Region.waitsFor .any _ 13 9 = true by kernel_rfl) h13)
              rw [hod]
              exact HK.out _ _ ⟨u38, u39, u40, u41, u42, u43, .slice LA l.length lc, u45, .slice (some ⟨g, 0, none⟩) 1 1, v', u48, u49, (by rw [HA.out]; simp only [acts8, Act.put, List.setIfInBounds_toArray, List.set_cons_zero, List.set_cons_succ]), H.out.s9 HL.out HII.out HNO.out n13 hB HST.out.far hL9 gL at9⟩
            · clear hi14 hi
              subst ha
              refine wpOp_step (o := _) rfl (fun K hK => ?_)
              have HK := Lib.hid hK; clear hK
              simp only [acts8, List.setIfInBounds_toArray, List.set_cons_zero, List.set_cons_succ]
              go_simp
              exact HK.out _ _ ⟨u38, u39, u40, u41, u42, u43, u44, u45, u46, u47, .pointer (some ⟨p, 4, none⟩), u49, (by simp only [acts8, List.setIfInBounds_toArray, List.set_cons_zero, List.set_cons_succ]), H.out.s10 HL.out HII.out⟩
            · clear hi14 hi
              subst ha
              obtain rfl := H.out.f10 (ready_on HI.out (show Region.waitsFor .any _ 11 10 = true by kernel_rfl))
              have d4 := (ready_on HI.out (show Region.waitsFor .any _ 11 4 = true by kernel_rfl))
              have d9 := (ready_on HI.out (show Region.waitsFor .any _ 11 9 = true by kernel_rfl))
              obtain ⟨A4, q4, rfl⟩ := own_formR (H.out.f4 d4)
              obtain ⟨lv', kv', hv, -⟩ := H.out.var
              have hc4 : wr.cell? ⟨p, 4, none⟩ = some kv' := cell_here (o := 4) hv
              have hf4 : wr.frozen? ⟨p, 4, none⟩ = false := frozen_here hv 4
              refine wpOp_step (o := _) rfl (fun K hK => ?_)
              have HK := Lib.hid hK; clear hK
              simp only [acts8, List.setIfInBounds_toArray, List.set_cons_zero, List.set_cons_succ]
              go_simp
              exact HK.out _ _ ⟨u38, u39, u40, u41, _, u43, u44, u45, u46, u47, .pointer (some ⟨p, 4, none⟩), u49, (by simp only [acts8, List.setIfInBounds_toArray, List.set_cons_zero, List.set_cons_succ]), H.out.s11 HL.out HII.out d4 d9 hp⟩
            · clear hi14 hi
              subst ha
              refine wpOp_step (o := _) rfl (fun K hK => ?_)
              have HK := Lib.hid hK; clear hK
              simp only [acts8, List.setIfInBounds_toArray, List.set_cons_zero, List.set_cons_succ]
              go_simp
              exact HK.out _ _ ⟨u38, u39, u40, u41, u42, u43, u44, u45, u46, u47, u48, .pointer (some ⟨p, 3, none⟩), (by simp only [acts8, List.setIfInBounds_toArray, List.set_cons_zero, List.set_cons_succ]), H.out.s12 HL.out HII.out⟩
            · clear hi14 hi
              subst ha
              obtain rfl := H.out.f12 (ready_on HI.out (show Region.waitsFor .any _ 13 12 = true by kernel_rfl))
              have d4 := (ready_on HI.out (show Region.waitsFor .any _ 13 4 = true by kernel_rfl))
              have d9 := (ready_on HI.out (show Region.waitsFor .any _ 13 9 = true by kernel_rfl))
              obtain ⟨A9, q9, rfl⟩ := own_formR (H.out.f9 d9).1
              obtain ⟨lv', kv', hv, -⟩ := H.out.var
              have hc3 : wr.cell? ⟨p, 3, none⟩ = some lv' := cell_here (o := 3) hv
              have hf3 : wr.frozen? ⟨p, 3, none⟩ = false := frozen_here hv 3
              refine wpOp_step (o := _) rfl (fun K hK => ?_)
              have HK := Lib.hid hK; clear hK
              simp only [acts8, List.setIfInBounds_toArray, List.set_cons_zero, List.set_cons_succ]
              go_simp
              exact HK.out _ _ ⟨u38, u39, u40, u41, u42, u43, u44, u45, u46, _, u48, .pointer (some ⟨p, 3, none⟩), (by simp only [acts8, List.setIfInBounds_toArray, List.set_cons_zero, List.set_cons_succ]), H.out.s13 HL.out HII.out d4 d9 hp⟩
          case hend =>
            rintro listed a' wr hall ⟨u38, u39, u40, u41, u42, u43, u44, u45, u46, u47, u48, u49, rfl, h⟩
            obtain ⟨lv', kv', hv, -, e2, -, e4⟩ := h.var
            obtain rfl := e2 (hall 11 (by decide))
            obtain rfl := e4 (hall 13 (by decide))
            have hgrow := HST.out.grown hp key x HX.out hv (h.f4 (hall 4 (by decide))) (h.f9 (hall 9 (by decide))).1 (h.f9 (hall 9 (by decide))).2 h.low
            clear h hall e2 e4 hv
            simp only [acts8, List.setIfInBounds_toArray, List.set_cons_zero, List.set_cons_succ]
            go_wp2_with fail
            go_meet
            exact ⟨_, _, hgrow⟩
        case rest =>
          obtain ⟨lv2, kv2, hst2⟩ := hcut
          have rl := hst2.rowL
          have rk := hst2.rowK
          rw [List.length_append, List.length_singleton] at rl rk
          obtain ⟨A2, c2, rfl⟩ := own_formR rl
          obtain ⟨A3, c3, rfl⟩ := own_formR rk
          have z3 := Z3.out
          have hps2 := (Array.getElem?_eq_some_iff.1 hst2.var).1
          have z3x : wc.heap[w.heap.size + 2]? = some (.cells #[.int .i64 0, .int .i64 0, .string ⟨#[]⟩, .slice none 0 0, .slice none 0 0] 28 (0, 0)) := (hst2.low.block _ (by omega)).trans Y3.out
          obtain ⟨⟨v0, v1, v2, v3, v4⟩, -⟩ := box_of hst2.var
          obtain ⟨⟨r0, r1, r2, r3, r4⟩, s0, s1, s2, s3, s4⟩ := box_of z3x
          have HST2 := Lib.hid hst2; have Z3X2 := Lib.hid z3x
          clear hst2 rl rk z3 z3x hps2
          go_wp2
          obtain ⟨wf, hwf⟩ : ∃ wf, wf = set5 wc (w.heap.size + 2) 0 (.int .i64 6) (.int .i64 0) (.string ⟨#[]⟩) (.slice A2 (l.length + 1) c2) (.slice A3 (ks.length + 1) c3) := ⟨_, rfl⟩
          change bodyPost _ _ _ _ _ (set5 wc (w.heap.size + 2) 0 (.int .i64 6) (.int .i64 0) (.string ⟨#[]⟩) (.slice A2 (l.length + 1) c2) (.slice A3 (ks.length + 1) c3))
          rw [← hwf]
          have hz3 := Z3.out
          have hxr : wf.heap[w.heap.size + 2]? = some (.cells #[.int .i64 6, .int .i64 0, .string ⟨#[]⟩, .slice A2 (l.length + 1) c2, .slice A3 (ks.length + 1) c3] 28 (0, 0)) := by
            have := set5_here (o := 0) (c0 := .int .i64 6) (c1 := .int .i64 0) (c2 := .string ⟨#[]⟩) (c3 := .slice A2 (l.length + 1) c2) (c4 := .slice A3 (ks.length + 1) c3) Z3X2.out
            rw [hwf]; simpa using this
          have hvf := HST2.out.done hp (by omega) (by omega) (show w.heap.size + 2 < W3.heap.size by omega) (by omega) (by simp; omega) (by simp; omega) (by intro y hy; rcases List.mem_append.1 hy with h | h; exact HZ.out y h; simp at h; subst h; exact hkz)
            (wf := wf) (fun b hb => by rw [hwf]; exact set5_there hb) (by rw [hwf, set5_size])
          have hbf : Below w.heap.size w wf := by rw [hwf]; exact (B3.out.trans (HST2.out.low.mono (by omega))).trans (set5_below (by omega))
          obtain ⟨⟨t0, t1, t2, t3, t4⟩, -⟩ := box_of hxr
          have HVF := Lib.hid hvf; have HBF := Lib.hid hbf
          clear hvf hbf hxr hwf v0 v1 v2 v3 v4 r0 r1 r2 r3 r4 s0 s1 s2 s3 s4
          refine bodyPost_ret (v := .agg #[.int .i64 6, .int .i64 0, .string ⟨#[]⟩, .slice A2 (l.length + 1) c2, .slice A3 (ks.length + 1) c3]) (by simp [results, Tryd.results17, go_sem, t0, t1, t2, t3, t4]) rfl ?_
          exact ⟨_, _, _, _, rfl, HVF.out, HBF.out⟩
end Go.Proofs.YtcbajbpdgmmaeaaDoor
