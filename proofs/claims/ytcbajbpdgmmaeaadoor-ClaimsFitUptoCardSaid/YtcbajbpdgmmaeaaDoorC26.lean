/- Texts merged by program, in build order: JsonPutOld, LawClaimsWrong. -/
import Derived.Test.YtcbajbpdgmmaeaaDoorC07
import Derived.Test.YtcbajbpdgmmaeaaDoorC25
import Derived.Test.YtcbajbpdgmmaeaaDoorC11
import Derived.Deep.DeepCutAuto
import Derived.Deep.DrawnRows
import Derived.Test.YtcbajbpdgmmaeaaDoorC13
namespace Go.Proofs.YtcbajbpdgmmaeaaDoor
open Go.RowKit
set_option linter.unusedVariables false
set_option linter.unusedSimpArgs false

attribute [local go_sem ↓] Go.wp_at_zero Go.wp_at_succ
/-- what Put answers of a key that the object has, at number i0 first -/
def PutOld : Prop := ∀ (k n : Int) (t : List UInt8) (l : List V) (ks : List (List UInt8)) (key : List UInt8) (x : V) (w : World) (L N L0 N0 : Nat) (A A' : Option Addr) (c c' : Nat) (x0 x1 x2 x3 x4 : Value) (jj : Nat)
    (hl : l.length ≤ 100000) (hk : ks.length ≤ 100000) (hz : ∀ y ∈ ks, y.length ≤ 9223372036854775807) (hkz : key.length ≤ 9223372036854775807) (hjl : jj < l.length) (hjk : ∃ h : jj < ks.length, ks[jj] = key) (hne : ∀ i (h : i < ks.length), i < jj → ks[i] ≠ key) (hN : N ≤ w.heap.size) (hN0 : N0 ≤ w.heap.size) (hL0 : L0 ≤ w.heap.size)
    (hnil : (A = none ∧ A' = none ∧ l = [] ∧ ks = [] ∧ c = 0 ∧ c' = 0) ∨ ∃ b o b' o', A = some ⟨b, o, none⟩ ∧ A' = some ⟨b', o', none⟩ ∧ LIs w L N l b o ∧ KIs w L N ks b' o')
    (hit : ∀ i (h : i < l.length) cs, VIs w L N l[i] cs → VIs w L0 N0 l[i] cs) (hx : VIs w L0 N0 x [x0, x1, x2, x3, x4]),
    Calls Tryd.prog 17 #[.agg #[.int .i64 k, .int .i64 n, .string ⟨t.toArray⟩, .slice A l.length c, .slice A' ks.length c'], .string ⟨key.toArray⟩, .agg #[x0, x1, x2, x3, x4]] w fun e w' => ∃ B b B' b', e = .returned (.agg #[.int .i64 6, .int .i64 0, .string ⟨#[]⟩, .slice B l.length b, .slice B' ks.length b']) ∧
      VIs w' L0 w'.heap.size (.mk 6 0 [] (l.set jj x) ks) [.int .i64 6, .int .i64 0, .string ⟨#[]⟩, .slice B l.length b, .slice B' ks.length b'] ∧ Below w.heap.size w w'
set_option maxRecDepth 100000 in
set_option maxHeartbeats 40000000 in
theorem refPut_old : PutOld := by
  intro k n t l ks key x w L N L0 N0 A A' c c' x0 x1 x2 x3 x4 jj hl hk hz hkz hjl hjk hne hN hN0 hL0 hnil hit hx
  obtain ⟨i0, hI0, hz0, hz1, hz2⟩ := info_parts Tryd.infoValR
  obtain ⟨j0, hj, hy0, hy1, hy2⟩ := info_parts Tryd.infoStrR
  obtain ⟨W3, hW3⟩ : ∃ W3, W3 = (((w.alloc (.cells #[.int .i64 k, .int .i64 n, .string ⟨t.toArray⟩, .slice A l.length c, .slice A' ks.length c'] 28)).alloc (.cells #[x0, x1, x2, x3, x4] 28)).alloc (.cells #[.int .i64 0, .int .i64 0, .string ⟨#[]⟩, .slice none 0 0, .slice none 0 0] 28)) := ⟨_, rfl⟩
  have b3 : Below w.heap.size w W3 := by rw [hW3]; exact (((Below.refl _ _).alloc (Nat.le_refl _) _).alloc (by simp) _).alloc (by simp; omega) _
  have z3 : W3.heap.size = w.heap.size + 3 := by rw [hW3]; simp
  have y1 : W3.heap[w.heap.size]? = some (.cells #[.int .i64 k, .int .i64 n, .string ⟨t.toArray⟩, .slice A l.length c, .slice A' ks.length c'] 28 (0, 0)) := by rw [hW3]; exact alloc_block (alloc_block (heap_alloc_last w _))
  have y2 : W3.heap[w.heap.size + 1]? = some (.cells #[x0, x1, x2, x3, x4] 28 (0, 0)) := by
    rw [hW3]; refine alloc_block ?_
    have := heap_alloc_last (w.alloc (.cells #[.int .i64 k, .int .i64 n, .string ⟨t.toArray⟩, .slice A l.length c, .slice A' ks.length c'] 28)) (.cells #[x0, x1, x2, x3, x4] 28)
    simpa using this
  have y3 : W3.heap[w.heap.size + 2]? = some (.cells #[.int .i64 0, .int .i64 0, .string ⟨#[]⟩, .slice none 0 0, .slice none 0 0] 28 (0, 0)) := by
    rw [hW3]
    have := heap_alloc_last ((w.alloc (.cells #[.int .i64 k, .int .i64 n, .string ⟨t.toArray⟩, .slice A l.length c, .slice A' ks.length c'] 28)).alloc (.cells #[x0, x1, x2, x3, x4] 28)) (.cells #[.int .i64 0, .int .i64 0, .string ⟨#[]⟩, .slice none 0 0, .slice none 0 0] 28)
    simpa using this
  have hsz : (W3.heap.size : Nat) = w.heap.size + 3 := z3
  have ST : ∀ W, Below W3.heap.size W3 W → (W.cell? ⟨w.heap.size, 3, none⟩ = some (.slice A l.length c) ∧ W.cell? ⟨w.heap.size, 4, none⟩ = some (.slice A' ks.length c')) ∧ Below W3.heap.size W3 W := fun W hb =>
    ⟨⟨(hb.cell (p := ⟨w.heap.size, 3, none⟩) (by show w.heap.size < _; omega)).trans (cell_here y1), (hb.cell (p := ⟨w.heap.size, 4, none⟩) (by show w.heap.size < _; omega)).trans (cell_here y1)⟩, hb⟩
  obtain ⟨xs, hxl, hxc, hx1, hxe⟩ : ∃ xs : List Value, xs.length = l.length * 5 ∧ ((A = none ∧ l.length = 0 ∧ c = 0) ∨ ∃ ad, A = some ad ∧ ∀ W, Below W3.heap.size W3 W → ∀ j u, xs[j]? = some u → W.cell? (ad.add j) = some u) ∧ (∀ u ∈ xs, u.oneCell' = true) ∧
      ∀ i (h : i < l.length), ∃ c0 c1 c2 c3 c4, xs[i * 5]? = some c0 ∧ xs[i * 5 + 1]? = some c1 ∧ xs[i * 5 + 2]? = some c2 ∧ xs[i * 5 + 3]? = some c3 ∧ xs[i * 5 + 4]? = some c4 ∧ VIs w L0 N0 l[i] [c0, c1, c2, c3, c4] := by
    rcases hnil with ⟨rfl, _, rfl, _, rfl, _⟩ | ⟨b, o, b', o', rfl, rfl, hl1, hk1⟩
    · exact ⟨[], by simp, .inl ⟨rfl, rfl, rfl⟩, by simp, fun i h => absurd h (Nat.not_lt_zero _)⟩
    · obtain ⟨xs, n1, n2, n3, n4⟩ := flat_items hl1
      refine ⟨xs, n1, .inr ⟨_, rfl, fun W hW j u hu => ?_⟩, n3, fun i h => ?_⟩
      · obtain ⟨hb, hc⟩ := n2 j u hu
        rw [Addr.add_lit]
        refine (hW.cell (p := ⟨b, o + j, none⟩) (by show b < _; omega)).trans ((b3.cell (p := ⟨b, o + j, none⟩) (by show b < _; omega)).trans hc)
      · obtain ⟨c0, c1, c2, c3, c4, e0, e1, e2, e3, e4, hv⟩ := n4 i h
        exact ⟨c0, c1, c2, c3, c4, e0, e1, e2, e3, e4, hit i h _ hv⟩
  have hkc : ((A' = none ∧ ks.length = 0 ∧ c' = 0) ∨ ∃ ad, A' = some ad ∧ ∀ W, Below W3.heap.size W3 W → ∀ j u, (ksCells ks)[j]? = some u → W.cell? (ad.add j) = some u) := by
    rcases hnil with ⟨_, rfl, _, rfl, _, rfl⟩ | ⟨b, o, b', o', rfl, rfl, hl1, hk1⟩
    · exact .inl ⟨rfl, rfl, rfl⟩
    · refine .inr ⟨_, rfl, fun W hW j u hu => ?_⟩
      have hj : j < ks.length := by have := (List.getElem?_eq_some_iff.1 hu).1; unfold ksCells at this; simpa using this
      obtain ⟨_, hb, hc⟩ := hk1.get j hj
      have hu' : u = .string ⟨ks[j].toArray⟩ := by
        unfold ksCells at hu
        rw [List.getElem?_map, List.getElem?_eq_getElem hj] at hu
        exact (Option.some.inj hu).symm
      rw [hu', Addr.add_lit]
      exact (hW.cell (p := ⟨b', o' + j, none⟩) (by show b' < _; omega)).trans ((b3.cell (p := ⟨b', o' + j, none⟩) (by show b' < _; omega)).trans hc)
  have hxe3 : ∀ i (h : i < l.length), ∃ c0 c1 c2 c3 c4, xs[i * 5]? = some c0 ∧ xs[i * 5 + 1]? = some c1 ∧ xs[i * 5 + 2]? = some c2 ∧ xs[i * 5 + 3]? = some c3 ∧ xs[i * 5 + 4]? = some c4 ∧ VIs W3 L0 N0 l[i] [c0, c1, c2, c3, c4] := fun i h => by
    obtain ⟨c0, c1, c2, c3, c4, e0, e1, e2, e3, e4, hv⟩ := hxe i h
    exact ⟨c0, c1, c2, c3, c4, e0, e1, e2, e3, e4, hv.below (b3.mono hN0)⟩
  have hx3 := hx.below (b3.mono hN0)
  have HW3 := Lib.hid hW3; have B3 := Lib.hid b3; have Z3 := Lib.hid z3; have Y1 := Lib.hid y1; have Y2 := Lib.hid y2; have Y3 := Lib.hid y3; have STH := Lib.hid ST; have HXE := Lib.hid hxe3; have HX1 := Lib.hid hx1; have HXC := Lib.hid hxc; have HKC := Lib.hid hkc; have HXL := Lib.hid hxl; have HNE := Lib.hid hne; have HX := Lib.hid hx3; have HZ := Lib.hid hz; have HIT := Lib.hid hit
  clear hx3 hxe3 hW3 b3 z3 y1 y2 y3 hsz ST hxe hx1 hxc hkc hxl hne hx hz hit hnil
  go_enter Tryd.func17, Tryd.ntmps17
  go_upto_region 1 with fail
  rw [← HW3.out]
  go_cut [7] (fun s7 wx => ∃ (p : Nat) (lv kv : Value), s7 = .pointer (some ⟨p, 0, none⟩) ∧ W3.heap.size ≤ p ∧ OSt W3.heap.size p L0 N0 W3 wx lv kv l ks xs)
  case first =>
    refine wp_region_invA (fun a0 listed a' wr => ∃ u7 u9 u10 u11 u12 u13 u14 u15 u16 u17, a' = acts1 a0 u7 u9 u10 u11 u12 u13 u14 u15 u16 u17 ∧ R1 W3.heap.size w.heap.size W3 A A' l.length c c' ks xs (fun j => listed.getD j false = true) u7 u9 u10 u11 u12 u13 u14 u15 u16 u17 wr) (by kernel_rfl) (by kernel_rfl) ?h0 ?hstep ?hend
    case h0 =>
      have nl : ∀ j, ¬ (Array.replicate 11 false).getD j false = true := fun j h => by rw [getD_replicate_false] at h; cases h
      refine ⟨undef, undef, undef, undef, undef, undef, undef, undef, undef, undef, (by simp only [acts1, List.setIfInBounds_toArray, List.set_cons_zero, List.set_cons_succ]), ?_⟩
      exact ⟨fun h => absurd h (nl _), fun h => absurd h (nl _), fun h => absurd h (nl _), fun h => absurd h (nl _), fun h => absurd h (nl _), fun h => absurd h (nl _), fun h => absurd h (nl _), fun h => absurd h (nl _), fun h => absurd h (nl _), fun h => absurd h (nl _), Below.drew (Below.refl _ _)⟩
    case hstep =>
      rintro listed a' wr i hc hi ⟨u7, u9, u10, u11, u12, u13, u14, u15, u16, u17, ha, h⟩
      have hi11 : i < 11 := ready_lt hi
      have hno := ready_not hi
      have hL := listed_iff listed i
      have hii := listed_now hc hi
      have hB : W3.heap.size ≤ wr.heap.size := h.low.size
      have HL := Lib.hid hL; have HII := Lib.hid hii; have H := Lib.hid h; have HC := Lib.hid hc; have HI := Lib.hid hi; have HNO := Lib.hid hno
      clear hL hii hno h hc
      rcases (by omega : i = 0 ∨ i = 1 ∨ i = 2 ∨ i = 3 ∨ i = 4 ∨ i = 5 ∨ i = 6 ∨ i = 7 ∨ i = 8 ∨ i = 9 ∨ i = 10) with rfl | rfl | rfl | rfl | rfl | rfl | rfl | rfl | rfl | rfl | rfl
      · clear hi11 hi
        subst ha
        refine wpOp_step (o := _) rfl (fun K hK => ?_)
        have HK := Lib.hid hK; clear hK
        simp only [acts1, List.setIfInBounds_toArray, List.set_cons_zero, List.set_cons_succ]
        go_simp
        exact HK.out _ _ ⟨u7, .slice (some ⟨wr.heap.size, 0, none⟩) 0 0, u10, u11, u12, u13, u14, u15, u16, u17, (by simp only [acts1, List.setIfInBounds_toArray, List.set_cons_zero, List.set_cons_succ]), H.out.s0 HL.out HII.out hB⟩
      · clear hi11 hi
        subst ha
        refine wpOp_step (o := _) rfl (fun K hK => ?_)
        have HK := Lib.hid hK; clear hK
        simp only [acts1, List.setIfInBounds_toArray, List.set_cons_zero, List.set_cons_succ]
        go_simp
        exact HK.out _ _ ⟨u7, u9, .pointer (some ⟨w.heap.size, 4, none⟩), u11, u12, u13, u14, u15, u16, u17, (by simp only [acts1, List.setIfInBounds_toArray, List.set_cons_zero, List.set_cons_succ]), H.out.s1 HL.out HII.out⟩
      · clear hi11 hi
        subst ha
        obtain rfl := H.out.f1 (ready_on HI.out (show Region.waitsFor .any _ 2 1 = true by kernel_rfl))
        obtain ⟨⟨-, hc4⟩, -⟩ := STH.out wr H.out.low
        refine wpOp_step (o := _) rfl (fun K hK => ?_)
        have HK := Lib.hid hK; clear hK
        simp only [acts1, List.setIfInBounds_toArray, List.set_cons_zero, List.set_cons_succ]
        go_simp
        exact HK.out _ _ ⟨u7, u9, .pointer (some ⟨w.heap.size, 4, none⟩), .slice A' ks.length c', u12, u13, u14, u15, u16, u17, (by simp only [acts1, List.setIfInBounds_toArray, List.set_cons_zero, List.set_cons_succ]), H.out.s2 HL.out HII.out⟩
      · clear hi11 hi
        have HA := Lib.hid ha; clear ha
        obtain rfl := H.out.f2 (ready_on HI.out (show Region.waitsFor .any _ 3 2 = true by kernel_rfl))
        obtain ⟨g, rfl, h0⟩ := H.out.f0 (ready_on HI.out (show Region.waitsFor .any _ 3 0 = true by kernel_rfl)) HNO.out
        refine wpOp_at (fun o => o.guard = none ∧ o.dst = some 12 ∧ o.op = .call { callee := .builtin .append, args := #[.tmp 9, .tmp 11], argTypes := #[26, 26] }) ⟨_, rfl, rfl, rfl, rfl⟩ (fun o ⟨hog, hod, hop⟩ K hK => ?_)
        have HK := Lib.hid hK; clear hK
        refine step_append_opt hog (.tmp 9) (.tmp 11) 26 hop W3.heap.size 9 j0 _ 1 16 Tryd.underlying26 hj hy0 hy1 hy2 rfl (by decide) (.slice (some ⟨g, 0, none⟩) 0 0) 0 [] (by rw [HA.out]; simp only [acts1, List.setIfInBounds_toArray, List.set_cons_zero, List.set_cons_succ]; rfl) h0 A' ks.length c' (ksCells ks) (by rw [HA.out]; simp only [acts1, List.setIfInBounds_toArray, List.set_cons_zero, List.set_cons_succ]; rfl) (by simp [ksCells]) (by rcases HKC.out with h | ⟨ad, e1, e2⟩; exact Or.inl h; exact Or.inr ⟨ad, e1, fun j u hu => e2 _ H.out.low j u hu⟩) (ks_one ks) (by unfold maxLen; omega) (by omega) hB ?_
        intro v' w1 hK3 gK at3
        rw [Nat.zero_add, List.nil_append] at hK3
        rw [hod]
        exact HK.out _ _ ⟨u7, .slice (some ⟨g, 0, none⟩) 0 0, u10, .slice A' ks.length c', v', u13, u14, u15, u16, u17, (by rw [HA.out]; simp only [acts1, Act.put, List.setIfInBounds_toArray, List.set_cons_zero, List.set_cons_succ]), H.out.s3 HL.out HII.out h0 hB hK3 gK (fun h => HNO.out (HC.out.on (show Region.waitsFor .any _ 8 3 = true by kernel_rfl) h)) (fun h => HNO.out (HC.out.on (show Region.waitsFor .any _ 10 3 = true by kernel_rfl) h))⟩
      · clear hi11 hi
        subst ha
        refine wpOp_step (o := _) rfl (fun K hK => ?_)
        have HK := Lib.hid hK; clear hK
        simp only [acts1, List.setIfInBounds_toArray, List.set_cons_zero, List.set_cons_succ]
        go_simp
        exact HK.out _ _ ⟨u7, u9, u10, u11, u12, .slice (some ⟨wr.heap.size, 0, none⟩) 0 0, u14, u15, u16, u17, (by simp only [acts1, List.setIfInBounds_toArray, List.set_cons_zero, List.set_cons_succ]), H.out.s4 HL.out HII.out hB (fun h => HNO.out (HC.out.on (show Region.waitsFor .any _ 7 4 = true by kernel_rfl) h))⟩
      · clear hi11 hi
        subst ha
        refine wpOp_step (o := _) rfl (fun K hK => ?_)
        have HK := Lib.hid hK; clear hK
        simp only [acts1, List.setIfInBounds_toArray, List.set_cons_zero, List.set_cons_succ]
        go_simp
        exact HK.out _ _ ⟨u7, u9, u10, u11, u12, u13, .pointer (some ⟨w.heap.size, 3, none⟩), u15, u16, u17, (by simp only [acts1, List.setIfInBounds_toArray, List.set_cons_zero, List.set_cons_succ]), H.out.s5 HL.out HII.out⟩
      · clear hi11 hi
        subst ha
        obtain rfl := H.out.f5 (ready_on HI.out (show Region.waitsFor .any _ 6 5 = true by kernel_rfl))
        obtain ⟨⟨hc3, -⟩, -⟩ := STH.out wr H.out.low
        refine wpOp_step (o := _) rfl (fun K hK => ?_)
        have HK := Lib.hid hK; clear hK
        simp only [acts1, List.setIfInBounds_toArray, List.set_cons_zero, List.set_cons_succ]
        go_simp
        exact HK.out _ _ ⟨u7, u9, u10, u11, u12, u13, .pointer (some ⟨w.heap.size, 3, none⟩), .slice A l.length c, u16, u17, (by simp only [acts1, List.setIfInBounds_toArray, List.set_cons_zero, List.set_cons_succ]), H.out.s6 HL.out HII.out⟩
      · clear hi11 hi
        have HA := Lib.hid ha; clear ha
        obtain rfl := H.out.f6 (ready_on HI.out (show Region.waitsFor .any _ 7 6 = true by kernel_rfl))
        have d4 := (ready_on HI.out (show Region.waitsFor .any _ 7 4 = true by kernel_rfl))
        obtain ⟨g, rfl, h4⟩ := H.out.f4 d4 HNO.out
        refine wpOp_at (fun o => o.guard = none ∧ o.dst = some 16 ∧ o.op = .call { callee := .builtin .append, args := #[.tmp 13, .tmp 15], argTypes := #[25, 25] }) ⟨_, rfl, rfl, rfl, rfl⟩ (fun o ⟨hog, hod, hop⟩ K hK => ?_)
        have HK := Lib.hid hK; clear hK
        refine step_append_opt hog (.tmp 13) (.tmp 15) 25 hop W3.heap.size 28 i0 _ 5 80 Tryd.underlying25 hI0 hz0 hz1 hz2 rfl (by decide) (.slice (some ⟨g, 0, none⟩) 0 0) 0 [] (by rw [HA.out]; simp only [acts1, List.setIfInBounds_toArray, List.set_cons_zero, List.set_cons_succ]; rfl) h4 A l.length c xs (by rw [HA.out]; simp only [acts1, List.setIfInBounds_toArray, List.set_cons_zero, List.set_cons_succ]; rfl) HXL.out (by rcases HXC.out with h | ⟨ad, e1, e2⟩; exact Or.inl h; exact Or.inr ⟨ad, e1, fun j u hu => e2 _ H.out.low j u hu⟩) HX1.out (by unfold maxLen; omega) (by omega) hB ?_
        intro v' w1 hL7 gL at7
        rw [Nat.zero_add, List.nil_append] at hL7
        rw [hod]
        exact HK.out _ _ ⟨u7, u9, u10, u11, u12, .slice (some ⟨g, 0, none⟩) 0 0, u14, .slice A l.length c, v', u17, (by rw [HA.out]; simp only [acts1, Act.put, List.setIfInBounds_toArray, List.set_cons_zero, List.set_cons_succ]), H.out.s7 HL.out HII.out h4 d4 HNO.out hB hL7 gL at7 (fun h => HNO.out (HC.out.on (show Region.waitsFor .any _ 8 7 = true by kernel_rfl) h)) (fun h => HNO.out (HC.out.on (show Region.waitsFor .any _ 10 7 = true by kernel_rfl) h))⟩
      · clear hi11 hi
        subst ha
        obtain ⟨K1, k1, rfl⟩ := own_formR (H.out.f3 (ready_on HI.out (show Region.waitsFor .any _ 8 3 = true by kernel_rfl)))
        obtain ⟨L1, l1, rfl⟩ := own_formR (H.out.f7 (ready_on HI.out (show Region.waitsFor .any _ 8 7 = true by kernel_rfl)))
        refine wpOp_step (o := _) rfl (fun K hK => ?_)
        have HK := Lib.hid hK; clear hK
        simp only [acts1, List.setIfInBounds_toArray, List.set_cons_zero, List.set_cons_succ]
        go_simp
        exact HK.out _ _ ⟨u7, u9, u10, u11, _, u13, u14, u15, _, _, (by simp only [acts1, List.setIfInBounds_toArray, List.set_cons_zero, List.set_cons_succ]), H.out.s8 HL.out HII.out⟩
      · clear hi11 hi
        subst ha
        refine wpOp_step (o := _) rfl (fun K hK => ?_)
        have HK := Lib.hid hK; clear hK
        simp only [acts1, List.setIfInBounds_toArray, List.set_cons_zero, List.set_cons_succ]
        go_simp
        exact HK.out _ _ ⟨.pointer (some ⟨wr.heap.size, 0, none⟩), u9, u10, u11, u12, u13, u14, u15, u16, u17, (by simp only [acts1, List.setIfInBounds_toArray, List.set_cons_zero, List.set_cons_succ]), H.out.s9 HL.out HII.out hB (fun h => HNO.out (HC.out.on (show Region.waitsFor .any _ 10 9 = true by kernel_rfl) h))⟩
      · clear hi11 hi
        subst ha
        have d3 := HC.out.on (show Region.waitsFor .any _ 8 3 = true by kernel_rfl) (ready_on HI.out (show Region.waitsFor .any _ 10 8 = true by kernel_rfl))
        have d7 := HC.out.on (show Region.waitsFor .any _ 8 7 = true by kernel_rfl) (ready_on HI.out (show Region.waitsFor .any _ 10 8 = true by kernel_rfl))
        have d9 := (ready_on HI.out (show Region.waitsFor .any _ 10 9 = true by kernel_rfl))
        obtain ⟨K1, k1, rfl⟩ := own_formR (H.out.f3 d3)
        obtain ⟨L1, l1, rfl⟩ := own_formR (H.out.f7 d7)
        obtain rfl := H.out.f8 (ready_on HI.out (show Region.waitsFor .any _ 10 8 = true by kernel_rfl))
        obtain ⟨p, rfl, hp, ⟨cs, hv, z1, -⟩, -, -⟩ := H.out.f9 d9
        rw [z1 HNO.out] at hv
        obtain ⟨⟨p0, p1, p2, p3, p4⟩, q0, q1, q2, q3, q4⟩ := box_of hv
        refine wpOp_step (o := _) rfl (fun K hK => ?_)
        have HK := Lib.hid hK; clear hK
        simp only [acts1, List.setIfInBounds_toArray, List.set_cons_zero, List.set_cons_succ]
        go_simp
        exact HK.out _ _ ⟨.pointer (some ⟨p, 0, none⟩), u9, u10, u11, _, u13, u14, u15, _, _, (by simp only [acts1, List.setIfInBounds_toArray, List.set_cons_zero, List.set_cons_succ]), H.out.s10 HL.out HII.out d3 d7 d9 HNO.out rfl⟩
    case hend =>
      rintro listed a' wr hall ⟨u7, u9, u10, u11, u12, u13, u14, u15, u16, u17, rfl, h⟩
      obtain ⟨p, rfl, hp, ⟨cs, hv, -, z2⟩, -, q2⟩ := h.f9 (hall 9 (by decide))
      obtain rfl := z2 (hall 10 (by decide))
      have hst : OSt W3.heap.size p L0 N0 W3 wr u16 u12 l ks xs := ⟨hv, h.f7 (hall 7 (by decide)), h.f3 (hall 3 (by decide)), q2 (hall 7 (by decide)), HXE.out, h.low⟩
      clear h hall z2 q2 hv
      simp only [acts1, List.setIfInBounds_toArray, List.set_cons_zero, List.set_cons_succ]
      go_wp2_with fail
      go_meet
      exact ⟨p, _, _, rfl, hp, hst⟩
  case rest =>
    obtain ⟨p, lv, kv, rfl, hp, hst⟩ := hcut
    obtain ⟨LA, lc, rfl⟩ := own_formR hst.rowL
    obtain ⟨KA, kc, rfl⟩ := own_formR hst.rowK
    have hps := (Array.getElem?_eq_some_iff.1 hst.var).1
    have hz := Z3.out
    have z3x : wc.heap[w.heap.size + 2]? = some (.cells #[.int .i64 0, .int .i64 0, .string ⟨#[]⟩, .slice none 0 0, .slice none 0 0] 28 (0, 0)) := (hst.low.block _ (by omega)).trans Y3.out
    have x3x : wc.heap[w.heap.size + 1]? = some (.cells #[x0, x1, x2, x3, x4] 28 (0, 0)) := (hst.low.block _ (by omega)).trans Y2.out
    have hkc : ∀ j (h : j < ks.length), ∃ g, KA = some ⟨g, 0, none⟩ ∧ wc.cell? ⟨g, j, none⟩ = some (.string ⟨ks[j].toArray⟩) := fun j h => by
      rcases hst.rowK.2 with ⟨_, h0⟩ | ⟨g, cap, cur, hv, _⟩
      · omega
      · injection hv with e1 e2 e3
        refine ⟨g, e1, ?_⟩
        have := World.ownsRow.cells (g := g) hst.rowK (by rw [e1]; rfl) j (.string ⟨ks[j].toArray⟩) (by unfold ksCells; rw [List.getElem?_map, List.getElem?_eq_getElem h]; rfl)
        rwa [Addr.add_lit, Nat.zero_add] at this
    obtain ⟨⟨p0, p1, p2, p3, p4⟩, q0, q1, q2, q3, q4⟩ := box_of hst.var
    have HST := Lib.hid hst; have Z3X := Lib.hid z3x; have X3X := Lib.hid x3x; have KC := Lib.hid hkc
    clear hst z3x x3x hkc hz
    obtain ⟨hjk1, hjk2⟩ := hjk
    have HJ2 := Lib.hid hjk2; clear hjk2
    go_wp2
    go_loop [8] (fun i => ∃ j : Nat, j ≤ jj ∧ i = .int .i64 j) (fun i => jj - (intOf i).toNat)
    case atStart => exact ⟨0, Nat.zero_le _, rfl⟩
    case round =>
      obtain ⟨j, hjk, rfl⟩ := hrel
      have hlk : j < ks.length := by omega
      obtain ⟨g, rfl, hc⟩ := KC.out j hlk
      have hj0 : (0 : Int) ≤ j := by omega
      have hj1 : (j : Int) < ks.length := by omega
      by_cases hlt : j < jj
      · have hkn : ks[j] ≠ key := HNE.out j hlk hlt
        generalize ks[j] = y at *
        have hbe : (y == key) = false := by rw [beq_eq_false_iff_ne]; exact hkn
        clear hkn
        go_wp2
        go_round
        case rel => exact ⟨j + 1, by omega, by go_num⟩
        case measure => simp [intOf]; omega
      · obtain rfl : j = jj := by omega
        have hkn : ks[j] = key := HJ2.out
        generalize ks[j] = y at *
        have hbe : (y == key) = true := by rw [beq_iff_eq]; exact hkn
        clear hkn
        have hj2 : (j : Int) < l.length := by omega
        obtain ⟨gL, rfl⟩ : ∃ gL, LA = some ⟨gL, 0, none⟩ := by
          rcases HST.out.rowL.2 with ⟨_, h0⟩ | ⟨gL, cap, cur, hv, _⟩
          · omega
          · injection hv with e1 _ _; exact ⟨gL, e1⟩
        obtain ⟨⟨r0, r1, r2, r3, r4⟩, -⟩ := box_of X3X.out
        have hxl : xs.length = l.length * 5 := HST.out.rowL.1
        have hcl : ∀ k, k < 5 → ∃ u, wc.cell? ⟨gL, j * 5 + k, none⟩ = some u := fun k hk => by
          have := World.ownsRow.cells (g := gL) HST.out.rowL rfl (j * 5 + k) (xs[j * 5 + k]'(by omega)) (List.getElem?_eq_getElem _)
          rw [Addr.add_lit, Nat.zero_add] at this
          exact ⟨_, this⟩
        obtain ⟨s0, c0⟩ := hcl 0 (by decide)
        obtain ⟨s1, c1⟩ := hcl 1 (by decide)
        obtain ⟨s2, c2⟩ := hcl 2 (by decide)
        obtain ⟨s3, c3⟩ := hcl 3 (by decide)
        obtain ⟨s4, c4⟩ := hcl 4 (by decide)
        have f0 := HST.out.rowL.frozenAt (j * 5)
        have f1 := HST.out.rowL.frozenAt (j * 5 + 1)
        have f2 := HST.out.rowL.frozenAt (j * 5 + 2)
        have f3 := HST.out.rowL.frozenAt (j * 5 + 3)
        have f4 := HST.out.rowL.frozenAt (j * 5 + 4)
        have hx5 : ∀ u ∈ [x0, x1, x2, x3, x4], u.oneCell' = true := five_oneR HX.out
        have o0 := hx5 x0 (by simp); have o1 := hx5 x1 (by simp); have o2 := hx5 x2 (by simp); have o3 := hx5 x3 (by simp); have o4 := hx5 x4 (by simp)
        clear hcl hxl hx5
        rw [Nat.add_zero] at c0
        have hxf := HX.out.form
        obtain ⟨z1, z2, z3, z4, hz⟩ := hxf
        simp only [List.cons.injEq, and_true] at hz
        obtain ⟨rfl, rfl, rfl, rfl, rfl⟩ := hz
        obtain ⟨X2, hX2⟩ : ∃ D : ByteArray, (⟨x.text.toArray⟩ : ByteArray) = D := ⟨_, rfl⟩
        have hput := HST.out.put j hjl x HX.out
        obtain ⟨wp, hwp⟩ : ∃ wp, wp = set5 wc gL (j * 5) (.int .i64 x.kind) (.int .i64 x.num) (.string ⟨x.text.toArray⟩) (.slice z1 x.list.length z2) (.slice z3 x.keys.length z4) := ⟨_, rfl⟩
        rw [← hwp] at hput
        have HPUT := Lib.hid hput; have HWP := Lib.hid hwp
        clear hput hwp hX2
        go_upto_region 7 with fail
        change Code.wp _ _ _ _ (set5 wc gL (j * 5) (.int .i64 x.kind) (.int .i64 x.num) (.string ⟨x.text.toArray⟩) (.slice z1 x.list.length z2) (.slice z3 x.keys.length z4))
        rw [← HWP.out]
        have hz3 := Z3.out
        have hgL : W3.heap.size ≤ gL := (HST.out.rowL.lt gL rfl).1
        have zp : wp.heap[w.heap.size + 2]? = some (.cells #[.int .i64 0, .int .i64 0, .string ⟨#[]⟩, .slice none 0 0, .slice none 0 0] 28 (0, 0)) := by
          rw [HWP.out]; exact (set5_there (by omega)).trans Z3X.out
        clear p0 p1 p2 p3 p4 q0 q1 q2 q3 q4 c0 c1 c2 c3 c4 f0 f1 f2 f3 f4 r0 r1 r2 r3 r4 hc
        obtain ⟨⟨p0, p1, p2, p3, p4⟩, -⟩ := box_of HPUT.out.var
        obtain ⟨⟨r0, r1, r2, r3, r4⟩, t0, t1, t2, t3, t4⟩ := box_of zp
        have ZP := Lib.hid zp
        clear zp
        go_wp2
        obtain ⟨wf, hwf⟩ : ∃ wf, wf = set5 wp (w.heap.size + 2) 0 (.int .i64 6) (.int .i64 0) (.string ⟨#[]⟩) (.slice (some ⟨gL, 0, none⟩) l.length lc) (.slice (some ⟨g, 0, none⟩) ks.length kc) := ⟨_, rfl⟩
        change bodyPost _ _ _ _ _ (set5 wp (w.heap.size + 2) 0 (.int .i64 6) (.int .i64 0) (.string ⟨#[]⟩) (.slice (some ⟨gL, 0, none⟩) l.length lc) (.slice (some ⟨g, 0, none⟩) ks.length kc))
        rw [← hwf]
        have hxr : wf.heap[w.heap.size + 2]? = some (.cells #[.int .i64 6, .int .i64 0, .string ⟨#[]⟩, .slice (some ⟨gL, 0, none⟩) l.length lc, .slice (some ⟨g, 0, none⟩) ks.length kc] 28 (0, 0)) := by
          have := set5_here (o := 0) (c0 := .int .i64 6) (c1 := .int .i64 0) (c2 := .string ⟨#[]⟩) (c3 := .slice (some ⟨gL, 0, none⟩) l.length lc) (c4 := .slice (some ⟨g, 0, none⟩) ks.length kc) ZP.out
          rw [hwf]; simpa using this
        have hvf := HPUT.out.done hp (by omega) (by omega) (show w.heap.size + 2 < W3.heap.size by omega) (by omega) (by simp; omega) (by omega) HZ.out
          (wf := wf) (fun b hb => by rw [hwf]; exact set5_there hb) (by rw [hwf, set5_size])
        have hbf : Below w.heap.size w wf := by rw [hwf]; exact (B3.out.trans (HPUT.out.low.mono (by omega))).trans (set5_below (by omega))
        obtain ⟨⟨y0, y1, y2, y3, y4⟩, -⟩ := box_of hxr
        have HVF := Lib.hid hvf; have HBF := Lib.hid hbf
        clear hvf hbf hxr hwf p0 p1 p2 p3 p4 r0 r1 r2 r3 r4 t0 t1 t2 t3 t4
        refine bodyPost_ret (v := .agg #[.int .i64 6, .int .i64 0, .string ⟨#[]⟩, .slice (some ⟨gL, 0, none⟩) l.length lc, .slice (some ⟨g, 0, none⟩) ks.length kc]) (by simp [results, Tryd.results17, go_sem, y0, y1, y2, y3, y4]) rfl ?_
        exact ⟨_, _, _, _, rfl, HVF.out, HBF.out⟩
end Go.Proofs.YtcbajbpdgmmaeaaDoor
namespace Go.Proofs.YtcbajbpdgmmaeaaDoor
open Go.RowKit
set_option linter.unusedVariables false
set_option linter.unusedSimpArgs false

def whichS (j : Nat) : ByteArray := ⟨(whichK j).toArray⟩
theorem whichK_at (j : Nat) (hj : j < 5) : whichI j < 6 ∧ (∃ h : whichI j < [wIss, wSub, wAud, wIat, wExp, wNonce].length, [wIss, wSub, wAud, wIat, wExp, wNonce][whichI j] = whichK j) ∧ (∀ i (h : i < [wIss, wSub, wAud, wIat, wExp, wNonce].length), i < whichI j → [wIss, wSub, wAud, wIat, wExp, wNonce][i] ≠ whichK j) ∧ (fieldV (whichK j) goodC).getD V.zero = whichV j ∧ (whichK j).length ≤ 100 := by
  match j, hj with
  | 0, _ => exact ⟨by decide, ⟨by decide, by decide⟩, by decide, by unfold goodC; show (fieldV wIss _).getD _ = _; rw [fIss]; rfl, by decide⟩
  | 1, _ => exact ⟨by decide, ⟨by decide, by decide⟩, by decide, by unfold goodC; show (fieldV wSub _).getD _ = _; rw [fSub]; rfl, by decide⟩
  | 2, _ => exact ⟨by decide, ⟨by decide, by decide⟩, by decide, by unfold goodC; show (fieldV wAud _).getD _ = _; rw [fAud]; rfl, by decide⟩
  | 3, _ => exact ⟨by decide, ⟨by decide, by decide⟩, by decide, by unfold goodC; show (fieldV wExp _).getD _ = _; rw [fExp]; rfl, by decide⟩
  | 4, _ => exact ⟨by decide, ⟨by decide, by decide⟩, by decide, by unfold goodC; show (fieldV wNonce _).getD _ = _; rw [fNonce _ _ _ _ _ _ (by decide)]; rfl, by decide⟩
theorem whichS_sub (j : Nat) (hj : j < 5) : ((whichS j).toList == [115, 117, 98]) = decide (j = 1) ∧ ((whichS j).toList == [101, 120, 112]) = decide (j = 3) := by
  unfold whichS
  rw [bt_list]
  match j, hj with
  | 0, _ => exact ⟨rfl, rfl⟩
  | 1, _ => exact ⟨rfl, rfl⟩
  | 2, _ => exact ⟨rfl, rfl⟩
  | 3, _ => exact ⟨rfl, rfl⟩
  | 4, _ => exact ⟨rfl, rfl⟩
theorem goodC_show : goodC.show.length ≤ 10000 := by decide +kernel
/-- a value that fits and holds none is plain -/
theorem fits_plain {v : V} {d : Nat} (hf : v.fits d = true) (h5 : v.kind ≠ 5) (h6 : v.kind ≠ 6) : Plain v := by
  obtain ⟨k, n, t, l, ks⟩ := v
  have H := head_says (fits_split hf).1
  exact ⟨List.length_eq_zero_iff.1 (H.list h5 h6), H.none h6⟩
theorem plain_fits {v : V} (hp : Plain v) (d e : Nat) : v.fits (d + 1) = v.fits (e + 1) := by
  obtain ⟨k, n, t, l, ks⟩ := v
  obtain ⟨h1, h2⟩ := hp
  have e1 : l = [] := h1
  subst e1
  rw [fits_mk, fits_mk]
  simp [V.fitsAll]
theorem bad_len {j : Nat} {v : V} (hf : v.fits 7 = true) (hp : Plain v) (ht : v.text.length ≤ 500) : (badC j v).show.length ≤ 10000000000000 := by
  have hb := badC_fits j v 6 hf
  have hs := show_wt _ _ (Nat.le_refl _) (fits_isgood hb)
  have hv : v.wt ≤ 501 := by
    obtain ⟨k, n, t, l, ks⟩ := v
    obtain ⟨h1, h2⟩ := hp
    have e1 : l = [] := h1
    have e2 : ks = [] := h2
    have ht' : t.length ≤ 500 := ht
    subst e1; subst e2
    rw [wt_mk, wts_nil, kwts_nil]; omega
  have hset : ∀ (l : List V) (i : Nat), V.wts (l.set i v) ≤ V.wts l + v.wt := fun l => by
    induction l with
    | nil => intro i; simp [wts_nil]
    | cons a r ih =>
      intro i
      cases i with
      | zero => rw [List.set_cons_zero, wts_cons, wts_cons]; omega
      | succ i => rw [List.set_cons_succ, wts_cons, wts_cons]; have := ih i; omega
  have hw : (badC j v).wt ≤ 10000 := by
    unfold badC
    rw [wt_mk]
    have h1 := hset [textV cI, textV cS, textV cA, numV 0, numV 50, textV cN] (whichI j)
    have h2 : V.wts [textV cI, textV cS, textV cA, numV 0, numV 50, textV cN] ≤ 1000 := by decide +kernel
    have h3 : kwts [wIss, wSub, wAud, wIat, wExp, wNonce] ≤ 1000 := by decide +kernel
    simp only [List.length_nil]
    omega
  omega
set_option maxRecDepth 100000 in
set_option maxHeartbeats 16000000 in
theorem claimsWrong_at (MAKE : MakeSays) (CHECK : CodeCheck) (x : Int) (v : V) (cs : List Value) {B : Nat} {w : World} (hx : (Lit.int .u8 x).wf = true) (hv0 : VIs w 0 w.heap.size v cs ∧ v.wt ≤ B) (hk : KitIn w.heap.size w) :
    Calls Tryd.prog 6 #[.int .u8 x, .agg cs.toArray] w fun e w' => e = .returned (.bool true) ∧ Below w.heap.size w w' := by
  obtain ⟨hv, -⟩ := hv0
  have hkb := fun W (hb : Below w.heap.size w W) => (hk.below hb).more hb.size
  have hans := fun W (hb : Below w.heap.size w W) => answers8_any MAKE CHECK W (hkb W hb)
  obtain ⟨A, a, A', a', hcs⟩ := hv.form
  obtain ⟨R, hR⟩ : ∃ R, w.heap.size = R := ⟨_, rfl⟩
  obtain ⟨vk, hvk⟩ : ∃ z, v.kind = z := ⟨_, rfl⟩
  obtain ⟨vn, hvn⟩ : ∃ z, v.num = z := ⟨_, rfl⟩
  obtain ⟨ll, hll⟩ : ∃ z, v.list.length = z := ⟨_, rfl⟩
  obtain ⟨kk, hkk⟩ : ∃ z, v.keys.length = z := ⟨_, rfl⟩
  obtain ⟨T, hT⟩ : ∃ z : ByteArray, (⟨v.text.toArray⟩ : ByteArray) = z := ⟨_, rfl⟩
  have hTs : T.size = v.text.length := by rw [← hT]; show v.text.toArray.size = _; simp
  have hTl : (T.toList == []) = decide (v.text = []) := by rw [← hT, bt_list]; by_cases h : v.text = [] <;> simp [h]
  rw [hvk, hvn, hT, hll, hkk] at hcs
  subst hcs
  obtain ⟨W0, hW0⟩ : ∃ W0, W0 = w.alloc (.cells #[.int .i64 vk, .int .i64 vn, .string T, .slice A ll a, .slice A' kk a'] 28) := ⟨_, rfl⟩
  have b0 : Below R w W0 := by rw [hW0, ← hR]; exact (Below.refl _ _).alloc (Nat.le_refl _) _
  have k0' : W0.heap[R]? = some (.cells #[.int .i64 vk, .int .i64 vn, .string T, .slice A ll a, .slice A' kk a'] 28 (0, 0)) := by rw [hW0, ← hR]; exact heap_alloc_last w _
  have z0 : W0.heap.size = R + 1 := by rw [hW0]; simp [hR]
  rw [hR] at hv
  have ST : ∀ W, Below W0.heap.size W0 W → W.heap[R]? = some (.cells #[.int .i64 vk, .int .i64 vn, .string T, .slice A ll a, .slice A' kk a'] 28 (0, 0)) ∧ VIs W 0 R v [.int .i64 vk, .int .i64 vn, .string T, .slice A ll a, .slice A' kk a'] ∧ Below R w W ∧ R ≤ W.heap.size ∧ W0.heap.size ≤ W.heap.size := fun W hb =>
    ⟨blk_below k0' hb, hv.below (b0.trans (hb.mono (by omega))), b0.trans (hb.mono (by omega)), by have := hb.size; omega, hb.size⟩
  have hfi := fun W (hb : Below W0.heap.size W0 W) => refFits_any v 8 W 0 R _ (by decide) (ST W hb).2.1 (ST W hb).2.2.2.1
  have STH := Lib.hid ST; have HR := Lib.hid hR; have HW0 := Lib.hid hW0; have HA := Lib.hid hans; have HFI := Lib.hid hfi
  have hanw : ∀ W, Below W0.heap.size W0 W → Calls Tryd.prog 9 #[] W fun e w' => e = .returned (.bool true) ∧ Below W.heap.size W w' := fun W hb => hans W (by rw [hR]; exact (ST W hb).2.2.1)
  have HAW := Lib.hid hanw
  have hk0 := box_of k0'
  by_cases hk5 : vk = 5
  · have d5 : (vk == 5) = true := by simp [hk5]
    clear hk5 hvk hvn hll hkk hT hTs hTl hv ST hfi hans hkb hk z0 b0 k0' hW0 hR hanw
    obtain ⟨⟨e0, e1, e2, e3, e4⟩, -⟩ := hk0
    rw [HW0.out, ← HR.out] at e0 e1 e2 e3 e4
    go_enter Tryd.func6, Tryd.ntmps6
    go_wp2_with fail
    rw [← HW0.out]
    refine (HAW.out _ (Below.refl _ _)).mono ?_
    rintro e wz ⟨rfl, hbz⟩
    have BZ := Lib.hid ((STH.out _ ((Below.refl _ _).chain hbz)).2.2.1); clear hbz
    dsimp only
    go_wp2
    go_ret
    exact ⟨rfl, by rw [HR.out]; exact BZ.out⟩
  by_cases hk6 : vk = 6
  · have d5 : (vk == 5) = false := by simp [hk5]
    have d6 : (vk == 6) = true := by simp [hk6]
    clear hk5 hk6 hvk hvn hll hkk hT hTs hTl hv ST hfi hans hkb hk z0 b0 k0' hW0 hR hanw
    obtain ⟨⟨e0, e1, e2, e3, e4⟩, -⟩ := hk0
    rw [HW0.out, ← HR.out] at e0 e1 e2 e3 e4
    go_enter Tryd.func6, Tryd.ntmps6
    go_wp2_with fail
    rw [← HW0.out]
    refine (HAW.out _ (Below.refl _ _)).mono ?_
    rintro e wz ⟨rfl, hbz⟩
    have BZ := Lib.hid ((STH.out _ ((Below.refl _ _).chain hbz)).2.2.1); clear hbz
    dsimp only
    go_wp2
    go_ret
    exact ⟨rfl, by rw [HR.out]; exact BZ.out⟩
  have d5 : (vk == 5) = false := by simp [hk5]
  have d6 : (vk == 6) = false := by simp [hk6]
  by_cases ht5 : 500 < v.text.length
  · have d7 : decide ((500 : Int) < T.size) = true := by rw [hTs]; simp; omega
    clear ht5 hk5 hk6 hvk hvn hll hkk hT hTs hTl hv ST hfi hans hkb hk z0 b0 k0' hW0 hR hanw
    obtain ⟨⟨e0, e1, e2, e3, e4⟩, -⟩ := hk0
    rw [HW0.out, ← HR.out] at e0 e1 e2 e3 e4
    go_enter Tryd.func6, Tryd.ntmps6
    go_wp2_with fail
    rw [← HW0.out]
    refine (HAW.out _ (Below.refl _ _)).mono ?_
    rintro e wz ⟨rfl, hbz⟩
    have BZ := Lib.hid ((STH.out _ ((Below.refl _ _).chain hbz)).2.2.1); clear hbz
    dsimp only
    go_wp2
    go_ret
    exact ⟨rfl, by rw [HR.out]; exact BZ.out⟩
  have d7 : decide ((500 : Int) < T.size) = false := by rw [hTs]; simp; omega
  obtain ⟨f8, hf8⟩ : ∃ b, v.fits 8 = b := ⟨_, rfl⟩
  rw [hf8] at HFI
  cases f8 with
  | false =>
    clear ht5 hk5 hk6 hvk hvn hll hkk hT hTs hTl hv ST hfi hans hkb hk z0 b0 k0' hW0 hR hf8 hanw
    obtain ⟨⟨e0, e1, e2, e3, e4⟩, -⟩ := hk0
    rw [HW0.out, ← HR.out] at e0 e1 e2 e3 e4
    go_enter Tryd.func6, Tryd.ntmps6
    go_wp2_with fail
    rw [← HW0.out]
    refine (HFI.out _ (Below.refl _ _)).mono ?_
    rintro e w2 ⟨rfl, hb2⟩
    have B2 := Lib.hid hb2; clear hb2
    dsimp only
    go_wp2_with fail
    refine (HAW.out _ B2.out).mono ?_
    rintro e wz ⟨rfl, hbz⟩
    have BZ := Lib.hid ((STH.out _ (B2.out.chain hbz)).2.2.1); clear hbz
    dsimp only
    go_wp2
    go_ret
    exact ⟨rfl, by rw [HR.out]; exact BZ.out⟩
  | true =>
    obtain ⟨c, rfl⟩ := byte_ex hx
    obtain ⟨j, hjd⟩ : ∃ j, c.toNat % 5 = j := ⟨_, rfl⟩
    have hj : j < 5 := by omega
    have hpl := fits_plain hf8 (by rw [hvk]; exact hk5) (by rw [hvk]; exact hk6)
    have hf7 : v.fits 7 = true := by rw [plain_fits hpl 6 7]; exact hf8
    have hlen := bad_len (j := j) hf7 hpl (by omega)
    obtain ⟨q1, ⟨q2, q3⟩, q4, q5, q6⟩ := whichK_at j hj
    obtain ⟨s1, s2⟩ := whichS_sub j hj
    obtain ⟨KS, hKS⟩ : ∃ z : ByteArray, whichS j = z := ⟨_, rfl⟩
    rw [hKS] at s1 s2
    have hrow : (#[Value.string ⟨#[105, 115, 115]⟩, .string ⟨#[115, 117, 98]⟩, .string ⟨#[97, 117, 100]⟩, .string ⟨#[101, 120, 112]⟩, .string ⟨#[110, 111, 110, 99, 101]⟩] : Array Value)[c.toNat % 5]? = some (.string KS) := by
      rw [hjd, ← hKS]
      match j, hj with
      | 0, _ => rfl
      | 1, _ => rfl
      | 2, _ => rfl
      | 3, _ => rfl
      | 4, _ => rfl
    have HROW := Lib.hid hrow; clear hrow
    have hmk : ∀ W, Calls Tryd.prog 12 #[.string ⟨#[105]⟩, .string ⟨#[115]⟩, .string ⟨#[97]⟩, .string ⟨#[110]⟩, .int .i64 0, .int .i64 50] W fun e w' => (∃ B b B' b', e = .returned (.agg #[.int .i64 6, .int .i64 0, .string ⟨#[]⟩, .slice B 6 b, .slice B' 6 b']) ∧ VIs w' W.heap.size w'.heap.size goodC [.int .i64 6, .int .i64 0, .string ⟨#[]⟩, .slice B 6 b, .slice B' 6 b']) ∧ Below W.heap.size W w' := fun W => refMake_any cI cS cA cN 0 50 (by decide) (by decide) (by decide) (by decide) W
    have hpu : ∀ (W : World) (L N : Nat) (C C' : Option Addr) (d d' : Nat), VIs W L N goodC [.int .i64 6, .int .i64 0, .string ⟨#[]⟩, .slice C 6 d, .slice C' 6 d'] → N ≤ W.heap.size → Below W0.heap.size W0 W → Calls Tryd.prog 17 #[.agg #[.int .i64 6, .int .i64 0, .string ⟨#[]⟩, .slice C 6 d, .slice C' 6 d'], .string KS, .agg #[.int .i64 vk, .int .i64 vn, .string T, .slice A ll a, .slice A' kk a']] W fun e w' =>
        (∃ B b B' b', e = .returned (.agg #[.int .i64 6, .int .i64 0, .string ⟨#[]⟩, .slice B 6 b, .slice B' 6 b']) ∧ VIs w' 0 w'.heap.size (badC j v) [.int .i64 6, .int .i64 0, .string ⟨#[]⟩, .slice B 6 b, .slice B' 6 b']) ∧ Below W.heap.size W w' := fun W L N C C' d d' hg hN hb => by
      rw [goodC_is] at hg
      obtain ⟨-, A1, c1, A2, c2, e, r1, r2⟩ := hg.out
      injection e with _ e; injection e with _ e; injection e with _ e; injection e with e4 e; injection e with e5 _
      injection e4 with e4 _ e6; injection e5 with e5 _ e7
      subst e4; subst e5
      rcases r1 with r1 | ⟨b', o', rfl, r1⟩
      · cases r1
      rcases r2 with r2 | ⟨b, o, rfl, r2⟩
      · cases r2
      have hpit : ∀ i (h : i < [textV cI, textV cS, textV cA, numV 0, numV 50, textV cN].length), Plain ([textV cI, textV cS, textV cA, numV 0, numV 50, textV cN][i]) := fun i h => by
        match i, h with
        | 0, _ => exact plain_textV _
        | 1, _ => exact plain_textV _
        | 2, _ => exact plain_textV _
        | 3, _ => exact plain_numV _
        | 4, _ => exact plain_numV _
        | 5, _ => exact plain_textV _
      have h := refPut_old 6 0 [] [textV cI, textV cS, textV cA, numV 0, numV 50, textV cN] [wIss, wSub, wAud, wIat, wExp, wNonce] (whichK j) v W L N 0 0 (some ⟨b, o, none⟩) (some ⟨b', o', none⟩) d d' (.int .i64 vk) (.int .i64 vn) (.string T) (.slice A ll a) (.slice A' kk a') (whichI j)
        (by simp) (by simp) (by decide) (by omega) q1 ⟨q2, q3⟩ q4 hN (Nat.zero_le _) (Nat.zero_le _) (.inr ⟨b, o, b', o', rfl, rfl, r2, r1⟩) (fun i hi cs h => (hpit i hi).any h) (hpl.any (ST W hb).2.1)
      rw [← hKS]
      exact h.mono fun e w' ⟨B, b, B', b', g1, g2, g3⟩ => ⟨⟨B, b, B', b', g1, g2⟩, g3⟩
    have hb8 := badC_fits j v 6 hf7
    obtain ⟨SH, hSH⟩ : ∃ z : ByteArray, (⟨(badC j v).show.toArray⟩ : ByteArray) = z := ⟨_, rfl⟩
    have hSz : SH.size = (badC j v).show.length := by rw [← hSH]; show (badC j v).show.toArray.size = _; simp
    have hjs : ∀ (W : World) (L N : Nat) (cs : List Value), VIs W L N (badC j v) cs → N ≤ W.heap.size → Calls Tryd.prog 15 #[.agg cs.toArray] W fun e w' => e = .returned (.string SH) ∧ Below W.heap.size W w' := fun W L N cs h hN => by
      have hh := refJSON_any (badC j v) W L N cs (fun _ => hlen) h hN
      have hpv : printV (badC j v) = (badC j v).show := by unfold printV; rw [if_pos hb8]
      rwa [hpv, hSH] at hh
    obtain ⟨X, hX⟩ : ∃ X, checkR (badC j v).show cI cA cN 10 = X := ⟨_, rfl⟩
    have hE : SH.size ≤ 4096 → (OkC j v → X.2.2 = 0) ∧ (¬ OkC j v → X.2.2 = 9) := fun h => by
      have hc := check_show hb8 (by omega) cI cA cN 10
      rw [hX] at hc
      have hbf := bad_fit j hj v hf8
      constructor
      · intro ho
        rw [if_pos (hbf.2 ho)] at hc
        rw [hc]
      · intro ho
        rw [if_neg (fun h => ho (hbf.1 h))] at hc
        rw [hc]
    have hck : ∀ W, Below W0.heap.size W0 W → Calls Tryd.prog 13 #[.string SH, .string ⟨#[105]⟩, .string ⟨#[97]⟩, .string ⟨#[110]⟩, .int .i64 10] W fun e w' => OneC ⟨X.1.toArray⟩ X.2.2 e ∧ Below W.heap.size W w' := fun W hb => by
      have h := CHECK (badC j v).show cI cA cN 10 (by omega) ⟨by decide, by decide⟩ W (hkb W (by rw [hR]; exact (ST W hb).2.2.1))
      rw [hX, hSH] at h
      exact h.mono fun e w' q => CheckSays.one (x := X.1) (v := X.2.1) (E := X.2.2) q
    obtain ⟨x1, xv, EX⟩ := X
    simp only at hE hck
    obtain ⟨TX, hTX⟩ : ∃ z : ByteArray, (⟨x1.toArray⟩ : ByteArray) = z := ⟨_, rfl⟩
    rw [hTX] at hck
    have hfd : ∀ (W : World) (L N : Nat) (cs : List Value), VIs W L N goodC cs → N ≤ W.heap.size → Calls Tryd.prog 18 #[.agg cs.toArray, .string KS] W fun e w' => (∃ k n t A a b A' a' b', e = .returned (.tuple #[.agg #[.int .i64 k, .int .i64 n, .string t, .slice A a b, .slice A' a' b'], .bool (fieldV (whichK j) goodC).isSome]) ∧ VIs w' L N (whichV j) [.int .i64 k, .int .i64 n, .string t, .slice A a b, .slice A' a' b']) ∧ Below W.heap.size W w' := fun W L N cs h hN => by
      have hh := refField_any goodC (whichK j) W L N cs h hN
      rw [q5] at hh
      rwa [← hKS]
    obtain ⟨fb, hfb⟩ : ∃ z, (fieldV (whichK j) goodC).isSome = z := ⟨_, rfl⟩
    rw [hfb] at hfd
    have hsa := fun (W : World) (L N : Nat) (cs : List Value) (h : VIs W L N (whichV j) cs) (hN : N ≤ W.heap.size) (hb : Below W0.heap.size W0 W) => refSame_any (whichV j) v W L N 0 R cs [.int .i64 vk, .int .i64 vn, .string T, .slice A ll a, .slice A' kk a'] h (ST W hb).2.1 hN (ST W hb).2.2.2.1
    obtain ⟨uv, huv⟩ : ∃ z, whichV j = z := ⟨_, rfl⟩
    rw [huv] at hfd
    simp only [huv] at hsa
    have hok : ∀ (sm b4 bt b3 b10 : Bool) (h0 : sm = true ↔ uv = v) (h1 : (vk == 4) = b4) (h2 : (T.toList == []) = bt) (h3 : (vk == 3) = b3) (h4 : decide (10 < vn) = b10), (OkC j v ↔ (sm = true ∨ (decide (j = 1) = true ∧ b4 = true ∧ bt = false) ∨ (decide (j = 3) = true ∧ b3 = true ∧ b10 = true))) := fun sm b4 bt b3 b10 h0 h1 h2 h3 h4 => by
      unfold OkC
      rw [huv, h0, ← h1, ← h2, ← h3, ← h4, hTl, hvk, hvn]
      simp only [beq_iff_eq, decide_eq_true_eq, decide_eq_false_iff_not]
      constructor
      · rintro (h | h | h)
        · exact .inl h.symm
        · exact .inr (.inl h)
        · exact .inr (.inr h)
      · rintro (h | h | h)
        · exact .inl h.symm
        · exact .inr (.inl h)
        · exact .inr (.inr h)
    obtain ⟨bS, hbS⟩ : ∃ z, decide (j = 1) = z := ⟨_, rfl⟩
    obtain ⟨bE, hbE⟩ : ∃ z, decide (j = 3) = z := ⟨_, rfl⟩
    have hSE : ¬ (bS = true ∧ bE = true) := by rw [← hbS, ← hbE]; simp; omega
    rw [hbS] at s1 hok
    rw [hbE] at s2 hok
    have HMK := Lib.hid hmk; have HPU := Lib.hid hpu; have HJS := Lib.hid hjs; have HCK := Lib.hid hck; have HFD := Lib.hid hfd; have HSA := Lib.hid hsa; have HOK := Lib.hid hok; have HE := Lib.hid hE; have HSE := Lib.hid hSE; have HJD := Lib.hid hjd
    clear hjd hmk hpu hjs hck hfd hsa hok hE hSE hk5 hbS hbE huv hfb hTX hX hSz hSH hb8 hlen hf7 hpl q1 q2 q3 q4 q5 q6 hj hKS ht5 hk6 hvk hvn hll hkk hT hTs hTl hv ST hfi hans hkb hk z0 b0 k0' hW0 hR hf8 hanw
    obtain ⟨⟨e0, e1, e2, e3, e4⟩, -⟩ := hk0
    rw [HW0.out, ← HR.out] at e0 e1 e2 e3 e4
    go_enter Tryd.func6, Tryd.ntmps6
    go_wp2_with fail
    rw [← HW0.out, HR.out]
    refine (HFI.out _ (Below.refl _ _)).mono ?_
    rintro e w2 ⟨rfl, hb2⟩
    have B2 := Lib.hid hb2; clear hb2 e0 e1 e2 e3 e4
    dsimp only
    obtain ⟨W3, hW3⟩ : ∃ W3, W3 = w2.alloc (.cells #[.string ⟨#[105, 115, 115]⟩, .string ⟨#[115, 117, 98]⟩, .string ⟨#[97, 117, 100]⟩, .string ⟨#[101, 120, 112]⟩, .string ⟨#[110, 111, 110, 99, 101]⟩] 9) := ⟨_, rfl⟩
    have g3 : Below w2.heap.size w2 W3 := by rw [hW3]; exact (Below.refl _ _).alloc (Nat.le_refl _) _
    have r3 : W3.cell? ⟨w2.heap.size, c.toNat % 5, none⟩ = some (.string KS) := by
      rw [hW3, cell_here (heap_alloc_last w2 _)]; exact HROW.out
    have B3 := Lib.hid (B2.out.chain g3); have HW3 := Lib.hid hW3
    clear hW3 g3
    go_upto_region 4 with fail
    rw [← HW3.out]
    go_wp2_with fail
    refine (HMK.out _).mono ?_
    rintro e w4 ⟨⟨C1, d1, C2, d2, rfl, v4⟩, hb4⟩
    obtain ⟨W5, hW5⟩ : ∃ W5, W5 = w4.alloc (.cells #[.int .i64 6, .int .i64 0, .string ⟨#[]⟩, .slice C1 6 d1, .slice C2 6 d2] 28) := ⟨_, rfl⟩
    have g5 : Below w4.heap.size w4 W5 := by rw [hW5]; exact (Below.refl _ _).alloc (Nat.le_refl _) _
    have q5 : W5.heap[w4.heap.size]? = some (.cells #[.int .i64 6, .int .i64 0, .string ⟨#[]⟩, .slice C1 6 d1, .slice C2 6 d2] 28 (0, 0)) := by rw [hW5]; exact heap_alloc_last w4 _
    have v5 := v4.below g5
    have n5 : w4.heap.size ≤ W5.heap.size := g5.size
    have b5 := B3.out.chain (hb4.chain g5)
    obtain ⟨⟨e0, e1, e2, e3, e4⟩, -⟩ := box_of (STH.out _ b5).1
    obtain ⟨⟨u0, u1, u2, u3, u4⟩, -⟩ := box_of q5
    have HW5 := Lib.hid hW5; have Q5 := Lib.hid q5; have V5 := Lib.hid v5; have B5 := Lib.hid b5
    rw [hW5] at e0 e1 e2 e3 e4 u0 u1 u2 u3 u4
    clear hW5 g5 q5 v5 v4 hb4 b5 r3
    dsimp only
    go_wp2_with fail
    rw [← HW5.out]
    refine (HPU.out _ _ _ _ _ _ _ V5.out n5 B5.out).mono ?_
    rintro e w6 ⟨⟨D1, f1, D2, f2, rfl, v6⟩, hb6⟩
    obtain ⟨W7, hW7⟩ : ∃ W7, W7 = w6.alloc (.cells #[.int .i64 6, .int .i64 0, .string ⟨#[]⟩, .slice D1 6 f1, .slice D2 6 f2] 28) := ⟨_, rfl⟩
    have g7 : Below w6.heap.size w6 W7 := by rw [hW7]; exact (Below.refl _ _).alloc (Nat.le_refl _) _
    have q7 : W7.heap[w6.heap.size]? = some (.cells #[.int .i64 6, .int .i64 0, .string ⟨#[]⟩, .slice D1 6 f1, .slice D2 6 f2] 28 (0, 0)) := by rw [hW7]; exact heap_alloc_last w6 _
    have v7 := v6.below g7
    have n7 : w6.heap.size ≤ W7.heap.size := g7.size
    have b7 := hb6.chain g7
    obtain ⟨⟨t0, t1, t2, t3, t4⟩, -⟩ := box_of q7
    have HW7 := Lib.hid hW7; have Q7 := Lib.hid (blk_below Q5.out b7); have V7 := Lib.hid v7; have B7 := Lib.hid (B5.out.chain b7); have C7 := Lib.hid b7
    rw [hW7] at t0 t1 t2 t3 t4
    clear hW7 g7 q7 v7 v6 hb6 b7 e0 e1 e2 e3 e4 u0 u1 u2 u3 u4
    dsimp only
    go_wp2_with fail
    rw [← HW7.out]
    refine (HJS.out _ _ _ _ V7.out n7).mono ?_
    rintro e w8 ⟨rfl, hb8⟩
    have B8 := Lib.hid (B7.out.chain hb8); have C8 := Lib.hid (C7.out.chain hb8)
    clear hb8 t0 t1 t2 t3 t4
    dsimp only
    go_wp2_with fail
    refine (HCK.out _ B8.out).mono ?_
    rintro e w9 ⟨⟨k9, n9, t9, A9, a9, p9, D9, d9, r9, rfl⟩, hb9⟩
    obtain ⟨WA, hWA⟩ : ∃ WA, WA = w9.alloc (.cells #[.int .i64 k9, .int .i64 n9, .string t9, .slice A9 a9 p9, .slice D9 d9 r9] 28) := ⟨_, rfl⟩
    have ga : Below w9.heap.size w9 WA := by rw [hWA]; exact (Below.refl _ _).alloc (Nat.le_refl _) _
    have ba := hb9.chain ga
    have qa := blk_below Q5.out (C8.out.chain ba)
    have va := V5.out.below ((C8.out.chain ba).mono n5)
    have na := Nat.le_trans n5 (C8.out.chain ba).size
    obtain ⟨⟨u0, u1, u2, u3, u4⟩, -⟩ := box_of qa
    have HWA := Lib.hid hWA; have VA := Lib.hid va; have BA := Lib.hid (B8.out.chain ba)
    rw [hWA] at u0 u1 u2 u3 u4
    clear hWA ga ba qa va hb9
    dsimp only
    go_wp2_with fail
    rw [← HWA.out]
    refine (HFD.out _ _ _ _ VA.out na).mono ?_
    rintro e wb ⟨⟨kb, nb, tb, Ab, ab, pb, Db, db, rb, rfl, vb⟩, hbb⟩
    obtain ⟨WC, hWC⟩ : ∃ WC, WC = wb.alloc (.cells #[.int .i64 kb, .int .i64 nb, .string tb, .slice Ab ab pb, .slice Db db rb] 28) := ⟨_, rfl⟩
    have gc : Below wb.heap.size wb WC := by rw [hWC]; exact (Below.refl _ _).alloc (Nat.le_refl _) _
    have qc : WC.heap[wb.heap.size]? = some (.cells #[.int .i64 kb, .int .i64 nb, .string tb, .slice Ab ab pb, .slice Db db rb] 28 (0, 0)) := by rw [hWC]; exact heap_alloc_last wb _
    have bc := BA.out.chain (hbb.chain gc)
    have vc := vb.below (gc.mono (Nat.le_trans na hbb.size))
    have nc := Nat.le_trans na (hbb.chain gc).size
    obtain ⟨⟨e0, e1, e2, e3, e4⟩, -⟩ := box_of (STH.out _ bc).1
    obtain ⟨⟨t0, t1, t2, t3, t4⟩, -⟩ := box_of qc
    have HWC := Lib.hid hWC; have VC := Lib.hid vc; have BC := Lib.hid bc
    rw [hWC] at e0 e1 e2 e3 e4 t0 t1 t2 t3 t4
    clear hWC gc qc vc bc vb hbb u0 u1 u2 u3 u4
    dsimp only
    go_wp2_with fail
    rw [← HWC.out]
    refine (HSA.out _ _ _ _ VC.out nc BC.out).mono ?_
    rintro e wd ⟨sm, rfl, hsm, hbd⟩
    have BD := Lib.hid (BC.out.chain hbd)
    have hok2 := fun (b4 bt b3 b10 : Bool) h1 h2 h3 h4 => HOK.out sm b4 bt b3 b10 hsm h1 h2 h3 h4
    have HOK2 := Lib.hid hok2
    clear hok2 hbd hsm e0 e1 e2 e3 e4 t0 t1 t2 t3 t4
    obtain ⟨⟨e0, e1, e2, e3, e4⟩, -⟩ := box_of (STH.out _ BD.out).1
    dsimp only
    cases sm with
    | true =>
      by_cases hsz : SH.size ≤ 4096
      · have hlg : decide ((4096 : Int) < SH.size) = false := by simp; omega
        obtain rfl : EX = 0 := (HE.out hsz).1 ((HOK2.out _ _ _ _ rfl rfl rfl rfl).2 (.inl (by trivial)))
        go_wp2_with fail
        refine (HAW.out _ BD.out).mono ?_
        rintro e we ⟨rfl, hbe⟩
        have BE := Lib.hid ((STH.out _ (BD.out.chain hbe)).2.2.1); clear hbe e0 e1 e2 e3 e4
        dsimp only
        go_wp2
        go_ret
        exact ⟨rfl, by rw [HR.out]; exact BE.out⟩
      · have hlg : decide ((4096 : Int) < SH.size) = true := by simp; omega
        go_wp2_with fail
        refine (HAW.out _ BD.out).mono ?_
        rintro e we ⟨rfl, hbe⟩
        have BE := Lib.hid ((STH.out _ (BD.out.chain hbe)).2.2.1); clear hbe e0 e1 e2 e3 e4
        dsimp only
        go_wp2
        go_ret
        exact ⟨rfl, by rw [HR.out]; exact BE.out⟩
    | false =>
      cases bS with
      | true =>
        cases bE with
        | true => exact absurd ⟨by trivial, by trivial⟩ HSE.out
        | false =>
          obtain ⟨b4, h4⟩ : ∃ z, (vk == 4) = z := ⟨_, rfl⟩
          cases b4 with
          | true =>
            obtain ⟨bt, ht⟩ : ∃ z, (T.toList == []) = z := ⟨_, rfl⟩
            cases bt with
            | true =>
              by_cases hsz : SH.size ≤ 4096
              · have hlg : decide ((4096 : Int) < SH.size) = false := by simp; omega
                obtain rfl : EX = 9 := (HE.out hsz).2 (fun ho => by have := (HOK2.out _ _ _ _ h4 ht rfl rfl).1 ho; simp at this)
                go_wp2_with fail
                refine (HAW.out _ BD.out).mono ?_
                rintro e we ⟨rfl, hbe⟩
                have BE := Lib.hid ((STH.out _ (BD.out.chain hbe)).2.2.1); clear hbe e0 e1 e2 e3 e4
                dsimp only
                go_wp2
                go_ret
                exact ⟨rfl, by rw [HR.out]; exact BE.out⟩
              · have hlg : decide ((4096 : Int) < SH.size) = true := by simp; omega
                go_wp2_with fail
                refine (HAW.out _ BD.out).mono ?_
                rintro e we ⟨rfl, hbe⟩
                have BE := Lib.hid ((STH.out _ (BD.out.chain hbe)).2.2.1); clear hbe e0 e1 e2 e3 e4
                dsimp only
                go_wp2
                go_ret
                exact ⟨rfl, by rw [HR.out]; exact BE.out⟩
            | false =>
              by_cases hsz : SH.size ≤ 4096
              · have hlg : decide ((4096 : Int) < SH.size) = false := by simp; omega
                obtain rfl : EX = 0 := (HE.out hsz).1 ((HOK2.out _ _ _ _ h4 ht rfl rfl).2 (.inr (.inl ⟨by trivial, by trivial, by trivial⟩)))
                go_wp2_with fail
                refine (HAW.out _ BD.out).mono ?_
                rintro e we ⟨rfl, hbe⟩
                have BE := Lib.hid ((STH.out _ (BD.out.chain hbe)).2.2.1); clear hbe e0 e1 e2 e3 e4
                dsimp only
                go_wp2
                go_ret
                exact ⟨rfl, by rw [HR.out]; exact BE.out⟩
              · have hlg : decide ((4096 : Int) < SH.size) = true := by simp; omega
                go_wp2_with fail
                refine (HAW.out _ BD.out).mono ?_
                rintro e we ⟨rfl, hbe⟩
                have BE := Lib.hid ((STH.out _ (BD.out.chain hbe)).2.2.1); clear hbe e0 e1 e2 e3 e4
                dsimp only
                go_wp2
                go_ret
                exact ⟨rfl, by rw [HR.out]; exact BE.out⟩
          | false =>
            by_cases hsz : SH.size ≤ 4096
            · have hlg : decide ((4096 : Int) < SH.size) = false := by simp; omega
              obtain rfl : EX = 9 := (HE.out hsz).2 (fun ho => by have := (HOK2.out _ _ _ _ h4 rfl rfl rfl).1 ho; simp at this)
              go_wp2_with fail
              refine (HAW.out _ BD.out).mono ?_
              rintro e we ⟨rfl, hbe⟩
              have BE := Lib.hid ((STH.out _ (BD.out.chain hbe)).2.2.1); clear hbe e0 e1 e2 e3 e4
              dsimp only
              go_wp2
              go_ret
              exact ⟨rfl, by rw [HR.out]; exact BE.out⟩
            · have hlg : decide ((4096 : Int) < SH.size) = true := by simp; omega
              go_wp2_with fail
              refine (HAW.out _ BD.out).mono ?_
              rintro e we ⟨rfl, hbe⟩
              have BE := Lib.hid ((STH.out _ (BD.out.chain hbe)).2.2.1); clear hbe e0 e1 e2 e3 e4
              dsimp only
              go_wp2
              go_ret
              exact ⟨rfl, by rw [HR.out]; exact BE.out⟩
      | false =>
        cases bE with
        | true =>
          obtain ⟨b3, h3⟩ : ∃ z, (vk == 3) = z := ⟨_, rfl⟩
          cases b3 with
          | true =>
            obtain ⟨bx, hx⟩ : ∃ z, decide (10 < vn) = z := ⟨_, rfl⟩
            cases bx with
            | true =>
              by_cases hsz : SH.size ≤ 4096
              · have hlg : decide ((4096 : Int) < SH.size) = false := by simp; omega
                obtain rfl : EX = 0 := (HE.out hsz).1 ((HOK2.out _ _ _ _ rfl rfl h3 hx).2 (.inr (.inr ⟨by trivial, by trivial, by trivial⟩)))
                go_wp2_with fail
                refine (HAW.out _ BD.out).mono ?_
                rintro e we ⟨rfl, hbe⟩
                have BE := Lib.hid ((STH.out _ (BD.out.chain hbe)).2.2.1); clear hbe e0 e1 e2 e3 e4
                dsimp only
                go_wp2
                go_ret
                exact ⟨rfl, by rw [HR.out]; exact BE.out⟩
              · have hlg : decide ((4096 : Int) < SH.size) = true := by simp; omega
                go_wp2_with fail
                refine (HAW.out _ BD.out).mono ?_
                rintro e we ⟨rfl, hbe⟩
                have BE := Lib.hid ((STH.out _ (BD.out.chain hbe)).2.2.1); clear hbe e0 e1 e2 e3 e4
                dsimp only
                go_wp2
                go_ret
                exact ⟨rfl, by rw [HR.out]; exact BE.out⟩
            | false =>
              by_cases hsz : SH.size ≤ 4096
              · have hlg : decide ((4096 : Int) < SH.size) = false := by simp; omega
                obtain rfl : EX = 9 := (HE.out hsz).2 (fun ho => by have := (HOK2.out _ _ _ _ rfl rfl h3 hx).1 ho; simp at this)
                go_wp2_with fail
                refine (HAW.out _ BD.out).mono ?_
                rintro e we ⟨rfl, hbe⟩
                have BE := Lib.hid ((STH.out _ (BD.out.chain hbe)).2.2.1); clear hbe e0 e1 e2 e3 e4
                dsimp only
                go_wp2
                go_ret
                exact ⟨rfl, by rw [HR.out]; exact BE.out⟩
              · have hlg : decide ((4096 : Int) < SH.size) = true := by simp; omega
                go_wp2_with fail
                refine (HAW.out _ BD.out).mono ?_
                rintro e we ⟨rfl, hbe⟩
                have BE := Lib.hid ((STH.out _ (BD.out.chain hbe)).2.2.1); clear hbe e0 e1 e2 e3 e4
                dsimp only
                go_wp2
                go_ret
                exact ⟨rfl, by rw [HR.out]; exact BE.out⟩
          | false =>
            by_cases hsz : SH.size ≤ 4096
            · have hlg : decide ((4096 : Int) < SH.size) = false := by simp; omega
              obtain rfl : EX = 9 := (HE.out hsz).2 (fun ho => by have := (HOK2.out _ _ _ _ rfl rfl h3 rfl).1 ho; simp at this)
              go_wp2_with fail
              refine (HAW.out _ BD.out).mono ?_
              rintro e we ⟨rfl, hbe⟩
              have BE := Lib.hid ((STH.out _ (BD.out.chain hbe)).2.2.1); clear hbe e0 e1 e2 e3 e4
              dsimp only
              go_wp2
              go_ret
              exact ⟨rfl, by rw [HR.out]; exact BE.out⟩
            · have hlg : decide ((4096 : Int) < SH.size) = true := by simp; omega
              go_wp2_with fail
              refine (HAW.out _ BD.out).mono ?_
              rintro e we ⟨rfl, hbe⟩
              have BE := Lib.hid ((STH.out _ (BD.out.chain hbe)).2.2.1); clear hbe e0 e1 e2 e3 e4
              dsimp only
              go_wp2
              go_ret
              exact ⟨rfl, by rw [HR.out]; exact BE.out⟩
        | false =>
          by_cases hsz : SH.size ≤ 4096
          · have hlg : decide ((4096 : Int) < SH.size) = false := by simp; omega
            obtain rfl : EX = 9 := (HE.out hsz).2 (fun ho => by have := (HOK2.out _ _ _ _ rfl rfl rfl rfl).1 ho; simp at this)
            go_wp2_with fail
            refine (HAW.out _ BD.out).mono ?_
            rintro e we ⟨rfl, hbe⟩
            have BE := Lib.hid ((STH.out _ (BD.out.chain hbe)).2.2.1); clear hbe e0 e1 e2 e3 e4
            dsimp only
            go_wp2
            go_ret
            exact ⟨rfl, by rw [HR.out]; exact BE.out⟩
          · have hlg : decide ((4096 : Int) < SH.size) = true := by simp; omega
            go_wp2_with fail
            refine (HAW.out _ BD.out).mono ?_
            rintro e we ⟨rfl, hbe⟩
            have BE := Lib.hid ((STH.out _ (BD.out.chain hbe)).2.2.1); clear hbe e0 e1 e2 e3 e4
            dsimp only
            go_wp2
            go_ret
            exact ⟨rfl, by rw [HR.out]; exact BE.out⟩
end Go.Proofs.YtcbajbpdgmmaeaaDoor
