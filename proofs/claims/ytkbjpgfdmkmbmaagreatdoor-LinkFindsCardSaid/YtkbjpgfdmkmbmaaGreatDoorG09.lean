/- Texts merged by program, in build order: TurnRef, RecRef, StoreWrite, StoreWriteR. -/
import Derived.Test.YtkbjpgfdmkmbmaaGreatDoorG08
import Derived.Test.YtkbjpgfdmkmbmaaGreatDoorG07
import Derived.Test.YtkbjpgfdmkmbmaaGreatDoorG03
import Derived.Test.YtkbjpgfdmkmbmaaGreatDoorG06
set_option linter.unusedVariables false
set_option linter.unusedSimpArgs false
namespace Go.Proofs.YtkbjpgfdmkmbmaaGreatDoor
open Go.RowKit
set_option linter.unusedVariables false
set_option linter.unusedSimpArgs false

theorem insL_cons (k v : List UInt8) (p : Bool) (r : List UInt8 × List UInt8) (rs : RowL) : insL k v p (r :: rs) = (if p = false ∧ Go.Op.bytesLess r.1 k = false then [(k, v)] else []) ++ ((if r.1 = k then [] else [r]) ++ insL k v (p || !Go.Op.bytesLess r.1 k) rs) := by rw [insL]
theorem insL_len (k v : List UInt8) : ∀ (p : Bool) (rows : RowL), (insL k v p rows).length ≤ rows.length + 1
  | true, rows => by rw [insL_placed]; exact Nat.le_trans (List.length_filter_le _ _) (Nat.le_succ _)
  | false, [] => by unfold insL; simp
  | false, r :: rs => by
    rw [insL_cons]
    cases hl : Go.Op.bytesLess r.1 k with
    | true =>
      rw [if_neg (fun e => by cases e.2)]
      have := insL_len k v false rs
      simp only [List.nil_append, List.length_append, List.length_cons]
      have h2 : (if r.1 = k then ([] : RowL) else [r]).length ≤ 1 := by split <;> simp
      simp only [Bool.not_true, Bool.or_false]
      omega
    | false =>
      rw [if_pos ⟨rfl, rfl⟩]
      simp only [List.length_append, List.length_cons, List.length_nil, Bool.not_false, Bool.or_true]
      rw [insL_placed]
      have := List.length_filter_le (fun x : List UInt8 × List UInt8 => decide (x.1 ≠ k)) rs
      have h2 : (if r.1 = k then ([] : RowL) else [r]).length ≤ 1 := by split <;> simp
      omega
theorem turnL_len : ∀ (l : List Ch) (rows : RowL), (turnL rows l).length ≤ rows.length + l.length
  | [], rows => Nat.le_refl _
  | c :: l, rows => by
    rw [turnL_cons]
    have h1 := turnL_len l (turn1 rows c)
    have h2 := insL_len c.key c.value c.gone rows
    unfold turn1 at h1
    simp only [List.length_cons]
    unfold turn1
    omega
theorem Tryz.infoRowR : (Tryz.prog.info? 55).map (fun i => (i.zero, i.size, i.bytes)) = some (some (.agg #[.string ⟨#[]⟩, .string ⟨#[]⟩]), 2, 32) := by kernel_rfl
theorem QRow.drewN {w : World} {B : Nat} {e : TypeId} {v : Value} {l : RowL} (h : QRow w B e v l) (n : Nat) : QRow (w.drewN n) B e v l := h
theorem own_at {w W : World} {B s n : Nat} {e : TypeId} {v : Value} {xs : List Value} (h : w.ownsRow B e s v n xs) (hW : W.heap = w.heap) (o : Obj) : (W.alloc o).ownsRow B e s v n xs :=
  World.ownsRow.alloc (own_kept h fun g _ => by rw [hW]) o
theorem le_alloc {w : World} {B : Nat} {o : Obj} (h : B ≤ w.heap.size) : B ≤ (w.alloc o).heap.size := by simp; omega
theorem str_less (x y : ByteArray) (a b : List UInt8) (hx : x = ⟨a.toArray⟩) (hy : y = ⟨b.toArray⟩) : Go.Op.bytesLess x.toList y.toList = Go.Op.bytesLess a b := by
  rw [hx, hy, ByteArray.toList_eq, ByteArray.toList_eq]
set_option maxRecDepth 100000 in
set_option maxHeartbeats 8000000 in
theorem refTurn_any (A : Option Addr) (c : Nat) (rows : RowL) (A' : Option Addr) (c' : Nat) (l : List Ch) (hrl : rows.length ≤ 100000) (hll : l.length ≤ 100000) (w : World) (h : RdR w (.slice A rows.length c) rows) (h' : RdC w (.slice A' l.length c') l) :
    Calls Tryz.prog 18 #[.slice A rows.length c, .slice A' l.length c'] w fun e w' => (∃ v, e = .returned v ∧ QRow w' w.heap.size 55 v (turnL rows l)) ∧ Below w.heap.size w w' := by
  obtain ⟨i0, hi, hz0, hz1, hz2⟩ := info_parts Tryz.infoRowR
  obtain ⟨q, hq⟩ : ∃ q, rows.length = q := ⟨_, rfl⟩
  obtain ⟨n, hn⟩ : ∃ n, l.length = n := ⟨_, rfl⟩
  have hnw : ∀ W, Below w.heap.size w W → (A = none ∧ q = 0 ∧ c = 0) ∨ ∃ ad, A = some ad ∧ ∀ j u, (qcells rows)[j]? = some u → W.cell? (ad.add j) = some u := fun W hb => by
    rcases (h.below hb).cells with h0 | ⟨g, o, rfl, _, hc⟩
    · cases A with
      | none => exact .inl ⟨rfl, by omega, (h.below hb).nil0⟩
      | some ad => exact .inr ⟨ad, rfl, fun j u hu => by
          obtain rfl : rows = [] := List.length_eq_zero_iff.1 h0
          cases hu⟩
    · exact .inr ⟨_, rfl, hc⟩

  have hqc : (qcells rows).length = q * 2 := by rw [qcells_len, hq]
  have HRC := Lib.hid h'; have HN := Lib.hid hn; have HQ := Lib.hid hq; have NW := Lib.hid hnw; have QC := Lib.hid hqc
  rw [hn] at hll ⊢
  rw [hq] at hrl ⊢
  clear h h' hn hq hnw hqc
  go_enter Tryz.func18, Tryz.ntmps18
  go_wp2_with (at_builtin; refine wpList_append_opt rfl _ _ 25 rfl w.heap.size 55 i0 _ 2 32 Tryz.underlying25 hi hz0 hz1 hz2 rfl (by decide) (.slice (some ⟨w.heap.size, 0, none⟩) 0 0) 0 [] rfl (own_fresh _ _ _ _ (Nat.le_refl _)) A q c (qcells rows) rfl QC.out (NW.out _ ((Below.refl _ _).alloc (Nat.le_refl _) _)) (qcells_one _) (by unfold maxLen; omega) (by omega) (by simp) ?_)
  intro v1 w1 hown1 hg1 _
  have hb1 : Below w.heap.size w w1 := ((Below.refl _ _).alloc (Nat.le_refl _) _).grown hg1 (by simp) (fun j hj => by have hj2 : some w.heap.size = some j := hj; injection hj2 with hj2; omega)
  try simp only [Nat.zero_add, List.nil_append] at hown1
  have hrow1 : QRow w1 w.heap.size 55 v1 rows := QRow.cut hown1 HQ.out.symm rfl
  have ROW1 := Lib.hid hrow1; have B1' := Lib.hid hb1
  clear hown1 hg1 hrow1 hb1
  go_wp2_with fail
  go_loopw [5, 6] (fun v i W => ∃ k : Nat, k ≤ n ∧ i = .int .i64 k ∧ Hid (QRow W w.heap.size 55 v (turnL rows (l.take k)) ∧ Below w.heap.size w W)) (fun _ i _ => n - (intOf i).toNat)
  case atStart => exact ⟨0, Nat.zero_le _, rfl, Lib.hid ⟨ROW1.out, B1'.out⟩⟩
  case round =>
    obtain ⟨k, hk, rfl, hT⟩ := hrel
    obtain ⟨wo, hwo⟩ : ∃ wo : World, wo = wr := ⟨_, rfl⟩
    subst hwo
    by_cases hlt : k < n
    · have hkr : decide ((k : Int) < n) = true := by simp; omega
      have hkl : k < l.length := by rw [HN.out]; exact hlt
      have hk0 : (0 : Int) ≤ k := by omega
      have hk1 : (k : Int) < n := by omega
      obtain ⟨g, o, rfl, hg, -, -, -⟩ := HRC.out.at k hkl
      obtain ⟨x, hx⟩ : ∃ x, l[k] = x := ⟨_, rfl⟩
      obtain ⟨K, V, G⟩ := x
      have hsnoc : turnL rows (l.take (k + 1)) = insL K V G (turnL rows (l.take k)) := by
        rw [List.take_succ_eq_append_getElem hkl, hx, turnL_snoc]; rfl
      obtain ⟨OUT, hOUT⟩ : ∃ OUT, turnL rows (l.take k) = OUT := ⟨_, rfl⟩
      have houtl : OUT.length ≤ 200000 := by
        rw [← hOUT]
        have h1 := turnL_len (l.take k) rows
        have h2 : (l.take k).length ≤ k := List.length_take_le _ _
        have := HQ.out
        omega
      obtain ⟨K1, hK1⟩ : ∃ X : ByteArray, X = ⟨K.toArray⟩ := ⟨_, rfl⟩
      obtain ⟨V1, hV1⟩ : ∃ X : ByteArray, X = ⟨V.toArray⟩ := ⟨_, rfl⟩
      have hcl : ∀ W, Below w.heap.size w W → W.cell? ⟨g, o + k * 3, none⟩ = some (.string K1) ∧ W.cell? ⟨g, o + k * 3 + 1, none⟩ = some (.string V1) ∧ W.cell? ⟨g, o + k * 3 + 2, none⟩ = some (.bool G) := fun W hb => by
        obtain ⟨g', o', e, _, h1, h2, h3⟩ := (HRC.out.below hb).at k hkl
        injection e with e; injection e with e1 e2
        subst e1; subst e2
        rw [hx] at h1 h2 h3
        rw [hK1, hV1]
        exact ⟨h1, h2, h3⟩
      have hrow := hT.out.1
      rw [hOUT] at hrow hsnoc
      obtain ⟨m, hm⟩ : ∃ m, OUT.length = m := ⟨_, rfl⟩
      have hbw := hT.out.2
      obtain ⟨Ao, co, rfl⟩ := own_form hrow
      rw [hm] at houtl ⊢
      have CL := Lib.hid hcl; have ROW := Lib.hid hrow; have SN := Lib.hid hsnoc; have HK1 := Lib.hid hK1; have HV1 := Lib.hid hV1; have HM := Lib.hid hm; have BW := Lib.hid hbw
      have cG := (hcl wo.drew hbw.drew).2.2
      have cG2 := (hcl (wo.alloc (.cells #[] 55)).drew ((hbw.alloc hbw.size _).drew)).2.2
      clear hcl hrow hsnoc hK1 hV1 hm hbw hkl hg hx hOUT hT
      go_upto_region 5 with fail
      go_region_held3 (fun W => W.cell? ⟨g, o + k * 3 + 2, none⟩ = some (.bool G)) (first | exact cG | exact cG2) (fail)
      clear cG cG2
      obtain ⟨W5, hW5⟩ : ∃ W5, W5 = (wo.alloc (.cells #[] 55)).drew := ⟨_, rfl⟩
      rw [← hW5]
      have b5 : Below wo.heap.size wo W5 := by rw [hW5]; exact ((Below.refl _ _).alloc (Nat.le_refl _) _).drew
      have r5 : QRow W5 wo.heap.size 55 (.slice (some ⟨wo.heap.size, 0, none⟩) 0 0) [] := by rw [hW5]; exact own_fresh wo _ _ _ (Nat.le_refl _)
      have CL5 : Hid (∀ W, Below wo.heap.size wo W → W.cell? ⟨g, o + k * 3, none⟩ = some (.string K1) ∧ W.cell? ⟨g, o + k * 3 + 1, none⟩ = some (.string V1)) := Lib.hid fun W hb => ⟨(CL.out W (BW.out.chain hb)).1, (CL.out W (BW.out.chain hb)).2.1⟩
      have hcell : ∀ W, Below wo.heap.size wo W → ∀ j (hj : j < OUT.length), ∃ go, Ao = some ⟨go, 0, none⟩ ∧ W.cell? ⟨go, j * 2, none⟩ = some (tv OUT[j].1) ∧ W.cell? ⟨go, j * 2 + 1, none⟩ = some (tv OUT[j].2) := fun W hb j hj => by
        have h1 := own_below ROW.out hb
        rcases h1.2 with ⟨e, h0⟩ | ⟨go, cap, cur, e, _⟩
        · omega
        · injection e with e _ _
          subst e
          obtain ⟨q1, q2⟩ := qcells_at OUT j _ (List.getElem?_eq_getElem hj)
          have u1 := World.ownsRow.cells (g := go) h1 rfl _ _ q1
          have u2 := World.ownsRow.cells (g := go) h1 rfl _ _ q2
          rw [Addr.add_lit, Nat.zero_add] at u1 u2
          exact ⟨go, rfl, u1, u2⟩
      have CO := Lib.hid hcell; have B5 := Lib.hid b5; have R5 := Lib.hid r5
      clear hcell b5 r5 hW5
      go_upto_region 7 with fail
      go_loopw [7, 8, 9] (fun nv pv jv W => ∃ (j : Nat) (done : RowL) (p : Bool), j ≤ m ∧ jv = .int .i64 j ∧ pv = .bool p ∧ Hid (QRow W wo.heap.size 55 nv done ∧ done.length ≤ j + 1 ∧ (p = false → done.length ≤ j) ∧ insL K V G OUT = done ++ insL K V p (OUT.drop j) ∧ Below wo.heap.size wo W)) (fun _ _ jv _ => m - (intOf jv).toNat)
      case atStart => exact ⟨0, [], G, Nat.zero_le _, rfl, rfl, Lib.hid ⟨R5.out, Nat.zero_le _, fun _ => Nat.zero_le _, by rw [List.drop_zero, List.nil_append], B5.out⟩⟩
      case round =>
        obtain ⟨j, done, p, hj, rfl, rfl, hI⟩ := hrel
        by_cases hjm : j < m
        · have hjr : decide ((j : Int) < m) = true := by simp; omega
          have hjl : j < OUT.length := by rw [HM.out]; exact hjm
          have hj0 : (0 : Int) ≤ j := by omega
          have hj1 : (j : Int) < m := by omega
          obtain ⟨go, rfl, c4, c5⟩ := CO.out wr hI.out.2.2.2.2 j hjl
          obtain ⟨c1, c2⟩ := CL5.out wr hI.out.2.2.2.2
          obtain ⟨y, hy⟩ : ∃ y, OUT[j] = y := ⟨_, rfl⟩
          obtain ⟨yk, yv⟩ := y
          rw [hy] at c4 c5
          have HYJ := Lib.hid hy
          have hdrop : OUT.drop j = (yk, yv) :: OUT.drop (j + 1) := by rw [List.drop_eq_getElem_cons hjl, hy]
          have hins := hI.out.2.2.2.1
          rw [hdrop, insL_cons] at hins
          obtain ⟨Y1, hY1⟩ : ∃ X : ByteArray, X = ⟨yk.toArray⟩ := ⟨_, rfl⟩
          obtain ⟨Y2, hY2⟩ : ∃ X : ByteArray, X = ⟨yv.toArray⟩ := ⟨_, rfl⟩
          have c4' : wr.cell? ⟨go, j * 2, none⟩ = some (.string Y1) := by rw [hY1]; exact c4
          have c5' : wr.cell? ⟨go, j * 2 + 1, none⟩ = some (.string Y2) := by rw [hY2]; exact c5
          have hle := str_less Y1 K1 yk K hY1 HK1.out
          have hneq := str_neq Y1 K1 yk K hY1 HK1.out
          have HLE := Lib.hid hle; have HNE := Lib.hid hneq; have INS := Lib.hid hins; have HY1 := Lib.hid hY1; have HY2 := Lib.hid hY2
          have hzw := hI.out.2.2.2.2.size
          clear c4 c5 hle hneq hins hY1 hY2 hdrop hy
          cases p with
          | true =>
            by_cases hk' : yk = K
            · have hx : (!Y1.toList == K1.toList) = false := by rw [HNE.out, decide_eq_true hk']; rfl
              have hres : insL K V G OUT = done ++ insL K V true (OUT.drop (j + 1)) := by
                rw [INS.out, if_neg (fun e => by cases e.1), if_pos hk']; rfl
              have RES := Lib.hid hres; clear hres hk'
              go_upto_region 9 with fail
              go_quiet (fail)
              go_upto_region 11 with fail
              go_quiet (fail)
              go_wp2
              go_roundw
              case rel => exact ⟨j + 1, done, true, by omega, by go_num, rfl, Lib.hid ⟨QRow.drewN hI.out.1 _, (by have := hI.out.2.1; omega), (fun e => by cases e), RES.out, belowDrewN hI.out.2.2.2.2 _⟩⟩
              case measure => simp [intOf]; omega
            · have hx : (!Y1.toList == K1.toList) = true := by rw [HNE.out, decide_eq_false hk']; rfl
              have hres : insL K V G OUT = (done ++ [(yk, yv)]) ++ insL K V true (OUT.drop (j + 1)) := by
                rw [INS.out, if_neg (fun e => by cases e.1), if_neg hk']; simp
              have RES := Lib.hid hres; clear hres hk'
              go_upto_region 9 with fail
              go_quiet (fail)
              go_upto_region 11 with fail
              go_quiet (fail)
              go_wp2_with (at_builtin; refine wpList_append_own _ rfl (.tmp 71) (.tmp 76) 25 rfl wo.heap.size 55 i0 _ 2 32 Tryz.underlying25 hi hz0 hz1 hz2 rfl (by decide) _ _ _ rfl (own_at hI.out.1 rfl _) ⟨_, 0, none⟩ 1 1 [.string Y1, .string Y2] rfl rfl (new_cells _ #[_, _] _) (by intro u hu; simp at hu; rcases hu with rfl | rfl <;> rfl) (by have := hI.out.2.1; unfold maxLen; omega) (by have := hI.out.2.1; omega) (le_alloc hzw) ?_)
              intro vN wN hownN hgN _
              have hbN : Below wo.heap.size wo wN := (Below.alloc (belowDrewN hI.out.2.2.2.2 _) hzw _).grown hgN (le_alloc hzw) (fun j hj => ((hI.out.1).lt j hj).1)
              go_wp2
              go_roundw
              case rel => exact ⟨j + 1, done ++ [(yk, yv)], true, by omega, by go_num, rfl, Lib.hid ⟨QRow.cut hownN (by rw [List.length_append]; rfl) (by rw [qcells_app, HY1.out, HY2.out]; rfl), (by rw [List.length_append]; show done.length + 1 ≤ _; have := hI.out.2.1; omega), (fun e => by cases e), RES.out, hbN⟩⟩
              case measure => simp [intOf]; omega
          | false =>
            by_cases hless : Go.Op.bytesLess yk K = true
            · have hk' : ¬ yk = K := less_ne hless
              have hxl : Go.Op.bytesLess Y1.toList K1.toList = true := by rw [HLE.out, hless]
              have hx : (!Y1.toList == K1.toList) = true := by rw [HNE.out, decide_eq_false hk']; rfl
              have hres : insL K V G OUT = (done ++ [(yk, yv)]) ++ insL K V false (OUT.drop (j + 1)) := by
                rw [INS.out, hless, if_neg (fun e => by cases e.2), if_neg hk']; simp
              have RES := Lib.hid hres; clear hres hk' hless
              go_upto_region 9 with fail
              go_quiet (fail)
              go_upto_region 11 with fail
              go_quiet (fail)
              go_wp2_with (at_builtin; refine wpList_append_own _ rfl (.tmp 71) (.tmp 76) 25 rfl wo.heap.size 55 i0 _ 2 32 Tryz.underlying25 hi hz0 hz1 hz2 rfl (by decide) _ _ _ rfl (own_at hI.out.1 rfl _) ⟨_, 0, none⟩ 1 1 [.string Y1, .string Y2] rfl rfl (new_cells _ #[_, _] _) (by intro u hu; simp at hu; rcases hu with rfl | rfl <;> rfl) (by have := hI.out.2.1; unfold maxLen; omega) (by have := hI.out.2.1; omega) (le_alloc hzw) ?_)
              intro vN wN hownN hgN _
              have hbN : Below wo.heap.size wo wN := (Below.alloc (belowDrewN hI.out.2.2.2.2 _) hzw _).grown hgN (le_alloc hzw) (fun j hj => ((hI.out.1).lt j hj).1)
              go_wp2
              go_roundw
              case rel => exact ⟨j + 1, done ++ [(yk, yv)], false, by omega, by go_num, rfl, Lib.hid ⟨QRow.cut hownN (by rw [List.length_append]; rfl) (by rw [qcells_app, HY1.out, HY2.out]; rfl), (by rw [List.length_append]; show done.length + 1 ≤ _; have := hI.out.2.1; omega), (fun _ => by rw [List.length_append]; show done.length + 1 ≤ _; have := hI.out.2.2.1 (by trivial); omega), RES.out, hbN⟩⟩
              case measure => simp [intOf]; omega
            · have hless : Go.Op.bytesLess yk K = false := by simpa using hless
              have hxl : Go.Op.bytesLess Y1.toList K1.toList = false := by rw [HLE.out, hless]
              have hins2 := INS.out
              rw [hless, if_pos ⟨rfl, rfl⟩] at hins2
              have INS2 := Lib.hid hins2; clear hins2 hless
              go_upto_region 9 with fail
              go_quiet (fail)
              go_upto_region 10 with fail
              go_region_law (refine step_append_own rfl (.tmp 46) (.tmp 58) 25 rfl wo.heap.size 55 i0 _ 2 32 Tryz.underlying25 hi hz0 hz1 hz2 rfl (by decide) _ _ _ rfl (own_at hI.out.1 rfl _) ⟨_, 0, none⟩ 1 1 [.string K1, .string V1] rfl rfl (new_cells _ #[_, _] _) ?_ ?_ ?_ ?_ ?_; (· intro u hu; simp at hu; rcases hu with rfl | rfl <;> rfl); (· have := hI.out.2.1; unfold maxLen; omega); (· have := hI.out.2.1; omega); (· exact le_alloc hzw); intro vM wM hownM hgM _)
              all_goals
                have hbM : Below wo.heap.size wo wM := (Below.alloc (belowDrewN hI.out.2.2.2.2 _).drew hzw _).grown hgM (le_alloc hzw) (fun j hj => (hI.out.1.lt j hj).1)
                have hrowM : QRow wM wo.heap.size 55 vM (done ++ [(K, V)]) := QRow.cut hownM (by rw [List.length_append]; rfl) (by rw [qcells_app, HK1.out, HV1.out]; rfl)
                obtain ⟨go2, e2, d4, d5⟩ := CO.out wM hbM j (by rw [HM.out]; exact hjm)
                injection e2 with e2; injection e2 with e2 _
                subst e2
                rw [HYJ.out] at d4 d5
                have c4M : wM.cell? ⟨go, j * 2, none⟩ = some (.string Y1) := by rw [HY1.out]; exact d4
                have c5M : wM.cell? ⟨go, j * 2 + 1, none⟩ = some (.string Y2) := by rw [HY2.out]; exact d5
                have c1M := (CL5.out wM hbM).1
                have hzM := hbM.size
                have RM := Lib.hid hrowM; have BM := Lib.hid hbM
                have hlen2 : (done ++ [(K, V)]).length = done.length + 1 := by rw [List.length_append]; rfl
                obtain ⟨done2, hdone2⟩ : ∃ d, done ++ [(K, V)] = d := ⟨_, rfl⟩
                rw [hdone2] at hlen2 RM
                have hdl : done2.length ≤ j + 1 := by have := hI.out.2.2.1 (by trivial); omega
                have hins3 : insL K V G OUT = done2 ++ ((if yk = K then [] else [(yk, yv)]) ++ insL K V true (OUT.drop (j + 1))) := by
                  rw [INS2.out, ← hdone2]; simp
                have INS3 := Lib.hid hins3
                clear hrowM hownM hgM d4 d5 hins3 hdone2 hlen2 c4' c5' c1 c2 hxl hbM
                by_cases hk' : yk = K
                · have hx : (!Y1.toList == K1.toList) = false := by rw [HNE.out, decide_eq_true hk']; rfl
                  have hres : insL K V G OUT = done2 ++ insL K V true (OUT.drop (j + 1)) := by
                    rw [INS3.out, if_pos hk']; rfl
                  have RES := Lib.hid hres; clear hres hk'
                  go_upto_region 11 with fail
                  go_quiet (fail)
                  go_wp2
                  go_roundw
                  case rel => exact ⟨j + 1, done2, true, by omega, by go_num, rfl, Lib.hid ⟨QRow.drewN RM.out _, (by omega), (fun e => by cases e), RES.out, belowDrewN BM.out _⟩⟩
                  case measure => simp [intOf]; omega
                · have hx : (!Y1.toList == K1.toList) = true := by rw [HNE.out, decide_eq_false hk']; rfl
                  have hres : insL K V G OUT = (done2 ++ [(yk, yv)]) ++ insL K V true (OUT.drop (j + 1)) := by
                    rw [INS3.out, if_neg hk']; simp
                  have RES := Lib.hid hres; clear hres hk'
                  go_upto_region 11 with fail
                  go_quiet (fail)
                  go_wp2_with (at_builtin; refine wpList_append_own _ rfl (.tmp 71) (.tmp 76) 25 rfl wo.heap.size 55 i0 _ 2 32 Tryz.underlying25 hi hz0 hz1 hz2 rfl (by decide) _ _ _ rfl (own_at RM.out rfl _) ⟨_, 0, none⟩ 1 1 [.string Y1, .string Y2] rfl rfl (new_cells _ #[_, _] _) (by intro u hu; simp at hu; rcases hu with rfl | rfl <;> rfl) (by have := hdl; unfold maxLen; omega) (by have := hdl; omega) (le_alloc hzM) ?_)
                  intro vN wN hownN hgN _
                  have hbN : Below wo.heap.size wo wN := (Below.alloc (belowDrewN BM.out _) hzM _).grown hgN (le_alloc hzM) (fun j hj => ((RM.out).lt j hj).1)
                  go_wp2
                  go_roundw
                  case rel => exact ⟨j + 1, done2 ++ [(yk, yv)], true, by omega, by go_num, rfl, Lib.hid ⟨QRow.cut hownN (by rw [List.length_append]; rfl) (by rw [qcells_app, HY1.out, HY2.out]; rfl), (by rw [List.length_append]; show done2.length + 1 ≤ _; omega), (fun e => by cases e), RES.out, hbN⟩⟩
                  case measure => simp [intOf]; omega
        · obtain rfl : j = m := by omega
          have hjr : decide ((j : Int) < j) = false := by simp
          have hdn : OUT.drop j = [] := List.drop_of_length_le (by rw [HM.out]; exact Nat.le_refl _)
          have hins := hI.out.2.2.2.1
          rw [hdn] at hins
          have hzw := hI.out.2.2.2.2.size
          have hbase : w.heap.size ≤ wo.heap.size := BW.out.size
          obtain ⟨c1, c2⟩ := CL5.out wr hI.out.2.2.2.2
          have INS := Lib.hid hins
          clear hins hdn
          cases p with
          | true =>
            have hres : turnL rows (l.take (k + 1)) = done := by rw [SN.out, INS.out]; unfold insL; simp
            have RES := Lib.hid hres; clear hres
            go_wp2
            go_roundw
            case rel => exact ⟨k + 1, by omega, by go_num, Lib.hid ⟨by rw [RES.out]; exact own_base hI.out.1 hbase, BW.out.chain hI.out.2.2.2.2⟩⟩
            case measure => simp [intOf]; omega
          | false =>
            have hres : turnL rows (l.take (k + 1)) = done ++ [(K, V)] := by rw [SN.out, INS.out]; unfold insL; simp
            have RES := Lib.hid hres; clear hres
            go_upto_region 14 with fail
            go_region_law (refine step_append_own rfl (.tmp 80) (.tmp 92) 25 rfl wo.heap.size 55 i0 _ 2 32 Tryz.underlying25 hi hz0 hz1 hz2 rfl (by decide) _ _ _ rfl (own_at hI.out.1 rfl _) ⟨_, 0, none⟩ 1 1 [.string K1, .string V1] rfl rfl (new_cells _ #[_, _] _) ?_ ?_ ?_ ?_ ?_; (· intro u hu; simp at hu; rcases hu with rfl | rfl <;> rfl); (· have := hI.out.2.1; unfold maxLen; omega); (· have := hI.out.2.1; omega); (· exact le_alloc hzw); intro vM wM hownM hgM _)
            all_goals
              have hbM : Below wo.heap.size wo wM := (Below.alloc hI.out.2.2.2.2.drew hzw _).grown hgM (le_alloc hzw) (fun j hj => (hI.out.1.lt j hj).1)
              have hrowM : QRow wM wo.heap.size 55 vM (done ++ [(K, V)]) := QRow.cut hownM (by rw [List.length_append]; rfl) (by rw [qcells_app, HK1.out, HV1.out]; rfl)
              have RM := Lib.hid hrowM; have BM := Lib.hid hbM
              clear hrowM hownM hgM hbM
              go_wp2
              go_roundw
              case rel => exact ⟨k + 1, by omega, by go_num, Lib.hid ⟨by rw [RES.out]; exact own_base RM.out hbase, BW.out.chain BM.out⟩⟩
              case measure => simp [intOf]; omega
    · obtain rfl : k = n := by omega
      have hkr : decide ((k : Int) < k) = false := by simp
      have htk : l.take k = l := List.take_of_length_le (by rw [HN.out]; exact Nat.le_refl _)
      have hrow := hT.out.1
      rw [htk] at hrow
      have ROW := Lib.hid hrow; have BW := Lib.hid hT.out.2
      clear hrow htk hT
      go_wp2
      go_ret
      exact ⟨⟨_, rfl, ROW.out⟩, BW.out⟩
end Go.Proofs.YtkbjpgfdmkmbmaaGreatDoor
namespace Go.Proofs.YtkbjpgfdmkmbmaaGreatDoor
open Go.RowKit
set_option linter.unusedVariables false
set_option linter.unusedSimpArgs false

def recP (l : List Ch) (k : Nat) : List UInt8 := four l.length ++ recAll (l.take k)
theorem recP_zero (l : List Ch) : recP l 0 = four l.length := by unfold recP; rw [List.take_zero]; simp [recAll]
theorem recP_all (l : List Ch) (k : Nat) (h : l.length ≤ k) : recP l k = recL l := by unfold recP recL; rw [List.take_of_length_le h]
theorem recP_step (l : List Ch) (k : Nat) (x : Ch) (h : l.take (k + 1) = l.take k ++ [x]) : recP l (k + 1) = recP l k ++ four (if x.gone = true then 1 else 0) ++ four x.key.length ++ x.key ++ four x.val.length ++ x.val := by
  unfold recP
  rw [h, recAll_snoc]
  unfold recOne
  simp only [List.append_assoc]
theorem recP_le (l : List Ch) (k : Nat) : (recP l k).length ≤ (recL l).length := by
  have h : recAll l = recAll (l.take k) ++ recAll (l.drop k) := by
    unfold recAll
    rw [← List.flatten_append, ← List.map_append, List.take_append_drop]
  unfold recP recL
  simp only [List.length_append]
  rw [h, List.length_append]
  omega
theorem own_drewN {w : World} {B s n : Nat} {e : TypeId} {v : Value} {xs : List Value} (h : w.ownsRow B e s v n xs) (m : Nat) : (w.drewN m).ownsRow B e s v n xs := h
theorem fourv_cells (n : Nat) : (cells (four n)).length = 4 * 1 := rfl
end Go.Proofs.YtkbjpgfdmkmbmaaGreatDoor
namespace Go.Proofs.YtkbjpgfdmkmbmaaGreatDoor
open Go.RowKit
set_option linter.unusedVariables false
set_option linter.unusedSimpArgs false

/-- blocks that are no rows of bytes lie as they lay -/
def KeepsC (w w' : World) : Prop := ∀ (c : Nat) (cs : Array Value) (t : TypeId) (fr : Nat × Nat), w.heap[c]? = some (.cells cs t fr) → t ≠ 5 → w'.heap[c]? = some (.cells cs t fr)
theorem KeepsC.refl (w : World) : KeepsC w w := fun _ _ _ _ h _ => h
theorem KeepsC.trans {w w' w'' : World} (h : KeepsC w w') (h' : KeepsC w' w'') : KeepsC w w'' := fun c cs t fr hc ht => h' c cs t fr (h c cs t fr hc ht) ht
theorem KeepsC.below {w w' : World} (h : Below w.heap.size w w') : KeepsC w w' := fun c _ _ _ hc _ => (h.block c (Array.getElem?_eq_some_iff.1 hc).1).trans hc
theorem KeepsC.grown {B n : Nat} {w w0 w' : World} {v : Value} {xs : List Value} (hown : w0.ownsRow B 5 1 v n xs) (h0 : KeepsC w w0) (hg : w0.grownBy w' v.ownBlock) : KeepsC w w' := fun c cs t fr hc ht => by
  have h1 := h0 c cs t fr hc ht
  exact (hg.block c (Array.getElem?_eq_some_iff.1 h1).1 (fun e => own_not hown h1 (fun e => ht e.symm) e.symm)).trans h1
theorem fourI_cells (x : Nat) (hx : x < 4294967296) : cells (four x) = [.int .u8 ((x : Int) / 16777216), .int .u8 ((x : Int) / 65536 % 256), .int .u8 ((x : Int) / 256 % 256), .int .u8 ((x : Int) % 256)] := by
  have k : ∀ m : Nat, ((UInt8.ofNat m).toNat : Int) = (m : Int) % 256 := fun m => by rw [UInt8.toNat_ofNat']; omega
  unfold cells four
  have e : (((x / 16777216 : Nat) : Int) % 256) = (x : Int) / 16777216 := by omega
  simp only [List.map_cons, List.map_nil, k]
  rw [e]
  rfl
set_option maxRecDepth 100000 in
set_option maxHeartbeats 1000000 in
theorem withNumber_any (B : Nat) (v : Value) (acc : List UInt8) (x : Nat) (hx : x ≤ 1000000000) (ha : acc.length ≤ 100000000) (w : World) (hB : B ≤ w.heap.size) (h : Buf w B v acc) :
    Calls Tryz.prog 47 #[v, .int .i64 x] w fun e w' => (∃ v', e = .returned v' ∧ Buf w' B v' (acc ++ four x)) ∧ Below B w w' ∧ KeepsC w w' := by
  obtain ⟨i0, hi, hz0, hz1, hz2⟩ := info_parts Tryz.infoByte
  have hcs := fourI_cells x (by omega)
  have hown := h
  unfold Buf at hown
  have OWN := Lib.hid hown; have HCS := Lib.hid hcs
  clear h hown hcs
  go_enter Tryz.func47, Tryz.ntmps47
  go_wp2_with (at_builtin; refine wpList_append_opt rfl (.tmp 5) (.tmp 17) 60 rfl B 5 i0 _ 1 1 Tryz.underlying60 hi hz0 hz1 hz2 rfl (by decide) _ _ _ rfl (World.ownsRow.alloc OWN.out _) (some ⟨_, 0, none⟩) 4 4 (cells (four x)) rfl rfl (.inr ⟨_, rfl, ?_⟩) (cells_one _) (by unfold maxLen; omega) (by omega) (by simp; omega) ?_)
  · rw [HCS.out]
    exact new_cells _ #[_, _, _, _] _
  · intro v8 w8 hown8 hg8 _
    have hb8 : Below B w w8 := ((Below.refl B w).alloc hB _).grown hg8 (by simp; omega) (fun j hj => (OWN.out.lt j hj).1)
    go_wp2
    go_ret
    exact ⟨⟨_, rfl, Buf.cut hown8 (by rw [List.length_append]; rfl) (by unfold cells; rw [List.map_append])⟩, hb8, KeepsC.grown (World.ownsRow.alloc OWN.out _) (KeepsC.below ((Below.refl _ _).alloc (Nat.le_refl _) _)) hg8⟩
set_option maxRecDepth 100000 in
set_option maxHeartbeats 1000000 in
theorem withText_any (B : Nat) (v : Value) (acc : List UInt8) (S : ByteArray) (s : List UInt8) (hS : S = ⟨s.toArray⟩) (hs : s.length ≤ 10000000) (ha : acc.length ≤ 90000000) (w : World) (hB : B ≤ w.heap.size) (h : Buf w B v acc) :
    Calls Tryz.prog 63 #[v, .string S] w fun e w' => (∃ v', e = .returned v' ∧ Buf w' B v' (acc ++ four s.length ++ s)) ∧ Below B w w' ∧ KeepsC w w' := by
  obtain ⟨i0, hi, hz0, hz1, hz2⟩ := info_parts Tryz.infoByte
  have hsz : S.size = s.length := by rw [hS]; show s.toArray.size = _; simp
  have hnum := withNumber_any B v acc S.size (by omega) (by omega) w hB h
  have hck : Lib.strCells S = cells s := by rw [hS]; unfold Lib.strCells cells; simp
  have NUM := Lib.hid hnum; have SZ := Lib.hid hsz; have CK := Lib.hid hck
  clear hnum hsz hck hS h
  go_enter Tryz.func63, Tryz.ntmps63
  go_wp2_with fail
  refine NUM.out.mono ?_
  rintro e w1 ⟨⟨v1, rfl, hB1⟩, hb1, hk1⟩
  have KC1 := Lib.hid hk1
  clear hk1
  rw [SZ.out] at hB1
  unfold Buf at hB1
  have OWN := Lib.hid hB1; have B1 := Lib.hid hb1
  clear hB1 hb1
  have hlen : (acc ++ four s.length).length = acc.length + 4 := by rw [List.length_append, four_len]
  dsimp only
  go_wp2_with (at_builtin; refine Lib.wpList_append_own_string _ rfl _ _ 60 9 rfl B 5 i0 Tryz.underlying60 Tryz.underlying9 hi hz0 hz1 hz2 _ _ _ rfl OWN.out S rfl (by rw [hlen, SZ.out]; unfold maxLen; omega) (by rw [hlen, SZ.out]; omega) (Nat.le_trans hB B1.out.size) ?_)
  intro v8 w8 hown8 hg8 _
  have hb8 : Below B w w8 := B1.out.grown hg8 (Nat.le_trans hB B1.out.size) (fun j hj => (OWN.out.lt j hj).1)
  go_wp2
  go_ret
  exact ⟨⟨_, rfl, Buf.cut hown8 (by rw [List.length_append, SZ.out, hlen]) (by rw [CK.out]; simp [cells])⟩, hb8, KeepsC.grown OWN.out KC1.out hg8⟩
theorem zero_or_one (b : Bool) : (if b = true then 1 else 0 : Nat) ≤ 1 := by cases b <;> decide
set_option maxRecDepth 100000 in
set_option maxHeartbeats 2000000 in
theorem withChange_any (B : Nat) (v : Value) (acc : List UInt8) (x : Ch) (S1 S2 : ByteArray) (G : Bool) (hS1 : S1 = ⟨x.key.toArray⟩) (hS2 : S2 = ⟨x.value.toArray⟩) (hG : G = x.gone) (hk : x.key.length ≤ 10000000) (hv : x.val.length ≤ 10000000) (ha : acc.length ≤ 10000000) (w : World) (hB : B ≤ w.heap.size) (h : Buf w B v acc) :
    Calls Tryz.prog 48 #[v, .agg #[.string S1, .string S2, .bool G]] w fun e w' => (∃ v', e = .returned v' ∧ Buf w' B v' (acc ++ recOne x)) ∧ Below B w w' ∧ KeepsC w w' := by
  have hrec : acc ++ recOne x = ((acc ++ four (if x.gone = true then 1 else 0)) ++ four x.key.length ++ x.key) ++ four x.val.length ++ x.val := by
    unfold recOne
    simp only [List.append_assoc]
  obtain ⟨W0, hW0⟩ : ∃ W, W = w.alloc (.cells #[.string S1, .string S2, .bool G] 37 (0, 0)) := ⟨_, rfl⟩
  have hb0 : Below w.heap.size w W0 := by rw [hW0]; exact (Below.refl _ _).alloc (Nat.le_refl _) _
  have k0 : W0.heap[w.heap.size]? = some (.cells #[.string S1, .string S2, .bool G] 37 (0, 0)) := by rw [hW0]; exact heap_alloc_last w _
  obtain ⟨⟨c0, c1, c2⟩, -⟩ := box3_of k0
  have hown0 : Buf W0 B v acc := own_below h hb0
  have hc0 : ∀ W, Below W0.heap.size W0 W → W.cell? ⟨w.heap.size, 0, none⟩ = some (.string S1) := fun W hb => (cell_here (blk_below k0 hb)).trans rfl
  obtain ⟨g, hg⟩ : ∃ g : Nat, (if x.gone = true then 1 else 0) = g := ⟨_, rfl⟩
  have hg1 : g ≤ 1 := by rw [← hg]; exact zero_or_one _
  rw [hg] at hrec
  obtain ⟨V, hV⟩ : ∃ V : ByteArray, V = ⟨x.val.toArray⟩ := ⟨_, rfl⟩
  have K0 := Lib.hid k0; have OWN := Lib.hid hown0; have HW0 := Lib.hid hW0; have B0 := Lib.hid hb0; have HREC := Lib.hid hrec; have HC0 := Lib.hid hc0; have HV := Lib.hid hV; have HS1 := Lib.hid hS1
  have HG := Lib.hid hG; have HGG := Lib.hid hg; have HS2 := Lib.hid hS2
  clear hown0 hW0 hb0 hrec k0 h hc0 hV hS1 hG hg hS2
  go_enter Tryz.func48, Tryz.ntmps48
  go_upto_region 1 with fail
  rw [← HW0.out]
  have hnum := fun W (hb : Below W0.heap.size W0 W) => withNumber_any B v acc g (by omega) (by omega) W (Nat.le_trans hB (Nat.le_trans B0.out.size hb.size)) (own_below OWN.out hb)
  have NUM := Lib.hid hnum
  clear hnum
  cases G with
  | true =>
    have hg2 : g = 1 := by rw [← HGG.out, ← HG.out]; rfl
    have hv2 : V = ⟨#[]⟩ := by
      rw [HV.out]
      unfold Ch.val
      rw [← HG.out, if_pos rfl]
    subst hg2; subst hv2
    go_quiet (fail)
    go_wp2_with fail
    have hn := NUM.out _ (belowDrewN (Below.refl _ _) nq)
    refine Calls.mono (by exact hn) ?_
    rintro e w1 ⟨⟨v1, rfl, hB1⟩, hb1, hk1⟩
    have hbx1 := hk1 _ _ _ _ (show (W0.drewN nq).heap[w.heap.size]? = _ from K0.out) (by decide)
    obtain ⟨⟨c0, -, -⟩, -⟩ := box3_of hbx1
    have hb1' : Below B w w1 := (belowDrewN (B0.out.mono hB) nq).trans hb1
    have hk1' : KeepsC w w1 := KeepsC.trans (KeepsC.below (belowDrewN B0.out nq)) hk1
    have ht := withText_any B v1 (acc ++ four 1) S1 x.key HS1.out hk (by rw [List.length_append, four_len]; omega) w1 (Nat.le_trans hB hb1'.size) hB1
    have HT := Lib.hid ht; have B1 := Lib.hid hb1'; have KC1 := Lib.hid hk1'
    clear hn hB1 hb1 hk1 hbx1 ht hb1' hk1'
    dsimp only
    go_wp2_with fail
    refine HT.out.mono ?_
    rintro e w2 ⟨⟨v2, rfl, hB2⟩, hb2, hk2⟩
    have ht := withText_any B v2 (acc ++ four 1 ++ four x.key.length ++ x.key) ⟨#[]⟩ x.val HV.out hv (by simp only [List.length_append, four_len]; omega) w2 (Nat.le_trans hB (B1.out.trans hb2).size) hB2
    have HT2 := Lib.hid ht; have B2 := Lib.hid (B1.out.trans hb2); have KC2 := Lib.hid (KC1.out.trans hk2)
    clear hB2 hb2 hk2 ht c0
    dsimp only
    go_wp2_with fail
    refine HT2.out.mono ?_
    rintro e w3 ⟨⟨v3, rfl, hB3⟩, hb3, hk3⟩
    have HEND : Hid ((∃ v', Ending.returned v3 = .returned v' ∧ Buf w3 B v' (acc ++ recOne x)) ∧ Below B w w3 ∧ KeepsC w w3) := Lib.hid ⟨⟨v3, rfl, by rw [HREC.out]; exact hB3⟩, B2.out.trans hb3, KC2.out.trans hk3⟩
    clear hB3 hb3 hk3
    dsimp only
    go_wp2
    go_ret
    exact HEND.out
  | false =>
    have hg2 : g = 0 := by rw [← HGG.out, ← HG.out]; rfl
    have hv2 : V = S2 := by
      rw [HV.out, HS2.out]
      unfold Ch.val
      rw [← HG.out, if_neg Bool.false_ne_true]
    subst hg2; subst hv2
    go_quiet (fail)
    go_wp2_with fail
    have hn := NUM.out _ (belowDrewN (Below.refl _ _) nq)
    refine Calls.mono (by exact hn) ?_
    rintro e w1 ⟨⟨v1, rfl, hB1⟩, hb1, hk1⟩
    have hbx1 := hk1 _ _ _ _ (show (W0.drewN nq).heap[w.heap.size]? = _ from K0.out) (by decide)
    obtain ⟨⟨c0, -, -⟩, -⟩ := box3_of hbx1
    have hb1' : Below B w w1 := (belowDrewN (B0.out.mono hB) nq).trans hb1
    have hk1' : KeepsC w w1 := KeepsC.trans (KeepsC.below (belowDrewN B0.out nq)) hk1
    have ht := withText_any B v1 (acc ++ four 0) S1 x.key HS1.out hk (by rw [List.length_append, four_len]; omega) w1 (Nat.le_trans hB hb1'.size) hB1
    have HT := Lib.hid ht; have B1 := Lib.hid hb1'; have KC1 := Lib.hid hk1'
    clear hn hB1 hb1 hk1 hbx1 ht hb1' hk1'
    dsimp only
    go_wp2_with fail
    refine HT.out.mono ?_
    rintro e w2 ⟨⟨v2, rfl, hB2⟩, hb2, hk2⟩
    have ht := withText_any B v2 (acc ++ four 0 ++ four x.key.length ++ x.key) V x.val HV.out hv (by simp only [List.length_append, four_len]; omega) w2 (Nat.le_trans hB (B1.out.trans hb2).size) hB2
    have HT2 := Lib.hid ht; have B2 := Lib.hid (B1.out.trans hb2); have KC2 := Lib.hid (KC1.out.trans hk2)
    clear hB2 hb2 hk2 ht c0
    dsimp only
    go_wp2_with fail
    refine HT2.out.mono ?_
    rintro e w3 ⟨⟨v3, rfl, hB3⟩, hb3, hk3⟩
    have HEND : Hid ((∃ v', Ending.returned v3 = .returned v' ∧ Buf w3 B v' (acc ++ recOne x)) ∧ Below B w w3 ∧ KeepsC w w3) := Lib.hid ⟨⟨v3, rfl, by rw [HREC.out]; exact hB3⟩, B2.out.trans hb3, KC2.out.trans hk3⟩
    clear hB3 hb3 hk3
    dsimp only
    go_wp2
    go_ret
    exact HEND.out
end Go.Proofs.YtkbjpgfdmkmbmaaGreatDoor
namespace Go.Proofs.YtkbjpgfdmkmbmaaGreatDoor
open Go.RowKit
set_option linter.unusedVariables false
set_option linter.unusedSimpArgs false

theorem recP_one (l : List Ch) (k : Nat) (x : Ch) (h : l.take (k + 1) = l.take k ++ [x]) : recP l (k + 1) = recP l k ++ recOne x := by
  unfold recP
  rw [h, recAll_snoc, List.append_assoc]
theorem recOne_le (l : List Ch) (x : Ch) (h : x ∈ l) : x.key.length ≤ (recL l).length ∧ x.val.length ≤ (recL l).length := by
  have h1 := recAll_mem l x h
  rw [recOne_len] at h1
  rw [recL_len]
  omega
/-- what a record's printing is -/
def PrintIs (w : World) (B : Nat) (l : List Ch) (e : Ending) : Prop :=
  ((recL l).length ≤ 32768 ∧ ∃ v, e = .returned (.tuple #[v, .bool true]) ∧ Buf w B v (recL l)) ∨ (32768 < (recL l).length ∧ e = .returned (.tuple #[.slice none 0 0, .bool false]))
set_option maxRecDepth 100000 in
set_option maxHeartbeats 4000000 in
theorem sprinted_any (A : Option Addr) (n c : Nat) (l : List Ch) (hn : l.length = n) (hl : (recL l).length ≤ 10000000) (w : World) (h : RdC w (.slice A n c) l) :
    Calls Tryz.prog 30 #[.slice A n c] w fun e w' => PrintIs w' w.heap.size l e ∧ Below w.heap.size w w' := by
  have hnl : n ≤ 10000000 := by
    have h1 := recAll_len l
    rw [recL_len] at hl
    omega
  have hall : ∀ k, (recP l k).length ≤ (recL l).length := recP_le l
  have hnum := withNumber_any w.heap.size (.slice none 0 0) [] n (by omega) (by simp) w (Nat.le_refl _) (World.ownsRow_nil _ _ _ _)
  rw [List.nil_append] at hnum
  have HRC := Lib.hid h; have HN := Lib.hid hn; have ALL := Lib.hid hall; have NUM := Lib.hid hnum; have HL := Lib.hid hl
  clear h hn hall hnum hl
  go_enter Tryz.func30, Tryz.ntmps30
  go_wp2_with fail
  refine NUM.out.mono ?_
  rintro e w1 ⟨⟨v1, rfl, hB1⟩, hb1, -⟩
  have BUF1 := Lib.hid hB1; have B1 := Lib.hid hb1; clear hB1 hb1
  dsimp only
  go_wp2_with fail
  go_loopw [4, 6, 12] (fun v x i W => ∃ k : Nat, k ≤ n ∧ i = .int .i64 k ∧ Hid (Buf W w.heap.size v (recP l k) ∧ (recP l k).length ≤ 32768 ∧ Below w.heap.size w W)) (fun _ _ i _ => n - (intOf i).toNat)
  case atStart => exact ⟨0, Nat.zero_le _, rfl, Lib.hid ⟨by rw [recP_zero, HN.out]; exact BUF1.out, by rw [recP_zero, four_len]; omega, B1.out⟩⟩
  case round =>
    obtain ⟨k, hk, rfl, hT⟩ := hrel
    by_cases hlt : k < n
    · have hkr : decide ((k : Int) < n) = true := by simp; omega
      have hkl : k < l.length := by rw [HN.out]; exact hlt
      have hk0 : (0 : Int) ≤ k := by omega
      have hk1 : (k : Int) < n := by omega
      obtain ⟨g, o, rfl, hg, e0, e1, e2⟩ := (HRC.out.below hT.out.2.2).at k hkl
      obtain ⟨x, hx⟩ : ∃ x, l[k] = x := ⟨_, rfl⟩
      have htk : l.take (k + 1) = l.take k ++ [x] := by rw [List.take_succ_eq_append_getElem hkl, hx]
      have hstep := recP_one l k x htk
      have hle := recOne_le l x (by rw [← hx]; exact List.getElem_mem hkl)
      obtain ⟨S1, hS1⟩ : ∃ X : ByteArray, X = ⟨x.key.toArray⟩ := ⟨_, rfl⟩
      obtain ⟨S2, hS2⟩ : ∃ X : ByteArray, X = ⟨x.value.toArray⟩ := ⟨_, rfl⟩
      obtain ⟨G, hG⟩ : ∃ X, X = x.gone := ⟨_, rfl⟩
      rw [hx] at e0 e1 e2
      unfold tv at e0 e1
      rw [← hS1] at e0
      rw [← hS2] at e1
      rw [← hG] at e2
      obtain ⟨W1, hW1⟩ : ∃ W, W = wr.alloc (.cells #[.string S1, .string S2, .bool G] 37 (0, 0)) := ⟨_, rfl⟩
      have hb1 : Below wr.heap.size wr W1 := by rw [hW1]; exact (Below.refl _ _).alloc (Nat.le_refl _) _
      have k1 : W1.heap[wr.heap.size]? = some (.cells #[.string S1, .string S2, .bool G] 37 (0, 0)) := by rw [hW1]; exact heap_alloc_last wr _
      have hch := withChange_any w.heap.size u4 (recP l k) x S1 S2 G hS1 hS2 hG (by have := HL.out; omega) (by have := HL.out; omega) (by have := hT.out.2.1; omega) W1 (Nat.le_trans hT.out.2.2.size hb1.size) (own_below hT.out.1 hb1)
      rw [← hstep] at hch
      have CH := Lib.hid hch; have K1 := Lib.hid k1; have HW1 := Lib.hid hW1; have BB := Lib.hid hb1
      clear hch k1 hW1 hb1 hstep hle htk hx hS1 hS2 hG hg hkl
      go_upto_region 5 with fail
      rw [← HW1.out]
      obtain ⟨⟨c0, c1, c2⟩, -⟩ := box3_of K1.out
      go_wp2_with fail
      refine CH.out.mono ?_
      rintro e w2 ⟨⟨v2, rfl, hB2⟩, hb2, -⟩
      have hb2' : Below w.heap.size w w2 := (hT.out.2.2.chain BB.out).trans hb2
      obtain ⟨A2, c2', rfl⟩ := own_form hB2
      obtain ⟨m, hm⟩ : ∃ m, (recP l (k + 1)).length = m := ⟨_, rfl⟩
      have B2 := Lib.hid hb2'; have BUF2 := Lib.hid hB2; have HM := Lib.hid hm
      rw [hm]
      clear hb2 hB2 hb2' hm c0 c1 c2 e0 e1 e2
      by_cases hbig : 32768 < m
      · have hd : decide ((32768 : Int) < (m : Int)) = true := by simp; omega
        have hp : PrintIs w2 w.heap.size l (.returned (.tuple #[.slice none 0 0, .bool false])) := .inr ⟨by have := ALL.out (k + 1); rw [HM.out] at this; omega, rfl⟩
        have HP := Lib.hid hp
        clear hp
        dsimp only
        go_wp2
        go_ret2
        exact ⟨HP.out, B2.out⟩
      · have hd : decide ((32768 : Int) < (m : Int)) = false := by simp; omega
        have hd2 : ¬ (32768 : Int) < (m : Int) := by omega
        dsimp only
        go_wp2
        go_roundw
        case rel => exact ⟨k + 1, by omega, by go_num, Lib.hid ⟨by have := BUF2.out; rwa [HM.out] at this, by rw [HM.out]; omega, B2.out⟩⟩
        case measure => simp [intOf]; omega
    · obtain rfl : k = n := by omega
      have hkr : decide ((k : Int) < k) = false := by simp
      have he := recP_all l k (by rw [HN.out]; exact Nat.le_refl _)
      have hp : ∀ W, Below wr.heap.size wr W → PrintIs W w.heap.size l (.returned (.tuple #[u4, .bool true])) ∧ Below w.heap.size w W := fun W hb => ⟨.inl ⟨by have := hT.out.2.1; rwa [he] at this, u4, rfl, own_below (by have := hT.out.1; rwa [he] at this) hb⟩, hT.out.2.2.chain hb⟩
      have HP := Lib.hid hp
      clear hp he
      go_wp2
      go_ret2
      exact HP.out _ (Below.refl _ _)
end Go.Proofs.YtkbjpgfdmkmbmaaGreatDoor
