/- Texts merged by program, in build order: LinkPure, LinkRef, LinkSame, LinkStored, StoreSize. -/
import Derived.Test.YtkbjpgfdmkmbmaaGreatDoorG13
import Derived.Test.YtkbjpgfdmkmbmaaGreatDoorG01
import Derived.Test.YtkbjpgfdmkmbmaaGreatDoorG08
import Derived.Lib.AppendZeros
import Derived.Test.YtkbjpgfdmkmbmaaGreatDoorG03
import Derived.Test.YtkbjpgfdmkmbmaaGreatDoorG12
import Derived.Test.YtkbjpgfdmkmbmaaGreatDoorG09
import Derived.Test.YtkbjpgfdmkmbmaaGreatDoorG10
set_option linter.unusedVariables false
set_option linter.unusedSimpArgs false
namespace Go.Proofs.YtkbjpgfdmkmbmaaGreatDoor
set_option linter.unusedVariables false

def lkeyL (conn sub : List UInt8) : List UInt8 := 108 :: textsL [conn, sub]
theorem lkeyL_inj {c s c' s' : List UInt8} (h : lkeyL c s = lkeyL c' s') : c = c' ∧ s = s' := by
  unfold lkeyL at h
  injection h with _ h
  have := textsL_inj h
  simp only [List.cons.injEq, and_true] at this
  exact this
def userL (conn sub : List UInt8) : List UInt8 := conn ++ 58 :: sub
/-- the user, the changes, the error -/
def linkR (rows : RowL) (conn : List UInt8) (opn : Bool) (sub : List UInt8) : List UInt8 × List Ch × Int :=
  match getR rows (lkeyL conn sub) with
  | some v => (v, [], 0)
  | none => if opn = false then ([], [], 6) else if 32 ≤ (keysR rows [108]).length then ([], [], 7) else (userL conn sub, [⟨lkeyL conn sub, userL conn sub, false⟩], 0)
/-- the changes that take a link away -/
def unlinkR (rows : RowL) (conn sub : List UInt8) : List Ch × Bool :=
  match getR rows (lkeyL conn sub) with
  | some _ => ([⟨lkeyL conn sub, [], true⟩], true)
  | none => ([], false)
theorem lkeyL_len (c s : List UInt8) (h : c.length + s.length ≤ 1000000) : (lkeyL c s).length ≤ c.length + s.length + 17 := by
  unfold lkeyL
  have h1 := decL_len c.length 7 (Nat.lt_of_le_of_lt (show c.length ≤ 1000000 by omega) (by decide)) (by decide)
  have h2 := decL_len s.length 7 (Nat.lt_of_le_of_lt (show s.length ≤ 1000000 by omega) (by decide)) (by decide)
  rw [List.length_cons, textsL_cons, textsL_cons, textsL_nil]
  simp only [List.length_append, List.length_cons, List.length_nil]
  omega
end Go.Proofs.YtkbjpgfdmkmbmaaGreatDoor
namespace Go.Proofs.YtkbjpgfdmkmbmaaGreatDoor
open Go.RowKit
set_option linter.unusedVariables false
set_option linter.unusedSimpArgs false

set_option maxRecDepth 100000 in
set_option maxHeartbeats 4000000 in
theorem refLinkKey_any (conn sub : List UInt8) (hl : conn.length + sub.length ≤ 1000000) (w : World) :
    Calls Tryz.prog 9 #[tv conn, tv sub] w fun e w' => e = .returned (tv (lkeyL conn sub)) ∧ Below w.heap.size w w' := by
  have htx := fun (W : World) (R : Nat) (h : RdT W (.slice (some ⟨R, 0, none⟩) 2 2) [conn, sub]) => refTexts13_any (some ⟨R, 0, none⟩) 2 [conn, sub] (by have := lkeyL_len conn sub hl; unfold lkeyL at this; rw [List.length_cons] at this; omega) W h
  obtain ⟨B0, hB0⟩ : ∃ B : ByteArray, B = ⟨conn.toArray⟩ := ⟨_, rfl⟩
  obtain ⟨B1, hB1⟩ : ∃ B : ByteArray, B = ⟨sub.toArray⟩ := ⟨_, rfl⟩
  have hC : tcells [conn, sub] = [.string B0, .string B1] := by rw [hB0, hB1]; rfl
  obtain ⟨D, hD⟩ : ∃ B : ByteArray, B = ⟨(textsL [conn, sub]).toArray⟩ := ⟨_, rfl⟩
  have hDs : D.size ≤ 1000100 := by
    have := lkeyL_len conn sub hl
    unfold lkeyL at this
    rw [List.length_cons] at this
    rw [hD]; show (textsL [conn, sub]).toArray.size ≤ _
    rw [List.size_toArray]; omega
  have hKD : (⟨(lkeyL conn sub).toArray⟩ : ByteArray) = ByteArray.mk #[108] ++ D := by
    rw [hD]; apply ByteArray.ext; simp [lkeyL, ByteArray.data_append]
  unfold tv at htx
  rw [← hD] at htx
  have HDS := Lib.hid hDs; have HKD := Lib.hid hKD
  have HTX := Lib.hid htx; have HC := Lib.hid hC
  unfold tv
  rw [← hB0, ← hB1]
  clear htx hC hB0 hB1 hD hDs hKD
  go_enter Tryz.func9, Tryz.ntmps9
  go_wp2_with fail
  refine (HTX.out _ _ (rdt_new (heap_alloc_last w _) (by rw [HC.out]))).mono ?_
  rintro e w1 ⟨rfl, hb1⟩
  have B1' := Lib.hid hb1; clear hb1
  have hDs := HDS.out
  go_wp2
  go_ret
  exact ⟨by rw [HKD.out]; rfl, ((Below.refl _ _).alloc (Nat.le_refl _) _).chain B1'.out⟩
theorem rdc_none (w : World) : RdC w (.slice none 0 0) [] := ⟨none, 0, rfl, Nat.le_refl _, fun k x hk => by simp at hk⟩
theorem one_ch {w : World} {b : Nat} {k v : List UInt8} {K V : ByteArray} {fr : Nat × Nat} (hk : tv k = .string K) (hv : tv v = .string V) (h : w.heap[b]? = some (.cells #[.string K, .string V, .bool false] 37 fr)) : RdC w (.slice (some ⟨b, 0, none⟩) 1 1) [⟨k, v, false⟩] :=
  ⟨_, 1, rfl, Nat.le_refl _, fun j x hj => by
    obtain rfl : j = 0 := by
      rcases j with _ | j
      · rfl
      · simp at hj
    obtain rfl : _ = x := Option.some.inj hj
    exact ⟨b, 0, rfl, (Array.getElem?_eq_some_iff.1 h).1, by rw [hk]; exact cell_here h, by rw [hv]; exact cell_here h, cell_here h⟩⟩
set_option maxRecDepth 100000 in
set_option maxHeartbeats 4000000 in
theorem refResolve_any (A : Option Addr) (c : Nat) (rows : RowL) (cn : ConnP) (sub : List UInt8) (hl : cn.fID.length + sub.length ≤ 1000000) (hrl : rows.length ≤ 100000) (hz : ∀ r ∈ rows, r.1.length ≤ 1000000000000) (w : World) (h : RdR w (.slice A rows.length c) rows) :
    Calls Tryz.prog 14 #[.slice A rows.length c, cn.val, tv sub] w fun e w' => (∃ v, e = .returned (.tuple #[tv (linkR rows cn.fID cn.fOpen sub).1, v, .int .i64 (linkR rows cn.fID cn.fOpen sub).2.2]) ∧ RdC w' v (linkR rows cn.fID cn.fOpen sub).2.1) ∧ Below w.heap.size w w' := by
  have hkey := fun W => refLinkKey_any cn.fID sub hl W
  have hval := fun W h => refValue_any A c rows ⟨(lkeyL cn.fID sub).toArray⟩ (by omega) W h
  have hkeys := fun W h => refKeysR_any A c rows ⟨#[108]⟩ hrl W h hz (by decide)
  obtain ⟨L, hL⟩ : ∃ L, linkR rows cn.fID cn.fOpen sub = L := ⟨_, rfl⟩
  rw [hL]
  obtain ⟨B0, hB0⟩ : ∃ B : ByteArray, B = ⟨cn.fID.toArray⟩ := ⟨_, rfl⟩
  obtain ⟨B1, hB1⟩ : ∃ B : ByteArray, B = ⟨sub.toArray⟩ := ⟨_, rfl⟩
  obtain ⟨KY, hKY⟩ : ∃ B : ByteArray, B = ⟨(lkeyL cn.fID sub).toArray⟩ := ⟨_, rfl⟩
  have h0s : B0.size ≤ 1000000 := by rw [hB0]; show cn.fID.toArray.size ≤ _; rw [List.size_toArray]; omega
  have h1s : B1.size ≤ 1000000 := by rw [hB1]; show sub.toArray.size ≤ _; rw [List.size_toArray]; omega
  have hU : tv (userL cn.fID sub) = .string ((B0 ++ ByteArray.mk #[58]) ++ B1) := by
    rw [hB0, hB1]; unfold tv userL; congr 1; apply ByteArray.ext; simp [ByteArray.data_append]
  have t0 : tv cn.fID = .string B0 := by rw [hB0]; rfl
  have t1 : tv sub = .string B1 := by rw [hB1]; rfl
  have tk : tv (lkeyL cn.fID sub) = .string KY := by rw [hKY]; rfl
  unfold ConnP.val
  obtain ⟨n, hn⟩ : ∃ n, rows.length = n := ⟨_, rfl⟩
  obtain ⟨b, hb⟩ : ∃ b, w.heap.size = b := ⟨_, rfl⟩
  obtain ⟨W0, hW0⟩ : ∃ W, w.alloc (.cells #[.string B0, tv cn.fIssuer, tv cn.fClient, tv cn.fAuth, tv cn.fSecret, .bool cn.fOpen, tv cn.fRules] 40) = W := ⟨_, rfl⟩
  have hb0 : Below w.heap.size w W0 := by rw [← hW0]; exact (Below.refl _ _).alloc (Nat.le_refl _) _
  have k0 : W0.heap[b]? = some (.cells #[.string B0, tv cn.fIssuer, tv cn.fClient, tv cn.fAuth, tv cn.fSecret, .bool cn.fOpen, tv cn.fRules] 40) := by rw [← hW0, ← hb]; exact heap_alloc_last w _
  have hcb : ∀ W, Below W0.heap.size W0 W → W.cell? ⟨b, 0, none⟩ = some (.string B0) ∧ W.cell? ⟨b, 5, none⟩ = some (.bool cn.fOpen) := fun W hb => by
    have k := blk_below k0 hb
    exact ⟨cell_here k, cell_here k⟩
  have hkr : ∀ W, Below w.heap.size w W → RdR W (.slice A rows.length c) rows := fun W hw => h.below hw
  simp only [t0, t1, tk] at hkey hkr ⊢
  have hKl : KY.data.toList = lkeyL cn.fID sub := by rw [hKY]
  rw [← hKY] at hval
  rw [hKl] at hval
  rw [hn] at hval hkeys hkr ⊢
  have HKEY := Lib.hid hkey; have HVAL := Lib.hid hval; have HKEYS := Lib.hid hkeys; have HL := Lib.hid hL; have HCB := Lib.hid hcb; have HB0 := Lib.hid hb0; have HW0 := Lib.hid hW0; have HB := Lib.hid hb; have HKR := Lib.hid hkr; have HU := Lib.hid hU; have H0S := Lib.hid h0s; have H1S := Lib.hid h1s; have TK := Lib.hid tk; have T0 := Lib.hid t0
  clear hKl hkey hval hkeys hL hcb hb0 hW0 hb hkr hU h0s h1s tk t0 t1 hB0 hB1 hKY k0 h hn
  go_enter Tryz.func14, Tryz.ntmps14
  go_upto_region 1 with fail
  rw [HW0.out, HB.out]
  have hq := HCB.out _ (Below.refl _ _)
  obtain ⟨q0, q5⟩ := hq
  go_wp2_with fail
  refine (HKEY.out W0).mono ?_
  rintro e w1 ⟨rfl, hb1⟩
  have G1 := Lib.hid (HB0.out.chain hb1)
  have C1 := Lib.hid hb1; clear hb1
  dsimp only []
  go_wp2_with fail
  refine (HVAL.out w1 (HKR.out _ G1.out)).mono ?_
  rintro e w2 ⟨rfl, hb2⟩
  have G2 := Lib.hid (G1.out.chain hb2)
  have C2 := Lib.hid (C1.out.chain hb2); clear hb2
  dsimp only []
  have hL := HL.out
  unfold linkR at hL
  cases hg : getR rows (lkeyL cn.fID sub) with
  | some v =>
    rw [hg] at hL
    dsimp only at hL
    subst hL
    clear hg
    have G2' := G2.out
    obtain ⟨V, hV⟩ : ∃ B : ByteArray, B = ⟨v.toArray⟩ := ⟨_, rfl⟩
    have tV : tv v = .string V := by rw [hV]; rfl
    have TV := Lib.hid tV
    unfold getV15
    try dsimp only
    rw [tV]
    clear hV tV
    go_wp2
    go_ret3
    exact ⟨⟨_, by rw [TV.out]; rfl, rdc_none _⟩, G2.out⟩
  | none =>
    rw [hg] at hL
    dsimp only at hL
    clear hg
    unfold getV15
    try dsimp only
    have hq := HCB.out _ C2.out
    obtain ⟨q0', q5'⟩ := hq
    cases ho : cn.fOpen with
    | false =>
      rw [ho] at hL q5'
      rw [if_pos rfl] at hL
      subst hL
      go_wp2
      go_ret3
      exact ⟨⟨_, rfl, rdc_none _⟩, G2.out⟩
    | true =>
      rw [ho] at hL q5'
      rw [if_neg (by decide)] at hL
      go_wp2_with fail
      refine (HKEYS.out w2 (HKR.out _ G2.out)).mono ?_
      rintro e w3 ⟨⟨v, rfl, hv⟩, hb3⟩
      have G3 := Lib.hid (G2.out.chain hb3)
      have C3 := Lib.hid (C2.out.chain hb3); clear hb3
      have hvr := hv.rd
      obtain ⟨AK, cK, rfl, hcK, hRK⟩ := hvr
      clear hv hRK hcK
      obtain ⟨m, hm⟩ : ∃ m, (keysR rows [108]).length = m := ⟨_, rfl⟩
      rw [hm] at hL ⊢
      clear hm
      dsimp only []
      by_cases hm32 : 32 ≤ m
      · rw [if_pos hm32] at hL
        subst hL
        have hm' : (32 : Int) ≤ (m : Int) := by omega
        go_wp2
        go_ret3
        exact ⟨⟨_, rfl, rdc_none _⟩, G3.out⟩
      · rw [if_neg hm32] at hL
        subst hL
        have hm' : ¬ (32 : Int) ≤ (m : Int) := by omega
        have h0s := H0S.out
        have h1s := H1S.out
        have h01 : (B0 ++ ByteArray.mk #[58]).size = B0.size + 1 := ByteArray.size_append
        go_upto_region 9 with fail
        refine wp_region_held_drew (S := (fun W => W.cell? ⟨b, 0, none⟩ = some (.string B0))) (by kernel_rfl) ((HCB.out _ (C3.out.chain (Below.refl w3.heap.size w3).drew)).1) (fun hHeld => ?_)
        refine wpAnyH_take (i := 0) (oi := _) (v := ?v1) (by simp only [List.getElem?_toArray, List.getElem?_cons_succ, List.getElem?_cons_zero]; rfl) (by kernel_rfl) (by kernel_rfl) (by kernel_rfl) (by exact fun _ _ _ h => h) (Or.inl ⟨by rfl, ?hy1⟩) (by assumption) ?rest1
        case hy1 => (intro w hSw; (try dsimp only at hSw); go_simp; first | with_reducible rfl | (rw [if_neg (by omega)]))
        try simp only [Act.put, List.setIfInBounds_toArray, List.set_cons_zero, List.set_cons_succ]
        refine wpAnyH_take (i := 1) (oi := _) (v := ?v2) (by simp only [List.getElem?_toArray, List.getElem?_cons_succ, List.getElem?_cons_zero]; rfl) (by kernel_rfl) (by kernel_rfl) (by kernel_rfl) (by exact fun _ _ _ h => h) (Or.inl ⟨by rfl, ?hy2⟩) (by assumption) ?rest2
        case hy2 => (intro w hSw; (try dsimp only at hSw); go_simp; first | with_reducible rfl | (rw [if_neg (by omega)]))
        try simp only [Act.put, List.setIfInBounds_toArray, List.set_cons_zero, List.set_cons_succ]
        refine wpAnyH_take (i := 2) (oi := _) (v := ?v3) (by simp only [List.getElem?_toArray, List.getElem?_cons_succ, List.getElem?_cons_zero]; rfl) (by kernel_rfl) (by kernel_rfl) (by kernel_rfl) (by exact fun _ _ _ h => h) (Or.inl ⟨by rfl, ?hy3⟩) (by assumption) ?rest3
        case hy3 => (intro w hSw; (try dsimp only at hSw); go_simp; first | with_reducible rfl | (rw [if_neg (by omega)]))
        try simp only [Act.put, List.setIfInBounds_toArray, List.set_cons_zero, List.set_cons_succ]
        refine wpAnyH_take (i := 3) (oi := _) (v := ?v4) (by simp only [List.getElem?_toArray, List.getElem?_cons_succ, List.getElem?_cons_zero]; rfl) (by kernel_rfl) (by kernel_rfl) (by kernel_rfl) (by exact fun _ _ _ h => h) (Or.inl ⟨by rfl, ?hy4⟩) (by assumption) ?rest4
        case hy4 => (intro w hSw; (try dsimp only at hSw); go_simp; first | with_reducible rfl | (rw [if_neg (by omega)]))
        try simp only [Act.put, List.setIfInBounds_toArray, List.set_cons_zero, List.set_cons_succ]
        refine wpAnyH_take (i := 4) (oi := _) (v := ?v5) (by simp only [List.getElem?_toArray, List.getElem?_cons_succ, List.getElem?_cons_zero]; rfl) (by kernel_rfl) (by kernel_rfl) (by kernel_rfl) (by exact fun _ _ _ h => h) (Or.inl ⟨by rfl, ?hy5⟩) (by assumption) ?rest5
        case hy5 => (intro w hSw; (try dsimp only at hSw); go_simp; first | with_reducible rfl | (rw [if_neg (by omega)]))
        try simp only [Act.put, List.setIfInBounds_toArray, List.set_cons_zero, List.set_cons_succ]
        refine wpAnyH_take (i := 5) (oi := _) (v := ?v6) (by simp only [List.getElem?_toArray, List.getElem?_cons_succ, List.getElem?_cons_zero]; rfl) (by kernel_rfl) (by kernel_rfl) (by kernel_rfl) (by exact fun _ _ _ h => h) (Or.inl ⟨by rfl, ?hy6⟩) (by assumption) ?rest6
        case hy6 => (intro w hSw; (try dsimp only at hSw); go_simp; first | with_reducible rfl | (rw [if_neg (by omega)]))
        try simp only [Act.put, List.setIfInBounds_toArray, List.set_cons_zero, List.set_cons_succ]
        refine wpAnyH_take (i := 6) (oi := _) (v := ?v7) (by simp only [List.getElem?_toArray, List.getElem?_cons_succ, List.getElem?_cons_zero]; rfl) (by kernel_rfl) (by kernel_rfl) (by kernel_rfl) (by exact fun _ _ _ h => h) (Or.inl ⟨by rfl, ?hy7⟩) (by assumption) ?rest7
        case hy7 => (intro w hSw; (try dsimp only at hSw); go_simp; first | with_reducible rfl | (rw [if_neg (by omega)]))
        try simp only [Act.put, List.setIfInBounds_toArray, List.set_cons_zero, List.set_cons_succ]
        refine wpAnyH_take (i := 7) (oi := _) (v := ?v8) (by simp only [List.getElem?_toArray, List.getElem?_cons_succ, List.getElem?_cons_zero]; rfl) (by kernel_rfl) (by kernel_rfl) (by kernel_rfl) (by exact fun _ _ _ h => h) (Or.inl ⟨by rfl, ?hy8⟩) (by assumption) ?rest8
        case hy8 => (intro w hSw; (try dsimp only at hSw); go_simp; first | with_reducible rfl | (rw [if_neg (by omega)]))
        try simp only [Act.put, List.setIfInBounds_toArray, List.set_cons_zero, List.set_cons_succ]
        refine wpAnyH_take (i := 8) (oi := _) (v := ?v9) (by simp only [List.getElem?_toArray, List.getElem?_cons_succ, List.getElem?_cons_zero]; rfl) (by kernel_rfl) (by kernel_rfl) (by kernel_rfl) (by exact fun _ _ _ h => h) (Or.inl ⟨by rfl, ?hy9⟩) (by assumption) ?rest9
        case hy9 => (intro w hSw; (try dsimp only at hSw); go_simp; first | with_reducible rfl | (rw [if_neg (by omega)]))
        try simp only [Act.put, List.setIfInBounds_toArray, List.set_cons_zero, List.set_cons_succ]
        refine wpAnyH_take (i := 9) (oi := _) (v := ?v10) (by simp only [List.getElem?_toArray, List.getElem?_cons_succ, List.getElem?_cons_zero]; rfl) (by kernel_rfl) (by kernel_rfl) (by kernel_rfl) (by exact fun _ _ _ h => h) (Or.inl ⟨by rfl, ?hy10⟩) (by assumption) ?rest10
        case hy10 => (intro w hSw; (try dsimp only at hSw); go_simp; first | with_reducible rfl | (rw [if_neg (by omega)]))
        try simp only [Act.put, List.setIfInBounds_toArray, List.set_cons_zero, List.set_cons_succ]
        refine wpAnyH_take (i := 10) (oi := _) (v := ?v11) (by simp only [List.getElem?_toArray, List.getElem?_cons_succ, List.getElem?_cons_zero]; rfl) (by kernel_rfl) (by kernel_rfl) (by kernel_rfl) (by exact fun _ _ _ h => h) (Or.inl ⟨by rfl, ?hy11⟩) (by assumption) ?rest11
        case hy11 => (intro w hSw; (try dsimp only at hSw); go_simp; first | with_reducible rfl | (rw [if_neg (by omega)]))
        try simp only [Act.put, List.setIfInBounds_toArray, List.set_cons_zero, List.set_cons_succ]
        refine wpAnyH_take (i := 11) (oi := _) (v := ?v12) (by simp only [List.getElem?_toArray, List.getElem?_cons_succ, List.getElem?_cons_zero]; rfl) (by kernel_rfl) (by kernel_rfl) (by kernel_rfl) (by exact fun _ _ _ h => h) (Or.inl ⟨by rfl, ?hy12⟩) (by assumption) ?rest12
        case hy12 => (intro w hSw; (try dsimp only at hSw); go_simp; first | with_reducible rfl | (rw [if_neg (by omega)]))
        try simp only [Act.put, List.setIfInBounds_toArray, List.set_cons_zero, List.set_cons_succ]
        refine wpAnyH_take (i := 13) (oi := _) (v := ?v13) (by simp only [List.getElem?_toArray, List.getElem?_cons_succ, List.getElem?_cons_zero]; rfl) (by kernel_rfl) (by kernel_rfl) (by kernel_rfl) (by exact fun _ _ _ h => h) (Or.inl ⟨by rfl, ?hy13⟩) (by assumption) ?rest13
        case hy13 => (intro w hSw; (try dsimp only at hSw); go_simp; first | with_reducible rfl | (rw [if_neg (by omega)]))
        try simp only [Act.put, List.setIfInBounds_toArray, List.set_cons_zero, List.set_cons_succ]
        refine wpAnyH_ready (rs := [12]) (by kernel_rfl) (by simp) ?_
        refine AllReadyH.cons (o := _) (by simp only [List.getElem?_toArray, List.getElem?_cons_succ, List.getElem?_cons_zero]; rfl) (fun K hK => ?_) AllReadyH.nil
        go_simp
        have Q9 := Lib.hid ((Below.refl w3.heap.size w3).drew.alloc (Nat.le_refl _) (.cells #[.string KY, .string ((B0 ++ ByteArray.mk #[58]) ++ B1), .bool false] 37))
        have K9 := Lib.hid (heap_alloc_last w3.drew (.cells #[.string KY, .string ((B0 ++ ByteArray.mk #[58]) ++ B1), .bool false] 37))
        refine hK.out _ _ ((HCB.out _ (C3.out.chain Q9.out)).1) (fun hHeld => ?_)
        clear hK K
        try simp only [Act.put, List.setIfInBounds_toArray, List.set_cons_zero, List.set_cons_succ]
        refine wpAnyH_take (i := 14) (oi := _) (v := ?v15) (by simp only [List.getElem?_toArray, List.getElem?_cons_succ, List.getElem?_cons_zero]; rfl) (by kernel_rfl) (by kernel_rfl) (by kernel_rfl) (by exact fun _ _ _ h => h) (Or.inl ⟨by rfl, ?hy15⟩) (by assumption) ?rest15
        case hy15 => (intro w hSw; (try dsimp only at hSw); go_simp; first | with_reducible rfl | (rw [if_neg (by omega)]))
        try simp only [Act.put, List.setIfInBounds_toArray, List.set_cons_zero, List.set_cons_succ]
        refine wpAnyH_take (i := 15) (oi := _) (v := ?v16) (by simp only [List.getElem?_toArray, List.getElem?_cons_succ, List.getElem?_cons_zero]; rfl) (by kernel_rfl) (by kernel_rfl) (by kernel_rfl) (by exact fun _ _ _ h => h) (Or.inl ⟨by rfl, ?hy16⟩) (by assumption) ?rest16
        case hy16 => (intro w hSw; (try dsimp only at hSw); go_simp; first | with_reducible rfl | (rw [if_neg (by omega)]))
        try simp only [Act.put, List.setIfInBounds_toArray, List.set_cons_zero, List.set_cons_succ]
        refine wpAnyH_done (by kernel_rfl) ?_ _
        go_wp2
        go_ret3
        exact ⟨⟨_, by rw [HU.out]; rfl, one_ch TK.out HU.out K9.out⟩, G3.out.chain Q9.out⟩
end Go.Proofs.YtkbjpgfdmkmbmaaGreatDoor
namespace Go.Proofs.YtkbjpgfdmkmbmaaGreatDoor
open Go.RowKit
set_option linter.unusedVariables false
set_option linter.unusedSimpArgs false

theorem ch_if {α : Type} (x y : Ch) (a b : α) : (if x.key = y.key then (if x.value = y.value then (if x.gone = y.gone then a else b) else b) else b) = if x = y then a else b := by
  obtain ⟨k, v, g⟩ := x
  obtain ⟨k', v', g'⟩ := y
  simp only [Ch.mk.injEq]
  by_cases h1 : k = k' <;> by_cases h2 : v = v' <;> by_cases h3 : g = g' <;> simp [h1, h2, h3]
set_option maxRecDepth 100000 in
set_option maxHeartbeats 4000000 in
theorem same15_any (v v' : Value) (la lb : List Ch) (ha : la.length ≤ 1000000) (hb : lb.length ≤ 1000000) (w : World) (h : RdC w v la) (h' : RdC w v' lb) :
    Calls Tryz.prog 12 #[v, v'] w fun e w' => e = .returned (.bool (decide (la = lb))) ∧ Below w.heap.size w w' := by
  obtain ⟨A, c, rfl, hc, hA⟩ := h
  obtain ⟨A', c', rfl, hc', hA'⟩ := h'
  by_cases hn : la.length = lb.length
  · obtain ⟨n, hln⟩ : ∃ n, la.length = n := ⟨_, rfl⟩
    have hlb : lb.length = n := by omega
    rw [hln] at ha hc ⊢
    rw [hlb] at hc' ⊢
    obtain ⟨R, hR⟩ : ∃ R, decide (la = lb) = R := ⟨_, rfl⟩
    have hyes : la.take n = lb.take n → R = true := fun e => by
      rw [List.take_of_length_le (by omega), List.take_of_length_le (by omega)] at e
      rw [← hR, e]; simp
    have hno : ∀ k (h1 : k < la.length) (h2 : k < lb.length), la[k] ≠ lb[k] → R = false := fun k h1 h2 e => by
      rw [← hR]
      exact decide_eq_false fun e2 => e (by subst e2; rfl)
    rw [hR]
    have HA := Lib.hid hA; have HA' := Lib.hid hA'; have HY := Lib.hid hyes; have HN := Lib.hid hno; have HL := Lib.hid hln; have HL' := Lib.hid hlb
    clear hA hA' hyes hno hln hlb hR hn hb
    go_enter Tryz.func12, Tryz.ntmps12
    go_wp2
    go_loopw [5] (fun i W => ∃ k : Nat, k ≤ n ∧ i = .int .i64 k ∧ Hid (la.take k = lb.take k ∧ Below w.heap.size w W)) (fun i _ => n - (intOf i).toNat)
    case atStart => exact ⟨0, Nat.zero_le _, rfl, Lib.hid ⟨rfl, Below.refl _ _⟩⟩
    case round =>
      obtain ⟨k, hk, rfl, hT⟩ := hrel
      by_cases hlt : k < n
      · have hkr : decide ((k : Int) < n) = true := by simp; omega
        have hk0 : (0 : Int) ≤ k := by omega
        have hk1 : (k : Int) < n := by omega
        have hka : k < la.length := by rw [HL.out]; exact hlt
        have hkb : k < lb.length := by rw [HL'.out]; exact hlt
        obtain ⟨g, o, rfl, hg, c1, c2, c3⟩ := HA.out k la[k] (List.getElem?_eq_getElem hka)
        obtain ⟨g', o', rfl, hg', d1, d2, d3⟩ := HA'.out k lb[k] (List.getElem?_eq_getElem hkb)
        have kb := hT.out.2.block g hg
        have kb' := hT.out.2.block g' hg'
        replace c1 := (World.cell?_of_block (a := ⟨g, o + k * 3, none⟩) kb).trans c1
        replace c2 := (World.cell?_of_block (a := ⟨g, o + k * 3 + 1, none⟩) kb).trans c2
        replace c3 := (World.cell?_of_block (a := ⟨g, o + k * 3 + 2, none⟩) kb).trans c3
        replace d1 := (World.cell?_of_block (a := ⟨g', o' + k * 3, none⟩) kb').trans d1
        replace d2 := (World.cell?_of_block (a := ⟨g', o' + k * 3 + 1, none⟩) kb').trans d2
        replace d3 := (World.cell?_of_block (a := ⟨g', o' + k * 3 + 2, none⟩) kb').trans d3
        obtain ⟨x, hx⟩ : ∃ x, la[k] = x := ⟨_, rfl⟩
        obtain ⟨y, hy⟩ : ∃ y, lb[k] = y := ⟨_, rfl⟩
        rw [hx] at c1 c2 c3
        rw [hy] at d1 d2 d3
        obtain ⟨K, hK⟩ : ∃ B : ByteArray, B = ⟨x.key.toArray⟩ := ⟨_, rfl⟩
        obtain ⟨V, hV⟩ : ∃ B : ByteArray, B = ⟨x.value.toArray⟩ := ⟨_, rfl⟩
        obtain ⟨G, hG⟩ : ∃ b, b = x.gone := ⟨_, rfl⟩
        obtain ⟨K2, hK2⟩ : ∃ B : ByteArray, B = ⟨y.key.toArray⟩ := ⟨_, rfl⟩
        obtain ⟨V2, hV2⟩ : ∃ B : ByteArray, B = ⟨y.value.toArray⟩ := ⟨_, rfl⟩
        obtain ⟨G2, hG2⟩ : ∃ b, b = y.gone := ⟨_, rfl⟩
        unfold tv at c1 c2 d1 d2
        rw [← hK] at c1
        rw [← hV] at c2
        rw [← hG] at c3
        rw [← hK2] at d1
        rw [← hV2] at d2
        rw [← hG2] at d3
        by_cases hq : x = y
        · have hmore := take_eq_step hT.out.1 hka hkb (by rw [hx, hy, hq])
          have HM := Lib.hid hmore; have HQ := Lib.hid hq
          clear hmore hq
          go_upto_region 6 with fail
          refine wp_region_held_drew (S := (fun W => W.cell? ⟨g, o + k * 3, none⟩ = some (.string K) ∧ W.cell? ⟨g, o + k * 3 + 1, none⟩ = some (.string V) ∧ W.cell? ⟨g, o + k * 3 + 2, none⟩ = some (.bool G) ∧ W.cell? ⟨g', o' + k * 3, none⟩ = some (.string K2) ∧ W.cell? ⟨g', o' + k * 3 + 1, none⟩ = some (.string V2) ∧ W.cell? ⟨g', o' + k * 3 + 2, none⟩ = some (.bool G2))) (by kernel_rfl) (⟨c1, c2, c3, d1, d2, d3⟩) (fun hHeld => ?_)
          refine wpAnyH_take (i := 0) (oi := _) (v := ?v1) (by simp only [List.getElem?_toArray, List.getElem?_cons_succ, List.getElem?_cons_zero]; rfl) (by kernel_rfl) (by kernel_rfl) (by kernel_rfl) (by exact fun _ _ _ h => h) (Or.inl ⟨by rfl, ?hy1⟩) (by assumption) ?rest1
          case hy1 => (intro w hSw; (try dsimp only at hSw); go_simp; try with_reducible rfl)
          try simp only [Act.put, List.setIfInBounds_toArray, List.set_cons_zero, List.set_cons_succ]
          refine wpAnyH_take (i := 1) (oi := _) (v := ?v2) (by simp only [List.getElem?_toArray, List.getElem?_cons_succ, List.getElem?_cons_zero]; rfl) (by kernel_rfl) (by kernel_rfl) (by kernel_rfl) (by exact fun _ _ _ h => h) (Or.inl ⟨by rfl, ?hy2⟩) (by assumption) ?rest2
          case hy2 => (intro w hSw; (try dsimp only at hSw); go_simp; try with_reducible rfl)
          try simp only [Act.put, List.setIfInBounds_toArray, List.set_cons_zero, List.set_cons_succ]
          refine wpAnyH_take (i := 2) (oi := _) (v := ?v3) (by simp only [List.getElem?_toArray, List.getElem?_cons_succ, List.getElem?_cons_zero]; rfl) (by kernel_rfl) (by kernel_rfl) (by kernel_rfl) (by exact fun _ _ _ h => h) (Or.inl ⟨by rfl, ?hy3⟩) (by assumption) ?rest3
          case hy3 => (intro w hSw; (try dsimp only at hSw); go_simp; try with_reducible rfl)
          try simp only [Act.put, List.setIfInBounds_toArray, List.set_cons_zero, List.set_cons_succ]
          refine wpAnyH_take (i := 3) (oi := _) (v := ?v4) (by simp only [List.getElem?_toArray, List.getElem?_cons_succ, List.getElem?_cons_zero]; rfl) (by kernel_rfl) (by kernel_rfl) (by kernel_rfl) (by exact fun _ _ _ h => h) (Or.inl ⟨by rfl, ?hy4⟩) (by assumption) ?rest4
          case hy4 => (intro w hSw; (try dsimp only at hSw); go_simp; try with_reducible rfl)
          try simp only [Act.put, List.setIfInBounds_toArray, List.set_cons_zero, List.set_cons_succ]
          refine wpAnyH_take (i := 4) (oi := _) (v := ?v5) (by simp only [List.getElem?_toArray, List.getElem?_cons_succ, List.getElem?_cons_zero]; rfl) (by kernel_rfl) (by kernel_rfl) (by kernel_rfl) (by exact fun _ _ _ h => h) (Or.inl ⟨by rfl, ?hy5⟩) (by assumption) ?rest5
          case hy5 => (intro w hSw; (try dsimp only at hSw); go_simp; try with_reducible rfl)
          try simp only [Act.put, List.setIfInBounds_toArray, List.set_cons_zero, List.set_cons_succ]
          refine wpAnyH_take (i := 5) (oi := _) (v := ?v6) (by simp only [List.getElem?_toArray, List.getElem?_cons_succ, List.getElem?_cons_zero]; rfl) (by kernel_rfl) (by kernel_rfl) (by kernel_rfl) (by exact fun _ _ _ h => h) (Or.inl ⟨by rfl, ?hy6⟩) (by assumption) ?rest6
          case hy6 => (intro w hSw; (try dsimp only at hSw); go_simp; try with_reducible rfl)
          try simp only [Act.put, List.setIfInBounds_toArray, List.set_cons_zero, List.set_cons_succ]
          refine wpAnyH_take (i := 6) (oi := _) (v := ?v7) (by simp only [List.getElem?_toArray, List.getElem?_cons_succ, List.getElem?_cons_zero]; rfl) (by kernel_rfl) (by kernel_rfl) (by kernel_rfl) (by exact fun _ _ _ h => h) (Or.inl ⟨by rfl, ?hy7⟩) (by assumption) ?rest7
          case hy7 => (intro w hSw; (try dsimp only at hSw); go_simp; try with_reducible rfl)
          try simp only [Act.put, List.setIfInBounds_toArray, List.set_cons_zero, List.set_cons_succ]
          refine wpAnyH_take (i := 7) (oi := _) (v := ?v8) (by simp only [List.getElem?_toArray, List.getElem?_cons_succ, List.getElem?_cons_zero]; rfl) (by kernel_rfl) (by kernel_rfl) (by kernel_rfl) (by exact fun _ _ _ h => h) (Or.inl ⟨by rfl, ?hy8⟩) (by assumption) ?rest8
          case hy8 => (intro w hSw; (try dsimp only at hSw); go_simp; try with_reducible rfl)
          try simp only [Act.put, List.setIfInBounds_toArray, List.set_cons_zero, List.set_cons_succ]
          refine wpAnyH_take (i := 8) (oi := _) (v := ?v9) (by simp only [List.getElem?_toArray, List.getElem?_cons_succ, List.getElem?_cons_zero]; rfl) (by kernel_rfl) (by kernel_rfl) (by kernel_rfl) (by exact fun _ _ _ h => h) (Or.inl ⟨by rfl, ?hy9⟩) (by assumption) ?rest9
          case hy9 => (intro w hSw; (try dsimp only at hSw); go_simp; rw [ch_if, if_pos HQ.out])
          try simp only [Act.put, List.setIfInBounds_toArray, List.set_cons_zero, List.set_cons_succ]
          refine wpAnyH_done (by kernel_rfl) ?_ _
          go_wp2
          go_roundw
          case rel => exact ⟨k + 1, by omega, by go_num, Lib.hid ⟨HM.out, hT.out.2.drew⟩⟩
          case measure => simp [intOf]; omega
        · have hR := HN.out k hka hkb (by rw [hx, hy]; exact hq)
          have HQ := Lib.hid hq; have HR := Lib.hid hR
          clear hq hR
          go_upto_region 6 with fail
          refine wp_region_held_drew (S := (fun W => W.cell? ⟨g, o + k * 3, none⟩ = some (.string K) ∧ W.cell? ⟨g, o + k * 3 + 1, none⟩ = some (.string V) ∧ W.cell? ⟨g, o + k * 3 + 2, none⟩ = some (.bool G) ∧ W.cell? ⟨g', o' + k * 3, none⟩ = some (.string K2) ∧ W.cell? ⟨g', o' + k * 3 + 1, none⟩ = some (.string V2) ∧ W.cell? ⟨g', o' + k * 3 + 2, none⟩ = some (.bool G2))) (by kernel_rfl) (⟨c1, c2, c3, d1, d2, d3⟩) (fun hHeld => ?_)
          refine wpAnyH_take (i := 0) (oi := _) (v := ?v10) (by simp only [List.getElem?_toArray, List.getElem?_cons_succ, List.getElem?_cons_zero]; rfl) (by kernel_rfl) (by kernel_rfl) (by kernel_rfl) (by exact fun _ _ _ h => h) (Or.inl ⟨by rfl, ?hy10⟩) (by assumption) ?rest10
          case hy10 => (intro w hSw; (try dsimp only at hSw); go_simp; try with_reducible rfl)
          try simp only [Act.put, List.setIfInBounds_toArray, List.set_cons_zero, List.set_cons_succ]
          refine wpAnyH_take (i := 1) (oi := _) (v := ?v11) (by simp only [List.getElem?_toArray, List.getElem?_cons_succ, List.getElem?_cons_zero]; rfl) (by kernel_rfl) (by kernel_rfl) (by kernel_rfl) (by exact fun _ _ _ h => h) (Or.inl ⟨by rfl, ?hy11⟩) (by assumption) ?rest11
          case hy11 => (intro w hSw; (try dsimp only at hSw); go_simp; try with_reducible rfl)
          try simp only [Act.put, List.setIfInBounds_toArray, List.set_cons_zero, List.set_cons_succ]
          refine wpAnyH_take (i := 2) (oi := _) (v := ?v12) (by simp only [List.getElem?_toArray, List.getElem?_cons_succ, List.getElem?_cons_zero]; rfl) (by kernel_rfl) (by kernel_rfl) (by kernel_rfl) (by exact fun _ _ _ h => h) (Or.inl ⟨by rfl, ?hy12⟩) (by assumption) ?rest12
          case hy12 => (intro w hSw; (try dsimp only at hSw); go_simp; try with_reducible rfl)
          try simp only [Act.put, List.setIfInBounds_toArray, List.set_cons_zero, List.set_cons_succ]
          refine wpAnyH_take (i := 3) (oi := _) (v := ?v13) (by simp only [List.getElem?_toArray, List.getElem?_cons_succ, List.getElem?_cons_zero]; rfl) (by kernel_rfl) (by kernel_rfl) (by kernel_rfl) (by exact fun _ _ _ h => h) (Or.inl ⟨by rfl, ?hy13⟩) (by assumption) ?rest13
          case hy13 => (intro w hSw; (try dsimp only at hSw); go_simp; try with_reducible rfl)
          try simp only [Act.put, List.setIfInBounds_toArray, List.set_cons_zero, List.set_cons_succ]
          refine wpAnyH_take (i := 4) (oi := _) (v := ?v14) (by simp only [List.getElem?_toArray, List.getElem?_cons_succ, List.getElem?_cons_zero]; rfl) (by kernel_rfl) (by kernel_rfl) (by kernel_rfl) (by exact fun _ _ _ h => h) (Or.inl ⟨by rfl, ?hy14⟩) (by assumption) ?rest14
          case hy14 => (intro w hSw; (try dsimp only at hSw); go_simp; try with_reducible rfl)
          try simp only [Act.put, List.setIfInBounds_toArray, List.set_cons_zero, List.set_cons_succ]
          refine wpAnyH_take (i := 5) (oi := _) (v := ?v15) (by simp only [List.getElem?_toArray, List.getElem?_cons_succ, List.getElem?_cons_zero]; rfl) (by kernel_rfl) (by kernel_rfl) (by kernel_rfl) (by exact fun _ _ _ h => h) (Or.inl ⟨by rfl, ?hy15⟩) (by assumption) ?rest15
          case hy15 => (intro w hSw; (try dsimp only at hSw); go_simp; try with_reducible rfl)
          try simp only [Act.put, List.setIfInBounds_toArray, List.set_cons_zero, List.set_cons_succ]
          refine wpAnyH_take (i := 6) (oi := _) (v := ?v16) (by simp only [List.getElem?_toArray, List.getElem?_cons_succ, List.getElem?_cons_zero]; rfl) (by kernel_rfl) (by kernel_rfl) (by kernel_rfl) (by exact fun _ _ _ h => h) (Or.inl ⟨by rfl, ?hy16⟩) (by assumption) ?rest16
          case hy16 => (intro w hSw; (try dsimp only at hSw); go_simp; try with_reducible rfl)
          try simp only [Act.put, List.setIfInBounds_toArray, List.set_cons_zero, List.set_cons_succ]
          refine wpAnyH_take (i := 7) (oi := _) (v := ?v17) (by simp only [List.getElem?_toArray, List.getElem?_cons_succ, List.getElem?_cons_zero]; rfl) (by kernel_rfl) (by kernel_rfl) (by kernel_rfl) (by exact fun _ _ _ h => h) (Or.inl ⟨by rfl, ?hy17⟩) (by assumption) ?rest17
          case hy17 => (intro w hSw; (try dsimp only at hSw); go_simp; try with_reducible rfl)
          try simp only [Act.put, List.setIfInBounds_toArray, List.set_cons_zero, List.set_cons_succ]
          refine wpAnyH_take (i := 8) (oi := _) (v := ?v18) (by simp only [List.getElem?_toArray, List.getElem?_cons_succ, List.getElem?_cons_zero]; rfl) (by kernel_rfl) (by kernel_rfl) (by kernel_rfl) (by exact fun _ _ _ h => h) (Or.inl ⟨by rfl, ?hy18⟩) (by assumption) ?rest18
          case hy18 => (intro w hSw; (try dsimp only at hSw); go_simp; rw [ch_if, if_neg HQ.out])
          try simp only [Act.put, List.setIfInBounds_toArray, List.set_cons_zero, List.set_cons_succ]
          refine wpAnyH_done (by kernel_rfl) ?_ _
          go_wp2
          go_ret
          exact ⟨ret_bool HR.out.symm, hT.out.2.drew⟩
      · obtain rfl : k = n := by omega
        have hkr : decide ((k : Int) < k) = false := by simp
        have hyes := HY.out hT.out.1
        have HY2 := Lib.hid hyes
        clear hyes
        go_wp2
        go_ret
        exact ⟨ret_bool HY2.out.symm, hT.out.2⟩
  · have hno : decide (la = lb) = false := decide_eq_false fun e => hn (by rw [e])
    rw [hno]
    obtain ⟨n, hln⟩ : ∃ n, la.length = n := ⟨_, rfl⟩
    obtain ⟨m, hlm⟩ : ∃ m, lb.length = m := ⟨_, rfl⟩
    rw [hln, hlm] at hn
    rw [hln] at ha hc ⊢
    rw [hlm] at hb hc' ⊢
    have hne : ¬ (n : Int) = (m : Int) := by omega
    clear hA hA' hno hln hlm
    go_enter Tryz.func12, Tryz.ntmps12
    go_wp2
    go_ret
    exact ⟨rfl, Below.refl _ _⟩
end Go.Proofs.YtkbjpgfdmkmbmaaGreatDoor
namespace Go.Proofs.YtkbjpgfdmkmbmaaGreatDoor
open Go.RowKit
set_option linter.unusedVariables false
set_option linter.unusedSimpArgs false

def few15 (l : List Ch) : Bool := decide (l.length + sumC l < 20000) && decide (l.length ≤ 200)
variable {CT : World → (Nat → Prop) → Nat → TP → Prop} {CS : World → (Nat → Prop) → Nat → Nat → RowL → Prop}
set_option maxRecDepth 100000 in
set_option maxHeartbeats 4000000 in
theorem stored15_any (HT : TapeL CT) (H : CodeStore CT CS) (A : Option Addr) (c : Nat) (l : List Ch) (hl : l.length ≤ 200000000000000) (hz : ∀ x ∈ l, x.key.length ≤ 200000000000000 ∧ x.value.length ≤ 200000000000000) (w : World) (hrd : RoundsIn w) (h : RdC w (.slice A l.length c) l) (hown : ∀ g, (Value.slice A l.length c).ownBlock = some g → l.length ≠ 0 → g < w.heap.size)
    (hrec : few15 l = true → (recL l).length ≤ 1000000 ∧ (recL (allR (turnL [] l))).length ≤ 1000000) :
    Calls Tryz.prog 5 #[.slice A l.length c] w fun e w' => (few15 l = false ∧ e = .returned (.tuple #[.pointer none, .slice none 0 0, .bool false]) ∧ Below w.heap.size w w') ∨ (few15 l = true ∧ ∃ p v rows, e = .returned (.tuple #[.pointer (some ⟨p, 0, none⟩), v, .bool true]) ∧ (rows = turnL [] l ∨ rows = []) ∧ StoL CT CS w w' p rows (fun b => b < w.heap.size) ∧ RdR w' v rows) := by
  obtain ⟨n, hn⟩ : ∃ n, l.length = n := ⟨_, rfl⟩
  have hres : few15 l = (decide (n + sumC l < 20000) && decide (n ≤ 200)) := by unfold few15; rw [hn]
  have hmono := sumC_take l
  have HRC := Lib.hid h; have HN := Lib.hid hn; have HZ := Lib.hid hz; have RES := Lib.hid hres; have MONO := Lib.hid hmono; have HRD := Lib.hid hrd; have HOWN := Lib.hid hown; have HREC := Lib.hid hrec
  rw [hn] at hl ⊢
  clear h hn hz hres hmono hrd hown hrec
  have HH := Lib.hid H; have HHT := Lib.hid HT
  clear H HT
  go_enter Tryz.func5, Tryz.ntmps5
  go_wp2
  go_loopw [5, 6] (fun s i W => ∃ k sm : Nat, k ≤ n ∧ i = .int .i64 k ∧ s = .int .i64 sm ∧ Hid (sm = n + sumC (l.take k) ∧ (0 < k → sumC (l.take (k - 1)) + n < 20000) ∧ Below w.heap.size w W)) (fun _ i _ => n - (intOf i).toNat)
  case atStart => exact ⟨0, n, Nat.zero_le _, rfl, rfl, Lib.hid ⟨by simp [sumC], fun h => absurd h (Nat.lt_irrefl _), Below.refl _ _⟩⟩
  case round =>
    obtain ⟨k, sm, hk, rfl, rfl, hT⟩ := hrel
    by_cases hlt : k < n
    · have hkr : decide ((k : Int) < n) = true := by simp; omega
      by_cases hs : sm < 20000
      · have ds : decide ((sm : Int) < 20000) = true := by simp; omega
        have hkl : k < l.length := by rw [HN.out]; exact hlt
        have hk0 : (0 : Int) ≤ k := by omega
        have hk1 : (k : Int) < n := by omega
        obtain ⟨g, o, rfl, hg, c1, c2, -⟩ := (HRC.out.below hT.out.2.2).at k hkl
        obtain ⟨x, hx⟩ : ∃ x, l[k] = x := ⟨_, rfl⟩
        have hxz := HZ.out l[k] (List.getElem_mem hkl)
        have hst : sumC (l.take (k + 1)) = sumC (l.take k) + (x.key.length + x.value.length) := by
          rw [List.take_succ_eq_append_getElem hkl, hx, sumC_snoc]
        rw [hx] at c1 c2 hxz
        unfold tv at c1 c2
        obtain ⟨S1, hS1⟩ : ∃ S : ByteArray, S = ⟨x.key.toArray⟩ := ⟨_, rfl⟩
        obtain ⟨S2, hS2⟩ : ∃ S : ByteArray, S = ⟨x.value.toArray⟩ := ⟨_, rfl⟩
        have z1 : S1.size = x.key.length := by rw [hS1]; show x.key.toArray.size = _; simp
        have z2 : S2.size = x.value.length := by rw [hS2]; show x.value.toArray.size = _; simp
        rw [← hS1] at c1
        rw [← hS2] at c2
        obtain ⟨a1, ha1⟩ : ∃ n, S1.size = n := ⟨_, rfl⟩
        obtain ⟨a2, ha2⟩ : ∃ n, S2.size = n := ⟨_, rfl⟩
        have q1 : IntKind.i64.wrap ((sm : Int) + a1) = (sm : Int) + a1 := wraps_i64 _ (by omega) (by omega)
        have q2 : IntKind.i64.wrap ((sm : Int) + a1 + a2) = (sm : Int) + a1 + a2 := wraps_i64 _ (by omega) (by omega)
        have hnew : sm + a1 + a2 = n + sumC (l.take (k + 1)) := by have := hT.out.1; omega
        have hold : sumC (l.take k) + n < 20000 := by have := hT.out.1; omega
        have NEW := Lib.hid hnew; have OLD := Lib.hid hold
        clear hnew hold hst hxz hS1 hS2 z1 z2 hx hkl hg
        go_upto_region 5 with fail
        go_quiet (fail)
        go_wp2
        go_roundw
        case rel => exact ⟨k + 1, sm + a1 + a2, by omega, by go_num, by go_num, Lib.hid ⟨NEW.out, fun _ => OLD.out, belowDrewN hT.out.2.2 _⟩⟩
        case measure => simp [intOf]; omega
      · have ds : decide ((sm : Int) < 20000) = false := by simp; omega
        have hfin : few15 l = false := by
          rw [RES.out]
          have h1 := MONO.out k
          have h2 := hT.out.1
          rw [decide_eq_false (by omega)]; rfl
        have HF := Lib.hid hfin
        have ds2 : (20000 : Int) ≤ (sm : Int) := by omega
        clear hfin
        go_wp2
        go_ret3
        exact .inl ⟨HF.out, rfl, hT.out.2.2⟩
    · obtain rfl : k = n := by omega
      have hkr : decide ((k : Int) < k) = false := by simp
      have htk : l.take k = l := List.take_of_length_le (by rw [HN.out]; exact Nat.le_refl _)
      have h1 := hT.out.1
      rw [htk] at h1
      have hfin : few15 l = (decide (sm < 20000) && decide (k ≤ 200)) := by rw [RES.out, ← h1]
      have HF := Lib.hid hfin
      clear hfin h1 htk
      by_cases hs : sm < 20000
      · have ds : ¬ (20000 : Int) ≤ (sm : Int) := by omega
        by_cases h100 : k ≤ 200
        · have dk : ¬ (200 : Int) < (k : Int) := by omega
          have hf : few15 l = true := by rw [HF.out, decide_eq_true hs, decide_eq_true h100]; rfl
          have HG := Lib.hid hf
          clear hf
          have hkk : l.length = k := HN.out
          go_wp2_with fail
          refine (HHT.out.new wr).mono ?_
          rintro e w1 ⟨⟨q, T, rfl, hct, hTn⟩, hb1⟩
          have hlow1 := hT.out.2.2.chain hb1
          have hst := StoL.start (w0 := w) HH.out hct (fun b hb => Nat.le_trans hT.out.2.2.size (hTn b hb)) hlow1 (HRD.out.below hlow1)
          have HST := Lib.hid hst
          clear hct hTn hb1 hlow1 hst
          dsimp only
          go_wp2_with fail
          refine HST.out.mono ?_
          rintro e w2 ⟨p, rfl, hs2⟩
          have hdo := hs2.do_ HH.out A c l (by simp) HRD.out (HRC.out.below hs2.low) (by rw [hkk]; omega) (HREC.out HG.out).1 (HREC.out HG.out).2 (fun g h1 h2 => HOWN.out g h1 h2)
          have S2 := Lib.hid hs2; 
          rw [hkk] at hdo
          have HDO := Lib.hid hdo
          clear hs2 hdo
          dsimp only
          go_wp2_with fail
          refine HDO.out.mono ?_
          rintro e w3 ⟨r, rows', rfl, hs3, -, hcs⟩
          have S3 := Lib.hid hs3
          have nilR : ∀ W, RdR W (.slice none 0 0) [] := fun W => ⟨none, 0, rfl, Nat.le_refl _, fun _ => rfl, fun k r hk => by simp at hk⟩
          have htu := refTurn_any none 0 [] A c l (by decide) (by rw [hkk]; omega) w3 (nilR w3) (HRC.out.below hs3.low)
          rw [hkk] at htu
          have HTU := Lib.hid htu; have NR := Lib.hid nilR
          clear hs3 htu nilR
          dsimp only
          rcases hcs with ⟨rfl, hrows, -⟩ | ⟨rfl, hrows, -⟩ | ⟨rfl, hrows, -⟩
          · have HR := Lib.hid hrows
            clear hrows
            go_wp2_with fail
            refine HTU.out.mono ?_
            rintro e w4 ⟨⟨v, rfl, hq⟩, hb4⟩
            have Q4 := Lib.hid hq.rd; have B4 := Lib.hid hb4
            clear hq hb4
            dsimp only
            go_wp2
            go_ret3
            exact .inr ⟨HG.out, p, v, rows', rfl, .inl HR.out, (S3.out.later HHT.out HH.out B4.out).less (fun b hb => .inl hb), by rw [HR.out]; exact Q4.out⟩
          · have HR := Lib.hid hrows
            clear hrows
            go_wp2
            go_ret3
            exact .inr ⟨HG.out, p, _, rows', rfl, .inr HR.out, S3.out, by rw [HR.out]; exact NR.out _⟩
          · have HR := Lib.hid hrows
            clear hrows
            go_wp2
            go_ret3
            exact .inr ⟨HG.out, p, _, rows', rfl, .inr HR.out, S3.out, by rw [HR.out]; exact NR.out _⟩
        · have dk : (200 : Int) < (k : Int) := by omega
          have hf : few15 l = false := by rw [HF.out, decide_eq_false h100, Bool.and_false]
          have HG := Lib.hid hf
          clear hf
          go_wp2
          go_ret3
          exact .inl ⟨HG.out, rfl, hT.out.2.2⟩
      · have ds : (20000 : Int) ≤ (sm : Int) := by omega
        have hf : few15 l = false := by rw [HF.out, decide_eq_false hs]; rfl
        have HG := Lib.hid hf
        clear hf
        go_wp2
        go_ret3
        exact .inl ⟨HG.out, rfl, hT.out.2.2⟩
end Go.Proofs.YtkbjpgfdmkmbmaaGreatDoor
namespace Go.Proofs.YtkbjpgfdmkmbmaaGreatDoor
set_option linter.unusedVariables false

theorem recAll_size : ∀ (l : List Ch), (recAll l).length ≤ 12 * l.length + sumC l
  | [] => Nat.zero_le _
  | x :: l => by
    have := recAll_size l
    rw [recAll_cons, List.length_append, recOne_len, List.length_cons]
    simp only [sumC]
    have h : x.val.length ≤ x.value.length := by unfold Ch.val; split <;> simp
    omega
def sumR : RowL → Nat
  | [] => 0
  | r :: l => r.1.length + r.2.length + sumR l
theorem sumR_filter (p : List UInt8 × List UInt8 → Bool) : ∀ (l : RowL), sumR (l.filter p) ≤ sumR l
  | [] => Nat.le_refl _
  | r :: l => by
    have := sumR_filter p l
    rw [List.filter_cons]
    split
    · simp only [sumR]; omega
    · simp only [sumR]; omega
theorem sumR_ins (k v : List UInt8) : ∀ (p : Bool) (rows : RowL), sumR (insL k v p rows) ≤ sumR rows + (k.length + v.length)
  | true, rows => by rw [insL_placed]; have := sumR_filter (fun r : List UInt8 × List UInt8 => decide (r.1 ≠ k)) rows; omega
  | false, [] => by unfold insL; simp [sumR]
  | false, r :: rs => by
    rw [insL_cons]
    cases hl : Go.Op.bytesLess r.1 k with
    | true =>
      rw [if_neg (fun e => by cases e.2)]
      have := sumR_ins k v false rs
      simp only [List.nil_append, Bool.not_true, Bool.or_false]
      by_cases hk : r.1 = k
      · rw [if_pos hk]; simp only [List.nil_append, sumR]; omega
      · rw [if_neg hk]; simp only [List.cons_append, List.nil_append, sumR]; omega
    | false =>
      rw [if_pos ⟨rfl, rfl⟩]
      simp only [Bool.not_false, Bool.or_true]
      rw [insL_placed]
      have := sumR_filter (fun x : List UInt8 × List UInt8 => decide (x.1 ≠ k)) rs
      by_cases hk : r.1 = k
      · rw [if_pos hk]; simp only [List.cons_append, List.nil_append, sumR]; omega
      · rw [if_neg hk]; simp only [List.cons_append, List.nil_append, sumR]; omega
theorem sumR_turn : ∀ (l : List Ch) (rows : RowL), sumR (turnL rows l) ≤ sumR rows + sumC l
  | [], _ => Nat.le_refl _
  | x :: l, rows => by
    rw [turnL_cons]
    have h1 := sumR_turn l (turn1 rows x)
    have h2 := sumR_ins x.key x.value x.gone rows
    unfold turn1 at h1
    simp only [sumC]
    unfold turn1
    omega
theorem sumC_all : ∀ (rows : RowL), sumC (allR rows) = sumR rows
  | [] => rfl
  | r :: l => by
    show r.1.length + r.2.length + sumC (allR l) = _
    rw [sumC_all l]; rfl
theorem rec_all_le (rows : RowL) : (recL (allR rows)).length ≤ 4 + 12 * rows.length + sumR rows := by
  have := recAll_size (allR rows)
  rw [sumC_all] at this
  rw [recL_len]
  have h : (allR rows).length = rows.length := by simp [allR]
  omega
theorem sumR_mem : ∀ (rows : RowL) (r : List UInt8 × List UInt8), r ∈ rows → r.1.length + r.2.length ≤ sumR rows
  | x :: l, r, h => by
    simp only [sumR]
    rcases List.mem_cons.1 h with rfl | h
    · omega
    · have := sumR_mem l r h; omega
end Go.Proofs.YtkbjpgfdmkmbmaaGreatDoor
