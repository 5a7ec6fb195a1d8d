/- Texts merged by program, in build order: LawLinkA, LawLinkF, LawLinkR, LinkMany, LawLinkT, LawLinkU, LinkHold, ItoaDec, KitIn. -/
import Derived.Test.YtkbjpgfdmkmbmaaGreatDoorG14
import Derived.Test.YtkbjpgfdmkmbmaaGreatDoorG12
import Derived.Lib.ItoaMem
import Derived.Test.YtkbjpgfdmkmbmaaGreatDoorG01
import Derived.Lib.LaidTab
import Derived.Lib.ItoaNum
import Derived.Lib.SmallJoins
set_option linter.unusedVariables false
set_option linter.unusedSimpArgs false
namespace Go.Proofs.YtkbjpgfdmkmbmaaGreatDoor
open Go.RowKit
set_option linter.unusedVariables false
set_option linter.unusedSimpArgs false

theorem few15_sizes {l : List Ch} (h : few15 l = true) : l.length ≤ 200 ∧ sumC l < 20000 ∧ (recL l).length ≤ 1000000 ∧ (recL (allR (turnL [] l))).length ≤ 1000000 ∧ (turnL [] l).length ≤ 200 ∧ ∀ r ∈ turnL [] l, r.1.length + r.2.length ≤ 20000 := by
  unfold few15 at h
  simp only [Bool.and_eq_true, decide_eq_true_eq] at h
  have h1 := recAll_size l
  have h2 := rec_all_le (turnL [] l)
  have h3 : sumR (turnL [] l) ≤ 0 + sumC l := sumR_turn l []
  have h4 : (turnL [] l).length ≤ 0 + l.length := turnL_len l []
  refine ⟨h.2, by omega, by rw [recL_len]; omega, by omega, by omega, fun r hr => ?_⟩
  have := sumR_mem _ r hr
  omega
/-- what the code's links do, over a store of just these rows, behind world w0 -/
structure CodeLink (w0 : World) (CS : World → (Nat → Prop) → Nat → Nat → RowL → Prop) : Prop where
  key : ∀ (w : World) (conn sub : List UInt8), Below w0.heap.size w0 w → conn.length + sub.length ≤ 2000 → Calls Tryz.prog 11 #[tv conn, tv sub] w fun e w' => e = .returned (tv (lkeyL conn sub)) ∧ Below w.heap.size w w'
  find : ∀ (w : World) (S : Nat → Prop) (p q : Nat) (rows : RowL) (conn sub : List UInt8), Below w0.heap.size w0 w → CS w S p q rows → conn.length + sub.length ≤ 2000 → Calls Tryz.prog 7 #[.pointer (some ⟨p, 0, none⟩), tv conn, tv sub] w fun e w' => e = .returned (getV (getR rows (lkeyL conn sub))) ∧ Below w.heap.size w w'
  resolve : ∀ (w : World) (S : Nat → Prop) (p q : Nat) (rows : RowL) (cn : ConnP) (sub : List UInt8), Below w0.heap.size w0 w → CS w S p q rows → cn.fID.length + sub.length ≤ 2000 → rows.length ≤ 100000 → Calls Tryz.prog 13 #[.pointer (some ⟨p, 0, none⟩), cn.val, tv sub] w fun e w' =>
    (∃ v, e = .returned (.tuple #[tv (linkR rows cn.fID cn.fOpen sub).1, v, .int .i64 (linkR rows cn.fID cn.fOpen sub).2.2]) ∧ RdC w' v (linkR rows cn.fID cn.fOpen sub).2.1 ∧ ∀ g, v.ownBlock = some g → (linkR rows cn.fID cn.fOpen sub).2.1.length ≠ 0 → w.heap.size ≤ g) ∧ Below w.heap.size w w'
  remove : ∀ (w : World) (S : Nat → Prop) (p q : Nat) (rows : RowL) (conn sub : List UInt8), Below w0.heap.size w0 w → CS w S p q rows → conn.length + sub.length ≤ 2000 → Calls Tryz.prog 10 #[.pointer (some ⟨p, 0, none⟩), tv conn, tv sub] w fun e w' =>
    (∃ v, e = .returned (.tuple #[v, .bool (unlinkR rows conn sub).2]) ∧ RdC w' v (unlinkR rows conn sub).1 ∧ ∀ g, v.ownBlock = some g → (unlinkR rows conn sub).1.length ≠ 0 → w.heap.size ≤ g) ∧ Below w.heap.size w w'
theorem CodeLink.later {w0 w1 : World} {CS : World → (Nat → Prop) → Nat → Nat → RowL → Prop} (K : CodeLink w0 CS) (hb : Below w0.heap.size w0 w1) : CodeLink w1 CS :=
  ⟨fun w c s h => K.key w c s (hb.chain h), fun w S p q rows c s h => K.find w S p q rows c s (hb.chain h), fun w S p q rows c s h => K.resolve w S p q rows c s (hb.chain h), fun w S p q rows c s h => K.remove w S p q rows c s (hb.chain h)⟩
variable {CT : World → (Nat → Prop) → Nat → TP → Prop} {CS : World → (Nat → Prop) → Nat → Nat → RowL → Prop}
theorem StoL.resolve {w0 w : World} (K : CodeLink w0 CS) {p : Nat} {rows : RowL} {F : Nat → Prop} (h : StoL CT CS w0 w p rows F) (cn : ConnP) (sub : List UInt8) (h1 : cn.fID.length + sub.length ≤ 2000) (h2 : rows.length ≤ 100000) : Calls Tryz.prog 13 #[.pointer (some ⟨p, 0, none⟩), cn.val, tv sub] w fun e w' =>
    (∃ v, e = .returned (.tuple #[tv (linkR rows cn.fID cn.fOpen sub).1, v, .int .i64 (linkR rows cn.fID cn.fOpen sub).2.2]) ∧ RdC w' v (linkR rows cn.fID cn.fOpen sub).2.1 ∧ ∀ g, v.ownBlock = some g → (linkR rows cn.fID cn.fOpen sub).2.1.length ≠ 0 → w.heap.size ≤ g) ∧ Below w.heap.size w w' := by
  obtain ⟨T, S, q, t, k1, k2, _⟩ := h.out
  exact K.resolve w S p q rows cn sub h.low k2 h1 h2
theorem StoL.find {w0 w : World} (K : CodeLink w0 CS) {p : Nat} {rows : RowL} {F : Nat → Prop} (h : StoL CT CS w0 w p rows F) (conn sub : List UInt8) (h1 : conn.length + sub.length ≤ 2000) : Calls Tryz.prog 7 #[.pointer (some ⟨p, 0, none⟩), tv conn, tv sub] w fun e w' => e = .returned (getV (getR rows (lkeyL conn sub))) ∧ Below w.heap.size w w' := by
  obtain ⟨T, S, q, t, k1, k2, _⟩ := h.out
  exact K.find w S p q rows conn sub h.low k2 h1
theorem StoL.remove {w0 w : World} (K : CodeLink w0 CS) {p : Nat} {rows : RowL} {F : Nat → Prop} (h : StoL CT CS w0 w p rows F) (conn sub : List UInt8) (h1 : conn.length + sub.length ≤ 2000) : Calls Tryz.prog 10 #[.pointer (some ⟨p, 0, none⟩), tv conn, tv sub] w fun e w' =>
    (∃ v, e = .returned (.tuple #[v, .bool (unlinkR rows conn sub).2]) ∧ RdC w' v (unlinkR rows conn sub).1 ∧ ∀ g, v.ownBlock = some g → (unlinkR rows conn sub).1.length ≠ 0 → w.heap.size ≤ g) ∧ Below w.heap.size w w' := by
  obtain ⟨T, S, q, t, k1, k2, _⟩ := h.out
  exact K.remove w S p q rows conn sub h.low k2 h1
/-- a store of nothing -/
theorem stored_none (HT : TapeL CT) (H : CodeStore CT CS) (w : World) (hrd : RoundsIn w) :
    Calls Tryz.prog 5 #[.slice none 0 0] w fun e w' => ∃ p v, e = .returned (.tuple #[.pointer (some ⟨p, 0, none⟩), v, .bool true]) ∧ StoL CT CS w w' p [] (fun b => b < w.heap.size) ∧ RdR w' v [] := by
  refine (stored15_any HT H none 0 [] (by decide) (fun x hx => by cases hx) w hrd (rdc_none w) (fun g hg => by cases hg) (fun _ => ⟨by rw [rec0_four]; decide, by rw [turnL_nil]; show (recL []).length ≤ _; rw [rec0_four]; decide⟩)).mono ?_
  rintro e w' (⟨h, _⟩ | ⟨_, p, v, rows, rfl, hr, hs, hv⟩)
  · exact absurd h (by decide)
  · obtain rfl : rows = [] := hr.elim (fun e => by rw [e, turnL_nil]) id
    exact ⟨p, v, rfl, hs, hv⟩
set_option maxRecDepth 100000 in
set_option maxHeartbeats 4000000 in
theorem answers15_any (HT : TapeL CT) (H : CodeStore CT CS) (w : World) (K : CodeLink w CS) (hrd : RoundsIn w) : Calls Tryz.prog 6 #[] w fun e w' => e = .returned (.bool true) ∧ Below w.heap.size w w' := by
  have hst := stored_none HT H w hrd
  have HST := Lib.hid hst; have KK := Lib.hid K
  clear hst HT H K hrd
  go_enter Tryz.func6, Tryz.ntmps6
  go_wp2_with fail
  refine HST.out.mono ?_
  rintro e w1 ⟨p, v, rfl, hs, -⟩
  have hres := hs.resolve KK.out ⟨[99], [], [], [], [], true, []⟩ [120] (by decide) (by decide)
  have el : linkR [] [99] true [120] = ([99, 58, 120], [⟨lkeyL [99] [120], [99, 58, 120], false⟩], 0) := rfl
  dsimp only at hres
  rw [el] at hres
  have HRES := Lib.hid hres; have S1 := Lib.hid hs
  clear hres hs el
  dsimp only
  go_wp2_with fail
  refine HRES.out.mono ?_
  rintro e w2 ⟨⟨v2, rfl, hr2, -⟩, hb2⟩
  have B2 := Lib.hid (S1.out.low.chain hb2)
  obtain ⟨A2, c2, rfl, -, -⟩ := hr2
  clear hb2
  dsimp only [tv]
  go_wp2
  go_ret
  exact ⟨rfl, B2.out⟩
end Go.Proofs.YtkbjpgfdmkmbmaaGreatDoor
namespace Go.Proofs.YtkbjpgfdmkmbmaaGreatDoor
open Go.RowKit
set_option linter.unusedVariables false
set_option linter.unusedSimpArgs false

theorem gone_ch {w : World} {b : Nat} {k : List UInt8} {K : ByteArray} {fr : Nat × Nat} (hk : tv k = .string K) (h : w.heap[b]? = some (.cells #[.string K, .string ⟨#[]⟩, .bool true] 37 fr)) : RdC w (.slice (some ⟨b, 0, none⟩) 1 1) [⟨k, [], true⟩] :=
  ⟨_, 1, rfl, Nat.le_refl _, fun j x hj => by
    obtain rfl : j = 0 := by
      rcases j with _ | j
      · rfl
      · simp at hj
    obtain rfl : _ = x := Option.some.inj hj
    exact ⟨b, 0, rfl, (Array.getElem?_eq_some_iff.1 h).1, by rw [hk]; exact cell_here h, cell_here h, cell_here h⟩⟩
variable {CT : World → (Nat → Prop) → Nat → TP → Prop} {CS : World → (Nat → Prop) → Nat → Nat → RowL → Prop}
set_option maxRecDepth 100000 in
set_option maxHeartbeats 4000000 in
theorem linkFinds_at (HT : TapeL CT) (H : CodeStore CT CS) (A : Option Addr) (c : Nat) (l : List Ch) (conn sub : List UInt8) (hl : l.length ≤ 200000000000000) (hz : ∀ x ∈ l, x.key.length ≤ 200000000000000 ∧ x.value.length ≤ 200000000000000) (hid : conn.length ≤ 1000000000000000) (hsu : sub.length ≤ 1000000000000000) (w : World) (K : CodeLink w CS) (hrd : RoundsIn w) (h : RdC w (.slice A l.length c) l) (hown : ∀ g, (Value.slice A l.length c).ownBlock = some g → l.length ≠ 0 → g < w.heap.size) :
    Calls Tryz.prog 3 #[.slice A l.length c, tv conn, tv sub] w fun e w' => e = .returned (.bool true) ∧ Below w.heap.size w w' := by
  obtain ⟨n, hn⟩ : ∃ n, l.length = n := ⟨_, rfl⟩
  have hst := stored15_any HT H A c l hl hz w hrd h hown (fun hf => ⟨(few15_sizes hf).2.2.1, (few15_sizes hf).2.2.2.1⟩)
  have hans := fun (W : World) (hb : Below w.heap.size w W) => answers15_any HT H W (K.later hb) (hrd.below hb)
  rw [hn] at hst ⊢
  have HST := Lib.hid hst; have HANS := Lib.hid hans; have KK := Lib.hid K
  clear hst hans
  obtain ⟨B0, hB0⟩ : ∃ B : ByteArray, B = ⟨conn.toArray⟩ := ⟨_, rfl⟩
  obtain ⟨B1, hB1⟩ : ∃ B : ByteArray, B = ⟨sub.toArray⟩ := ⟨_, rfl⟩
  obtain ⟨KY, hKY⟩ : ∃ B : ByteArray, B = ⟨(lkeyL conn sub).toArray⟩ := ⟨_, rfl⟩
  have z0 : B0.size = conn.length := by rw [hB0]; show conn.toArray.size = _; simp
  have z1 : B1.size = sub.length := by rw [hB1]; show sub.toArray.size = _; simp
  have t0 : tv conn = .string B0 := by rw [hB0]; rfl
  have t1 : tv sub = .string B1 := by rw [hB1]; rfl
  have tk : tv (lkeyL conn sub) = .string KY := by rw [hKY]; rfl
  have hKl : KY.data.toList = lkeyL conn sub := by rw [hKY]
  rw [t0, t1]
  have T0 := Lib.hid t0; have T1 := Lib.hid t1; have TK := Lib.hid tk; have Z0 := Lib.hid z0; have Z1 := Lib.hid z1; have KL := Lib.hid hKl
  clear t0 t1 tk z0 z1 hB0 hB1 hKY hKl h hn hrd hown hl hz K
  have HHT := Lib.hid HT; have HH := Lib.hid H
  clear HT H
  go_enter Tryz.func3, Tryz.ntmps3
  go_wp2_with fail
  refine HST.out.mono ?_
  rintro e w1 (⟨hf, rfl, hb1⟩ | ⟨hf, p, v, rows, rfl, hrows, hs1, hv1⟩)
  · have G1 := Lib.hid hb1; clear hb1 hf
    dsimp only
    go_wp2_with fail
    refine (HANS.out _ G1.out).mono ?_
    rintro e w2 ⟨rfl, hb2⟩
    have HEND := Lib.hid (G1.out.chain hb2)
    clear hb2
    dsimp only
    go_wp2
    go_ret
    exact ⟨rfl, HEND.out⟩
  · have S1 := Lib.hid hs1; have V1 := Lib.hid hv1; have HF := Lib.hid hf; have HR := Lib.hid hrows
    clear hs1 hv1 hf hrows
    have hz0 := Z0.out
    have hz1 := Z1.out
    have hw : IntKind.i64.wrap ((B0.size : Int) + B1.size) = (B0.size : Int) + B1.size := wraps_i64 _ (by omega) (by omega)
    by_cases hbig : B0.size + B1.size ≤ 1000
    · have hb' : ¬ (1000 : Int) < (B0.size : Int) + B1.size := by omega
      have hfi := S1.out.find KK.out conn sub (by omega)
      obtain ⟨T, S, q, t, k1, k2, _⟩ := S1.out.out
      have hrl : rows.length ≤ 200 ∧ ∀ r ∈ rows, r.1.length ≤ 1000000000000 := by
        rcases HR.out with e | e
        · rw [e]; have := few15_sizes HF.out; exact ⟨this.2.2.2.2.1, fun r hr => by have := this.2.2.2.2.2 r hr; omega⟩
        · rw [e]; exact ⟨by decide, fun r hr => by cases hr⟩
      have hvr := V1.out
      obtain ⟨AV, cV, rfl⟩ := rdr_form hvr
      have hk := fun (W : World) => refLinkKey_any conn sub (by omega) W
      have hck := fun (W : World) (hb : Below w.heap.size w W) => KK.out.key W conn sub hb (by omega)
      have hval := fun (W : World) (hb : Below w1.heap.size w1 W) => refValue_any AV cV rows KY (by omega) W (hvr.below hb)
      have hrem := fun (W : World) (hb : Below w1.heap.size w1 W) => (S1.out.later HHT.out HH.out hb).remove KK.out conn sub (by omega)
      simp only [T0.out, T1.out, TK.out] at hfi hk hck hrem
      rw [KL.out] at hval
      obtain ⟨nr, hnr⟩ : ∃ m, rows.length = m := ⟨_, rfl⟩
      rw [hnr] at hval hvr ⊢
      obtain ⟨G, hG⟩ : ∃ G, getR rows (lkeyL conn sub) = G := ⟨_, rfl⟩
      rw [hG] at hfi
      simp only [hG] at hval
      unfold unlinkR at hrem
      simp only [hG] at hrem
      clear hG
      cases G with
      | none =>
        obtain ⟨VV, hVV⟩ : ∃ B : ByteArray, B = ⟨#[]⟩ := ⟨_, rfl⟩
        unfold getV at hfi
        unfold getV15 at hval
        dsimp only at hfi hval hrem
        rw [← hVV] at hfi
        simp only [← hVV] at hval
        clear hVV
        have HFI := Lib.hid hfi; have HK := Lib.hid hk; have HCK := Lib.hid hck; have HVAL := Lib.hid hval; have HREM := Lib.hid hrem
        clear hfi hk hck hval hrl hnr hvr k1 k2 hrem
        dsimp only
        have hke : (!KY.toList == KY.toList) = false := by simp
        have hve : (!VV.toList == VV.toList) = false := by simp
        go_wp2_with fail
        refine HFI.out.mono ?_
        rintro e w2 ⟨rfl, hb2⟩
        have D2 := Lib.hid hb2; clear hb2
        dsimp only
        go_wp2_with fail
        refine (HK.out w2).mono ?_
        rintro e w3 ⟨rfl, hb3⟩
        have D3 := Lib.hid (D2.out.chain hb3); clear hb3
        dsimp only
        go_wp2_with fail
        refine (HVAL.out w3 D3.out).mono ?_
        rintro e w4 ⟨rfl, hb4⟩
        have D4 := Lib.hid (D3.out.chain hb4); clear hb4
        dsimp only
        go_wp2_with fail
        refine (HREM.out w4 D4.out).mono ?_
        rintro e w5 ⟨⟨v5, rfl, hr5, -⟩, hb5⟩
        have D5 := Lib.hid (D4.out.chain hb5); have R5 := Lib.hid hr5; clear hb5
        obtain ⟨A5, c5, rfl, -, -⟩ := hr5
        dsimp only
        go_wp2_with fail
        refine (HCK.out w5 (S1.out.low.chain D5.out)).mono ?_
        rintro e w6 ⟨rfl, hb6⟩
        have D6 := Lib.hid (D5.out.chain hb6); have R6 := Lib.hid (R5.out.below hb6); clear hb6
        dsimp only
        go_wp2_with fail
        refine (HK.out w6).mono ?_
        rintro e w7 ⟨rfl, hb7⟩
        have D7 := Lib.hid (D6.out.chain hb7); have R7 := Lib.hid (R6.out.below hb7); clear hb7
        have G7 := Lib.hid (S1.out.low.chain D7.out)
        dsimp only
        go_wp2_with fail
        refine (HANS.out _ G7.out).mono ?_
        rintro e w8 ⟨rfl, hb8⟩
        have HEND := Lib.hid (G7.out.chain hb8)
        have R8 := Lib.hid (R7.out.below hb8); clear hb8
        dsimp only
        go_wp2
        go_ret
        exact ⟨rfl, HEND.out⟩
      | some vv =>
        obtain ⟨VV, hVV⟩ : ∃ B : ByteArray, B = ⟨vv.toArray⟩ := ⟨_, rfl⟩
        unfold getV at hfi
        unfold getV15 tv at hval
        dsimp only at hfi hval hrem
        rw [← hVV] at hfi
        simp only [← hVV] at hval
        clear hVV
        have HFI := Lib.hid hfi; have HK := Lib.hid hk; have HCK := Lib.hid hck; have HVAL := Lib.hid hval; have HREM := Lib.hid hrem
        clear hfi hk hck hval hrl hnr hvr k1 k2 hrem
        dsimp only
        have hke : (!KY.toList == KY.toList) = false := by simp
        have hve : (!VV.toList == VV.toList) = false := by simp
        go_wp2_with fail
        refine HFI.out.mono ?_
        rintro e w2 ⟨rfl, hb2⟩
        have D2 := Lib.hid hb2; clear hb2
        dsimp only
        go_wp2_with fail
        refine (HK.out w2).mono ?_
        rintro e w3 ⟨rfl, hb3⟩
        have D3 := Lib.hid (D2.out.chain hb3); clear hb3
        dsimp only
        go_wp2_with fail
        refine (HVAL.out w3 D3.out).mono ?_
        rintro e w4 ⟨rfl, hb4⟩
        have D4 := Lib.hid (D3.out.chain hb4); clear hb4
        dsimp only
        go_wp2_with fail
        refine (HREM.out w4 D4.out).mono ?_
        rintro e w5 ⟨⟨v5, rfl, hr5, -⟩, hb5⟩
        have D5 := Lib.hid (D4.out.chain hb5); have R5 := Lib.hid hr5; clear hb5
        obtain ⟨A5, c5, rfl, -, -⟩ := hr5
        dsimp only
        go_wp2_with fail
        refine (HCK.out w5 (S1.out.low.chain D5.out)).mono ?_
        rintro e w6 ⟨rfl, hb6⟩
        have D6 := Lib.hid (D5.out.chain hb6); have R6 := Lib.hid (R5.out.below hb6); clear hb6
        dsimp only
        go_wp2_with fail
        refine (HK.out w6).mono ?_
        rintro e w7 ⟨rfl, hb7⟩
        have D7 := Lib.hid (D6.out.chain hb7); have R7 := Lib.hid (R6.out.below hb7); clear hb7
        have G7 := Lib.hid (S1.out.low.chain D7.out)
        dsimp only
        go_wp2_with fail
        refine (HANS.out _ G7.out).mono ?_
        rintro e w8 ⟨rfl, hb8⟩
        have G8 := Lib.hid (G7.out.chain hb8)
        have R8 := Lib.hid (R7.out.below hb8); clear hb8
        dsimp only
        go_wp2_with fail
        refine (HK.out w8).mono ?_
        rintro e w9 ⟨rfl, hb9⟩
        have G9 := Lib.hid (G8.out.chain hb9)
        have R9 := Lib.hid (R8.out.below hb9); clear hb9
        dsimp only
        go_wp2_with fail
        refine (same15_any _ _ [⟨lkeyL conn sub, [], true⟩] [⟨lkeyL conn sub, [], true⟩] (by simp) (by simp) _ (R9.out.below ((Below.refl _ _).alloc (Nat.le_refl _) _)) (gone_ch TK.out (heap_alloc_last w9 _))).mono ?_
        rintro e w10 ⟨rfl, hb10⟩
        have HEND := Lib.hid ((G9.out.alloc G9.out.size _).chain hb10)
        rw [decide_eq_true rfl]
        clear hb10
        dsimp only
        go_wp2
        go_ret
        exact ⟨rfl, HEND.out⟩
    · have hb' : (1000 : Int) < (B0.size : Int) + B1.size := by omega
      have G1 := Lib.hid S1.out.low
      dsimp only
      go_wp2_with fail
      refine (HANS.out _ G1.out).mono ?_
      rintro e w2 ⟨rfl, hb2⟩
      have HEND := Lib.hid (G1.out.chain hb2)
      clear hb2
      dsimp only
      go_wp2
      go_ret
      exact ⟨rfl, HEND.out⟩
end Go.Proofs.YtkbjpgfdmkmbmaaGreatDoor
namespace Go.Proofs.YtkbjpgfdmkmbmaaGreatDoor
open Go.RowKit
set_option linter.unusedVariables false
set_option linter.unusedSimpArgs false

variable {CT : World → (Nat → Prop) → Nat → TP → Prop} {CS : World → (Nat → Prop) → Nat → Nat → RowL → Prop}
set_option maxRecDepth 100000 in
set_option maxHeartbeats 4000000 in
theorem linkResolves_at (HT : TapeL CT) (H : CodeStore CT CS) (A : Option Addr) (c : Nat) (l : List Ch) (cn : ConnP) (sub : List UInt8) (hl : l.length ≤ 200000000000000) (hz : ∀ x ∈ l, x.key.length ≤ 200000000000000 ∧ x.value.length ≤ 200000000000000) (hid : cn.fID.length ≤ 200000000000000) (hsu : sub.length ≤ 1000000000000000) (w : World) (K : CodeLink w CS) (hrd : RoundsIn w) (h : RdC w (.slice A l.length c) l) (hown : ∀ g, (Value.slice A l.length c).ownBlock = some g → l.length ≠ 0 → g < w.heap.size) :
    Calls Tryz.prog 4 #[.slice A l.length c, cn.val, tv sub] w fun e w' => e = .returned (.bool true) ∧ Below w.heap.size w w' := by
  obtain ⟨n, hn⟩ : ∃ n, l.length = n := ⟨_, rfl⟩
  have hst := fun (W : World) (hb : Below w.heap.size w W) => stored15_any HT H A c l hl hz W (hrd.below hb) (h.below hb) (fun g h1 h2 => Nat.lt_of_lt_of_le (hown g h1 h2) hb.size) (fun hf => ⟨(few15_sizes hf).2.2.1, (few15_sizes hf).2.2.2.1⟩)
  have hans := fun (W : World) (hb : Below w.heap.size w W) => answers15_any HT H W (K.later hb) (hrd.below hb)
  rw [hn] at hst ⊢
  have HST := Lib.hid hst; have HANS := Lib.hid hans; have KK := Lib.hid K
  clear hst hans
  obtain ⟨B0, hB0⟩ : ∃ B : ByteArray, B = ⟨cn.fID.toArray⟩ := ⟨_, rfl⟩
  obtain ⟨B1, hB1⟩ : ∃ B : ByteArray, B = ⟨sub.toArray⟩ := ⟨_, rfl⟩
  have z0 : B0.size = cn.fID.length := by rw [hB0]; show cn.fID.toArray.size = _; simp
  have z1 : B1.size = sub.length := by rw [hB1]; show sub.toArray.size = _; simp
  have t0 : tv cn.fID = .string B0 := by rw [hB0]; rfl
  have t1 : tv sub = .string B1 := by rw [hB1]; rfl
  have hcv : cn.val = .agg #[.string B0, tv cn.fIssuer, tv cn.fClient, tv cn.fAuth, tv cn.fSecret, .bool cn.fOpen, tv cn.fRules] := by unfold ConnP.val; rw [t0]
  rw [hcv, t1]
  obtain ⟨b, hb⟩ : ∃ b, w.heap.size = b := ⟨_, rfl⟩
  obtain ⟨W0, hW0⟩ : ∃ W, w.alloc (.cells #[.string B0, tv cn.fIssuer, tv cn.fClient, tv cn.fAuth, tv cn.fSecret, .bool cn.fOpen, tv cn.fRules] 40) = W := ⟨_, rfl⟩
  have hb0 : Below w.heap.size w W0 := by rw [← hW0]; exact (Below.refl _ _).alloc (Nat.le_refl _) _
  have k0 : W0.heap[b]? = some (.cells #[.string B0, tv cn.fIssuer, tv cn.fClient, tv cn.fAuth, tv cn.fSecret, .bool cn.fOpen, tv cn.fRules] 40) := by rw [← hW0, ← hb]; exact heap_alloc_last w _
  have hcb : ∀ W, Below W0.heap.size W0 W → W.cell? ⟨b, 0, none⟩ = some (.string B0) ∧ W.cell? ⟨b, 1, none⟩ = some (tv cn.fIssuer) ∧ W.cell? ⟨b, 2, none⟩ = some (tv cn.fClient) ∧ W.cell? ⟨b, 3, none⟩ = some (tv cn.fAuth) ∧ W.cell? ⟨b, 4, none⟩ = some (tv cn.fSecret) ∧ W.cell? ⟨b, 5, none⟩ = some (.bool cn.fOpen) ∧ W.cell? ⟨b, 6, none⟩ = some (tv cn.fRules) := fun W hb => by
    have k := blk_below k0 hb
    exact ⟨cell_here k, cell_here k, cell_here k, cell_here k, cell_here k, cell_here k, cell_here k⟩
  have HCB := Lib.hid hcb; have HB0 := Lib.hid hb0; have HW0 := Lib.hid hW0; have HB := Lib.hid hb; have HCV := Lib.hid hcv; have T1 := Lib.hid t1; have Z0 := Lib.hid z0; have Z1 := Lib.hid z1; have HHT := Lib.hid HT; have HH := Lib.hid H
  clear hcb hb0 hW0 hb hcv t0 t1 z0 z1 hB0 hB1 k0 h hn hrd hown hl hz HT H K
  go_enter Tryz.func4, Tryz.ntmps4
  go_upto_region 1 with fail
  rw [HW0.out, HB.out]
  go_wp2_with fail
  refine (HST.out W0 HB0.out).mono ?_
  rintro e w1 (⟨hf, rfl, hb1⟩ | ⟨hf, p, v, rows, rfl, hrows, hs1, hv1⟩)
  · have G1 := Lib.hid (HB0.out.chain hb1); clear hb1 hf
    dsimp only
    go_wp2_with fail
    refine (HANS.out _ G1.out).mono ?_
    rintro e w2 ⟨rfl, hb2⟩
    have HEND := Lib.hid (G1.out.chain hb2)
    clear hb2
    dsimp only
    go_wp2
    go_ret
    exact ⟨rfl, HEND.out⟩
  · have hq := HCB.out _ hs1.low
    obtain ⟨q0, q1, q2, q3, q4, q5, q6⟩ := hq
    have S1 := Lib.hid hs1; have V1 := Lib.hid hv1; have HF := Lib.hid hf; have HR := Lib.hid hrows
    clear hs1 hv1 hf hrows
    have hz0 := Z0.out
    have hz1 := Z1.out
    have hw : IntKind.i64.wrap ((B0.size : Int) + B1.size) = (B0.size : Int) + B1.size := wraps_i64 _ (by omega) (by omega)
    by_cases hbig : B0.size + B1.size ≤ 1000
    · have hb' : ¬ (1000 : Int) < (B0.size : Int) + B1.size := by omega
      have hres := S1.out.resolve (KK.out.later HB0.out) cn sub (by omega) (by
        rcases HR.out with e | e
        · rw [e]; have := (few15_sizes HF.out).2.2.2.2.1; omega
        · rw [e]; decide)
      rw [HCV.out, T1.out] at hres
      have hrl : rows.length ≤ 200 ∧ ∀ r ∈ rows, r.1.length ≤ 1000000000000 := by
        rcases HR.out with e | e
        · rw [e]; have := few15_sizes HF.out; exact ⟨this.2.2.2.2.1, fun r hr => by have := this.2.2.2.2.2 r hr; omega⟩
        · rw [e]; exact ⟨by decide, fun r hr => by cases hr⟩
      have hvr := V1.out
      obtain ⟨AV, cV, rfl⟩ := rdr_form hvr
      have href := fun (W : World) (hb : Below w1.heap.size w1 W) => refResolve_any AV cV rows cn sub (by omega) (by omega) hrl.2 W (hvr.below hb)
      rw [HCV.out, T1.out] at href
      obtain ⟨L, hL⟩ : ∃ L, linkR rows cn.fID cn.fOpen sub = L := ⟨_, rfl⟩
      rw [hL] at hres
      simp only [hL] at href
      have hLs : L.2.1.length ≤ 1 := by
        rw [← hL]; unfold linkR
        split
        · exact Nat.zero_le _
        · split
          · exact Nat.zero_le _
          · split
            · exact Nat.zero_le _
            · exact Nat.le_refl _
      obtain ⟨nr, hnr⟩ : ∃ m, rows.length = m := ⟨_, rfl⟩
      rw [hnr] at href hvr ⊢
      obtain ⟨u, m, er⟩ := L
      dsimp only at hres href hLs
      obtain ⟨U, hU⟩ : ∃ B : ByteArray, B = ⟨u.toArray⟩ := ⟨_, rfl⟩
      have tu : tv u = .string U := by rw [hU]; rfl
      rw [tu] at hres
      simp only [tu] at href
      clear tu hU
      have HRES := Lib.hid hres; have HREF := Lib.hid href; have HLS := Lib.hid hLs
      clear hres href hL hLs hnr hvr hrl
      dsimp only
      go_wp2_with fail
      refine HRES.out.mono ?_
      rintro e w2 ⟨⟨v2, rfl, hr2, -⟩, hb2⟩
      have q := HCB.out _ (S1.out.low.chain hb2)
      obtain ⟨q0', q1', q2', q3', q4', q5', q6'⟩ := q
      have G2 := Lib.hid (S1.out.low.chain hb2); have B2 := Lib.hid hb2; have R2 := Lib.hid hr2
      clear hb2 hr2
      dsimp only
      go_wp2_with fail
      refine (HREF.out _ B2.out).mono ?_
      rintro e w3 ⟨⟨v3, rfl, hr3⟩, hb3⟩
      have G3 := Lib.hid (HB0.out.chain (G2.out.chain hb3)); have R3 := Lib.hid hr3; have R2' := Lib.hid (R2.out.below hb3)
      clear hb3 hr3
      dsimp only
      go_wp2_with fail
      refine (HANS.out _ G3.out).mono ?_
      rintro e w4 ⟨rfl, hb4⟩
      have G4 := Lib.hid (G3.out.chain hb4)
      have hsame := same15_any v2 v3 m m (by have := HLS.out; omega) (by have := HLS.out; omega) w4 (R2'.out.below hb4) (R3.out.below hb4)
      rw [decide_eq_true rfl] at hsame
      have HSAME := Lib.hid hsame
      clear hb4 hsame
      dsimp only
      have hbe : (U.toList == U.toList) = true := by simp
      go_wp2_with fail
      refine HSAME.out.mono ?_
      rintro e w5 ⟨rfl, hb5⟩
      have HEND := Lib.hid (G4.out.chain hb5)
      clear hb5
      dsimp only
      go_wp2
      go_ret
      exact ⟨rfl, HEND.out⟩
    · have hb' : (1000 : Int) < (B0.size : Int) + B1.size := by omega
      have G1 := Lib.hid (HB0.out.chain S1.out.low)
      dsimp only
      go_wp2_with fail
      refine (HANS.out _ G1.out).mono ?_
      rintro e w2 ⟨rfl, hb2⟩
      have HEND := Lib.hid (G1.out.chain hb2)
      clear hb2
      dsimp only
      go_wp2
      go_ret
      exact ⟨rfl, HEND.out⟩
end Go.Proofs.YtkbjpgfdmkmbmaaGreatDoor
namespace Go.Proofs.YtkbjpgfdmkmbmaaGreatDoor
open Go.Op (bytesLess)
set_option linter.unusedVariables false
set_option linter.unusedSimpArgs false

theorem getR_no {k : List UInt8} : ∀ rows : RowL, getR rows k = none → ∀ r ∈ rows, r.1 ≠ k
  | [], _, r, hr => by cases hr
  | x :: rows, h, r, hr => by
    have h : (if x.1 = k then some x.2 else getR rows k) = none := h
    by_cases hx : x.1 = k
    · rw [if_pos hx] at h; cases h
    · rw [if_neg hx] at h
      rcases List.mem_cons.1 hr with rfl | hr
      · exact hx
      · exact getR_no rows h r hr
theorem insL_new (k v : List UInt8) : ∀ rows : RowL, getR rows k = none → (insL k v false rows).length = rows.length + 1
  | [], _ => rfl
  | r :: rs, h => by
    have hr := getR_no (r :: rs) h r (List.mem_cons_self ..)
    have h2 : getR rs k = none := by
      have h : (if r.1 = k then some r.2 else getR rs k) = none := h
      rwa [if_neg hr] at h
    unfold insL
    rw [if_neg hr]
    cases hl : bytesLess r.1 k with
    | true =>
      rw [if_neg (fun e => by cases e.2), List.nil_append, List.length_append]
      rw [show (false || !true) = false from rfl, insL_new k v rs h2]
      simp only [List.length_cons, List.length_nil]
      omega
    | false =>
      rw [if_pos ⟨rfl, rfl⟩, show (false || !false) = true from rfl, insL_placed]
      have hf : (rs.filter fun r => decide (r.1 ≠ k)) = rs := List.filter_eq_self.2 fun x hx => by
        have := getR_no rs h2 x hx
        simp [this]
      rw [hf]
      simp only [List.length_append, List.length_cons, List.length_nil]
      omega
/-- all rows are links -/
def LinkRows (rows : RowL) : Prop := ∀ r ∈ rows, r.1.take 1 = [108]
theorem linkRows_keys {rows : RowL} (h : LinkRows rows) : (keysR rows [108]).length = rows.length := by
  unfold keysR
  rw [List.filter_eq_self.2, List.length_map]
  intro k hk
  obtain ⟨r, hr, rfl⟩ := List.mem_map.1 hk
  simpa using h r hr
theorem linkRows_ins {rows : RowL} (h : LinkRows rows) (c s v : List UInt8) : LinkRows (insL (lkeyL c s) v false rows) := fun r hr => by
  rcases insL_mem _ _ _ _ _ hr with hr | rfl
  · exact h r hr
  · rfl
/-- n subjects of connector c, linked one by one -/
def linksN (c : List UInt8) (subj : Nat → List UInt8) : Nat → RowL
  | 0 => []
  | n + 1 => insL (lkeyL c (subj n)) (userL c (subj n)) false (linksN c subj n)
theorem linksN_get (c : List UInt8) (subj : Nat → List UInt8) (x : List UInt8) : ∀ n, getR (linksN c subj n) x = none ∨ ∃ j, j < n ∧ x = lkeyL c (subj j)
  | 0 => .inl rfl
  | n + 1 => by
    show getR (insL _ _ false _) x = none ∨ _
    rw [getR_ins]
    by_cases h : x = lkeyL c (subj n)
    · exact .inr ⟨n, Nat.lt_succ_self n, h⟩
    · rw [if_neg h]
      rcases linksN_get c subj x n with h' | ⟨j, hj, h'⟩
      · exact .inl h'
      · exact .inr ⟨j, Nat.lt_succ_of_lt hj, h'⟩
theorem linksN_has (c : List UInt8) (subj : Nat → List UInt8) : ∀ n j, j < n → (getR (linksN c subj n) (lkeyL c (subj j))).isSome = true
  | 0, j, h => absurd h (Nat.not_lt_zero j)
  | n + 1, j, h => by
    show (getR (insL _ _ false _) _).isSome = true
    rw [getR_ins]
    by_cases he : lkeyL c (subj j) = lkeyL c (subj n)
    · rw [if_pos he]; rfl
    · rw [if_neg he]
      refine linksN_has c subj n j ?_
      rcases Nat.lt_succ_iff_lt_or_eq.1 h with h | rfl
      · exact h
      · exact absurd rfl he
theorem linksN_rows (c : List UInt8) (subj : Nat → List UInt8) : ∀ n, LinkRows (linksN c subj n)
  | 0 => fun r hr => by cases hr
  | n + 1 => linkRows_ins (linksN_rows c subj n) c (subj n) _
theorem linksN_len (c : List UInt8) (subj : Nat → List UInt8) (m : Nat) (hinj : ∀ i j, i < m → j < m → subj i = subj j → i = j) : ∀ n, n ≤ m → (linksN c subj n).length = n
  | 0, _ => rfl
  | n + 1, h => by
    have ih := linksN_len c subj m hinj n (by omega)
    show (insL _ _ false _).length = _
    rw [insL_new, ih]
    rcases linksN_get c subj (lkeyL c (subj n)) n with h' | ⟨j, hj, h'⟩
    · exact h'
    · have := hinj n j (by omega) (by omega) (lkeyL_inj h').2
      omega
theorem linksN_turn (c : List UInt8) (subj : Nat → List UInt8) (n : Nat) : turnL (linksN c subj n) [⟨lkeyL c (subj n), userL c (subj n), false⟩] = linksN c subj (n + 1) := rfl
/-- what Resolve answers behind n links of m that there are in all -/
theorem linkR_new (c : List UInt8) (subj : Nat → List UInt8) (m : Nat) (hinj : ∀ i j, i < m → j < m → subj i = subj j → i = j) (n : Nat) (hn : n < m) (h32 : n < 32) :
    linkR (linksN c subj n) c true (subj n) = (userL c (subj n), [⟨lkeyL c (subj n), userL c (subj n), false⟩], 0) := by
  have hno : getR (linksN c subj n) (lkeyL c (subj n)) = none := by
    rcases linksN_get c subj (lkeyL c (subj n)) n with h' | ⟨j, hj, h'⟩
    · exact h'
    · have := hinj n j hn (by omega) (lkeyL_inj h').2
      omega
  unfold linkR
  rw [hno]
  dsimp only
  rw [if_neg (by decide), if_neg]
  rw [linkRows_keys (linksN_rows c subj n), linksN_len c subj m hinj n (by omega)]
  omega
theorem linkR_full (c : List UInt8) (subj : Nat → List UInt8) (m : Nat) (hinj : ∀ i j, i < m → j < m → subj i = subj j → i = j) (h32 : 32 ≤ m) (s : List UInt8) (hs : ∀ j, j < 32 → s ≠ subj j) :
    linkR (linksN c subj 32) c true s = ([], [], 7) := by
  have hno : getR (linksN c subj 32) (lkeyL c s) = none := by
    rcases linksN_get c subj (lkeyL c s) 32 with h' | ⟨j, hj, h'⟩
    · exact h'
    · exact absurd (lkeyL_inj h').2 (hs j hj)
  unfold linkR
  rw [hno]
  dsimp only
  rw [if_neg (by decide), if_pos]
  rw [linkRows_keys (linksN_rows c subj 32), linksN_len c subj m hinj 32 h32]
  exact Nat.le_refl _
theorem linkR_other (c : List UInt8) (subj : Nat → List UInt8) (m : Nat) (hinj : ∀ i j, i < m → j < m → subj i = subj j → i = j) (n : Nat) (hn : n ≤ m) (h32 : n < 32) (s : List UInt8) (hs : ∀ j, j < n → s ≠ subj j) :
    linkR (linksN c subj n) c true s = (userL c s, [⟨lkeyL c s, userL c s, false⟩], 0) := by
  have hno : getR (linksN c subj n) (lkeyL c s) = none := by
    rcases linksN_get c subj (lkeyL c s) n with h' | ⟨j, hj, h'⟩
    · exact h'
    · exact absurd (lkeyL_inj h').2 (hs j hj)
  unfold linkR
  rw [hno]
  dsimp only
  rw [if_neg (by decide), if_neg]
  rw [linkRows_keys (linksN_rows c subj n), linksN_len c subj m hinj n hn]
  omega
theorem linkR_there (c : List UInt8) (subj : Nat → List UInt8) (n j : Nat) (hj : j < n) (o : Bool) : (linkR (linksN c subj n) c o (subj j)).2 = ([], 0) := by
  have h := linksN_has c subj n j hj
  unfold linkR
  cases hg : getR (linksN c subj n) (lkeyL c (subj j)) with
  | none => rw [hg] at h; cases h
  | some v => rfl
/-- one subject linked, asked for again, taken away -/
theorem link_one (c a : List UInt8) : turnL [] [⟨lkeyL c a, userL c a, false⟩] = [(lkeyL c a, userL c a)] := rfl
theorem link_again (c a b : List UInt8) : linkR [(lkeyL c a, userL c a)] c false b = if a = b then (userL c a, [], 0) else ([], [], 6) := by
  have hg : getR [(lkeyL c a, userL c a)] (lkeyL c b) = if lkeyL c a = lkeyL c b then some (userL c a) else none := rfl
  unfold linkR
  rw [hg]
  by_cases h : a = b
  · subst h; simp
  · rw [if_neg (fun e => h (lkeyL_inj e).2), if_neg h]
    rfl
theorem unlink_one (c a : List UInt8) : unlinkR [(lkeyL c a, userL c a)] c a = ([⟨lkeyL c a, [], true⟩], true) := by
  unfold unlinkR
  show (match (if lkeyL c a = lkeyL c a then some (userL c a) else none) with | some _ => _ | none => _) = _
  rw [if_pos rfl]
theorem unlink_turn (c a : List UInt8) : turnL [(lkeyL c a, userL c a)] [⟨lkeyL c a, [], true⟩] = [] := by
  show insL (lkeyL c a) [] true [(lkeyL c a, userL c a)] = []
  rw [insL_placed]
  simp
theorem link_none (c a : List UInt8) : linkR [] c false a = ([], [], 6) := rfl
theorem link_first (c a : List UInt8) : linkR [] c true a = (userL c a, [⟨lkeyL c a, userL c a, false⟩], 0) := rfl
end Go.Proofs.YtkbjpgfdmkmbmaaGreatDoor
namespace Go.Proofs.YtkbjpgfdmkmbmaaGreatDoor
open Go.RowKit
set_option linter.unusedVariables false
set_option linter.unusedSimpArgs false

theorem user_len (c s : List UInt8) : (userL c s).length = c.length + s.length + 1 := by
  unfold userL
  rw [List.length_append, List.length_cons]
  omega
theorem link_rec (c a : List UInt8) (h : c.length + a.length ≤ 1000) : (recL [⟨lkeyL c a, userL c a, false⟩]).length ≤ 32768 := by
  have h1 := lkeyL_len c a (by omega)
  have h2 := user_len c a
  rw [recL_len, recAll_cons, List.length_append, recOne_len]
  have h3 : (Ch.val ⟨lkeyL c a, userL c a, false⟩) = userL c a := rfl
  rw [h3]
  show 4 + (12 + (lkeyL c a).length + (userL c a).length + (recAll []).length) ≤ _
  rw [show (recAll ([] : List Ch)).length = 0 from rfl]
  omega
theorem unlink_rec (c a : List UInt8) (h : c.length + a.length ≤ 1000) : (recL [⟨lkeyL c a, [], true⟩]).length ≤ 32768 := by
  have h1 := lkeyL_len c a (by omega)
  rw [recL_len, recAll_cons, List.length_append, recOne_len]
  have h3 : (Ch.val ⟨lkeyL c a, [], true⟩) = [] := rfl
  rw [h3]
  show 4 + (12 + (lkeyL c a).length + 0 + (recAll []).length) ≤ _
  rw [show (recAll ([] : List Ch)).length = 0 from rfl]
  omega
variable {CT : World → (Nat → Prop) → Nat → TP → Prop} {CS : World → (Nat → Prop) → Nat → Nat → RowL → Prop}
/-- small changes are done -/
theorem StoL.do_small (H : CodeStore CT CS) {w0 w : World} {p : Nat} {rows : RowL} {F : Nat → Prop} (h : StoL CT CS w0 w p rows F) (A : Option Addr) (c n : Nat) (l : List Ch) (hn : l.length = n) (hrl : rows.length ≤ 50000) (hr : RoundsIn w0) (hc : RdC w (.slice A n c) l) (hll : n ≤ 50000) (h1 : (recL l).length ≤ 32768) (h2 : (recL (allR (turnL rows l))).length ≤ 32768)
    (ho : ∀ g, (Value.slice A n c).ownBlock = some g → n ≠ 0 → F g) : Calls Tryz.prog 17 #[.pointer (some ⟨p, 0, none⟩), .slice A n c] w fun e w' =>
    e = .returned (.int .i64 0) ∧ StoL CT CS w0 w' p (turnL rows l) F ∧ (∀ b, F b → w'.heap[b]? = w.heap[b]?) := by
  subst hn
  refine (h.do_ H A c l hrl hr hc hll (by omega) (by omega) ho).mono ?_
  rintro e w' ⟨r, rows', rfl, h3, h4, h5⟩
  rcases h5 with ⟨rfl, rfl, _⟩ | ⟨rfl, rfl, _, h6⟩ | ⟨rfl, rfl, h6⟩
  · exact ⟨rfl, h3, h4⟩
  · omega
  · omega
/-- behind a call that makes memory: what was to stay stays, and what is new -/
theorem StoL.on (HT : TapeL CT) (H : CodeStore CT CS) {w0 w w' : World} {p : Nat} {rows : RowL} {F : Nat → Prop} (h : StoL CT CS w0 w p rows F) (hb : Below w.heap.size w w') : ∃ F', StoL CT CS w0 w' p rows F' ∧ (∀ b, F b → F' b) ∧ ∀ b, w.heap.size ≤ b → b < w'.heap.size → F' b :=
  ⟨_, h.later HT H hb, fun b hF => .inl hF, fun b h1 h2 => .inr ⟨h1, h2⟩⟩
/-- a cell of a block that stays is written -/
theorem StoL.set (HT : TapeL CT) (H : CodeStore CT CS) {w0 w : World} {p : Nat} {rows : RowL} {F : Nat → Prop} (h : StoL CT CS w0 w p rows F) {b : Nat} (hF : F b) (hb : w0.heap.size ≤ b) (o : Nat) (v : Value) : StoL CT CS w0 (w.setCell ⟨b, o, none⟩ v) p rows F := by
  obtain ⟨T, S, q, t, h1, h2, h3, h4, h5⟩ := h.out
  refine ⟨⟨T, S, q, t, HT.keep h1 (by rw [set_size]; exact Nat.le_refl _) fun x hx => set_there v (fun e => (h4 x (.inl hx)).2 (by rw [e]; exact hF)), H.keep h2 (by rw [set_size]; exact Nat.le_refl _) fun x hx => set_there v (fun e => (h4 x (.inr hx)).2 (by rw [e]; exact hF)), h3, h4, h5⟩, fun x hx => by rw [set_size]; exact h.old x hx, h.low.setCell (p := ⟨b, o, none⟩) hb v⟩
theorem box7_of {w : World} {b : Nat} {c0 c1 c2 c3 c4 c5 c6 : Value} {t : TypeId} {fr : Nat × Nat} (h : w.heap[b]? = some (.cells #[c0, c1, c2, c3, c4, c5, c6] t fr)) :
    w.cell? ⟨b, 0, none⟩ = some c0 ∧ w.cell? ⟨b, 1, none⟩ = some c1 ∧ w.cell? ⟨b, 2, none⟩ = some c2 ∧ w.cell? ⟨b, 3, none⟩ = some c3 ∧ w.cell? ⟨b, 4, none⟩ = some c4 ∧ w.cell? ⟨b, 5, none⟩ = some c5 ∧ w.cell? ⟨b, 6, none⟩ = some c6 :=
  ⟨cell_here h, cell_here h, cell_here h, cell_here h, cell_here h, cell_here h, cell_here h⟩
theorem rdc_own {w : World} {A : Option Addr} {c n : Nat} {l : List Ch} (h : RdC w (.slice A n c) l) (h0 : l.length ≠ 0) : ∀ g, (Value.slice A n c).ownBlock = some g → g < w.heap.size := fun g hg => by
  obtain ⟨g', o, rfl, hl, _⟩ := h.at 0 (by omega)
  injection hg with hg
  rw [← hg]; exact hl
end Go.Proofs.YtkbjpgfdmkmbmaaGreatDoor
namespace Go.Proofs.YtkbjpgfdmkmbmaaGreatDoor
open Go.RowKit
set_option linter.unusedVariables false
set_option linter.unusedSimpArgs false

/-- the subjects that are linked, one behind the other -/
def subjU (i : Nat) : List UInt8 := [117, UInt8.ofNat (97 + i / 26), UInt8.ofNat (97 + i % 26)]
theorem subjU_inj : ∀ i j, i < 40 → j < 40 → subjU i = subjU j → i = j := fun i j hi hj h => by
  unfold subjU at h
  simp only [List.cons.injEq, and_true, true_and] at h
  obtain ⟨h1, h2⟩ := h
  have h1 := congrArg UInt8.toNat h1
  have h2 := congrArg UInt8.toNat h2
  rw [UInt8.toNat_ofNat', UInt8.toNat_ofNat'] at h1 h2
  omega
theorem subjU_other (i : Nat) (s : List UInt8) : 118 :: s ≠ subjU i := fun h => by
  unfold subjU at h
  injection h with h _
  cases h
theorem linksN_sum : ∀ n, n ≤ 32 → (recL (allR (linksN [99] subjU n))).length ≤ 32768 := fun n hn => by
  have h1 := rec_all_le (linksN [99] subjU n)
  have hsum : ∀ m, m ≤ 32 → sumR (linksN [99] subjU m) ≤ m * 50 := fun m => by
    induction m with
    | zero => intro _; exact Nat.le_refl _
    | succ m ih =>
      intro hm
      have h2 := ih (by omega)
      have h3 := sumR_turn [⟨lkeyL [99] (subjU m), userL [99] (subjU m), false⟩] (linksN [99] subjU m)
      rw [linksN_turn] at h3
      have h4 := lkeyL_len [99] (subjU m) (by show 1 + 3 ≤ _; omega)
      have h5 := user_len [99] (subjU m)
      have h6 : sumC [⟨lkeyL [99] (subjU m), userL [99] (subjU m), false⟩] ≤ (lkeyL [99] (subjU m)).length + (userL [99] (subjU m)).length := by simp [sumC]
      have h7 : ([99] : List UInt8).length = 1 := rfl
      have h8 : (subjU m).length = 3 := rfl
      omega
  have h2 := hsum n hn
  have h3 := linksN_len [99] subjU 40 subjU_inj n (by omega)
  omega
end Go.Proofs.YtkbjpgfdmkmbmaaGreatDoor
namespace Go.Proofs.YtkbjpgfdmkmbmaaGreatDoor
open Go.RowKit
set_option linter.unusedVariables false
set_option linter.unusedSimpArgs false

theorem len_of {x : ByteArray} {n : Nat} (h : x.size ≤ n) : x.data.toList.length ≤ n := h
theorem tv_of (x : ByteArray) : tv x.data.toList = .string x := by simp [tv]
variable {CT : World → (Nat → Prop) → Nat → TP → Prop} {CS : World → (Nat → Prop) → Nat → Nat → RowL → Prop}
theorem linkFinds_row (HT : TapeL CT) (H : CodeStore CT CS) (A : Option Addr) (c : Nat) (l : List Ch) (x y : ByteArray) {w : World} (K : CodeLink w CS)
    (h : RdC w (.slice A l.length c) l ∧ (∀ g, (Value.slice A l.length c).ownBlock = some g → l.length ≠ 0 → g < w.heap.size) ∧ l.length ≤ 200000000000000 ∧ ∀ x ∈ l, x.key.length ≤ 200000000000000 ∧ x.value.length ≤ 200000000000000)
    (hx : x.size ≤ 1000000000000000) (hy : y.size ≤ 1000000000000000) (hrd : RoundsIn w) :
    Calls Tryz.prog 3 #[.slice A l.length c, .string x, .string y] w fun e w' => e = .returned (.bool true) ∧ Below w.heap.size w w' := by
  have h := linkFinds_at HT H A c l x.data.toList y.data.toList h.2.2.1 h.2.2.2 (len_of hx) (len_of hy) w K hrd h.1 h.2.1
  rwa [tv_of, tv_of] at h
theorem linkResolves_row (HT : TapeL CT) (H : CodeStore CT CS) (A : Option Addr) (c : Nat) (l : List Ch) (x : ConnP) (y : ByteArray) {w : World} (K : CodeLink w CS)
    (h : RdC w (.slice A l.length c) l ∧ (∀ g, (Value.slice A l.length c).ownBlock = some g → l.length ≠ 0 → g < w.heap.size) ∧ l.length ≤ 200000000000000 ∧ ∀ x ∈ l, x.key.length ≤ 200000000000000 ∧ x.value.length ≤ 200000000000000)
    (hx : x.fID.length ≤ 200000000000000) (hy : y.size ≤ 1000000000000000) (hrd : RoundsIn w) :
    Calls Tryz.prog 4 #[.slice A l.length c, x.val, .string y] w fun e w' => e = .returned (.bool true) ∧ Below w.heap.size w w' := by
  have h := linkResolves_at HT H A c l x y.data.toList h.2.2.1 h.2.2.2 hx (len_of hy) w K hrd h.1 h.2.1
  rwa [tv_of] at h
end Go.Proofs.YtkbjpgfdmkmbmaaGreatDoor
namespace Go.Proofs.YtkbjpgfdmkmbmaaGreatDoor

theorem itoa_dec (n : Int) : Lib.itoa n = decI n := by
  have h : ∀ u : Nat, Lib.decDigits u = decL u := by
    intro u
    induction u using Nat.strongRecOn with
    | _ u ih =>
      rw [Lib.decDigits, decL]
      by_cases h : u < 10
      · rw [dif_pos h, if_pos h]; unfold digit; rw [Nat.mod_eq_of_lt h]
      · rw [dif_neg h, if_neg h, ih (u / 10) (by omega)]; rfl
  unfold Lib.itoa decI
  by_cases hn : n < 0
  · rw [if_pos hn, if_pos hn, h]
  · rw [if_neg hn, if_neg hn, h]
    congr 1; omega
end Go.Proofs.YtkbjpgfdmkmbmaaGreatDoor
namespace Go.Proofs.YtkbjpgfdmkmbmaaGreatDoor
open Go.RowKit

theorem gPow : Tryz.prog.globalNamed "internal/strconv.uint64pow10" = some 0 := by kernel_rfl
/-- the table that a number's printing reads is as laid, below block B -/
structure TabIn (B : Nat) (w : World) : Prop where
  tab : Lib.TabIs Tryz.prog w "internal/strconv.uint64pow10" .u64 Lib.pow10Tab
  lt : 0 < B
theorem TabIn.below {B : Nat} {w w' : World} (h : TabIn B w) (hb : Below B w w') : TabIn B w' := by
  obtain ⟨h1, l1⟩ := h
  refine ⟨?_, l1⟩
  unfold Lib.TabIs at h1 ⊢
  rw [← h1]
  unfold World.var?
  rw [gPow]
  simp only [Option.bind_some]
  rw [hb.block _ l1]
theorem TabIn.more {B B' : Nat} {w : World} (h : TabIn B w) (hB : B ≤ B') : TabIn B' w := ⟨h.tab, Nat.lt_of_lt_of_le h.lt hB⟩
end Go.Proofs.YtkbjpgfdmkmbmaaGreatDoor
