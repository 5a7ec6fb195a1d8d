/- The landed rules: need, only, join. -/
import Derived.Test.YtobicmpgfiddhaaDoorRuleDeeds
namespace Go.Proofs.YtobicmpgfiddhaaDoor
open Go.RowKit
set_option linter.unusedVariables false
set_option linter.unusedSimpArgs false

theorem bytes_sum (a b : List UInt8) : (⟨a.toArray⟩ : ByteArray) ++ ⟨b.toArray⟩ = ⟨(a ++ b).toArray⟩ := by apply ByteArray.ext; simp
theorem slims_of {m : Nat} : ∀ {l : List V}, (∀ x ∈ l, x.slim m) → V.slims m l
  | [], _ => by unfold V.slims; trivial
  | v :: r, h => by
    unfold V.slims
    exact ⟨h v (List.mem_cons_self ..), slims_of fun x hx => h x (List.mem_cons_of_mem _ hx)⟩
theorem fits_slim : ∀ (d : Nat) (v : V), v.fits d = true → v.slim 1000000
  | 0, .mk k n t l ks, h => by unfold V.fits at h; cases h
  | d + 1, .mk k n t l ks, h => by
    rw [fits_mk, Bool.and_eq_true] at h
    have hb := h.1
    unfold headB at hb
    simp only [Bool.and_eq_true, decide_eq_true_eq] at hb
    have hl : l.length ≤ 64 := hb.1.1.1.2
    have hk : ks.length ≤ 64 := by
      by_cases h6 : k = 6
      · rw [hb.1.1.2 h6]; exact hl
      · rw [hb.1.2 h6]; exact Nat.zero_le _
    unfold V.slim
    exact ⟨by omega, by omega, slims_of fun x hx => fits_slim d x ((fitsAll_iff l d).1 h.2 x hx)⟩
theorem fits_depth {d : Nat} {v : V} (h : v.fits d = true) : v.depth ≤ d := by
  rw [fits_good, Bool.and_eq_true, decide_eq_true_eq] at h; exact h.1
theorem field_text {c : V} {a : List UInt8} (hx : ∀ x ∈ c.list, x.text.length ≤ 1000000) : ((fieldV a c).getD V.zero).text.length ≤ 1000000 := by
  obtain ⟨k, n, t, l, ks⟩ := c
  show ((if k = 6 ∧ keyAt a ks < ks.length then l[keyAt a ks]? else none).getD V.zero).text.length ≤ _
  split
  · cases h : l[keyAt a ks]? with
    | none => exact Nat.zero_le _
    | some x => exact hx x (List.mem_of_getElem? h)
  · exact Nat.zero_le _
/-- a claim of claims that fit -/
theorem field_small {c : V} {a : List UInt8} (hf : c.fits 8 = true) : ((fieldV a c).getD V.zero).list.length ≤ 64 ∧ ∀ y ∈ ((fieldV a c).getD V.zero).list, y.kind = 4 → y = wordV y.text := by
  cases h : fieldV a c with
  | none => exact ⟨Nat.zero_le _, fun y hy => by cases hy⟩
  | some x =>
    have h7 := field_fits (d := 7) hf h
    show x.list.length ≤ 64 ∧ ∀ y ∈ x.list, y.kind = 4 → y = wordV y.text
    obtain ⟨k, n, t, l, ks⟩ := x
    rw [fits_mk, Bool.and_eq_true] at h7
    have hb := h7.1
    unfold headB at hb
    simp only [Bool.and_eq_true, decide_eq_true_eq] at hb
    exact ⟨hb.1.1.1.2, fun y hy h4 => word_eq (d := 5) h4 ((fitsAll_iff l 6).1 h7.2 y hy)⟩
set_option maxRecDepth 100000 in
set_option maxHeartbeats 16000000 in
theorem deedNeed_any {B p C P N : Nat} {w : World} {c : V} {cs : List Value} {lv kv : Value} {l : List V} {ks : List (List UInt8)} {xs : List Value} (h : DeedAt B p C P N w c cs lv kv l ks xs) (hf : c.fits 8 = true) (hk : ks.length ≤ 90000) (a0 a1 : List UInt8) (A : Option Addr) (cp : Nat) (ha : RdT w (.slice A 2 cp) [a0, a1]) :
    Calls Tryd.prog 45 #[.slice A 2 cp, .pointer (some ⟨C, 0, none⟩)] w (DeedSays B p w c l ks ⟨opNeed, [a0, a1]⟩) := by
  have hs := fits_slim 8 c hf
  have hd : c.depth ≤ 65537 := Nat.le_trans (fits_depth hf) (by decide)
  obtain ⟨g, o, rfl, hg, c0⟩ := ha.at 0 (by simp)
  obtain ⟨g', o', e, _, c1⟩ := ha.at 1 (by simp)
  injection e with e; injection e with e1 e2 _; subst e1; subst e2
  replace c0 : w.cell? ⟨g, o, none⟩ = some (.string ⟨a0.toArray⟩) := c0
  replace c1 : w.cell? ⟨g, o + 1, none⟩ = some (.string ⟨a1.toArray⟩) := c1
  obtain ⟨xk, xn, xt, xl, xm, hxk, hxt, hfd⟩ := field_at c a0 w N cs hs hd h.cv (by have := h.low; omega)
  obtain ⟨hsm, hwd⟩ := field_small (c := c) (a := a0) hf
  obtain ⟨CA, cc, CA', cc', hcs⟩ := h.cv.form
  obtain ⟨ck, hck⟩ : ∃ z, c.kind = z := ⟨_, rfl⟩
  obtain ⟨cn, hcn⟩ : ∃ z, c.num = z := ⟨_, rfl⟩
  obtain ⟨ct, hct⟩ : ∃ z : ByteArray, (⟨c.text.toArray⟩ : ByteArray) = z := ⟨_, rfl⟩
  obtain ⟨cl, hcl⟩ : ∃ z, c.list.length = z := ⟨_, rfl⟩
  obtain ⟨cm, hcm⟩ : ∃ z, c.keys.length = z := ⟨_, rfl⟩
  rw [hck, hcn, hct, hcl, hcm] at hcs
  clear hck hcn hct hcl hcm
  subst hcs
  have hpt := fun W (hW : Below w.heap.size w W) x (xs : List Value) (hx : ApV B W p lv kv x xs) => put_any B p W lv kv l ks _ a0 x xs (h.obj.keep hW) (by have := hW.size; have := h.low; omega) h.num (by omega) hx
  have hst : ∀ W, Below w.heap.size w W → (W.cell? ⟨C, 0, none⟩ = some (.int .i64 ck) ∧ W.cell? ⟨C, 1, none⟩ = some (.int .i64 cn) ∧ W.cell? ⟨C, 2, none⟩ = some (.string ct) ∧ W.cell? ⟨C, 3, none⟩ = some (.slice CA cl cc) ∧ W.cell? ⟨C, 4, none⟩ = some (.slice CA' cm cc')) ∧ W.cell? ⟨P, 0, none⟩ = some (.pointer (some ⟨p, 0, none⟩)) ∧ W.cell? ⟨g, o, none⟩ = some (.string ⟨a0.toArray⟩) ∧ W.cell? ⟨g, o + 1, none⟩ = some (.string ⟨a1.toArray⟩) := fun W hW =>
    ⟨(box_of (blk_below h.box hW)).1, by rw [cell_here (blk_below h.ptr hW)]; rfl, (hW.cell (p := ⟨g, o, none⟩) hg).trans c0, (hW.cell (p := ⟨g, o + 1, none⟩) hg).trans c1⟩
  obtain ⟨F, hF⟩ : ∃ F, (fieldV a0 c).getD V.zero = F := ⟨_, rfl⟩
  obtain ⟨FS, hFS⟩ : ∃ F, (fieldV a0 c).isSome = F := ⟨_, rfl⟩
  have hstep := @step_need c (.mk 6 0 [] l ks) a0 a1
  rw [hF] at hstep hxk hxt hsm hwd
  rw [hF, hFS] at hfd
  obtain ⟨X0, hX0⟩ : ∃ z : ByteArray, (⟨a0.toArray⟩ : ByteArray) = z := ⟨_, rfl⟩
  obtain ⟨X1, hX1⟩ : ∃ z : ByteArray, (⟨a1.toArray⟩ : ByteArray) = z := ⟨_, rfl⟩
  rw [hX0, hX1] at hst
  rw [hX0] at hfd
  rw [hX0] at hpt
  obtain ⟨⟨e0, e1, e2, e3, e4⟩, e5, e6, e7⟩ := hst w (Below.refl _ _)
  obtain ⟨⟨i0, i1, i2, i3, i4⟩, i5, i6, i7⟩ := hst (w.alloc (.cells #[.int .i64 0, .int .i64 0, .string ⟨#[]⟩, .slice none 0 0, .slice none 0 0] 25)) ((Below.refl _ _).alloc (Nat.le_refl _) _)
  have HPT := Lib.hid hpt; have HST := Lib.hid hst; have HB := Lib.hid h.low; have HFD := Lib.hid hfd; have HE := Lib.hid hstep; have HO := Lib.hid h.obj; have HN := Lib.hid h.num; have HSM := Lib.hid hsm; have HWD := Lib.hid hwd; have HXK := Lib.hid hxk; have HXT := Lib.hid hxt; have HX0 := Lib.hid hX0; have HX1 := Lib.hid hX1
  clear hpt hst hX0 hX1 h ha c0 c1 hfd hF hFS hstep hxk hxt hsm hwd hs hd
  go_enter Tryd.func45, Tryd.ntmps45
  go_upto_region 1 with fail
  go_cut [4, 5] from 6 (fun s5 s6 wx => ∃ b A a A' a', s5 = .pointer (some ⟨b, 0, none⟩) ∧ s6 = .bool FS ∧ Hid (GotV w wx b F xk xn xt A xl a A' xm a'))
  case first =>
    go_region_law (first
      | (go_simp; go_at_call 40; (with_reducible refine (HFD.out _ ((Below.refl w.heap.size w).alloc (Nat.le_refl _) (.cells #[.int .i64 0, .int .i64 0, .string ⟨#[]⟩, .slice none 0 0, .slice none 0 0] 25)).drew).mono ?_); rintro e1 w1 ⟨⟨A5, a5, A6, a6, rfl, hv1⟩, hb1⟩; have hq1 := (hb1.block w.heap.size (by simp)).trans (heap_alloc_last w (.cells #[.int .i64 0, .int .i64 0, .string ⟨#[]⟩, .slice none 0 0, .slice none 0 0] 25)); obtain ⟨⟨n0, n1, n2, n3, n4⟩, f0, f1, f2, f3, f4⟩ := box_of hq1; dsimp only)
      | (go_simp; go_at_call 40; (with_reducible refine (HFD.out _ (Below.refl w.heap.size w).drew).mono ?_); rintro e1 w1 ⟨⟨A5, a5, A6, a6, rfl, hv1⟩, hb1⟩; dsimp only))
    all_goals first
      | (have HG := Lib.hid (gotV_alloc hb1 hv1 hq1)
         clear hb1 hv1 hq1 n0 n1 n2 n3 n4 f0 f1 f2 f3 f4
         go_wp2
         go_meet
         case rel => exact ⟨_, _, _, _, _, rfl, rfl, HG⟩)
      | (have HG := Lib.hid (gotV_call hb1 hv1)
         clear hb1 hv1
         go_wp2
         go_meet
         case rel => exact ⟨_, _, _, _, _, rfl, rfl, HG⟩)
  case rest =>
    obtain ⟨b, A5, a5, A6, a6, rfl, rfl, HG⟩ := hcut
    obtain ⟨hbw, hbx, L, N', hL, hN', hvx⟩ := HG.out
    have htl := tells_any F a1 wc.drew L N' _ (hvx.below (Below.refl _ _).drew) hN' (by have := HSM.out; omega)
    rw [HX1.out] at htl
    obtain ⟨-, m5, m6, m7⟩ := HST.out wc hbw
    obtain ⟨⟨b0, b1, b2, b3, b4⟩, -⟩ := box_of hbx
    have HBW := Lib.hid hbw; have HTL := Lib.hid htl
    have hE := HE.out
    obtain ⟨NB, hNB⟩ : ∃ z, needB F a1 = z := ⟨_, rfl⟩
    rw [hNB] at hE HTL
    have HE2 := Lib.hid hE
    clear htl hbw HG hvx hbx e0 e1 e2 e3 e4 e5 e6 e7 i0 i1 i2 i3 i4 i5 i6 i7 hL hN' hE hNB
    go_upto_region 2 with fail
    go_region_law (first
      | (go_simp; go_at_call 46; (with_reducible refine HTL.out.mono ?_); rintro e2 w2 ⟨rfl, hb2⟩; dsimp only))
    all_goals
      have hbb : Below w.heap.size w w2 := HBW.out.chain (below_drew2 _ _ hb2)
      have HF : Hid (DeedSays B p w c l ks ⟨opNeed, [a0, a1]⟩ (.returned (.bool NB)) w2) := Lib.hid (by
        cases NB with
        | true => exact deed_same HB.out.2.1 hbb HE2.out HN.out HO.out
        | false => exact deed_no HB.out.2.1 (ButO.of (hbb.mono HB.out.2.1)) HE2.out)
      clear hb2 hbb m5 m6 m7 b0 b1 b2 b3 b4
      go_wp2
      go_ret
      exact HF.out
set_option maxRecDepth 100000 in
set_option maxHeartbeats 16000000 in
theorem deedOnly_any {B p C P N : Nat} {w : World} {c : V} {cs : List Value} {lv kv : Value} {l : List V} {ks : List (List UInt8)} {xs : List Value} (h : DeedAt B p C P N w c cs lv kv l ks xs) (hf : c.fits 8 = true) (hk : ks.length ≤ 90000) (a0 a1 a2 : List UInt8) (A : Option Addr) (cp : Nat) (ha : RdT w (.slice A 3 cp) [a0, a1, a2]) :
    Calls Tryd.prog 47 #[.slice A 3 cp, .pointer (some ⟨C, 0, none⟩), .pointer (some ⟨P, 0, none⟩)] w (DeedSays B p w c l ks ⟨opOnly, [a0, a1, a2]⟩) := by
  have hs := fits_slim 8 c hf
  have hd : c.depth ≤ 65537 := Nat.le_trans (fits_depth hf) (by decide)
  obtain ⟨g, o, rfl, hg, c0⟩ := ha.at 0 (by simp)
  obtain ⟨g', o', e, _, c1⟩ := ha.at 1 (by simp)
  injection e with e; injection e with e1 e2 _; subst e1; subst e2
  obtain ⟨g', o', e, _, c2⟩ := ha.at 2 (by simp)
  injection e with e; injection e with e1 e2 _; subst e1; subst e2
  replace c0 : w.cell? ⟨g, o, none⟩ = some (.string ⟨a0.toArray⟩) := c0
  replace c1 : w.cell? ⟨g, o + 1, none⟩ = some (.string ⟨a1.toArray⟩) := c1
  replace c2 : w.cell? ⟨g, o + 2, none⟩ = some (.string ⟨a2.toArray⟩) := c2
  obtain ⟨xk, xn, xt, xl, xm, hxk, hxt, hfd⟩ := field_at c a1 w N cs hs hd h.cv (by have := h.low; omega)
  obtain ⟨hsm, hwd⟩ := field_small (c := c) (a := a1) hf
  obtain ⟨CA, cc, CA', cc', hcs⟩ := h.cv.form
  obtain ⟨ck, hck⟩ : ∃ z, c.kind = z := ⟨_, rfl⟩
  obtain ⟨cn, hcn⟩ : ∃ z, c.num = z := ⟨_, rfl⟩
  obtain ⟨ct, hct⟩ : ∃ z : ByteArray, (⟨c.text.toArray⟩ : ByteArray) = z := ⟨_, rfl⟩
  obtain ⟨cl, hcl⟩ : ∃ z, c.list.length = z := ⟨_, rfl⟩
  obtain ⟨cm, hcm⟩ : ∃ z, c.keys.length = z := ⟨_, rfl⟩
  rw [hck, hcn, hct, hcl, hcm] at hcs
  clear hck hcn hct hcl hcm
  subst hcs
  have hpt := fun W (hW : Below w.heap.size w W) x (xs : List Value) (hx : ApV B W p lv kv x xs) => put_any B p W lv kv l ks _ a0 x xs (h.obj.keep hW) (by have := hW.size; have := h.low; omega) h.num (by omega) hx
  have hst : ∀ W, Below w.heap.size w W → (W.cell? ⟨C, 0, none⟩ = some (.int .i64 ck) ∧ W.cell? ⟨C, 1, none⟩ = some (.int .i64 cn) ∧ W.cell? ⟨C, 2, none⟩ = some (.string ct) ∧ W.cell? ⟨C, 3, none⟩ = some (.slice CA cl cc) ∧ W.cell? ⟨C, 4, none⟩ = some (.slice CA' cm cc')) ∧ W.cell? ⟨P, 0, none⟩ = some (.pointer (some ⟨p, 0, none⟩)) ∧ W.cell? ⟨g, o, none⟩ = some (.string ⟨a0.toArray⟩) ∧ W.cell? ⟨g, o + 1, none⟩ = some (.string ⟨a1.toArray⟩) ∧ W.cell? ⟨g, o + 2, none⟩ = some (.string ⟨a2.toArray⟩) := fun W hW =>
    ⟨(box_of (blk_below h.box hW)).1, by rw [cell_here (blk_below h.ptr hW)]; rfl, (hW.cell (p := ⟨g, o, none⟩) hg).trans c0, (hW.cell (p := ⟨g, o + 1, none⟩) hg).trans c1, (hW.cell (p := ⟨g, o + 2, none⟩) hg).trans c2⟩
  obtain ⟨F, hF⟩ : ∃ F, (fieldV a1 c).getD V.zero = F := ⟨_, rfl⟩
  obtain ⟨FS, hFS⟩ : ∃ F, (fieldV a1 c).isSome = F := ⟨_, rfl⟩
  have hstep := @step_only c (.mk 6 0 [] l ks) a0 a1 a2
  rw [hF] at hstep hxk hxt hsm hwd
  rw [hF, hFS] at hfd
  obtain ⟨X0, hX0⟩ : ∃ z : ByteArray, (⟨a0.toArray⟩ : ByteArray) = z := ⟨_, rfl⟩
  obtain ⟨X1, hX1⟩ : ∃ z : ByteArray, (⟨a1.toArray⟩ : ByteArray) = z := ⟨_, rfl⟩
  obtain ⟨X2, hX2⟩ : ∃ z : ByteArray, (⟨a2.toArray⟩ : ByteArray) = z := ⟨_, rfl⟩
  rw [hX0, hX1, hX2] at hst
  rw [hX1] at hfd
  rw [hX0] at hpt
  obtain ⟨⟨e0, e1, e2, e3, e4⟩, e5, e6, e7, e8⟩ := hst w (Below.refl _ _)
  obtain ⟨⟨i0, i1, i2, i3, i4⟩, i5, i6, i7, i8⟩ := hst (w.alloc (.cells #[.int .i64 0, .int .i64 0, .string ⟨#[]⟩, .slice none 0 0, .slice none 0 0] 25)) ((Below.refl _ _).alloc (Nat.le_refl _) _)
  have HPT := Lib.hid hpt; have HST := Lib.hid hst; have HB := Lib.hid h.low; have HFD := Lib.hid hfd; have HE := Lib.hid hstep; have HO := Lib.hid h.obj; have HN := Lib.hid h.num; have HSM := Lib.hid hsm; have HWD := Lib.hid hwd; have HXK := Lib.hid hxk; have HXT := Lib.hid hxt; have HX0 := Lib.hid hX0; have HX1 := Lib.hid hX1; have HX2 := Lib.hid hX2
  clear hpt hst hX0 hX1 hX2 h ha c0 c1 c2 hfd hF hFS hstep hxk hxt hsm hwd hs hd
  go_enter Tryd.func47, Tryd.ntmps47
  go_upto_region 1 with fail
  go_cut [5, 6] from 7 (fun s5 s6 wx => ∃ b A a A' a', s5 = .pointer (some ⟨b, 0, none⟩) ∧ s6 = .bool FS ∧ Hid (GotV w wx b F xk xn xt A xl a A' xm a'))
  case first =>
    go_region_law (first
      | (go_simp; go_at_call 40; (with_reducible refine (HFD.out _ ((Below.refl w.heap.size w).alloc (Nat.le_refl _) (.cells #[.int .i64 0, .int .i64 0, .string ⟨#[]⟩, .slice none 0 0, .slice none 0 0] 25)).drew).mono ?_); rintro e1 w1 ⟨⟨A5, a5, A6, a6, rfl, hv1⟩, hb1⟩; have hq1 := (hb1.block w.heap.size (by simp)).trans (heap_alloc_last w (.cells #[.int .i64 0, .int .i64 0, .string ⟨#[]⟩, .slice none 0 0, .slice none 0 0] 25)); obtain ⟨⟨n0, n1, n2, n3, n4⟩, f0, f1, f2, f3, f4⟩ := box_of hq1; dsimp only)
      | (go_simp; go_at_call 40; (with_reducible refine (HFD.out _ (Below.refl w.heap.size w).drew).mono ?_); rintro e1 w1 ⟨⟨A5, a5, A6, a6, rfl, hv1⟩, hb1⟩; dsimp only))
    all_goals first
      | (have HG := Lib.hid (gotV_alloc hb1 hv1 hq1)
         clear hb1 hv1 hq1 n0 n1 n2 n3 n4 f0 f1 f2 f3 f4
         go_wp2
         go_meet
         case rel => exact ⟨_, _, _, _, _, rfl, rfl, HG⟩)
      | (have HG := Lib.hid (gotV_call hb1 hv1)
         clear hb1 hv1
         go_wp2
         go_meet
         case rel => exact ⟨_, _, _, _, _, rfl, rfl, HG⟩)
  case rest =>
    obtain ⟨b, A5, a5, A6, a6, rfl, rfl, HG⟩ := hcut
    obtain ⟨hbw, hbx, L, N', hL, hN', hvx⟩ := HG.out
    have hbe : ∀ S, S = (⟨a2.toArray⟩ : ByteArray) → Calls Tryd.prog 48 #[.agg #[.int .i64 xk, .int .i64 xn, .string xt, .slice A5 xl a5, .slice A6 xm a6], .string S] wc.drew fun e w' => (∃ A a A' a' Q Q' T, e = .returned (.agg #[.int .i64 5, .int .i64 0, .string T, .slice A Q a, .slice A' Q' a']) ∧ VIs w' wc.drew.heap.size w'.heap.size (listV (onlyL F a2)) [.int .i64 5, .int .i64 0, .string T, .slice A Q a, .slice A' Q' a']) ∧ Below wc.drew.heap.size wc.drew w' := fun S hS =>
      (beginning_any F a2 wc.drew L N' _ (hvx.below (Below.refl _ _).drew) hN' (by have := HSM.out; omega) HWD.out S hS).mono (by
        rintro e w' ⟨⟨ds, rfl, h1⟩, h2⟩
        obtain ⟨A, a, A', a', rfl⟩ := h1.form
        exact ⟨⟨A, a, A', a', _, _, _, rfl, h1⟩, h2⟩)
    have hb := hbe _ HX2.out.symm
    have hpt := fun W (hW : Below wc.drew.heap.size wc.drew W) xs (hv : VIs W wc.drew.heap.size W.heap.size (listV (onlyL F a2)) xs) => HPT.out W ((show Below w.heap.size w wc.drew from hbw.drew).chain hW) (listV (onlyL F a2)) xs (HO.out.fresh HB.out.2.1 (show w.heap.size ≤ wc.heap.size from hbw.size) (Nat.le_refl _) hv)
    have hst : ∀ W, Below wc.drew.heap.size wc.drew W → W.cell? ⟨P, 0, none⟩ = some (.pointer (some ⟨p, 0, none⟩)) ∧ W.cell? ⟨g, o, none⟩ = some (.string X0) ∧ W.cell? ⟨g, o + 1, none⟩ = some (.string X1) ∧ W.cell? ⟨g, o + 2, none⟩ = some (.string X2) := fun W hW => (HST.out W ((show Below w.heap.size w wc.drew from hbw.drew).chain hW)).2
    obtain ⟨-, m5, m6, m7, m8⟩ := HST.out wc hbw
    obtain ⟨⟨b0, b1, b2, b3, b4⟩, -⟩ := box_of hbx
    have HBW := Lib.hid hbw; have HBE := Lib.hid hb; have HPP := Lib.hid hpt; have HS2 := Lib.hid hst
    clear hb hbe hbw HG hvx hbx e0 e1 e2 e3 e4 e5 e6 e7 e8 i0 i1 i2 i3 i4 i5 i6 i7 i8 hL hN' hpt hst
    go_upto_region 2 with fail
    go_region_law (first
      | (go_simp; go_at_call 48; (with_reducible refine HBE.out.mono ?_); rintro e2 w2 ⟨⟨q1, q2, q3, q4, q5, q6, q7, rfl, hv2⟩, hb2⟩; obtain ⟨k5, k6, k7, k8⟩ := HS2.out w2 hb2; dsimp only)
      | (go_simp; go_at_call 41; (with_reducible refine (HPP.out _ hb2 _ hv2).mono ?_); rintro e3 w3 ⟨⟨v3, rfl⟩, hp3, hb3⟩; dsimp only))
    all_goals
      have HF := Lib.hid (deed_put HB.out.2.1 (HBW.out.drew.chain hb2) hb3 HE.out hp3)
      clear hb2 hv2 hb3 hp3 m5 m6 m7 m8 b0 b1 b2 b3 b4 k5 k6 k7 k8
      go_wp2
      go_ret
      exact HF.out
set_option maxRecDepth 100000 in
set_option maxHeartbeats 16000000 in
theorem deedJoin_any {B p C P N : Nat} {w : World} {c : V} {cs : List Value} {lv kv : Value} {l : List V} {ks : List (List UInt8)} {xs : List Value} (h : DeedAt B p C P N w c cs lv kv l ks xs) (hf : c.fits 8 = true) (hx : ∀ x ∈ c.list, x.text.length ≤ 1000000) (hk : ks.length ≤ 90000) (a0 a1 a2 : List UInt8) (A : Option Addr) (cp : Nat) (ha : RdT w (.slice A 3 cp) [a0, a1, a2]) :
    Calls Tryd.prog 44 #[.slice A 3 cp, .pointer (some ⟨C, 0, none⟩), .pointer (some ⟨P, 0, none⟩)] w (DeedSays B p w c l ks ⟨opJoin, [a0, a1, a2]⟩) := by
  have hs := fits_slim 8 c hf
  have hd : c.depth ≤ 65537 := Nat.le_trans (fits_depth hf) (by decide)
  obtain ⟨g, o, rfl, hg, c0⟩ := ha.at 0 (by simp)
  obtain ⟨g', o', e, _, c1⟩ := ha.at 1 (by simp)
  injection e with e; injection e with e1 e2 _; subst e1; subst e2
  obtain ⟨g', o', e, _, c2⟩ := ha.at 2 (by simp)
  injection e with e; injection e with e1 e2 _; subst e1; subst e2
  replace c0 : w.cell? ⟨g, o, none⟩ = some (.string ⟨a0.toArray⟩) := c0
  replace c1 : w.cell? ⟨g, o + 1, none⟩ = some (.string ⟨a1.toArray⟩) := c1
  replace c2 : w.cell? ⟨g, o + 2, none⟩ = some (.string ⟨a2.toArray⟩) := c2
  obtain ⟨xk, xn, xt, xl, xm, hxk, hxt, hfd⟩ := field_at c a1 w N cs hs hd h.cv (by have := h.low; omega)
  obtain ⟨hsm, hwd⟩ := field_small (c := c) (a := a1) hf
  have htl := field_text (a := a1) hx
  have hul := field_text (a := a2) hx
  obtain ⟨yk, yn, yt, yl, ym, hyk, hyt, hfe⟩ := field_at c a2 w N cs hs hd h.cv (by have := h.low; omega)
  obtain ⟨CA, cc, CA', cc', hcs⟩ := h.cv.form
  obtain ⟨ck, hck⟩ : ∃ z, c.kind = z := ⟨_, rfl⟩
  obtain ⟨cn, hcn⟩ : ∃ z, c.num = z := ⟨_, rfl⟩
  obtain ⟨ct, hct⟩ : ∃ z : ByteArray, (⟨c.text.toArray⟩ : ByteArray) = z := ⟨_, rfl⟩
  obtain ⟨cl, hcl⟩ : ∃ z, c.list.length = z := ⟨_, rfl⟩
  obtain ⟨cm, hcm⟩ : ∃ z, c.keys.length = z := ⟨_, rfl⟩
  rw [hck, hcn, hct, hcl, hcm] at hcs
  clear hck hcn hct hcl hcm
  subst hcs
  have hpt := fun W (hW : Below w.heap.size w W) x (xs : List Value) (hx : ApV B W p lv kv x xs) => put_any B p W lv kv l ks _ a0 x xs (h.obj.keep hW) (by have := hW.size; have := h.low; omega) h.num (by omega) hx
  have hst : ∀ W, Below w.heap.size w W → (W.cell? ⟨C, 0, none⟩ = some (.int .i64 ck) ∧ W.cell? ⟨C, 1, none⟩ = some (.int .i64 cn) ∧ W.cell? ⟨C, 2, none⟩ = some (.string ct) ∧ W.cell? ⟨C, 3, none⟩ = some (.slice CA cl cc) ∧ W.cell? ⟨C, 4, none⟩ = some (.slice CA' cm cc')) ∧ W.cell? ⟨P, 0, none⟩ = some (.pointer (some ⟨p, 0, none⟩)) ∧ W.cell? ⟨g, o, none⟩ = some (.string ⟨a0.toArray⟩) ∧ W.cell? ⟨g, o + 1, none⟩ = some (.string ⟨a1.toArray⟩) ∧ W.cell? ⟨g, o + 2, none⟩ = some (.string ⟨a2.toArray⟩) := fun W hW =>
    ⟨(box_of (blk_below h.box hW)).1, by rw [cell_here (blk_below h.ptr hW)]; rfl, (hW.cell (p := ⟨g, o, none⟩) hg).trans c0, (hW.cell (p := ⟨g, o + 1, none⟩) hg).trans c1, (hW.cell (p := ⟨g, o + 2, none⟩) hg).trans c2⟩
  obtain ⟨F, hF⟩ : ∃ F, (fieldV a1 c).getD V.zero = F := ⟨_, rfl⟩
  obtain ⟨FS, hFS⟩ : ∃ F, (fieldV a1 c).isSome = F := ⟨_, rfl⟩
  have hstep := @step_join c (.mk 6 0 [] l ks) a0 a1 a2
  obtain ⟨E, hE⟩ : ∃ F, (fieldV a2 c).getD V.zero = F := ⟨_, rfl⟩
  obtain ⟨ES, hES⟩ : ∃ F, (fieldV a2 c).isSome = F := ⟨_, rfl⟩
  rw [hF] at hstep hxk hxt hsm hwd htl
  rw [hF, hFS] at hfd
  rw [hE] at hstep hyk hyt hul
  rw [hE, hES] at hfe
  obtain ⟨X0, hX0⟩ : ∃ z : ByteArray, (⟨a0.toArray⟩ : ByteArray) = z := ⟨_, rfl⟩
  obtain ⟨X1, hX1⟩ : ∃ z : ByteArray, (⟨a1.toArray⟩ : ByteArray) = z := ⟨_, rfl⟩
  obtain ⟨X2, hX2⟩ : ∃ z : ByteArray, (⟨a2.toArray⟩ : ByteArray) = z := ⟨_, rfl⟩
  rw [hX0, hX1, hX2] at hst
  rw [hX1] at hfd
  rw [hX0] at hpt
  rw [hX2] at hfe
  obtain ⟨⟨e0, e1, e2, e3, e4⟩, e5, e6, e7, e8⟩ := hst w (Below.refl _ _)
  obtain ⟨⟨i0, i1, i2, i3, i4⟩, i5, i6, i7, i8⟩ := hst (w.alloc (.cells #[.int .i64 0, .int .i64 0, .string ⟨#[]⟩, .slice none 0 0, .slice none 0 0] 25)) ((Below.refl _ _).alloc (Nat.le_refl _) _)
  have HPT := Lib.hid hpt; have HST := Lib.hid hst; have HB := Lib.hid h.low; have HFD := Lib.hid hfd; have HE := Lib.hid hstep; have HO := Lib.hid h.obj; have HN := Lib.hid h.num; have HSM := Lib.hid hsm; have HWD := Lib.hid hwd; have HXK := Lib.hid hxk; have HXT := Lib.hid hxt; have HX0 := Lib.hid hX0; have HX1 := Lib.hid hX1; have HX2 := Lib.hid hX2; have HTL := Lib.hid htl; have HUL := Lib.hid hul; have HFE := Lib.hid hfe; have HYK := Lib.hid hyk; have HYT := Lib.hid hyt
  clear hpt hst hX0 hX1 hX2 h ha c0 c1 c2 hfd hF hFS hstep hxk hxt hsm hwd hs hd hfe hyk hyt hE hES htl hul hx
  go_enter Tryd.func44, Tryd.ntmps44
  go_upto_region 1 with fail
  go_cut [5, 6] from 9 (fun s5 s6 wx => ∃ b A a A' a', s5 = .pointer (some ⟨b, 0, none⟩) ∧ s6 = .bool FS ∧ Hid (GotV w wx b F xk xn xt A xl a A' xm a'))
  case first =>
    go_region_law (first
      | (go_simp; go_at_call 40; (with_reducible refine (HFD.out _ ((Below.refl w.heap.size w).alloc (Nat.le_refl _) (.cells #[.int .i64 0, .int .i64 0, .string ⟨#[]⟩, .slice none 0 0, .slice none 0 0] 25)).drew).mono ?_); rintro e1 w1 ⟨⟨A5, a5, A6, a6, rfl, hv1⟩, hb1⟩; have hq1 := (hb1.block w.heap.size (by simp)).trans (heap_alloc_last w (.cells #[.int .i64 0, .int .i64 0, .string ⟨#[]⟩, .slice none 0 0, .slice none 0 0] 25)); obtain ⟨⟨n0, n1, n2, n3, n4⟩, f0, f1, f2, f3, f4⟩ := box_of hq1; dsimp only)
      | (go_simp; go_at_call 40; (with_reducible refine (HFD.out _ (Below.refl w.heap.size w).drew).mono ?_); rintro e1 w1 ⟨⟨A5, a5, A6, a6, rfl, hv1⟩, hb1⟩; dsimp only))
    all_goals first
      | (have HG := Lib.hid (gotV_alloc hb1 hv1 hq1)
         clear hb1 hv1 hq1 n0 n1 n2 n3 n4 f0 f1 f2 f3 f4
         go_wp2
         go_meet
         case rel => exact ⟨_, _, _, _, _, rfl, rfl, HG⟩)
      | (have HG := Lib.hid (gotV_call hb1 hv1)
         clear hb1 hv1
         go_wp2
         go_meet
         case rel => exact ⟨_, _, _, _, _, rfl, rfl, HG⟩)
  case rest =>
    obtain ⟨b, A5, a5, A6, a6, rfl, rfl, HG⟩ := hcut
    obtain ⟨V1, rfl⟩ : ∃ V1, V1 = wc := ⟨_, rfl⟩
    obtain ⟨hbw, hbx, L, N', hL, hN', hvx⟩ := HG.out
    have HBW := Lib.hid hbw
    have hfe : ∀ W, Below V1.heap.size V1 W → _ := fun W hW => HFE.out W (hbw.chain hW)
    obtain ⟨⟨j0, j1, j2, j3, j4⟩, j5, j6, j7, j8⟩ := HST.out V1 hbw
    obtain ⟨⟨h0, h1, h2, h3, h4⟩, h5, h6, h7, h8⟩ := HST.out (V1.alloc (.cells #[.int .i64 0, .int .i64 0, .string ⟨#[]⟩, .slice none 0 0, .slice none 0 0] 25)) (hbw.chain ((Below.refl _ _).alloc (Nat.le_refl _) _))
    have HF2 := Lib.hid hfe; have HBX := Lib.hid hbx
    clear hbw hfe HG hvx hbx e0 e1 e2 e3 e4 e5 e6 e7 e8 i0 i1 i2 i3 i4 i5 i6 i7 i8 hL hN'
    go_upto_region 2 with fail
    go_cut [7, 8] from 9 (fun s5 s6 wx => ∃ b A a A' a', s5 = .pointer (some ⟨b, 0, none⟩) ∧ s6 = .bool ES ∧ Hid (GotV V1 wx b E yk yn yt A yl a A' ym a'))
    case first =>
      go_region_law (first
        | (go_simp; go_at_call 40; (with_reducible refine (HF2.out _ ((Below.refl V1.heap.size V1).alloc (Nat.le_refl _) (.cells #[.int .i64 0, .int .i64 0, .string ⟨#[]⟩, .slice none 0 0, .slice none 0 0] 25)).drew).mono ?_); rintro e1 w1 ⟨⟨A5, a5, A6, a6, rfl, hv1⟩, hb1⟩; have hq1 := (hb1.block V1.heap.size (by simp)).trans (heap_alloc_last V1 (.cells #[.int .i64 0, .int .i64 0, .string ⟨#[]⟩, .slice none 0 0, .slice none 0 0] 25)); obtain ⟨⟨n0, n1, n2, n3, n4⟩, f0, f1, f2, f3, f4⟩ := box_of hq1; dsimp only)
        | (go_simp; go_at_call 40; (with_reducible refine (HF2.out _ (Below.refl V1.heap.size V1).drew).mono ?_); rintro e1 w1 ⟨⟨A5, a5, A6, a6, rfl, hv1⟩, hb1⟩; dsimp only))
      all_goals first
        | (have HG := Lib.hid (gotV_alloc hb1 hv1 hq1)
           clear hb1 hv1 hq1 n0 n1 n2 n3 n4 f0 f1 f2 f3 f4
           go_wp2
           go_meet
           case rel => exact ⟨_, _, _, _, _, rfl, rfl, HG⟩)
        | (have HG := Lib.hid (gotV_call hb1 hv1)
           clear hb1 hv1
           go_wp2
           go_meet
           case rel => exact ⟨_, _, _, _, _, rfl, rfl, HG⟩)
    case rest =>
      obtain ⟨b', B5, d5, B6, d6, rfl, rfl, HG2⟩ := hcut
      obtain ⟨hbw2, hbx2, -⟩ := HG2.out
      have hbb : Below w.heap.size w wc := HBW.out.chain hbw2
      obtain ⟨⟨b0, b1, b2, b3, b4⟩, -⟩ := box_of (blk_below HBX.out hbw2)
      obtain ⟨⟨r0, r1, r2, r3, r4⟩, -⟩ := box_of hbx2
      have hE := HE.out
      have HBB := Lib.hid hbb
      by_cases x4 : xk = 4
      · by_cases y4 : yk = 4
        · rw [if_pos ⟨HXK.out.symm.trans x4, HYK.out.symm.trans y4⟩] at hE
          have t1 : (xk != 4) = false := by simp [x4]
          have t2 : (yk != 4) = false := by simp [y4]
          have hxs : xt.size ≤ 1000000 := by rw [HXT.out]; simpa [ByteArray.size] using HTL.out
          have hys : yt.size ≤ 1000000 := by rw [HYT.out]; simpa [ByteArray.size] using HUL.out
          have hC1 : (⟨#[46]⟩ : ByteArray).size = 1 := rfl
          have s1 := fun W => run_string_add_sum (P := Tryd.prog) W xt ⟨#[46]⟩ (by omega)
          obtain ⟨T1, hT1⟩ : ∃ S, S = xt ++ ⟨#[46]⟩ := ⟨_, rfl⟩
          have hT1s : T1.size ≤ 1000001 := by rw [hT1, ByteArray.size_append]; omega
          rw [← hT1] at s1
          have s2 := fun W => run_string_add_sum (P := Tryd.prog) W T1 yt (by omega)
          obtain ⟨TT, hTT⟩ : ∃ S, S = T1 ++ yt := ⟨_, rfl⟩
          rw [← hTT] at s2
          have hTX : TT = ⟨(F.text ++ [46] ++ E.text).toArray⟩ := by
            rw [hTT, hT1, HXT.out, HYT.out, show (⟨#[46]⟩ : ByteArray) = ⟨[(46 : UInt8)].toArray⟩ from rfl, bytes_sum, bytes_sum]
          have hTL : (F.text ++ [46] ++ E.text).length ≤ 9223372036854775807 := by
            have h1 := HTL.out; have h2 := HUL.out
            rw [List.length_append, List.length_append, List.length_singleton]; omega
          have htv := fun W => textValue_any TT W
          have hpt := fun W (hW : Below wc.heap.size wc W) => HPT.out W (hbb.chain hW) (wordV (F.text ++ [46] ++ E.text)) _ (⟨0, 0, .inl rfl, Nat.zero_le _, fun g _ h => absurd h (Nat.not_lt_zero _), word_is W 0 0 _ hTL TT hTX⟩)
          have hst : ∀ W, Below wc.heap.size wc W → W.cell? ⟨P, 0, none⟩ = some (.pointer (some ⟨p, 0, none⟩)) ∧ W.cell? ⟨g, o, none⟩ = some (.string X0) := fun W hW => by
            obtain ⟨-, h5, h6, -⟩ := HST.out W (hbb.chain hW)
            exact ⟨h5, h6⟩
          obtain ⟨v5, v6⟩ := hst wc (Below.refl _ _)
          have HE2 := Lib.hid hE; have HTV := Lib.hid htv; have HPP := Lib.hid hpt; have HS2 := Lib.hid hst; have S1 := Lib.hid s1; have S2 := Lib.hid s2
          clear hE htv hpt hst hTX hTL hT1 hTT hT1s hxs hys hbb hbw2 hbx2 HG2 j0 j1 j2 j3 j4 j5 j6 j7 j8 h0 h1 h2 h3 h4 h5 h6 h7 h8
          go_upto_region 5 with fail
          go_region_law (first
            | (go_simp; go_at_call 43; (with_reducible refine (HTV.out _).mono ?_); rintro e2 w2 ⟨rfl, hb2⟩; have hb2' := (below_drew2 _ _ hb2); obtain ⟨k5, k6⟩ := HS2.out w2 hb2'; dsimp only)
            | (go_simp; go_at_call 41; (with_reducible refine (HPP.out _ hb2').mono ?_); rintro e3 w3 ⟨⟨v3, rfl⟩, hp3, hb3⟩; dsimp only))
          all_goals
            have HF := Lib.hid (deed_put HB.out.2.1 (HBB.out.chain hb2') hb3 HE2.out hp3)
            clear hb2 hb2' hb3 hp3 v5 v6 k5 k6 b0 b1 b2 b3 b4 r0 r1 r2 r3 r4
            go_wp2
            go_ret
            exact HF.out
        · rw [if_neg (fun h => y4 (HYK.out.trans h.2))] at hE
          have t1 : (xk != 4) = false := by simp [x4]
          have t2 : (yk != 4) = true := by simpa using y4
          have HF := Lib.hid (deed_no (p := p) HB.out.2.1 (ButO.of (hbb.mono HB.out.2.1)) hE)
          clear hE hbb hbw2 hbx2 HG2
          go_wp2
          go_ret
          exact HF.out
      · rw [if_neg (fun h => x4 (HXK.out.trans h.1))] at hE
        have t1 : (xk != 4) = true := by simpa using x4
        have HF := Lib.hid (deed_no (p := p) HB.out.2.1 (ButO.of (hbb.mono HB.out.2.1)) hE)
        clear hE hbb hbw2 hbx2 HG2
        go_wp2
        go_ret
        exact HF.out
end Go.Proofs.YtobicmpgfiddhaaDoor
