/- Texts merged by program, in build order: LawRuleN. -/
import Derived.Test.YtobicmpgfiddhaaDoorRuleLaw
import Derived.Test.YtobicmpgfiddhaaDoorN01
import Derived.Test.YtobicmpgfiddhaaDoorListSt
import Derived.Test.YtobicmpgfiddhaaDoorHeldMore
import Derived.Deep.RegionLaw
import Derived.Deep.RegionWith
namespace Go.Proofs.YtobicmpgfiddhaaDoor
open Go.RowKit Go.Shelf
set_option linter.unusedVariables false
set_option linter.unusedSimpArgs false

def kGroups : List UInt8 := [103, 114, 111, 117, 112, 115]
def kTeams : List UInt8 := [116, 101, 97, 109, 115]
def wd3 : Nat → List UInt8
  | 0 => [115, 116, 97, 102, 102]
  | 1 => [115, 97, 108, 101, 115]
  | _ => [120]
def needS (wd : List UInt8) : List UInt8 := [110, 101, 101, 100, 32, 103, 114, 111, 117, 112, 115, 32] ++ wd ++ [59, 111, 110, 108, 121, 32, 116, 101, 97, 109, 115, 32, 103, 114, 111, 117, 112, 115, 32, 115]
def needRs (wd : List UInt8) : List RU := [⟨opNeed, [kGroups, wd]⟩, ⟨opOnly, [kTeams, kGroups, [115]]⟩]
def groupsV (l : List (List UInt8)) : V := .mk 6 0 [] [listV (l.map wordV)] [kGroups]
theorem need_words : ∀ r, r < 3 → parseRE (needS (wd3 r)) = 0 ∧ parseRL (needS (wd3 r)) = needRs (wd3 r) ∧ (needRs (wd3 r)).all RU.good = true ∧ (needS (wd3 r)).length ≤ 100 := by
  intro r hr
  match r, hr with
  | 0, _ => exact ⟨by decide +kernel, by rfl, by decide +kernel, by decide⟩
  | 1, _ => exact ⟨by decide +kernel, by rfl, by decide +kernel, by decide⟩
  | 2, _ => exact ⟨by decide +kernel, by rfl, by decide +kernel, by decide⟩
theorem needS_bytes (wd : List UInt8) : (⟨#[110, 101, 101, 100, 32, 103, 114, 111, 117, 112, 115, 32]⟩ : ByteArray) ++ ⟨wd.toArray⟩ ++ ⟨#[59, 111, 110, 108, 121, 32, 116, 101, 97, 109, 115, 32, 103, 114, 111, 117, 112, 115, 32, 115]⟩ = ⟨(needS wd).toArray⟩ := by
  apply ByteArray.ext
  apply Array.ext'
  show _ = [110, 101, 101, 100, 32, 103, 114, 111, 117, 112, 115, 32] ++ wd ++ [59, 111, 110, 108, 121, 32, 116, 101, 97, 109, 115, 32, 103, 114, 111, 117, 112, 115, 32, 115]
  simp [ByteArray.data_append]
theorem groups_fits (l : List (List UInt8)) (hn : l.length ≤ 60) : (groupsV l).fits 8 = true := by
  have hw : ∀ x : List UInt8, (wordV x).fits 6 = true := fun x => by
    unfold wordV
    rw [fits_mk, (fitsAll_iff [] 5).2 (fun x h => by cases h)]
    simp [headB, unlikeB]
  have hl : (listV (l.map wordV)).fits 7 = true := by
    unfold listV
    rw [fits_mk, (fitsAll_iff (l.map wordV) 6).2 (fun y h => by obtain ⟨z, _, rfl⟩ := List.mem_map.1 h; exact hw z)]
    simp [headB, unlikeB]
    omega
  unfold groupsV
  rw [fits_mk, (fitsAll_iff [listV (l.map wordV)] 7).2 (fun y h => by
    obtain rfl := List.mem_singleton.1 h
    exact hl)]
  rfl
theorem need_run (l : List (List UInt8)) (wd : List UInt8) (hn : l.length ≤ 60) :
    runU (needRs wd) (groupsV l) = if l.any (fun x => decide (x = wd)) = true then some (.mk 6 0 [] [listV (onlyL (listV (l.map wordV)) [115])] [kTeams]) else none := by
  have h1 : stepR (groupsV l) emptyO ⟨opNeed, [kGroups, wd]⟩ = if needB (listV (l.map wordV)) wd = true then some emptyO else none := rfl
  have h2 : needB (listV (l.map wordV)) wd = l.any (fun x => decide (x = wd)) := by
    unfold needB listV
    show (isW _ wd || (decide ((5 : Int) = 5) && (l.map wordV).any (isW · wd))) = _
    rw [List.any_map]
    have e1 : isW (.mk 5 0 [] (l.map wordV) []) wd = false := rfl
    rw [e1]
    have e2 : (fun x => isW x wd) ∘ wordV = fun x => decide (x = wd) := by
      funext x
      show (decide ((4 : Int) = 4) && decide (x = wd)) = _
      simp
    rw [e2]
    simp
  unfold runU needRs
  rw [if_pos ⟨rfl, groups_fits l hn⟩]
  show (match stepR (groupsV l) emptyO ⟨opNeed, [kGroups, wd]⟩ with | none => none | some o => foldU (groupsV l) o [⟨opOnly, [kTeams, kGroups, [115]]⟩]) = _
  rw [h1, h2]
  by_cases h : l.any (fun x => decide (x = wd)) = true
  · rw [if_pos h, if_pos h]; rfl
  · rw [if_neg h, if_neg h]
theorem only_s {v x : V} (h : x ∈ onlyL v [115]) : ∃ r, x.text = 115 :: r := by
  unfold onlyL at h
  split at h
  · have := (List.mem_filter.1 h).2
    simp only [Bool.and_eq_true, decide_eq_true_eq] at this
    have h2 := this.2
    cases hx : x.text with
    | nil => rw [hx] at h2; cases h2
    | cons c r =>
      rw [hx] at h2
      have : c = 115 := by simpa using h2
      exact ⟨r, by rw [this]⟩
  · cases h
/-- what the rules say, and what is read of it -/
theorem need_ends (l : List (List UInt8)) (wd : List UInt8) (hn : l.length ≤ 60) :
    (runU (needRs wd) (groupsV l)).isSome = l.any (fun x => decide (x = wd)) ∧ (l.any (fun x => decide (x = wd)) = true → ((runU (needRs wd) (groupsV l)).getD V.zero).keys.length = 1 ∧ ((fieldV kTeams ((runU (needRs wd) (groupsV l)).getD V.zero)).getD V.zero).kind = 5) ∧
    (∀ x ∈ ((fieldV kTeams ((runU (needRs wd) (groupsV l)).getD V.zero)).getD V.zero).list, ∃ r, x.text = 115 :: r) ∧ ((fieldV kTeams ((runU (needRs wd) (groupsV l)).getD V.zero)).getD V.zero).list.length ≤ 60 := by
  rw [need_run l wd hn]
  by_cases h : l.any (fun x => decide (x = wd)) = true
  · rw [if_pos h, h]
    have e : fieldV kTeams ((some (V.mk 6 0 [] [listV (onlyL (listV (l.map wordV)) [115])] [kTeams])).getD V.zero) = some (listV (onlyL (listV (l.map wordV)) [115])) := rfl
    rw [e]
    refine ⟨rfl, fun _ => ⟨rfl, rfl⟩, fun x hx => only_s hx, ?_⟩
    show (onlyL (listV (l.map wordV)) [115]).length ≤ 60
    show (List.filter _ (l.map wordV)).length ≤ 60
    have := List.length_filter_le (fun x : V => decide (x.kind = 4) && decide (x.text.take [(115 : UInt8)].length = [115])) (l.map wordV)
    rw [List.length_map] at this
    omega
  · have h' : l.any (fun x => decide (x = wd)) = false := Bool.eq_false_iff.2 h
    rw [if_neg h, h']
    have e : fieldV kTeams ((none : Option V).getD V.zero) = none := rfl
    rw [e]
    refine ⟨rfl, fun h => absurd h (by decide), fun x hx => ?_, Nat.zero_le _⟩
    have hx' : x ∈ ([] : List V) := hx
    cases hx'
set_option maxRecDepth 100000 in
theorem refWord14_any (t : ByteArray) (w : World) : Calls Tryd.prog 15 #[.string t] w fun e w' => e = .returned (.agg #[.int .i64 4, .int .i64 0, .string t, .slice none 0 0, .slice none 0 0]) ∧ Below w.heap.size w w' := by
  go_enter Tryd.func15, Tryd.ntmps15
  go_wp2
  refine bodyPost_ret (v := .agg #[.int .i64 4, .int .i64 0, .string t, .slice none 0 0, .slice none 0 0]) (by simp [results, Tryd.results15, go_sem]) rfl ?_
  exact ⟨rfl, (Below.refl _ _).alloc (Nat.le_refl _) _⟩
theorem wordV_is (w : World) (L N : Nat) (x : List UInt8) (hx : x.length ≤ 9223372036854775807) : VIs w L N (wordV x) [.int .i64 4, .int .i64 0, .string ⟨x.toArray⟩, .slice none 0 0, .slice none 0 0] := by
  exact VIs.mk (k := 4) (n := 0) (t := x) (l := []) (ks := []) (A := none) (A' := none) (c := 0) (c' := 0) ⟨by simp, by simp, hx, by simp⟩ (.inl rfl) (.inl rfl)
set_option maxRecDepth 100000 in
set_option maxHeartbeats 16000000 in
theorem ruleNeeds_at {w : World} (C : CodeRule w) (A : Option Addr) (c : Nat) (l : List (List UInt8)) (hl : RdT w (.slice A l.length c) l) (hlz : l.length ≤ 9223372036854775807) (hz : ∀ x ∈ l, x.length ≤ 9223372036854775807) (m : Nat) (hm : m < 256) :
    Calls Tryd.prog 5 #[.slice A l.length c, .int .u8 (m : Int)] w fun e w' => e = .returned (.bool true) ∧ Below w.heap.size w w' := by
  obtain ⟨i0, hi, hz0, hz1, hz2⟩ := info_parts Tryd.infoValR
  have ha := fun W (hW : Below w.heap.size w W) => answers14_any C W hW
  have HA := Lib.hid ha; have HC := Lib.hid C
  clear ha C
  obtain ⟨n, hn⟩ : ∃ n, l.length = n := ⟨_, rfl⟩
  rw [hn] at hlz hl ⊢
  by_cases h60 : 60 < n
  · have t1 : decide ((60 : Int) < (n : Int)) = true := by simp; omega
    clear hl hz
    go_enter Tryd.func5, Tryd.ntmps5
    go_wp2_with (go_at_call 8; (with_reducible refine (HA.out _ (Below.refl _ _)).mono ?_); rintro e1 w1 ⟨rfl, hb1⟩; have HB1 := Lib.hid hb1; clear hb1; dsimp only)
    go_ret
    exact ⟨rfl, HB1.out⟩
  have t1 : decide ((60 : Int) < (n : Int)) = false := by simp; omega
  obtain ⟨r, hr, hrm⟩ : ∃ r : Nat, r < 3 ∧ (m : Int) % 3 = (r : Int) := ⟨m % 3, Nat.mod_lt _ (by decide), by omega⟩
  have ht : Int.tmod (m : Int) 3 = (r : Int) := by rw [Int.tmod_eq_emod_of_nonneg (by omega)]; exact hrm
  obtain ⟨p1, p2, p3, p4⟩ := need_words r hr
  obtain ⟨W1, hW1⟩ : ∃ W1, w.alloc (.cells #[.string ⟨#[115, 116, 97, 102, 102]⟩, .string ⟨#[115, 97, 108, 101, 115]⟩, .string ⟨#[120]⟩] 9) = W1 := ⟨_, rfl⟩
  have b1 : Below w.heap.size w W1 := by rw [← hW1]; exact (Below.refl _ _).alloc (Nat.le_refl _) _
  have k1 : W1.heap[w.heap.size]? = some (.cells #[.string ⟨#[115, 116, 97, 102, 102]⟩, .string ⟨#[115, 97, 108, 101, 115]⟩, .string ⟨#[120]⟩] 9 (0, 0)) := by rw [← hW1]; exact heap_alloc_last w _
  have kw : W1.cell? ⟨w.heap.size, r, none⟩ = some (.string ⟨(wd3 r).toArray⟩) := by
    rw [cell_here k1]
    match r, hr with
    | 0, _ => rfl
    | 1, _ => rfl
    | 2, _ => rfl
  obtain ⟨wd, hwd⟩ : ∃ wd, wd3 r = wd := ⟨_, rfl⟩
  rw [hwd] at kw p1 p2 p3 p4
  obtain ⟨q1, q2, q3, q4⟩ := need_ends l wd (by omega)
  have hpa := fun W (hW : Below w.heap.size w W) => parse_ok HC.out W hW (needS wd) (by omega) p1 2 (by rw [p2]; rfl)
  have hgd : ∀ x ∈ needRs wd, x.good = true := List.all_eq_true.1 p3
  have hrn := fun W (hW : Below w.heap.size w W) A c cs (h : RdU W (.slice A 2 c) (needRs wd)) (hv : VIs W 0 W.heap.size (groupsV l) cs) => run_ok HC.out W hW _ hgd (by show 2 ≤ _; omega) 2 rfl A c (groupsV l) cs (fun x hx => by
    obtain rfl : x = listV (l.map wordV) := List.mem_singleton.1 hx
    exact Nat.zero_le _) h hv
  rw [p2] at hpa
  obtain ⟨WD, hWD⟩ : ∃ WD : ByteArray, (⟨wd.toArray⟩ : ByteArray) = WD := ⟨_, rfl⟩
  have htx := needS_bytes wd
  have hwz : WD.size ≤ 100 := by
    have h1 : (needS wd).length = 12 + wd.length + 20 := by unfold needS; simp; omega
    rw [← hWD]
    show wd.toArray.size ≤ 100
    simp
    omega
  rw [hWD] at kw htx
  obtain ⟨TX, hTX⟩ : ∃ TX : ByteArray, (⟨(needS wd).toArray⟩ : ByteArray) = TX := ⟨_, rfl⟩
  rw [hTX] at htx hpa
  have HPA := Lib.hid hpa; have HRN := Lib.hid hrn; have Q1 := Lib.hid q1; have Q2 := Lib.hid q2; have Q3 := Lib.hid q3; have Q4 := Lib.hid q4; have B1 := Lib.hid b1; have HN := Lib.hid hn; have HL := Lib.hid hl; have HZ := Lib.hid hz; have HWD := Lib.hid hWD
  have z1 : (0 : Int) ≤ (r : Int) := by omega
  have z2 : (r : Int) < 3 := by omega
  clear hpa hrn q1 q2 q3 q4 p1 p2 p3 p4 hgd b1 k1 hn hl hz hwd hWD hTX
  have HWT := Lib.hid hW1
  clear hW1
  go_enter Tryd.func5, Tryd.ntmps5
  go_upto_region 4 with fail
  rw [HWT.out]
  go_wp2_with fail
  obtain ⟨R, hR⟩ : ∃ R, W1.heap.size = R := ⟨_, rfl⟩
  have gst := LSt.start W1
  rw [hR] at gst ⊢
  have GST := Lib.hid gst; have HR := Lib.hid hR
  clear gst hR
  go_loopw [8, 9] (fun hs i W => ∃ (k : Nat) (lv : Value) (xs : List Value), k ≤ n ∧ i = .int .i64 k ∧ hs = .bool ((l.take k).any (fun x => decide (x = wd))) ∧ Hid (LSt R W1 W lv ((l.take k).map wordV) xs)) (fun _ i _ => n - (intOf i).toNat)
  case atStart => exact ⟨0, _, [], Nat.zero_le _, rfl, rfl, Lib.hid GST.out⟩
  case round =>
    obtain ⟨k, lv, xs, hkn, rfl, rfl, hgst⟩ := hrel
    obtain ⟨LA, lc, rfl⟩ := own_form hgst.out.rowL
    have hbw : Below w.heap.size w wr := B1.out.chain (by have := hgst.out.low; rwa [← HR.out] at this)
    have hsz := hgst.out.size
    have hkl : ((l.take k).map wordV).length = k := by
      rw [List.length_map, List.length_take]; have := HN.out; omega
    by_cases hlt : k < n
    · have hkr : decide ((k : Int) < n) = true := by simp; omega
      obtain ⟨g, o, rfl, hg, h0⟩ := HL.out.at k (by have := HN.out; omega)
      obtain ⟨x, hx⟩ : ∃ x, l[k]'(by have := HN.out; omega) = x := ⟨_, rfl⟩
      have hlk : l[k]? = some x := by rw [← hx]; exact List.getElem?_eq_getElem _
      rw [hx] at h0
      have hxz : x.length ≤ 9223372036854775807 := HZ.out x (by rw [← hx]; exact List.getElem_mem _)
      have htn : (l.take k).map wordV ++ [wordV x] = (l.take (k + 1)).map wordV := by
        rw [List.take_add_one, hlk, List.map_append]; rfl
      have han : (l.take (k + 1)).any (fun x => decide (x = wd)) = ((l.take k).any (fun x => decide (x = wd)) || decide (x = wd)) := by
        rw [List.take_add_one, hlk, List.any_append]; simp
      obtain ⟨X, hX⟩ : ∃ X : ByteArray, (⟨x.toArray⟩ : ByteArray) = X := ⟨_, rfl⟩
      have hXs : X.size = x.length := by rw [← hX]; show x.toArray.size = _; simp
      have hxw : (X.toList == WD.toList) = decide (x = wd) := by
        rw [← hX, ← HWD.out, ByteArray.toList_eq, ByteArray.toList_eq]
        show (x == wd) = _
        rw [Bool.eq_iff_iff]; simp
      unfold tv at h0
      rw [hX] at h0
      have h1 : wr.cell? ⟨g, o + k, none⟩ = some (.string X) := (hbw.cell (p := ⟨g, o + k, none⟩) hg).trans h0
      have hk0 : (0 : Int) ≤ k := by omega
      have hk1 : (k : Int) < n := by omega
      by_cases hs : 100 < X.size
      · have hd : decide ((100 : Int) < (X.size : Int)) = true := by simp; omega
        have BW := Lib.hid hbw
        clear hgst hbw hxw han htn hX hXs hkl hx hlk
        go_wp2_with (go_at_call 8; (with_reducible refine (HA.out _ BW.out).mono ?_); rintro e1 w1 ⟨rfl, hb1⟩; have HB1 := Lib.hid (BW.out.chain hb1); clear hb1; dsimp only)
        go_ret
        exact ⟨rfl, HB1.out⟩
      have hd : decide ((100 : Int) < (X.size : Int)) = false := by simp; omega
      obtain ⟨T, hT⟩ : ∃ T, (l.take k).map wordV = T := ⟨_, rfl⟩
      obtain ⟨ho, hho⟩ : ∃ b, (l.take k).any (fun x => decide (x = wd)) = b := ⟨_, rfl⟩
      obtain ⟨hx1, hhx⟩ : ∃ b, decide (x = wd) = b := ⟨_, rfl⟩
      rw [hho, hhx] at han
      rw [hhx] at hxw
      rw [hho]
      have gst := hgst.out
      rw [hT] at gst hkl htn
      have c3 : wr.cell? ⟨R, 3, none⟩ = some (.slice LA T.length lc) := cell_here gst.var
      rw [hkl] at c3 gst
      have G0 := Lib.hid gst
      have ST : ∀ W, Below wr.heap.size wr W → W.cell? ⟨R, 3, none⟩ = some (.slice LA k lc) := fun W hb => (hb.cell (p := ⟨R, 3, none⟩) (by show R < _; omega)).trans c3
      have hlx : ∀ W, Below w.heap.size w W → W.cell? ⟨g, o + k, none⟩ = some (.string X) := fun W hb => (hb.cell (p := ⟨g, o + k, none⟩) hg).trans h0
      have hvx : ∀ (W : World) (L N : Nat), VIs W L N (wordV x) [.int .i64 4, .int .i64 0, .string X, .slice none 0 0, .slice none 0 0] := fun W L N => by rw [← hX]; exact wordV_is W L N x hxz
      have STH := Lib.hid ST; have HTN := Lib.hid htn; have HKL := Lib.hid hkl; have HAN := Lib.hid han; have HLX := Lib.hid hlx; have HVX := Lib.hid hvx
      clear hgst gst ST htn hkl han hlx hvx hX hXs hx hlk hT hho hhx h0 hs
      go_wp2_with fail
      go_region_law (first
        | (refine step_append_opt rfl (.tmp 43) (.tmp 49) 22 rfl (R + 1) 25 i0 _ 5 80 Tryd.underlying22 hi hz0 hz1 hz2 rfl (by decide) _ _ xs rfl (G0.out.later (hb1'.alloc hb1'.size _)).rowL (some ⟨w1.heap.size, 0, none⟩) 1 1 [.int .i64 4, .int .i64 0, .string X, .slice none 0 0, .slice none 0 0] rfl rfl (.inr ⟨_, rfl, new_cells _ #[_, _, _, _, _] _⟩) (by intro u hu; simp at hu; first | (rcases hu with rfl | rfl | rfl | rfl <;> rfl) | (rcases hu with rfl | rfl | rfl | rfl | rfl <;> rfl)) ?_ ?_ ?_ ?_; (· rw [HKL.out]; unfold maxLen; omega); (· rw [HKL.out]; omega); (· have := hb1'.size; simp; omega); intro v5 w5 hown hgrow hat; obtain ⟨A5, c5, rfl⟩ := own_form hown; obtain ⟨⟨e0, e1, e2, e3, e4⟩, f0, f1, f2, f3, f4⟩ := box_of ((G0.out.later (hb1'.alloc hb1'.size (.cells #[.int .i64 4, .int .i64 0, .string X, .slice none 0 0, .slice none 0 0] 25))).varL hgrow))
        | (go_simp; go_at_call 15; (with_reducible refine (refWord14_any _ _).mono ?_); rintro e1 w1 ⟨rfl, hb1⟩; have hb1' := (below_drew2 _ _ hb1); have c3' := STH.out w1 hb1'; have c3'' := STH.out _ (hb1'.alloc hb1'.size (.cells #[.int .i64 4, .int .i64 0, .string X, .slice none 0 0, .slice none 0 0] 25)); dsimp only))
      all_goals
        have hl1 := G0.out.rowL.lt
        have g6 := (G0.out.later (hb1'.alloc hb1'.size (.cells #[.int .i64 4, .int .i64 0, .string X, .slice none 0 0, .slice none 0 0] 25))).item (wordV x) (HVX.out _ (R + 1) (R + 1)) (Nat.le_refl _) (by have := hb1'.size; simp; omega) (fun g hg hh => by omega) hown hgrow hat
        rw [HTN.out] at g6
        obtain ⟨w6, hw6⟩ : ∃ w6, w5.setCell ⟨R, 3, none⟩ (.slice A5 (T.length + 1) c5) = w6 := ⟨_, rfl⟩
        rw [hw6] at g6 ⊢
        have h16 := HLX.out w6 (B1.out.chain (by have := g6.low; rwa [← HR.out] at this))
        have G6 := Lib.hid g6
        clear g6 hown hgrow hat e0 e1 e2 e3 e4 f0 f1 f2 f3 f4 c3' c3'' hb1 hb1' hl1 hw6 c3 h1
        cases ho with
        | true =>
          go_wp2
          go_roundw
          case rel => exact ⟨k + 1, _, _, by omega, by go_num, by rw [HAN.out]; rfl, G6⟩
          case measure => simp [intOf]; omega
        | false =>
          go_wp2
          go_roundw
          case rel => exact ⟨k + 1, _, _, by omega, by go_num, by rw [HAN.out]; rfl, G6⟩
          case measure => simp [intOf]; omega
    · obtain rfl : k = n := by omega
      have hkr : decide ((k : Int) < k) = false := by simp
      have htk : l.take k = l := List.take_of_length_le (by have := HN.out; omega)
      have gst := hgst.out
      rw [htk] at gst ⊢
      have hml : (l.map wordV).length = k := by rw [List.length_map]; exact HN.out
      have hd := gst.done (by rw [hml]; omega)
      have gv := gst.var
      rw [hml] at hd gv
      obtain ⟨ho, hho⟩ : ∃ b, l.any (fun x => decide (x = wd)) = b := ⟨_, rfl⟩
      have hq1 := Q1.out; have hq2 := Q2.out; have hq3 := Q3.out; have hq4 := Q4.out
      rw [hho] at hq1 hq2 ⊢
      have hrn := HRN.out
      unfold CRunSays at hrn
      rw [hq1] at hrn
      obtain ⟨XV, hXV⟩ : ∃ XV, (runU (needRs wd) (groupsV l)).getD V.zero = XV := ⟨_, rfl⟩
      rw [hXV] at hrn hq2 hq3 hq4
      have hfd := fun W N cs (hv : VIs W 0 N XV cs) (hN : N ≤ W.heap.size) => refField_any XV kTeams W 0 N cs hv hN
      obtain ⟨sb, hsb⟩ : ∃ b, (fieldV kTeams XV).isSome = b := ⟨_, rfl⟩
      obtain ⟨TV, hTV⟩ : ∃ TV, (fieldV kTeams XV).getD V.zero = TV := ⟨_, rfl⟩
      rw [hsb, hTV] at hfd
      rw [hTV] at hq2 hq3 hq4
      have hgs : groupsV l = .mk 6 0 [] [V.mk 5 0 [] (l.map wordV) []] [kGroups] := rfl
      rw [hgs] at hrn
      have hput : ∀ W, Below wr.heap.size wr W → Calls Tryd.prog 16 #[.agg #[.int .i64 6, .int .i64 0, .string ⟨#[]⟩, .slice none 0 0, .slice none 0 0], .string ⟨#[103, 114, 111, 117, 112, 115]⟩, .agg #[.int .i64 5, .int .i64 0, .string ⟨#[]⟩, .slice LA k lc, .slice none 0 0]] W fun e w' => ∃ B b B' b', e = .returned (.agg #[.int .i64 6, .int .i64 0, .string ⟨#[]⟩, .slice B 1 b, .slice B' 1 b']) ∧
          VIs w' (R + 1) w'.heap.size (.mk 6 0 [] [V.mk 5 0 [] (l.map wordV) []] [kGroups]) [.int .i64 6, .int .i64 0, .string ⟨#[]⟩, .slice B 1 b, .slice B' 1 b'] ∧ Below W.heap.size W w' := fun W hW =>
        refPut_new 6 0 [] [] [] kGroups (.mk 5 0 [] (l.map wordV) []) W 0 0 (R + 1) wr.heap.size none none 0 0 _ _ _ _ _ (by simp) (by simp) (fun y hy => by cases hy) (by decide) (by simp) (Nat.zero_le _) hW.size (Nat.le_trans gst.size hW.size) (.inl ⟨rfl, rfl, rfl, rfl, rfl, rfl⟩) (fun i h => absurd h (Nat.not_lt_zero _)) (hd.below hW)
      obtain ⟨xk, xn, xt, xl, xks⟩ := XV
      obtain ⟨tk, tn, tt, tl, tks⟩ := TV
      dsimp only [V.keys, V.kind, V.list] at hq2 hq3 hq4
      obtain ⟨nx, hnx⟩ : ∃ z, xks.length = z := ⟨_, rfl⟩
      obtain ⟨nt, hnt⟩ : ∃ z, tl.length = z := ⟨_, rfl⟩
      rw [hnx] at hq2
      rw [hnt] at hq4
      obtain ⟨⟨e0, e1, e2, e3, e4⟩, -⟩ := box_of gv
      have BW := Lib.hid hbw; have RUN := Lib.hid hrn; have FD := Lib.hid hfd; have PUT := Lib.hid hput; have GV := Lib.hid gv; have HNX := Lib.hid hnx; have HNT := Lib.hid hnt; have P2 := Lib.hid hq2; have P3 := Lib.hid hq3
      clear hgst gst hd gv hbw hrn hfd hput hq1 hq2 hq3 hXV hTV hsb hgs hho htk hml hsz hkl hnx hnt
      go_wp2_with (first
        | (go_at_call 9; (with_reducible refine (HPA.out _ BW.out).mono ?_); rintro e1 w1 ⟨A1, c1, rfl, hrd, hb1⟩; have B2 := Lib.hid (BW.out.chain hb1); have D2 := Lib.hid hb1; have RD := Lib.hid hrd; clear e0 e1 e2 e3 e4; obtain ⟨⟨e0, e1, e2, e3, e4⟩, -⟩ := box_of (blk_below GV.out hb1); clear hb1 hrd; dsimp only)
        | (go_at_call 16; (with_reducible refine (PUT.out _ D2.out).mono ?_); rintro e2 w2 ⟨PB, pb, PB', pb', rfl, hpv, hb2⟩; have B3 := Lib.hid (B2.out.chain hb2); have RD3 := Lib.hid (RD.out.below hb2); have PV := Lib.hid (VIs.more (Nat.zero_le (R + 1)) (Nat.le_refl _) hpv); clear hb2 hpv e0 e1 e2 e3 e4; dsimp only)
        | (go_at_call 10; (with_reducible refine (RUN.out _ B3.out _ _ _ RD3.out PV.out).mono ?_); rintro e3 w3 ⟨⟨yk, yn, yt, XA, xa, xb, XA', xa', xb', rfl, hvx⟩, hb3⟩
           obtain ⟨rfl, rfl, rfl, rfl, rfl, -, -⟩ := mk_out14 hvx
           rw [HNX.out] at hvx ⊢
           have B4 := Lib.hid (B3.out.chain hb3); have VX := Lib.hid hvx
           clear hb3 hvx
           dsimp only))
      obtain ⟨W4, hW4⟩ : ∃ W4, w3.alloc (.cells #[.int .i64 yk, .int .i64 yn, .string ⟨xt.toArray⟩, .slice XA xl.length xb, .slice XA' nx xb'] 25) = W4 := ⟨_, rfl⟩
      rw [hW4]
      have b4 : Below w3.heap.size w3 W4 := by rw [← hW4]; exact (Below.refl _ _).alloc (Nat.le_refl _) _
      have k4 : W4.heap[w3.heap.size]? = some (.cells #[.int .i64 yk, .int .i64 yn, .string ⟨xt.toArray⟩, .slice XA xl.length xb, .slice XA' nx xb'] 25 (0, 0)) := by rw [← hW4]; exact heap_alloc_last w3 _
      refine (FD.out W4 w3.heap.size _ (VX.out.below b4) b4.size).mono ?_
      rintro e5 w5 ⟨⟨zk, zn, zt, TA, ta, tb, TA', ta', tb', rfl, hvt⟩, hb5⟩
      obtain ⟨rfl, rfl, rfl, rfl, rfl, -, htl⟩ := mk_out14 hvt
      rw [HNT.out] at hvt ⊢
      have k5 := blk_below k4 hb5
      obtain ⟨W6, hW6⟩ : ∃ W6, w5.alloc (.cells #[.int .i64 zk, .int .i64 zn, .string ⟨tt.toArray⟩, .slice TA nt tb, .slice TA' tks.length tb'] 25) = W6 := ⟨_, rfl⟩
      have b6 : Below w5.heap.size w5 W6 := by rw [← hW6]; exact (Below.refl _ _).alloc (Nat.le_refl _) _
      have k6 : W6.heap[w5.heap.size]? = some (.cells #[.int .i64 zk, .int .i64 zn, .string ⟨tt.toArray⟩, .slice TA nt tb, .slice TA' tks.length tb'] 25 (0, 0)) := by rw [← hW6]; exact heap_alloc_last w5 _
      have k7 := blk_below k5 b6
      have hz5 : w3.heap.size ≤ w5.heap.size := Nat.le_trans b4.size hb5.size
      have X4 : W6.cell? ⟨w3.heap.size, 4, none⟩ = some (.slice XA' nx xb') := cell_here k7
      have E3 : W6.cell? ⟨w5.heap.size, 3, none⟩ = some (.slice TA nt tb) := cell_here k6
      have E0 : W6.cell? ⟨w5.heap.size, 0, none⟩ = some (.int .i64 zk) := cell_here k6
      have hit : ∀ j (hj : j < tl.length), ∃ q r, TA = some ⟨q, r, none⟩ ∧ W6.cell? ⟨q, r + j * 5 + 2, none⟩ = some (.string ⟨tl[j].text.toArray⟩) := fun j hj => by
        rcases htl with h | ⟨q, r, hTA, hL⟩
        · rw [h] at hj; exact absurd hj (Nat.not_lt_zero _)
        · obtain ⟨h1, h2⟩ := item_text hL j hj
          exact ⟨q, r, hTA, (b6.cell (p := ⟨q, r + j * 5 + 2, none⟩) (by show q < _; omega)).trans h2⟩
      have hans := fun W (hW : Below W6.heap.size W6 W) => HA.out W ((((B4.out.chain b4).chain hb5).chain b6).chain hW)
      have HX4 := Lib.hid k7; have HK6 := Lib.hid k6; have HIT := Lib.hid hit; have HANS := Lib.hid hans; have BW6 := Lib.hid (((B4.out.chain b4).chain hb5).chain b6)
      clear hW4 b4 k4 hvt hb5 htl k5 b6 k6 k7 hz5 hit hans
      dsimp only
      go_wp2_with fail
      try rw [hW6]
      clear hW6
      go_loop [17] (fun i => ∃ j : Nat, j ≤ nt ∧ i = .int .i64 j) (fun i => nt - (intOf i).toNat)
      case atStart => exact ⟨0, Nat.zero_le _, rfl⟩
      case round =>
        obtain ⟨j, hj, rfl⟩ := hrel
        by_cases hlj : j < nt
        · have hjr : decide ((j : Int) < nt) = true := by simp; omega
          have hjt : j < tl.length := by have := HNT.out; omega
          obtain ⟨q, r', rfl, h2⟩ := HIT.out j hjt
          obtain ⟨rest, hrest⟩ := P3.out _ (List.getElem_mem hjt)
          rw [hrest] at h2
          have z5 : (0 : Int) ≤ j := by omega
          have z6 : (j : Int) < nt := by omega
          clear hrest
          go_wp2
          · exfalso
            rename_i h _
            rcases h with h | h
            · omega
            · exact absurd (show ((((115 : UInt8).toNat : Nat) : Int) != 115) = true from h) (by decide)
          · exact ⟨⟨j + 1, by omega, by go_num⟩, by simp [intOf]; omega⟩
        · obtain rfl : j = nt := by omega
          have hjr : decide ((j : Int) < j) = false := by simp
          have X40 := X4
          cases ho with
          | false =>
            go_wp2_with (go_at_call 8; (with_reducible refine (HANS.out _ (Below.refl _ _)).mono ?_); rintro e7 w7 ⟨rfl, hb7⟩; have HB7 := Lib.hid (BW6.out.chain hb7); clear hb7; dsimp only)
            go_ret
            exact ⟨rfl, HB7.out⟩
          | true =>
            obtain ⟨rfl, rfl⟩ := P2.out rfl
            go_wp2_with (go_at_call 8; (with_reducible refine (HANS.out _ (Below.refl _ _)).mono ?_); rintro e7 w7 ⟨rfl, hb7⟩; have HB7 := Lib.hid (BW6.out.chain hb7); have k9 := blk_below HX4.out hb7; have k8 := blk_below HK6.out hb7; clear X4 X40 E3 E0; have X4 : w7.cell? ⟨w3.heap.size, 4, none⟩ = some (.slice XA' 1 xb') := cell_here k9; have E0 : w7.cell? ⟨w5.heap.size, 0, none⟩ = some (.int .i64 5) := cell_here k8; clear hb7 k8 k9; dsimp only)
            go_ret
            exact ⟨rfl, HB7.out⟩
end Go.Proofs.YtobicmpgfiddhaaDoor
