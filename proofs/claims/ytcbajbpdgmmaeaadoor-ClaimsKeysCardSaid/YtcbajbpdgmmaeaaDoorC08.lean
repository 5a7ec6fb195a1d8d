/- Texts merged by program, in build order: JsonEsc, JsonQuoted, JsonGroup, Leaf, Cut, Split, Prs, Get, Seen. -/
import Derived.Test.YtcbajbpdgmmaeaaDoorC04
import Derived.Test.YtcbajbpdgmmaeaaDoorC03
import Derived.Deep.RegionWith
import Derived.Deep.QuietTactic
import Derived.WalkMore
import Derived.Test.YtcbajbpdgmmaeaaDoorC07
import Derived.Test.YtcbajbpdgmmaeaaDoorC01
import Derived.Maps.OwnSet
namespace Go.Proofs.YtcbajbpdgmmaeaaDoor
open Go.RowKit

theorem hasPrefix_begins (s t : List UInt8) : Lib.hasPrefix s t = beginsB s t := by
  unfold Lib.hasPrefix beginsB
  induction t generalizing s with
  | nil => simp
  | cons c t ih =>
    cases s with
    | nil => simp
    | cons d s =>
      have := ih s
      simp only [List.isPrefixOf, List.length_cons, List.take_succ_cons]
      rw [this]
      rw [Bool.eq_iff_iff]
      simp
      intro _; exact eq_comm
theorem trimPrefix_yes {s t : List UInt8} (h : beginsB s t = true) : Lib.trimPrefix s t = s.drop t.length := by
  unfold Lib.trimPrefix; rw [hasPrefix_begins, h]; rfl
theorem trimPrefix_no {s t : List UInt8} (h : beginsB s t = false) : Lib.trimPrefix s t = s := by
  unfold Lib.trimPrefix; rw [hasPrefix_begins, h]; rfl
/-- what a \ and what is behind it stand for, and how many bytes tell it; 0: nothing -/
def escR : List UInt8 → UInt8 × Nat
  | e :: r' =>
    if e = 34 ∨ e = 92 then (e, 2)
    else match r' with
      | x :: y :: h :: l :: _ => if e = 117 ∧ x = 48 ∧ y = 48 ∧ (h = 48 ∨ h = 49) ∧ 0 ≤ hexC l then (UInt8.ofNat (16 * (h.toNat - 48) + (hexC l).toNat), 6) else (0, 0)
      | _ => (0, 0)
  | [] => (0, 0)
theorem quotC_esc (r acc : List UInt8) : quotC (92 :: r) acc = if (escR r).2 = 0 then none else quotC (r.drop ((escR r).2 - 1)) (acc ++ [(escR r).1]) := by
  conv => lhs; unfold quotC
  rw [if_neg (by decide), if_pos rfl]
  cases r with
  | nil => rfl
  | cons e r =>
    unfold escR
    simp only
    by_cases he : e = 34 ∨ e = 92
    · rw [if_pos he, if_pos he]; rfl
    · rw [if_neg he, if_neg he]
      rcases r with _ | ⟨x, _ | ⟨y, _ | ⟨h, _ | ⟨l, r⟩⟩⟩⟩
      · rfl
      · rfl
      · rfl
      · rfl
      · simp only
        by_cases hc : e = 117 ∧ x = 48 ∧ y = 48 ∧ (h = 48 ∨ h = 49) ∧ 0 ≤ hexC l
        · rw [if_pos hc, if_pos hc]; rfl
        · rw [if_neg hc, if_neg hc]; rfl
theorem escR_len (r : List UInt8) : (escR r).2 ≤ 6 ∧ (escR r).2 ≤ r.length + 1 := by
  cases r with
  | nil => simp [escR]
  | cons e r =>
    unfold escR
    by_cases he : e = 34 ∨ e = 92
    · simp only [if_pos he, List.length_cons]; omega
    · simp only [if_neg he]
      rcases r with _ | ⟨x, _ | ⟨y, _ | ⟨h, _ | ⟨l, r⟩⟩⟩⟩
      · simp
      · simp
      · simp
      · simp
      · simp only
        split
        · simp
        · simp
theorem idx01 (h : UInt8) : Lib.indexByte [48, 49] h = if h = 48 then 0 else if h = 49 then 1 else -1 := by
  have : ∀ n : Fin 256, Lib.indexByte [48, 49] (UInt8.ofNat n.val) = if UInt8.ofNat n.val = 48 then 0 else if UInt8.ofNat n.val = 49 then 1 else -1 := by decide +kernel
  have h' := this ⟨h.toNat, h.toNat_lt⟩
  simp only [UInt8.ofNat_toNat] at h'
  exact h'
theorem idx16 (l : UInt8) : Lib.indexByte [48, 49, 50, 51, 52, 53, 54, 55, 56, 57, 97, 98, 99, 100, 101, 102] l = hexC l := by
  have : ∀ n : Fin 256, Lib.indexByte [48, 49, 50, 51, 52, 53, 54, 55, 56, 57, 97, 98, 99, 100, 101, 102] (UInt8.ofNat n.val) = hexC (UInt8.ofNat n.val) := by decide +kernel
  have h' := this ⟨l.toNat, l.toNat_lt⟩
  simp only [UInt8.ofNat_toNat] at h'
  exact h'
theorem or0 (m : Nat) (h : m < 16) : bits .or .i64 0 (m : Int) = m := by
  have : ∀ n : Fin 16, bits .or .i64 0 (n.val : Int) = n.val := by decide +kernel
  exact this ⟨m, h⟩
theorem or16 (m : Nat) (h : m < 16) : bits .or .i64 16 (m : Int) = 16 + m := by
  have : ∀ n : Fin 16, bits .or .i64 16 (n.val : Int) = 16 + n.val := by decide +kernel
  exact this ⟨m, h⟩
theorem Tryd.slice01 (w : World) : (Instr.slice 9 (.string ⟨#[48, 49, 50, 51, 52, 53, 54, 55, 56, 57, 97, 98, 99, 100, 101, 102]⟩) none (some (.int .i64 2)) none).run Tryd.prog w = .ok (.string ⟨#[48, 49]⟩) w := by kernel_rfl
set_option maxRecDepth 100000 in
set_option maxHeartbeats 2000000 in
theorem escaped_any (s : ByteArray) (r : List UInt8) (hs : s.data.toList = 92 :: r) (hsz : s.size ≤ 1000000) (w : World) :
    Calls Tryd.prog 53 #[.string s] w fun e w' => e = .returned (.tuple #[.int .u8 (escR r).1.toNat, .int .i64 (escR r).2]) ∧ ∃ q, w' = w.drewN q := by
  have hsl : s.data.toList.length = s.size := rfl
  have hlen : s.size = r.length + 1 := by rw [← hsl, hs]; rfl
  have hcp := fun w => Tryd.strings_CutPrefix s ⟨#[92, 117, 48, 48]⟩ w
  obtain ⟨ER, hER⟩ : ∃ ER, escR r = ER := ⟨_, rfl⟩
  rw [hER]
  cases r with
  | nil =>
    have e0 : ER = (0, 0) := hER.symm.trans rfl
    have hb : beginsB (92 :: []) [92, 117, 48, 48] = false := rfl
    rw [hs] at hcp
    rw [trimPrefix_no hb, hasPrefix_begins, hb] at hcp
    have t1 : s.size = 1 := hlen
    subst e0
    have HCP := Lib.hid hcp; clear hcp hs hsl hlen hER
    go_enter Tryd.func53, Tryd.ntmps53
    go_wp2_with (go_at_call 54; refine (HCP.out _).mono ?_; rintro e1 w1 ⟨rfl, rfl⟩)
    go_ret2
    exact ⟨rfl, 0, rfl⟩
  | cons e r =>
    have h1 : 1 < s.size := by rw [hlen]; simp
    have g1 : s[1] = e := by
      have : s.data.toList[1]'(by rw [hs]; simp) = e := by simp only [hs]; rfl
      exact this
    have t1 : decide ((2 : Int) ≤ (s.size : Int)) = true := by simp; omega
    by_cases he : e = 34 ∨ e = 92
    · have e0 : ER = (e, 2) := hER.symm.trans (by unfold escR; dsimp only; rw [if_pos he])
      subst e0
      by_cases h34 : e = 34
      · have t2 : ((s[1].toNat : Int) == 34) = true := by rw [g1, h34]; rfl
        have G1 := Lib.hid g1; have E34 := Lib.hid h34
        clear hs hsl hlen hER hcp g1 he h34
        go_enter Tryd.func53, Tryd.ntmps53
        go_wp2
        go_ret2
        exact ⟨by rw [G1.out]; rfl, 0, rfl⟩
      · have h92 : e = 92 := by rcases he with h | h; exact absurd h h34; exact h
        have t2 : ((s[1].toNat : Int) == 34) = false := by rw [g1, h92]; rfl
        have t3 : ((s[1].toNat : Int) == 92) = true := by rw [g1, h92]; rfl
        have G1 := Lib.hid g1; have E92 := Lib.hid h92
        clear hs hsl hlen hER hcp g1 he h34 h92
        go_enter Tryd.func53, Tryd.ntmps53
        go_wp2
        go_ret2
        exact ⟨by rw [G1.out]; rfl, 0, rfl⟩
    · have n34 : e.toNat ≠ 34 := fun h => he (.inl (UInt8.toNat_inj.1 h))
      have n92 : e.toNat ≠ 92 := fun h => he (.inr (UInt8.toNat_inj.1 h))
      have t2 : ((s[1].toNat : Int) == 34) = false := by rw [g1]; simp; omega
      have t3 : ((s[1].toNat : Int) == 92) = false := by rw [g1]; simp; omega
      rw [hs] at hcp
      by_cases hb : beginsB (92 :: e :: r) [92, 117, 48, 48] = true
      · rw [trimPrefix_yes hb, hasPrefix_begins, hb] at hcp
        obtain ⟨rfl, r, rfl⟩ : e = 117 ∧ ∃ r', r = 48 :: 48 :: r' := by
          have := begins_full hb
          simp only [List.cons_append, List.nil_append, List.cons.injEq, true_and] at this
          exact ⟨this.1, _, this.2⟩
        have hcp2 : ∀ w : World, Calls Tryd.prog 54 #[.string s, .string ⟨#[92, 117, 48, 48]⟩] w fun e w' => e = .returned (.tuple #[.string ⟨r.toArray⟩, .bool true]) ∧ w' = w := hcp
        clear hcp
        have hr5 : s.size = r.length + 4 := by rw [hlen]; simp
        have hts : (⟨r.toArray⟩ : ByteArray).size = r.length := by show r.toArray.size = _; simp
        have htl : (⟨r.toArray⟩ : ByteArray).data.toList = r := by simp
        obtain ⟨two, htwo⟩ : ∃ two : ByteArray, two = ⟨r.toArray⟩ := ⟨_, rfl⟩
        rw [← htwo] at hcp2 hts htl
        by_cases hl2 : r.length < 2
        · have e0 : ER = (0, 0) := hER.symm.trans (by
            unfold escR
            dsimp only
            rw [if_neg (by decide)]
            rcases r with _ | ⟨x, _ | ⟨y, r⟩⟩
            · rfl
            · rfl
            · simp at hl2; omega)
          subst e0
          have t5 : decide ((two.size : Int) < 2) = true := by simp; omega
          have HCP := Lib.hid hcp2; clear hcp2 hs hsl hlen hER g1 he hb n34 n92 htwo htl
          go_enter Tryd.func53, Tryd.ntmps53
          go_wp2_with (go_at_call 54; refine (HCP.out _).mono ?_; rintro e1 w1 ⟨rfl, rfl⟩)
          go_ret2
          exact ⟨rfl, 0, rfl⟩
        · obtain ⟨h, l, r, rfl⟩ : ∃ h l r', r = h :: l :: r' := by
            rcases r with _ | ⟨x, _ | ⟨y, r⟩⟩
            · simp at hl2
            · simp at hl2
            · exact ⟨x, y, r, rfl⟩
          have t5 : decide ((two.size : Int) < 2) = false := by simp; omega
          have k0 : 0 < two.size := by omega
          have k1 : 1 < two.size := by omega
          have y0 : two[0] = h := by
            have : two.data.toList[0]'(by rw [htl]; simp) = h := by simp only [htl]; rfl
            exact this
          have y1 : two[1] = l := by
            have : two.data.toList[1]'(by rw [htl]; simp) = l := by simp only [htl]; rfl
            exact this
          have i0 := fun w => Tryd.strings_IndexByte ⟨#[48, 49]⟩ (two[0].toNat : Int) w
          have i1 := fun w => Tryd.strings_IndexByte ⟨#[48, 49, 50, 51, 52, 53, 54, 55, 56, 57, 97, 98, 99, 100, 101, 102]⟩ (two[1].toNat : Int) w
          have I0 : ∀ w, Calls Tryd.prog 60 #[.string ⟨#[48, 49]⟩, .int .u8 (two[0].toNat : Int)] w fun e w' => e = .returned (.int .i64 (if h = 48 then 0 else if h = 49 then 1 else -1)) ∧ w' = w := fun w => (i0 w).mono fun e w' ⟨h1, h2⟩ => ⟨by
            rw [h1, y0]
            have : ((h.toNat : Int)).toNat.toUInt8 = h := by simp
            rw [this]; exact congrArg (fun x => Ending.returned (.int .i64 x)) (idx01 h), h2⟩
          have I1 : ∀ w, Calls Tryd.prog 60 #[.string ⟨#[48, 49, 50, 51, 52, 53, 54, 55, 56, 57, 97, 98, 99, 100, 101, 102]⟩, .int .u8 (two[1].toNat : Int)] w fun e w' => e = .returned (.int .i64 (hexC l)) ∧ w' = w := fun w => (i1 w).mono fun e w' ⟨h1, h2⟩ => ⟨by
            rw [h1, y1]
            have : ((l.toNat : Int)).toNat.toUInt8 = l := by simp
            rw [this]; exact congrArg (fun x => Ending.returned (.int .i64 x)) (idx16 l), h2⟩
          clear i0 i1
          have hER2 : ER = if (h = 48 ∨ h = 49) ∧ 0 ≤ hexC l then (UInt8.ofNat (16 * (h.toNat - 48) + (hexC l).toNat), 6) else (0, 0) := hER.symm.trans (by
            unfold escR
            dsimp only
            rw [if_neg (by decide)]
            simp only [true_and])
          have HER := Lib.hid hER2
          obtain ⟨p, hp⟩ : ∃ p : Int, (if h = 48 then 0 else if h = 49 then 1 else -1) = p := ⟨_, rfl⟩
          obtain ⟨q, hq⟩ : ∃ q : Int, hexC l = q := ⟨_, rfl⟩
          rw [hp] at I0; rw [hq] at I1
          have HP := Lib.hid hp; have HQ := Lib.hid hq; have HI0 := Lib.hid I0; have HI1 := Lib.hid I1; have HCP := Lib.hid hcp2
          have h46 : s.size = two.size + 4 := by rw [hr5, hts]
          have hw6 : (s.size : Int) - two.size + 2 = 6 := by omega
          have hw4 : (s.size : Int) - two.size = 4 := by omega
          clear hr5 hts h46 hl2
          clear hcp2 hs hsl hlen hER g1 he hb n34 n92 htwo htl hER2 hp hq I0 I1 y0 y1
          have hsl01 := Tryd.slice01
          have hx0 : ∀ W, (Instr.index 9 (.string two) (.int .i64 0)).run Tryd.prog W = .ok (.int .u8 (two[0].toNat : Int)) W := fun W => by
            have := run_index_string (P := Tryd.prog) (w := W) 9 two .i64 0 Tryd.underlying9
            rw [this, dif_pos ⟨by decide, by omega⟩]; rfl
          have hx1 : ∀ W, (Instr.index 9 (.string two) (.int .i64 1)).run Tryd.prog W = .ok (.int .u8 (two[1].toNat : Int)) W := fun W => by
            have := run_index_string (P := Tryd.prog) (w := W) 9 two .i64 1 Tryd.underlying9
            rw [this, dif_pos ⟨by decide, by omega⟩]; rfl
          by_cases h01 : h = 48 ∨ h = 49
          · by_cases hq0 : 0 ≤ hexC l
            · have hq16 := (hexC_is l hq0).2
              have e0 : ER = (UInt8.ofNat (16 * (h.toNat - 48) + (hexC l).toNat), 6) := HER.out.trans (if_pos ⟨h01, hq0⟩)
              rw [HQ.out] at e0 hq0 hq16
              obtain ⟨m, rfl⟩ : ∃ m : Nat, q = m := ⟨q.toNat, by omega⟩
              have hm : m < 16 := by omega
              have q0 : decide ((m : Int) < 0) = false := by simp
              have ho0 : bits .or .i64 0 (m : Int) = m := or0 m hm
              have ho1 : bits .or .i64 16 (m : Int) = 16 + m := or16 m hm
              have hcv0 : IntKind.u8.wrap (m : Int) = m := by rw [IntKind.wrap_u8]; omega
              have hcv1 : IntKind.u8.wrap (16 + m : Int) = 16 + m := by rw [IntKind.wrap_u8]; omega
              rcases h01 with rfl | rfl
              · obtain rfl : p = 0 := HP.out.symm.trans rfl
                subst e0
                have hb : ((UInt8.ofNat (16 * ((48 : UInt8).toNat - 48) + (m : Int).toNat)).toNat : Int) = m := by
                  rw [UInt8.toNat_ofNat']; have : (48 : UInt8).toNat = 48 := rfl; omega
                have HB := Lib.hid hb; clear hb
                go_enter Tryd.func53, Tryd.ntmps53
                go_wp2_with (go_at_call 54; refine (HCP.out _).mono ?_; rintro e1 w1 ⟨rfl, rfl⟩)
                go_quiet (first | (go_at_call 60; exact Calls.quiet_of_same (HI0.out _)) | (go_at_call 60; exact Calls.quiet_of_same (HI1.out _)))
                go_wp2
                go_ret2
                exact ⟨congrArg (fun x => Ending.returned (.tuple #[.int .u8 x, .int .i64 6])) HB.out.symm, _, rfl⟩
              · obtain rfl : p = 1 := HP.out.symm.trans rfl
                subst e0
                have hb : ((UInt8.ofNat (16 * ((49 : UInt8).toNat - 48) + (m : Int).toNat)).toNat : Int) = 16 + m := by
                  rw [UInt8.toNat_ofNat']; have : (49 : UInt8).toNat = 49 := rfl; omega
                have HB := Lib.hid hb; clear hb
                go_enter Tryd.func53, Tryd.ntmps53
                go_wp2_with (go_at_call 54; refine (HCP.out _).mono ?_; rintro e1 w1 ⟨rfl, rfl⟩)
                go_quiet (first | (go_at_call 60; exact Calls.quiet_of_same (HI0.out _)) | (go_at_call 60; exact Calls.quiet_of_same (HI1.out _)))
                go_wp2
                go_ret2
                exact ⟨congrArg (fun x => Ending.returned (.tuple #[.int .u8 x, .int .i64 6])) HB.out.symm, _, rfl⟩
            · have e0 : ER = (0, 0) := HER.out.trans (if_neg (fun h => hq0 h.2))
              have q0 : decide (q < 0) = true := by rw [HQ.out] at hq0; simp; omega
              subst e0
              rcases h01 with rfl | rfl
              · obtain rfl : p = 0 := HP.out.symm.trans rfl
                go_enter Tryd.func53, Tryd.ntmps53
                go_wp2_with (go_at_call 54; refine (HCP.out _).mono ?_; rintro e1 w1 ⟨rfl, rfl⟩)
                go_quiet (first | (go_at_call 60; exact Calls.quiet_of_same (HI0.out _)) | (go_at_call 60; exact Calls.quiet_of_same (HI1.out _)))
                go_wp2
                go_ret2
                exact ⟨rfl, _, rfl⟩
              · obtain rfl : p = 1 := HP.out.symm.trans rfl
                go_enter Tryd.func53, Tryd.ntmps53
                go_wp2_with (go_at_call 54; refine (HCP.out _).mono ?_; rintro e1 w1 ⟨rfl, rfl⟩)
                go_quiet (first | (go_at_call 60; exact Calls.quiet_of_same (HI0.out _)) | (go_at_call 60; exact Calls.quiet_of_same (HI1.out _)))
                go_wp2
                go_ret2
                exact ⟨rfl, _, rfl⟩
          · have e0 : ER = (0, 0) := HER.out.trans (if_neg (fun h => h01 h.1))
            obtain rfl : p = -1 := HP.out.symm.trans (by rw [if_neg (fun h => h01 (.inl h)), if_neg (fun h => h01 (.inr h))])
            subst e0
            go_enter Tryd.func53, Tryd.ntmps53
            go_wp2_with (go_at_call 54; refine (HCP.out _).mono ?_; rintro e1 w1 ⟨rfl, rfl⟩)
            go_quiet (first | (go_at_call 60; exact Calls.quiet_of_same (HI0.out _)) | (go_at_call 60; exact Calls.quiet_of_same (HI1.out _)))
            go_wp2
            go_ret2
            exact ⟨rfl, _, rfl⟩
      · have hb' : beginsB (92 :: e :: r) [92, 117, 48, 48] = false := by simpa using hb
        rw [trimPrefix_no hb', hasPrefix_begins, hb'] at hcp
        have e0 : ER = (0, 0) := hER.symm.trans (by
          unfold escR
          dsimp only
          rw [if_neg he]
          rcases r with _ | ⟨x, _ | ⟨y, _ | ⟨h, _ | ⟨l, r⟩⟩⟩⟩
          · rfl
          · rfl
          · rfl
          · rfl
          · refine if_neg ?_
            rintro ⟨rfl, rfl, rfl, _⟩
            exact hb (by simp [beginsB]))
        subst e0
        have HCP := Lib.hid hcp; clear hcp hs hsl hlen hER g1 he hb hb' n34 n92
        go_enter Tryd.func53, Tryd.ntmps53
        go_wp2_with (go_at_call 54; refine (HCP.out _).mono ?_; rintro e1 w1 ⟨rfl, rfl⟩)
        go_ret2
        exact ⟨rfl, 0, rfl⟩
end Go.Proofs.YtcbajbpdgmmaeaaDoor
namespace Go.Proofs.YtcbajbpdgmmaeaaDoor
open Go.RowKit

theorem extS (s : ByteArray) (k : Nat) : s.extract k s.size = ⟨(s.data.toList.drop k).toArray⟩ := by
  apply ByteArray.ext
  rw [ByteArray.data_extract]
  apply Array.ext'
  rw [Array.toList_extract, List.extract]
  show (s.data.toList.drop k).take (s.size - k) = _
  rw [List.take_of_length_le]
  rw [List.length_drop]
  exact Nat.le_refl _
theorem toListS (t : List UInt8) : (⟨t.toArray⟩ : ByteArray).data.toList = t := by simp
/-- what quoted answers -/
def quotedR (s : List UInt8) : List UInt8 × List UInt8 × Bool := match quotedC s with
  | some (t, r) => (t, r, true)
  | none => ([], [], false)
theorem quotC_end (acc : List UInt8) : quotC [] acc = none := by unfold quotC; rfl
theorem quotC_stop (r acc : List UInt8) : quotC (34 :: r) acc = some (acc, r) := by unfold quotC; rw [if_pos rfl]
theorem quotC_low (c : UInt8) (r acc : List UInt8) (h34 : c ≠ 34) (h92 : c ≠ 92) (h : c.toNat < 32) : quotC (c :: r) acc = none := by unfold quotC; rw [if_neg h34, if_neg h92, if_pos h]
theorem quotC_plain (c : UInt8) (r acc : List UInt8) (h34 : c ≠ 34) (h92 : c ≠ 92) (h : ¬ c.toNat < 32) : quotC (c :: r) acc = quotC r (acc ++ [c]) := by
  conv => lhs; unfold quotC
  rw [if_neg h34, if_neg h92, if_neg h]
set_option maxRecDepth 100000 in
set_option maxHeartbeats 2000000 in
theorem quoted_any (s : ByteArray) (hs : s.size ≤ 1000000) (w : World) :
    Calls Tryd.prog 41 #[.string s] w fun e w' => e = .returned (.tuple #[.string ⟨(quotedR s.data.toList).1.toArray⟩, .string ⟨(quotedR s.data.toList).2.1.toArray⟩, .bool (quotedR s.data.toList).2.2]) ∧ Below w.heap.size w w' := by
  obtain ⟨i0, hi, hz0, hz1, hz2⟩ := info_parts Tryd.infoByte
  have hhp := fun w => Tryd.strings_HasPrefix s ⟨#[34]⟩ w
  simp only [hasPrefix_begins] at hhp
  have hsl : s.data.toList.length = s.size := rfl
  obtain ⟨QR, hQR⟩ : ∃ QR, quotedR s.data.toList = QR := ⟨_, rfl⟩
  rw [hQR]
  cases hb : beginsB s.data.toList [34] with
  | false =>
    have e : QR = ([], [], false) := hQR.symm.trans (by unfold quotedR quotedC; rw [hb]; rfl)
    subst e
    rw [show beginsB s.data.toList (⟨#[34]⟩ : ByteArray).data.toList = false from hb] at hhp
    have HP := Lib.hid hhp; clear hhp hQR hb
    go_enter Tryd.func41, Tryd.ntmps41
    go_wp2_with fail
    go_step3
    go_wp2_with (go_at_call 40; refine (HP.out _).mono ?_; rintro e1 w1 ⟨rfl, rfl⟩)
    rw [Exit.noGoto_ret]
    refine bodyPost_ret (v := .tuple #[.string ⟨#[]⟩, .string ⟨#[]⟩, .bool false]) (by simp [results, Tryd.results41, go_sem]) rfl ?_
    exact ⟨rfl, Below.refl _ _⟩
  | true =>
    rw [show beginsB s.data.toList (⟨#[34]⟩ : ByteArray).data.toList = true from hb] at hhp
    have h1 : 1 ≤ s.size := by
      have := congrArg List.length (begins_one hb)
      rw [hsl] at this; simp at this; omega
    have hq : QR = match quotC (s.data.toList.drop 1) [] with | some (t, r) => (t, r, true) | none => ([], [], false) := hQR.symm.trans (by unfold quotedR quotedC; rw [hb]; rfl)
    have HP := Lib.hid hhp; have HQ := Lib.hid hq
    clear hhp hQR hb hq
    go_enter Tryd.func41, Tryd.ntmps41
    go_wp2_with fail
    go_step3
    go_wp2_with (go_at_call 40; refine (HP.out _).mono ?_; rintro e1 w1 ⟨rfl, rfl⟩)
    go_step3
    go_wp2_with fail
    go_loopw [5, 6] (fun v i wr => ∃ (k : Nat) (acc : List UInt8), 1 ≤ k ∧ k ≤ s.size ∧ i = .int .i64 k ∧ acc.length ≤ k ∧ Buf wr w1.heap.size v acc ∧ quotC (s.data.toList.drop k) acc = quotC (s.data.toList.drop 1) [] ∧ Below w1.heap.size w1 wr) (fun _ i _ => s.size - (intOf i).toNat)
    case atStart => exact ⟨1, [], Nat.le_refl _, h1, rfl, by simp, ⟨rfl, Or.inl ⟨rfl, rfl⟩⟩, rfl, Below.refl _ _⟩
    case round =>
      obtain ⟨k, acc, hk1, hk, rfl, hal, hown, hw, hb⟩ := hrel
      have hbs := hb.size
      by_cases hlt : k < s.size
      · have hdk : s.data.toList.drop k = s[k] :: s.data.toList.drop (k + 1) := List.drop_eq_getElem_cons (by rw [hsl]; exact hlt)
        rw [hdk] at hw
        have hu := s[k].toNat_lt
        by_cases h34 : s[k] = 34
        · rw [h34, quotC_stop] at hw
          have t1 : ((s[k].toNat : Int) == 34) = true := by rw [h34]; rfl
          have hcv := hown.text
          have hcv2 := (hown.below ((Below.refl wr.heap.size wr).drew)).text
          have hxs : s.extract (k + 1) s.size = ⟨(s.data.toList.drop (k + 1)).toArray⟩ := extS s (k + 1)
          have HXS := Lib.hid hxs; clear hxs
          have hke : ((k : Int) == (s.size : Int)) = false := by simp; omega
          have e : QR = (acc, s.data.toList.drop (k + 1), true) := by rw [HQ.out, ← hw]
          subst e
          have H34 := Lib.hid h34; clear hw h34 hdk
          go_wp2
          go_region
          all_goals
            go_wp2
            rw [Exit.noGoto_ret]
            refine bodyPost_ret (v := .tuple #[.string ⟨acc.toArray⟩, .string (s.extract (k + 1) s.size), .bool true]) (by simp [results, Tryd.results41, go_sem]) rfl ?_
            exact ⟨by rw [HXS.out], hb.drew⟩
        · have h34n : s[k].toNat ≠ 34 := fun e => h34 (UInt8.toNat_inj.1 e)
          have t1 : ((s[k].toNat : Int) == 34) = false := by simp; omega
          by_cases h92 : s[k] = 92
          · have t2 : ((s[k].toNat : Int) == 92) = true := by rw [h92]; rfl
            rw [h92, quotC_esc] at hw
            have hel := escR_len (s.data.toList.drop (k + 1))
            rw [List.length_drop, hsl] at hel
            have hxs : (s.extract k s.size).data.toList = 92 :: s.data.toList.drop (k + 1) := by rw [extS, toListS, hdk, h92]
            have hes := fun w => escaped_any (s.extract k s.size) (s.data.toList.drop (k + 1)) hxs (by rw [ext_size]; omega) w
            obtain ⟨ER, hER⟩ : ∃ ER, escR (s.data.toList.drop (k + 1)) = ER := ⟨_, rfl⟩
            rw [hER] at hw hel hes
            obtain ⟨c, n⟩ := ER
            dsimp only at hw hel hes
            have HES := Lib.hid hes; have H92 := Lib.hid h92; have H34 := Lib.hid h34; have HL := Lib.hid hel; clear hes h92 h34 h34n hdk hER hxs
            by_cases hn : n = 0
            · subst hn
              rw [if_pos rfl] at hw
              have e : QR = ([], [], false) := by rw [HQ.out, ← hw]
              subst e
              clear hw hel
              go_wp2_with (go_at_call 53; refine (HES.out _).mono ?_; rintro e2 w2 ⟨rfl, q, rfl⟩)
              rw [Exit.noGoto_ret]
              refine bodyPost_ret (v := .tuple #[.string ⟨#[]⟩, .string ⟨#[]⟩, .bool false]) (by simp [results, Tryd.results41, go_sem]) rfl ?_
              exact ⟨rfl, belowDrewN hb q⟩
            · rw [if_neg hn, List.drop_drop] at hw
              have hkn : k + 1 + (n - 1) = k + n := by omega
              rw [hkn] at hw
              have tn : ((n : Int) == 0) = false := by simp; omega
              have hn6 : n ≤ 6 := hel.1
              have hkn2 : k + n ≤ s.size := by omega
              have HW := Lib.hid hw; clear hw hkn hel
              have hown2 := fun q => hown.below (belowDrewN (Below.refl wr.heap.size wr) q)
              go_wp2_with (first
                | (go_at_call 53; refine (HES.out _).mono ?_; rintro e2 w2 ⟨rfl, q, rfl⟩)
                | (at_builtin; refine wpList_append_own _ rfl (.tmp 41) (.tmp 43) 79 rfl w1.heap.size 5 i0 _ 1 1 Tryd.underlying79 hi hz0 hz1 hz2 rfl (by decide) _ _ _ rfl (World.ownsRow.alloc (hown2 q) _) ⟨_, 0, none⟩ 1 1 [.int .u8 c.toNat] rfl rfl (new_cells _ #[_] _) (one_cell _) (by unfold maxLen; omega) (by omega) (by simp; omega) ?_; intro v' w3 hown' hg' _))
              have hb1 : Below w1.heap.size w1 w3 := ((belowDrewN hb q).alloc (by simp; omega) _).grown hg' (by simp; omega) (fun j hj => (hown.lt j hj).1)
              go_wp2
              go_roundw
              case rel => exact ⟨k + n, acc ++ [c], by omega, by omega, by go_num, by simp; omega, Buf.cut hown' (by simp) (by rw [cells_app]; rfl), HW.out, hb1⟩
              case measure => simp [intOf]; omega
          · have h92n : s[k].toNat ≠ 92 := fun e => h92 (UInt8.toNat_inj.1 e)
            have t2 : ((s[k].toNat : Int) == 92) = false := by simp; omega
            by_cases h32 : s[k].toNat < 32
            · have t3 : decide ((s[k].toNat : Int) < 32) = true := by simp; omega
              rw [quotC_low _ _ _ h34 h92 h32] at hw
              have e : QR = ([], [], false) := by rw [HQ.out, ← hw]
              subst e
              have H92 := Lib.hid h92; have H34 := Lib.hid h34; clear h92 h34 h34n h92n hdk hw
              go_wp2
              rw [Exit.noGoto_ret]
              refine bodyPost_ret (v := .tuple #[.string ⟨#[]⟩, .string ⟨#[]⟩, .bool false]) (by simp [results, Tryd.results41, go_sem]) rfl ?_
              exact ⟨rfl, hb⟩
            · have t3 : decide ((s[k].toNat : Int) < 32) = false := by simp; omega
              rw [quotC_plain _ _ _ h34 h92 h32] at hw
              have HW := Lib.hid hw; have H92 := Lib.hid h92; have H34 := Lib.hid h34; clear h92 h34 h34n h92n hdk hw
              go_wp2_with (at_builtin; refine wpList_append_own _ rfl (.tmp 20) (.tmp 22) 79 rfl w1.heap.size 5 i0 _ 1 1 Tryd.underlying79 hi hz0 hz1 hz2 rfl (by decide) _ _ _ rfl (World.ownsRow.alloc hown _) ⟨_, 0, none⟩ 1 1 [.int .u8 s[k].toNat] rfl rfl (new_cells _ #[_] _) (one_cell _) (by unfold maxLen; omega) (by omega) (by simp; omega) ?_; intro v' w3 hown' hg' _)
              have hb1 : Below w1.heap.size w1 w3 := (hb.alloc hbs _).grown hg' (by simp; omega) (fun j hj => (hown.lt j hj).1)
              go_wp2
              go_roundw
              case rel => exact ⟨k + 1, acc ++ [s[k]], by omega, by omega, by go_num, by simp; omega, Buf.cut hown' (by simp) (by rw [cells_app]; rfl), HW.out, hb1⟩
              case measure => simp [intOf]; omega
      · have hke : k = s.size := by omega
        subst hke
        rw [List.drop_of_length_le (by rw [hsl]; exact Nat.le_refl _), quotC_end] at hw
        have e : QR = ([], [], false) := by rw [HQ.out, ← hw]
        subst e
        clear hw
        go_wp2
        rw [Exit.noGoto_ret]
        refine bodyPost_ret (v := .tuple #[.string ⟨#[]⟩, .string ⟨#[]⟩, .bool false]) (by simp [results, Tryd.results41, go_sem]) rfl ?_
        exact ⟨rfl, hb⟩
end Go.Proofs.YtcbajbpdgmmaeaaDoor
namespace Go.Proofs.YtcbajbpdgmmaeaaDoor
open Go.RowKit
set_option linter.unusedVariables false
set_option linter.unusedSimpArgs false

theorem Tryd.infoStrG : (Tryd.prog.info? 9).map (fun i => (i.zero, i.size, i.bytes)) = some (some (.string ⟨#[]⟩), 1, 16) := by kernel_rfl
theorem Tryd.infoVal : (Tryd.prog.info? 28).map (fun i => (i.zero, i.size, i.bytes)) = some (some (.agg #[.int .i64 0, .int .i64 0, .string ⟨#[]⟩, .slice none 0 0, .slice none 0 0]), 5, 80) := by kernel_rfl
/-- what a reader of one value answers: five cells, the text behind it, and whether there is one -/
def Outs (o : Option (V × List UInt8)) (w : World) (e : Ending) (w' : World) : Prop :=
  (∃ k n t A a b A' a' b' rest ok, e = .returned (.tuple #[.agg #[.int .i64 k, .int .i64 n, .string t, .slice A a b, .slice A' a' b'], .string ⟨List.toArray rest⟩, .bool ok]) ∧ (match o with
    | some (x, r) => ok = true ∧ rest = r ∧ VIs w' w.heap.size w'.heap.size x [.int .i64 k, .int .i64 n, .string t, .slice A a b, .slice A' a' b']
    | none => ok = false)) ∧ Below w.heap.size w w'
/-- what the code's value does of a text, at so much fuel -/
def ValueSays (B f : Nat) (s : List UInt8) : Prop := ∀ w : World, KitIn B w → B ≤ w.heap.size → Calls Tryd.prog 31 #[.string ⟨s.toArray⟩] w fun e w' => Outs (valueC f s) w e w'
def groupA (f : Nat) (obj : Bool) (s : List UInt8) : Option (V × List UInt8) := if beginsB s [if obj then 125 else 93] then some (.mk (if obj then 6 else 5) 0 [] [] [], s.drop 1) else groupC f obj s [] []
/-- what the code's group does -/
def GroupSays (B f : Nat) (obj : Bool) (s : List UInt8) : Prop := ∀ w : World, KitIn B w → B ≤ w.heap.size → Calls Tryd.prog 42 #[.string ⟨s.toArray⟩, .int .i64 (if obj then 6 else 5), .string ⟨#[if obj then 125 else 93]⟩] w fun e w' => Outs (groupA f obj s) w e w'
theorem cutPrefix_any (s t : List UInt8) (w : World) :
    Calls Tryd.prog 54 #[.string ⟨s.toArray⟩, .string ⟨t.toArray⟩] w fun e w' => e = .returned (.tuple #[.string ⟨(if beginsB s t then s.drop t.length else s).toArray⟩, .bool (beginsB s t)]) ∧ w' = w :=
  (Tryd.strings_CutPrefix ⟨s.toArray⟩ ⟨t.toArray⟩ w).mono fun e w' ⟨h1, h2⟩ => ⟨by
    rw [h1]
    simp only [toListS, hasPrefix_begins]
    cases hb : beginsB s t with
    | true => rw [trimPrefix_yes hb]; rfl
    | false => rw [trimPrefix_no hb]; rfl, h2⟩
theorem groupC_list (f : Nat) (s : List UInt8) (l : List V) : groupC (f + 1) false s [] l = (match valueC f s with
    | none => none
    | some (x, r) => if beginsB r [44] then groupC f false (r.drop 1) [] (l ++ [x]) else if beginsB r [93] then some (.mk 5 0 [] (l ++ [x]) [], r.drop 1) else none) := by
  conv => lhs; unfold groupC
  simp only [Bool.false_eq_true, if_false]
  rfl
theorem five_one {w : World} {L N : Nat} {x : V} {cs : List Value} (h : VIs w L N x cs) : ∀ u ∈ cs, u.oneCell' = true := by
  obtain ⟨A, c, A', c', rfl⟩ := h.form
  intro u hu
  simp at hu; rcases hu with rfl | rfl | rfl | rfl | rfl <;> rfl
theorem str_sizeL (t : List UInt8) : (⟨t.toArray⟩ : ByteArray).size = t.length := by show t.toArray.size = _; simp
theorem new_cells1 (w : World) (o : Obj) (cs : Array Value) (e : TypeId) : ∀ j u, cs.toList[j]? = some u → ((w.alloc o).alloc (.cells cs e)).cell? ((⟨w.heap.size + 1, 0, none⟩ : Addr).add j) = some u := by
  intro j u h
  have := new_cells (w.alloc o) cs e j u h
  rwa [World.size_alloc] at this
theorem own_form {w : World} {B size n : Nat} {e : TypeId} {v : Value} {xs : List Value} (h : w.ownsRow B e size v n xs) : ∃ A c, v = .slice A n c := by
  rcases h.2 with ⟨hv, h0⟩ | ⟨g, cap, cur, hv, _⟩
  · exact ⟨none, 0, by rw [hv, h0]⟩
  · exact ⟨_, _, hv⟩
theorem GSt.varL {R : Nat} {kind : Int} {w wr w2 : World} {lv kv : Value} {l : List V} {ks : List (List UInt8)} {xs : List Value} (h : GSt R kind w wr lv kv l ks xs) (hg : wr.grownBy w2 lv.ownBlock) :
    w2.heap[R + 1]? = some (.cells #[.int .i64 kind, .int .i64 0, .string ⟨#[]⟩, lv, kv] 28 (0, 0)) :=
  (hg.block _ (by have := h.size; omega) (fun e => by have := (h.rowL.lt _ e.symm).1; omega)).trans h.var
theorem GSt.varK {R : Nat} {kind : Int} {w wr w2 : World} {lv kv : Value} {l : List V} {ks : List (List UInt8)} {xs : List Value} (h : GSt R kind w wr lv kv l ks xs) (hg : wr.grownBy w2 kv.ownBlock) :
    w2.heap[R + 1]? = some (.cells #[.int .i64 kind, .int .i64 0, .string ⟨#[]⟩, lv, kv] 28 (0, 0)) :=
  (hg.block _ (by have := h.size; omega) (fun e => by have := (h.rowK.lt _ e.symm).1; omega)).trans h.var
def strLen : Value → Nat
  | .string s => s.size
  | _ => 0
theorem valueC_len {f : Nat} {s r : List UInt8} {v : V} (h : valueC f s = some (v, r)) : r.length < s.length := by
  have e := (only_all f).1 s v r h
  have := show_pos v
  rw [e, List.length_append]; omega
set_option maxRecDepth 100000 in
set_option maxHeartbeats 20000000 in
theorem groupList (B m : Nat) (ih : ∀ f s, f ≤ m → s.length ≤ 4096 → 2 * s.length + 1 ≤ f → ValueSays B f s) (f : Nat) (s : List UInt8) (hf : f ≤ m + 1) (hs : s.length ≤ 4096) (hfs : 2 * s.length + 2 ≤ f) : GroupSays B f false s := by
  intro w hk hB
  show Calls Tryd.prog 42 #[.string ⟨s.toArray⟩, .int .i64 5, .string ⟨#[93]⟩] w _
  have hcp : ∀ w, Calls Tryd.prog 54 #[.string ⟨s.toArray⟩, .string ⟨#[93]⟩] w fun e w' => e = .returned (.tuple #[.string ⟨(if beginsB s [93] then s.drop 1 else s).toArray⟩, .bool (beginsB s [93])]) ∧ w' = w := fun w => cutPrefix_any s [93] w
  obtain ⟨GA, hGA⟩ : ∃ GA, groupA f false s = GA := ⟨_, rfl⟩
  rw [hGA]
  cases hb : beginsB s [93] with
  | true =>
    rw [hb] at hcp
    have e : GA = some (.mk 5 0 [] [] [], s.drop 1) := hGA.symm.trans (by unfold groupA; exact if_pos hb)
    subst e
    have HCP := Lib.hid hcp; clear hcp hGA hb ih hk
    go_enter Tryd.func42, Tryd.ntmps42
    go_wp2_with (go_at_call 54; refine (HCP.out _).mono ?_; rintro e1 w1 ⟨rfl, rfl⟩)
    refine bodyPost_ret (v := .tuple #[.agg #[.int .i64 5, .int .i64 0, .string ⟨#[]⟩, .slice none 0 0, .slice none 0 0], .string ⟨(s.drop 1).toArray⟩, .bool true]) (by simp [results, Tryd.results42, go_sem]) rfl ?_
    refine ⟨⟨_, _, _, _, _, _, _, _, _, _, _, rfl, rfl, rfl, ?_⟩, ((Below.refl _ _).alloc (Nat.le_refl _) _).alloc (by simp) _⟩
    exact VIs.mk (t := []) (l := []) (ks := []) ⟨by simp, by simp, by simp, by simp⟩ (.inl rfl) (.inl rfl)
  | false =>
    rw [hb] at hcp
    obtain ⟨i0, hi, hz0, hz1, hz2⟩ := info_parts Tryd.infoVal
    have e : GA = groupC f false s [] [] := hGA.symm.trans (by unfold groupA; exact if_neg (by rw [if_neg (by decide)]; simp [hb]))
    have EG := Lib.hid e
    obtain ⟨R, hR⟩ : ∃ R, w.heap.size = R := ⟨_, rfl⟩
    obtain ⟨W2, hW2⟩ : ∃ W2, W2 = ((w.alloc (.cells #[.int .i64 0, .int .i64 0, .string ⟨#[]⟩, .slice none 0 0, .slice none 0 0] 28)).alloc (.cells #[.int .i64 5, .int .i64 0, .string ⟨#[]⟩, .slice none 0 0, .slice none 0 0] 28)) := ⟨_, rfl⟩
    have gst : GSt R 5 w W2 (.slice none 0 0) (.slice none 0 0) [] [] [] := by
      refine ⟨?_, ?_, ⟨rfl, .inl ⟨rfl, rfl⟩⟩, ⟨rfl, .inl ⟨rfl, rfl⟩⟩, fun i hi => absurd hi (Nat.not_lt_zero _), ?_, ?_⟩
      · rw [hW2, ← hR]
        have := heap_alloc_last (w.alloc (.cells #[.int .i64 0, .int .i64 0, .string ⟨#[]⟩, .slice none 0 0, .slice none 0 0] 28)) (.cells #[.int .i64 5, .int .i64 0, .string ⟨#[]⟩, .slice none 0 0, .slice none 0 0] 28)
        simpa using this
      · rw [hW2, ← hR, Below.heap_alloc _ _ _ (by simp)]; exact heap_alloc_last w _
      · rw [hW2, ← hR]; exact ((Below.refl _ _).alloc (Nat.le_refl _) _).alloc (by simp) _
      · rw [hW2, ← hR]; simp
    have HCP := Lib.hid hcp; have GST := Lib.hid gst; have HR := Lib.hid hR; have HW2 := Lib.hid hW2; have HK := Lib.hid hk; have IH := Lib.hid ih
    clear hcp hGA hb ih hk gst hR hW2 e
    go_enter Tryd.func42, Tryd.ntmps42
    go_wp2_with (go_at_call 54; refine (HCP.out _).mono ?_; rintro e1 w1 ⟨rfl, rfl⟩)
    rw [← HW2.out]
    go_loopw [0] (fun sv wr => ∃ (s1 : List UInt8) (l : List V) (lv : Value) (xs : List Value) (f1 : Nat), sv = .string ⟨s1.toArray⟩ ∧ s1.length + l.length ≤ 4096 ∧ f1 ≤ f ∧ 2 * s1.length + 2 ≤ f1 ∧ groupC f1 false s1 [] l = GA ∧ GSt R 5 w wr lv (.slice none 0 0) l [] xs) (fun sv _ => strLen sv)
    case atStart => exact ⟨s, [], _, [], f, rfl, by simp; omega, Nat.le_refl _, hfs, EG.out.symm, GST.out⟩
    case round =>
      obtain ⟨s1, l, lv, xs, f1, rfl, hsl, hf1, hf2, hG, gst⟩ := hrel
      obtain ⟨f2, rfl⟩ : ∃ f2, f1 = f2 + 1 := ⟨f1 - 1, by omega⟩
      rw [groupC_list] at hG
      have hR := HR.out
      have hval := IH.out f2 s1 (by omega) (by omega) (by omega) wr (HK.out.below (gst.low.mono (by omega))) (by have := gst.size; omega)
      have hsz := gst.size
      have GS := Lib.hid gst
      cases hv : valueC f2 s1 with
      | none =>
        rw [hv] at hG hval
        have e : GA = none := hG.symm
        subst e
        have HV := Lib.hid hval; clear hG hval hv hR gst
        go_wp2_with fail
        refine (HV.out).mono ?_
        rintro e2 w2 ⟨⟨k, n, t, A, a, b, A', a', b', rest, ok, rfl, hok⟩, hb2⟩
        subst hok
        dsimp only
        have hb3 := hb2.alloc hb2.size (.cells #[.int .i64 k, .int .i64 n, .string t, .slice A a b, .slice A' a' b'] 28)
        have g2 := GS.out.later hb3
        obtain ⟨⟨e0, e1, e2, e3, e4⟩, f0, f1, f2', f3, f4⟩ := box_of g2.res
        have G2 := Lib.hid g2; clear g2 hb3
        rw [HR.out]
        go_wp2_with fail
        have g2 := G2.out
        obtain ⟨wf, hwf⟩ : ∃ wf, wf = set5 (w2.alloc (.cells #[.int .i64 k, .int .i64 n, .string t, .slice A a b, .slice A' a' b'] 28)) R 0 (.int .i64 0) (.int .i64 0) (.string ⟨#[]⟩) (.slice none 0 0) (.slice none 0 0) := ⟨_, rfl⟩
        change bodyPost _ _ _ _ _ (set5 (w2.alloc (.cells #[.int .i64 k, .int .i64 n, .string t, .slice A a b, .slice A' a' b'] 28)) R 0 (.int .i64 0) (.int .i64 0) (.string ⟨#[]⟩) (.slice none 0 0) (.slice none 0 0))
        rw [← hwf]
        have hx : wf.heap[R]? = some (.cells #[.int .i64 0, .int .i64 0, .string ⟨#[]⟩, .slice none 0 0, .slice none 0 0] 28 (0, 0)) := by rw [hwf]; exact set5_here g2.res
        have hbf : Below R w wf := by rw [hwf]; exact g2.low.trans (set5_below (Nat.le_refl _))
        obtain ⟨⟨x0, x1, x2, x3, x4⟩, -⟩ := box_of hx
        have HBF := Lib.hid hbf
        clear hbf hwf hx e0 e1 e2 e3 e4 f0 f1 f2' f3 f4 g2
        refine bodyPost_ret (v := .tuple #[.agg #[.int .i64 0, .int .i64 0, .string ⟨#[]⟩, .slice none 0 0, .slice none 0 0], .string ⟨#[]⟩, .bool false]) (by simp [results, Tryd.results42, go_sem, x0, x1, x2, x3, x4]) rfl ?_
        exact ⟨⟨_, _, _, _, _, _, _, _, _, [], _, rfl, rfl⟩, by rw [HR.out]; exact HBF.out⟩
      | some y =>
        obtain ⟨x, r⟩ := y
        have hlen := valueC_len hv
        rw [hv] at hval
        have hG2 : (if beginsB r [44] then groupC f2 false (r.drop 1) [] (l ++ [x]) else if beginsB r [93] then some (.mk 5 0 [] (l ++ [x]) [], r.drop 1) else none) = GA := by rw [hv] at hG; exact hG
        have hc44 : ∀ w, Calls Tryd.prog 54 #[.string ⟨r.toArray⟩, .string ⟨#[44]⟩] w fun e w' => e = .returned (.tuple #[.string ⟨(if beginsB r [44] then r.drop 1 else r).toArray⟩, .bool (beginsB r [44])]) ∧ w' = w := fun w => cutPrefix_any r [44] w
        have hc93 : ∀ w, Calls Tryd.prog 54 #[.string ⟨r.toArray⟩, .string ⟨#[93]⟩] w fun e w' => e = .returned (.tuple #[.string ⟨(if beginsB r [93] then r.drop 1 else r).toArray⟩, .bool (beginsB r [93])]) ∧ w' = w := fun w => cutPrefix_any r [93] w
        obtain ⟨z44, hz44⟩ : ∃ z, beginsB r [44] = z := ⟨_, rfl⟩
        rw [hz44] at hc44 hG2
        have HG := Lib.hid hG2; have HC44 := Lib.hid hc44; have HC93 := Lib.hid hc93; have HV := Lib.hid hval; have HLEN := Lib.hid hlen; have HZ44 := Lib.hid hz44
        clear hG2 hc44 hc93 hval hG hlen hv gst hR hz44
        go_wp2_with fail
        refine (HV.out).mono ?_
        rintro e2 w2 ⟨⟨k, n, t, A, a, b, A', a', b', rest, ok, rfl, hok, hrest, hx⟩, hb2⟩
        subst hok; subst hrest
        dsimp only
        obtain ⟨IT, hIT⟩ : ∃ IT, IT = Obj.cells #[.int .i64 k, .int .i64 n, .string t, .slice A a b, .slice A' a' b'] 28 := ⟨_, rfl⟩
        have hb3 := hb2.alloc hb2.size IT
        have g3 := GS.out.later hb3
        have g4 := GS.out.later (hb3.alloc hb3.size IT)
        have hx4 := hx.below (((Below.refl w2.heap.size w2).alloc (Nat.le_refl _) IT).alloc (by simp) IT)
        have hzw := hb2.size
        rw [hIT] at g3 g4 hx4 hb3
        obtain ⟨⟨e0, e1, e2, e3, e4⟩, f0, f1, f2', f3, f4⟩ := box_of g3.var
        obtain ⟨-, y0, y1, y2, y3, y4⟩ := box_of g4.var
        have G4 := Lib.hid g4; have HX4 := Lib.hid hx4; have HB3 := Lib.hid hb3
        clear g3 g4 hx4 hb3 hx hIT
        rw [HR.out]
        go_wp2_with (at_builtin; go_loud (refine wpList_append_own_at _ rfl (.tmp 63) (.tmp 65) 25 rfl (R + 2) 28 i0 _ 5 80 Tryd.underlying25 hi hz0 hz1 hz2 rfl (by decide) _ _ _ rfl G4.out.rowL ⟨_, 0, none⟩ 1 1 [.int .i64 k, .int .i64 n, .string t, .slice A a b, .slice A' a' b'] rfl rfl (new_cells1 _ _ #[_, _, _, _, _] _) (by intro u hu; simp at hu; rcases hu with rfl | rfl | rfl | rfl | rfl <;> rfl) (by unfold maxLen; omega) (by omega) (by simp; omega) ?_; intro v5 w5 hown hgrow hnil hat; obtain ⟨A5, c5, rfl⟩ := own_form hown; obtain ⟨⟨p0, p1, p2, p3, p4⟩, q0, q1, q2, q3, q4⟩ := box_of (G4.out.varL hgrow)))
        have g6 := G4.out.item x HX4.out hsz (by simp; omega) (fun g hg => by
          have h1 := GS.out.rowL.lt g; have h2 := GS.out.rowK.lt g
          rcases hg with hg | hg
          · have := (h1 hg).2; omega
          · have := (h2 hg).2; omega) hown hgrow hat
        obtain ⟨w6, hw6⟩ : ∃ w6, w6 = w5.setCell ⟨R + 1, 3, none⟩ (.slice A5 (l.length + 1) c5) := ⟨_, rfl⟩
        rw [← hw6] at g6 ⊢
        have G6 := Lib.hid g6
        clear g6 hw6 e0 e1 e2 e3 e4 f0 f1 f2' f3 f4 y0 y1 y2 y3 y4 p0 p1 p2 p3 p4 q0 q1 q2 q3 q4 hown hgrow hnil hat
        cases z44 with
        | true =>
          refine (HC44.out _).mono ?_
          rintro e7 w7 ⟨rfl, rfl⟩
          dsimp only
          go_wp2_with fail
          have hl7 := HLEN.out
          refine ⟨⟨_, ⟨rest.tail, rfl, l ++ [x], by simp; omega, _, _, f2, by omega, by simp; omega, ?_, G6.out⟩, rfl, HR.out.symm⟩, ?_⟩
          · have h := HG.out
            rw [if_pos trivial, List.drop_one] at h
            exact h
          · show ByteArray.size ⟨rest.tail.toArray⟩ < ByteArray.size ⟨s1.toArray⟩
            rw [str_sizeL, str_sizeL, List.length_tail]; omega
        | false =>
          obtain ⟨z93, hz93⟩ : ∃ z, beginsB rest [93] = z := ⟨_, rfl⟩
          have hc93 := HC93.out
          rw [hz93] at hc93
          have HZ93 := Lib.hid hz93; have HC93' := Lib.hid hc93
          clear hz93 hc93 HC93
          obtain ⟨⟨e0, e1, e2, e3, e4⟩, f0, f1, f2', f3, f4⟩ := box_of G6.out.var
          obtain ⟨⟨p0, p1, p2, p3, p4⟩, q0, q1, q2, q3, q4⟩ := box_of G6.out.res
          obtain ⟨rs, hrs⟩ : ∃ rs, (if z93 = true then rest.drop 1 else rest) = rs := ⟨_, rfl⟩
          rw [hrs] at HC93'
          have HRS := Lib.hid hrs
          clear hrs
          cases z93
          all_goals
            refine (HC44.out _).mono ?_
            rintro e7 w7 ⟨rfl, rfl⟩
            dsimp only
            go_wp2_with (go_at_call 54; refine (HC93'.out _).mono ?_; rintro e8 w8 ⟨rfl, rfl⟩)
            obtain ⟨wf, hwf⟩ : ∃ wf, wf = set5 w8 R 0 (.int .i64 5) (.int .i64 0) (.string ⟨#[]⟩) (.slice A5 (l.length + 1) c5) (.slice none 0 0) := ⟨_, rfl⟩
            change bodyPost _ _ _ _ _ (set5 w8 R 0 (.int .i64 5) (.int .i64 0) (.string ⟨#[]⟩) (.slice A5 (l.length + 1) c5) (.slice none 0 0))
            rw [← hwf]
            have hx : wf.heap[R]? = some (.cells #[.int .i64 5, .int .i64 0, .string ⟨#[]⟩, .slice A5 (l.length + 1) c5, .slice none 0 0] 28 (0, 0)) := by rw [hwf]; exact set5_here G6.out.res
            have hbf : Below R w wf := by rw [hwf]; exact G6.out.low.trans (set5_below (Nat.le_refl _))
            have hvf : VIs wf R wf.heap.size (.mk 5 0 [] (l ++ [x]) []) [.int .i64 5, .int .i64 0, .string ⟨#[]⟩, .slice A5 (l.length + 1) c5, .slice none 0 0] :=
              G6.out.done (by simp; omega) (by simp) (by simp) (fun b hb => by rw [hwf]; exact set5_there hb) (by rw [hwf, set5_size])
            obtain ⟨⟨x0, x1, x2, x3, x4⟩, -⟩ := box_of hx
            have HBF := Lib.hid hbf; have HVF := Lib.hid hvf
            clear hbf hvf hwf hx e0 e1 e2 e3 e4 f0 f1 f2' f3 f4 p0 p1 p2 p3 p4 q0 q1 q2 q3 q4
          · have e : GA = none := HG.out.symm.trans (by simp [HZ93.out])
            subst e
            refine bodyPost_ret (v := .tuple #[.agg #[.int .i64 5, .int .i64 0, .string ⟨#[]⟩, .slice A5 (l.length + 1) c5, .slice none 0 0], .string ⟨rs.toArray⟩, .bool false]) (by simp [results, Tryd.results42, go_sem, x0, x1, x2, x3, x4]) rfl ?_
            exact ⟨⟨_, _, _, _, _, _, _, _, _, _, _, rfl, rfl⟩, by rw [HR.out]; exact HBF.out⟩
          · have e : GA = some (.mk 5 0 [] (l ++ [x]) [], rs) := HG.out.symm.trans (by rw [← HRS.out]; simp [HZ93.out])
            subst e
            refine bodyPost_ret (v := .tuple #[.agg #[.int .i64 5, .int .i64 0, .string ⟨#[]⟩, .slice A5 (l.length + 1) c5, .slice none 0 0], .string ⟨rs.toArray⟩, .bool true]) (by simp [results, Tryd.results42, go_sem, x0, x1, x2, x3, x4]) rfl ?_
            exact ⟨⟨_, _, _, _, _, _, _, _, _, _, _, rfl, rfl, rfl, by rw [HR.out]; exact HVF.out⟩, by rw [HR.out]; exact HBF.out⟩
end Go.Proofs.YtcbajbpdgmmaeaaDoor
namespace Go.Proofs.YtcbajbpdgmmaeaaDoor
open Go.RowKit

set_option maxRecDepth 100000 in
theorem hex_any (c : UInt8) (w : World) :
    Calls Tryd.prog 59 #[.int .u8 c.toNat] w fun e w' => e = .returned (.int .i64 (hexI c)) ∧ w = w' := by
  have hc : (c.toNat : Int) < 256 := by have := c.toNat_lt; omega
  go_enter Tryd.func59, Tryd.ntmps59
  go_wp2
  all_goals
    go_ret
    exact ⟨ret_int (by have := hexI_spec c; omega), rfl⟩

theorem hex_quiet (c : UInt8) (w : World) :
    Calls Tryd.prog 59 #[.int .u8 c.toNat] w fun e w' => e = .returned (.int .i64 (hexI c)) ∧ w' = w := (hex_any c w).mono fun _ _ h => ⟨h.1, h.2.symm⟩
/-! ## strings.IndexByte -/
set_option maxRecDepth 100000 in
theorem stringslite_any (s : ByteArray) (c : Int) (w : World) :
    Calls Tryd.prog 66 #[.string s, .int .u8 c] w fun e w' => e = .returned (.int .i64 (Lib.indexByte s.data.toList c.toNat.toUInt8)) ∧ w = w' := by
  go_enter Tryd.func66, Tryd.ntmps66
  go_wp2
  rw [run_callFunc_extern Tryd.func76 (by kernel_rfl) (by kernel_rfl) (by kernel_rfl) (e := Extern.BytealgIndexByte.indexByte) (by kernel_rfl), Lib.run_indexByteString]
  simp only [Result.andThen]
  rw [Oper.upon_value]
  go_wp2
  go_ret
  exact ⟨rfl, rfl⟩
theorem indexByte_any (s : ByteArray) (c : Int) (w : World) :
    Calls Tryd.prog 60 #[.string s, .int .u8 c] w fun e w' => e = .returned (.int .i64 (Lib.indexByte s.data.toList c.toNat.toUInt8)) ∧ w = w' := by
  go_enter Tryd.func60, Tryd.ntmps60
  go_wp2_with (go_at_call 66; refine (stringslite_any _ _ _).mono ?_; rintro e w' ⟨rfl, rfl⟩)
  go_ret
  exact ⟨rfl, rfl⟩
end Go.Proofs.YtcbajbpdgmmaeaaDoor
namespace Go.Proofs.YtcbajbpdgmmaeaaDoor
open Go.RowKit

theorem ext_pre (s : ByteArray) (k : Nat) : s.extract 0 k = ⟨(s.data.toList.take k).toArray⟩ := by
  apply ByteArray.ext; apply Array.ext'
  simp [ByteArray.data_extract, List.extract]
theorem ext_suf (s : ByteArray) (k : Nat) : s.extract k s.size = ⟨(s.data.toList.drop k).toArray⟩ := by
  apply ByteArray.ext; apply Array.ext'
  have : s.size = s.data.size := rfl
  rw [ByteArray.data_extract, Array.toList_extract, this]
  simp [List.extract, List.take_of_length_le]
theorem str_eta (s : ByteArray) : s = ⟨s.data.toList.toArray⟩ := by cases s; simp
end Go.Proofs.YtcbajbpdgmmaeaaDoor
namespace Go.Proofs.YtcbajbpdgmmaeaaDoor
open Go.RowKit

end Go.Proofs.YtcbajbpdgmmaeaaDoor
namespace Go.Proofs.YtcbajbpdgmmaeaaDoor
open Go.RowKit

theorem Tryd.infoPair : (Tryd.prog.info? 44).map (fun i => (i.zero, i.size, i.bytes)) = some (some (.agg #[.string ⟨#[]⟩, .string ⟨#[]⟩]), 2, 32) := by kernel_rfl
/-- pairs as cells -/
def pcells : PL → List Value
  | [] => []
  | p :: r => .string ⟨p.1.toArray⟩ :: .string ⟨p.2.toArray⟩ :: pcells r
theorem pcells_app (a b : PL) : pcells (a ++ b) = pcells a ++ pcells b := by
  induction a with
  | nil => rfl
  | cons p a ih => simp [pcells, ih]
theorem pcells_snoc (l : PL) (p : List UInt8 × List UInt8) : pcells (l ++ [p]) = pcells l ++ [.string ⟨p.1.toArray⟩, .string ⟨p.2.toArray⟩] := by rw [pcells_app]; rfl
theorem pcells_len (l : PL) : (pcells l).length = l.length * 2 := by
  induction l with
  | nil => rfl
  | cons p l ih => simp [pcells, ih]; omega
theorem pcells_key (l : PL) (k : Nat) (h : k < l.length) : (pcells l)[k * 2]? = some (.string ⟨l[k].1.toArray⟩) := by
  induction l generalizing k with
  | nil => simp at h
  | cons p l ih =>
    cases k with
    | zero => rfl
    | succ k => rw [Nat.succ_mul]; simp only [pcells, List.getElem?_cons_succ, List.getElem_cons_succ]; exact ih k (by simpa using h)
theorem pcells_val (l : PL) (k : Nat) (h : k < l.length) : (pcells l)[k * 2 + 1]? = some (.string ⟨l[k].2.toArray⟩) := by
  induction l generalizing k with
  | nil => simp at h
  | cons p l ih =>
    cases k with
    | zero => rfl
    | succ k => rw [Nat.succ_mul]; simp only [pcells, List.getElem?_cons_succ, List.getElem_cons_succ]; exact ih k (by simpa using h)
theorem pair_cells (a b : ByteArray) : ∀ u ∈ [Value.string a, Value.string b], u.oneCell' = true := by
  intro u hu; simp at hu; rcases hu with rfl | rfl <;> rfl
/-- a row of pairs of the call's own -/
def PRow (w : World) (B : Nat) (v : Value) (l : PL) : Prop := w.ownsRow B 44 2 v l.length (pcells l)
theorem PRow.cut {w : World} {B : Nat} {v : Value} {n : Nat} {l : PL} {xs : List Value} (h : w.ownsRow B 44 2 v n xs) (hn : n = l.length) (hx : xs = pcells l) : PRow w B v l := by subst hn; subst hx; exact h
theorem PRow.below {w w' : World} {B : Nat} {v : Value} {l : PL} (h : PRow w B v l) (hb : Below w.heap.size w w') : PRow w' B v l :=
  World.ownsRow.kept (row := none) h ⟨hb.os, hb.tape, hb.output, hb.size, fun k hk _ => hb.block k hk⟩ (by
    rcases h.2 with ⟨rfl, _⟩ | ⟨g, cap, cur, rfl, _⟩
    · exact .inl rfl
    · exact .inr (by simp [Value.ownBlock]))
theorem prow_form {w : World} {B : Nat} {v : Value} {l : PL} (h : PRow w B v l) : ∃ A c, v = .slice A l.length c := by
  rcases h.2 with ⟨rfl, h0⟩ | ⟨g, cap, cur, rfl, _⟩
  · exact ⟨none, 0, by rw [h0]⟩
  · exact ⟨_, _, rfl⟩
theorem PRow.nil (w : World) (B : Nat) : PRow w B (.slice none 0 0) [] := World.ownsRow_nil _ _ _ _

/-- what Parse answers -/
def parseE (l : List UInt8) : Int := if 4096 < l.length then 3 else match formL l with
  | none => 2
  | some ps => if 64 < ps.length then 3 else 0
def parseP (l : List UInt8) : PL := if 4096 < l.length then [] else match formL l with
  | none => []
  | some ps => if 64 < ps.length then [] else ps
theorem parse_large {l : List UInt8} (h : 4096 < l.length) : parseE l = 3 ∧ parseP l = [] := by simp [parseE, parseP, h]
theorem parse_none {l : List UInt8} (h : l.length ≤ 4096) (hf : formL l = none) : parseE l = 2 ∧ parseP l = [] := by
  unfold parseE parseP; rw [if_neg (by omega), if_neg (by omega), hf]; exact ⟨rfl, rfl⟩
theorem parse_many {l : List UInt8} {ps : PL} (h : l.length ≤ 4096) (hf : formL l = some ps) (hp : 64 < ps.length) : parseE l = 3 ∧ parseP l = [] := by
  unfold parseE parseP; rw [if_neg (by omega), if_neg (by omega), hf]; simp only [if_pos hp, and_self]
theorem parse_some {l : List UInt8} {ps : PL} (h : l.length ≤ 4096) (hf : formL l = some ps) (hp : ps.length ≤ 64) : parseE l = 0 ∧ parseP l = ps := by
  unfold parseE parseP; rw [if_neg (by omega), if_neg (by omega), hf]; simp only [if_neg (show ¬ 64 < ps.length by omega), and_self]
theorem ret_ve {v : Value} {a b : Int} (h : a = b) : Ending.returned (.tuple #[v, .int .i64 a]) = .returned (.tuple #[v, .int .i64 b]) := by rw [h]
end Go.Proofs.YtcbajbpdgmmaeaaDoor
namespace Go.Proofs.YtcbajbpdgmmaeaaDoor
open Go.RowKit

/-- a slice's cells read as these pairs, and lie below block B -/
def Prs (w : World) (B : Nat) (A : Option Addr) (l : PL) : Prop :=
  ∀ k (h : k < l.length), ∃ a : Addr, A = some a ∧ a.block < B ∧ w.cell? (a.add (k * 2)) = some (.string ⟨l[k].1.toArray⟩) ∧ w.cell? ⟨(a.add (k * 2)).block, (a.add (k * 2)).off + 1, none⟩ = some (.string ⟨l[k].2.toArray⟩)
theorem add_block (a : Addr) (n : Nat) : (a.add n).block = a.block := by unfold Addr.add; split <;> rfl
theorem add_next (a : Addr) (n : Nat) : (⟨(a.add n).block, (a.add n).off + 1, none⟩ : Addr) = a.add (n + 1) := by
  unfold Addr.add
  by_cases h : n = 0
  · simp [h]
  · simp [h]; omega
theorem Prs.keep {w w' : World} {B : Nat} {A : Option Addr} {l : PL} (h : Prs w B A l) (hk : ∀ p : Addr, p.block < B → w'.cell? p = w.cell? p) : Prs w' B A l := fun k hl => by
  obtain ⟨a, e, hb, h1, h2⟩ := h k hl
  exact ⟨a, e, hb, (hk _ (by rw [add_block]; exact hb)).trans h1, (hk _ (by show (a.add (k * 2)).block < B; rw [add_block]; exact hb)).trans h2⟩
theorem Prs.below {w w' : World} {B : Nat} {A : Option Addr} {l : PL} (h : Prs w B A l) (hb : Below B w w') : Prs w' B A l := h.keep fun _ hp => hb.cell hp
theorem Prs.more {w : World} {B B' : Nat} {A : Option Addr} {l : PL} (h : Prs w B A l) (hB : B ≤ B') : Prs w B' A l := fun k hl => by
  obtain ⟨a, e, hb, h1, h2⟩ := h k hl
  exact ⟨a, e, by omega, h1, h2⟩
theorem Prs.nil (w : World) (B : Nat) (A : Option Addr) : Prs w B A [] := fun _ hl => absurd hl (Nat.not_lt_zero _)
/-- a row of the call's own reads as its pairs -/
theorem PRow.reads {w : World} {B : Nat} {v : Value} {l : PL} (h : PRow w B v l) : ∃ A c, v = .slice A l.length c ∧ Prs w w.heap.size A l := by
  rcases h.2 with ⟨rfl, h0⟩ | ⟨g, cap, cur, rfl, hB, hg, _⟩
  · obtain rfl : l = [] := List.length_eq_zero_iff.1 h0
    exact ⟨none, 0, rfl, Prs.nil _ _ _⟩
  · refine ⟨_, _, rfl, fun k hk => ⟨_, rfl, (Array.getElem?_eq_some_iff.1 hg).1, ?_, ?_⟩⟩
    · exact h.cells (g := g) rfl _ _ (pcells_key l k hk)
    · rw [add_next]
      exact h.cells (g := g) rfl _ _ (pcells_val l k hk)
end Go.Proofs.YtcbajbpdgmmaeaaDoor
namespace Go.Proofs.YtcbajbpdgmmaeaaDoor
open Go.RowKit

open Go.Maps
theorem zeroUnit (w : World) : (zeroValue 53).run Tryd.prog w = .ok (.agg #[]) w := by kernel_rfl
theorem run_makeMapHint {P : Program} (t k e : TypeId) (kd : IntKind) (n : Int) (ht : P.underlying t = some (.map k e)) (w : World) :
    (Instr.makeMap t (some (.int kd n))).run P w = .ok (.map (some w.heap.size)) (w.alloc (.map #[] 0)) := by
  simp [Instr.makeMap, run_underlying ht]; rfl
theorem lawStr : Keyed Tryd.prog 9 := string_keyed Tryd.underlying9
/-- the keys of the first k, as a set -/
def seenAt (l : PL) (k : Nat) : DataW Unit := setOf (.agg []) ((l.take k).map fun p => Lit.string p.1)
theorem seen_next (l : PL) (k : Nat) (h : k < l.length) : seenAt l (k + 1) = (seenAt l k).put (.string l[k].1) (.agg []) := by
  unfold seenAt
  rw [List.take_succ_eq_append_getElem h, List.map_append, List.map_singleton, setOf_snoc]
theorem str_sameKey (a b : List UInt8) : (Lit.string a).sameKey (.string b) = decide (a = b) := by
  show (a == b) = _
  rw [Bool.eq_iff_iff]; simp
theorem seen_has (l : PL) (k : Nat) (x : List UInt8) : Maps.has (seenAt l k) (.string x) = (l.take k).any (fun p => decide (p.1 = x)) := by
  unfold seenAt
  rw [has_setOf _ _ _ (fun y hy => by obtain ⟨_, _, rfl⟩ := List.mem_map.1 hy; trivial), List.any_map]
  congr 1; funext p; exact str_sameKey _ _
theorem seen_yes {l : PL} {k : Nat} {x : List UInt8} (h : Maps.has (seenAt l k) (.string x) = true) : ∃ j, ∃ hj : j < l.length, j < k ∧ l[j].1 = x := by
  rw [seen_has, List.any_eq_true] at h
  obtain ⟨p, hp, he⟩ := h
  obtain ⟨j, hj, rfl⟩ := List.getElem_of_mem hp
  rw [List.length_take] at hj
  refine ⟨j, by omega, by omega, ?_⟩
  have : (l.take k)[j] = l[j] := List.getElem_take
  rw [this] at he
  simpa using he
theorem seen_no {l : PL} {k : Nat} {x : List UInt8} (h : Maps.has (seenAt l k) (.string x) = false) : ∀ j (hj : j < l.length), j < k → x ≠ l[j].1 := fun j hj hjk e => by
  rw [seen_has, List.any_eq_false] at h
  have hm : l[j] ∈ l.take k := by
    rw [List.mem_iff_getElem]
    exact ⟨j, by rw [List.length_take]; omega, List.getElem_take⟩
  exact h _ hm (by simp [e])
end Go.Proofs.YtcbajbpdgmmaeaaDoor
