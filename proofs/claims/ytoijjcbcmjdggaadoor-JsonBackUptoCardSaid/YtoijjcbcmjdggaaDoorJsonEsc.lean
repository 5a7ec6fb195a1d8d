/- JSON: the code's escaped. -/
import Derived.Test.YtoijjcbcmjdggaaDoorJsonCodeV
import Derived.Test.YtoijjcbcmjdggaaDoorShelf
import Derived.Deep.RegionWith
import Derived.Deep.QuietTactic
namespace Go.Proofs.YtoijjcbcmjdggaaDoor
open Go.RowKit

theorem hasPrefix_begins (s t : List UInt8) : Lib.hasPrefix s t = beginsB s t := by
  unfold Lib.hasPrefix beginsB
  induction t generalizing s with
  | nil => simp
  | cons c t ih =>
    cases s with
    | nil => simp
    | cons d s =>
      have := ih s
      simp only [List.isPrefixOf, List.length_cons, List.take_succ_cons]
      rw [this]
      rw [Bool.eq_iff_iff]
      simp
      intro _; exact eq_comm
theorem trimPrefix_yes {s t : List UInt8} (h : beginsB s t = true) : Lib.trimPrefix s t = s.drop t.length := by
  unfold Lib.trimPrefix; rw [hasPrefix_begins, h]; rfl
theorem trimPrefix_no {s t : List UInt8} (h : beginsB s t = false) : Lib.trimPrefix s t = s := by
  unfold Lib.trimPrefix; rw [hasPrefix_begins, h]; rfl
/-- what a \ and what is behind it stand for, and how many bytes tell it; 0: nothing -/
def escR : List UInt8 → UInt8 × Nat
  | e :: r' =>
    if e = 34 ∨ e = 92 then (e, 2)
    else match r' with
      | x :: y :: h :: l :: _ => if e = 117 ∧ x = 48 ∧ y = 48 ∧ (h = 48 ∨ h = 49) ∧ 0 ≤ hexC l then (UInt8.ofNat (16 * (h.toNat - 48) + (hexC l).toNat), 6) else (0, 0)
      | _ => (0, 0)
  | [] => (0, 0)
theorem quotC_esc (r acc : List UInt8) : quotC (92 :: r) acc = if (escR r).2 = 0 then none else quotC (r.drop ((escR r).2 - 1)) (acc ++ [(escR r).1]) := by
  conv => lhs; unfold quotC
  rw [if_neg (by decide), if_pos rfl]
  cases r with
  | nil => rfl
  | cons e r =>
    unfold escR
    simp only
    by_cases he : e = 34 ∨ e = 92
    · rw [if_pos he, if_pos he]; rfl
    · rw [if_neg he, if_neg he]
      rcases r with _ | ⟨x, _ | ⟨y, _ | ⟨h, _ | ⟨l, r⟩⟩⟩⟩
      · rfl
      · rfl
      · rfl
      · rfl
      · simp only
        by_cases hc : e = 117 ∧ x = 48 ∧ y = 48 ∧ (h = 48 ∨ h = 49) ∧ 0 ≤ hexC l
        · rw [if_pos hc, if_pos hc]; rfl
        · rw [if_neg hc, if_neg hc]; rfl
theorem escR_len (r : List UInt8) : (escR r).2 ≤ 6 ∧ (escR r).2 ≤ r.length + 1 := by
  cases r with
  | nil => simp [escR]
  | cons e r =>
    unfold escR
    by_cases he : e = 34 ∨ e = 92
    · simp only [if_pos he, List.length_cons]; omega
    · simp only [if_neg he]
      rcases r with _ | ⟨x, _ | ⟨y, _ | ⟨h, _ | ⟨l, r⟩⟩⟩⟩
      · simp
      · simp
      · simp
      · simp
      · simp only
        split
        · simp
        · simp
theorem idx01 (h : UInt8) : Lib.indexByte [48, 49] h = if h = 48 then 0 else if h = 49 then 1 else -1 := by
  have : ∀ n : Fin 256, Lib.indexByte [48, 49] (UInt8.ofNat n.val) = if UInt8.ofNat n.val = 48 then 0 else if UInt8.ofNat n.val = 49 then 1 else -1 := by decide +kernel
  have h' := this ⟨h.toNat, h.toNat_lt⟩
  simp only [UInt8.ofNat_toNat] at h'
  exact h'
theorem idx16 (l : UInt8) : Lib.indexByte [48, 49, 50, 51, 52, 53, 54, 55, 56, 57, 97, 98, 99, 100, 101, 102] l = hexC l := by
  have : ∀ n : Fin 256, Lib.indexByte [48, 49, 50, 51, 52, 53, 54, 55, 56, 57, 97, 98, 99, 100, 101, 102] (UInt8.ofNat n.val) = hexC (UInt8.ofNat n.val) := by decide +kernel
  have h' := this ⟨l.toNat, l.toNat_lt⟩
  simp only [UInt8.ofNat_toNat] at h'
  exact h'
theorem or0 (m : Nat) (h : m < 16) : bits .or .i64 0 (m : Int) = m := by
  have : ∀ n : Fin 16, bits .or .i64 0 (n.val : Int) = n.val := by decide +kernel
  exact this ⟨m, h⟩
theorem or16 (m : Nat) (h : m < 16) : bits .or .i64 16 (m : Int) = 16 + m := by
  have : ∀ n : Fin 16, bits .or .i64 16 (n.val : Int) = 16 + n.val := by decide +kernel
  exact this ⟨m, h⟩
theorem Tryd.slice01 (w : World) : (Instr.slice 9 (.string ⟨#[48, 49, 50, 51, 52, 53, 54, 55, 56, 57, 97, 98, 99, 100, 101, 102]⟩) none (some (.int .i64 2)) none).run Tryd.prog w = .ok (.string ⟨#[48, 49]⟩) w := by kernel_rfl
set_option maxRecDepth 100000 in
set_option maxHeartbeats 2000000 in
theorem escaped_any (s : ByteArray) (r : List UInt8) (hs : s.data.toList = 92 :: r) (hsz : s.size ≤ 1000000) (w : World) :
    Calls Tryd.prog 60 #[.string s] w fun e w' => e = .returned (.tuple #[.int .u8 (escR r).1.toNat, .int .i64 (escR r).2]) ∧ ∃ q, w' = w.drewN q := by
  have hsl : s.data.toList.length = s.size := rfl
  have hlen : s.size = r.length + 1 := by rw [← hsl, hs]; rfl
  have hcp := fun w => Tryd.strings_CutPrefix s ⟨#[92, 117, 48, 48]⟩ w
  obtain ⟨ER, hER⟩ : ∃ ER, escR r = ER := ⟨_, rfl⟩
  rw [hER]
  cases r with
  | nil =>
    have e0 : ER = (0, 0) := hER.symm.trans rfl
    have hb : beginsB (92 :: []) [92, 117, 48, 48] = false := rfl
    rw [hs] at hcp
    rw [trimPrefix_no hb, hasPrefix_begins, hb] at hcp
    have t1 : s.size = 1 := hlen
    subst e0
    have HCP := Lib.hid hcp; clear hcp hs hsl hlen hER
    go_enter Tryd.func60, Tryd.ntmps60
    go_wp2_with (go_at_call 61; refine (HCP.out _).mono ?_; rintro e1 w1 ⟨rfl, rfl⟩)
    go_ret2
    exact ⟨rfl, 0, rfl⟩
  | cons e r =>
    have h1 : 1 < s.size := by rw [hlen]; simp
    have g1 : s[1] = e := by
      have : s.data.toList[1]'(by rw [hs]; simp) = e := by simp only [hs]; rfl
      exact this
    have t1 : decide ((2 : Int) ≤ (s.size : Int)) = true := by simp; omega
    by_cases he : e = 34 ∨ e = 92
    · have e0 : ER = (e, 2) := hER.symm.trans (by unfold escR; dsimp only; rw [if_pos he])
      subst e0
      by_cases h34 : e = 34
      · have t2 : ((s[1].toNat : Int) == 34) = true := by rw [g1, h34]; rfl
        have G1 := Lib.hid g1; have E34 := Lib.hid h34
        clear hs hsl hlen hER hcp g1 he h34
        go_enter Tryd.func60, Tryd.ntmps60
        go_wp2
        go_ret2
        exact ⟨by rw [G1.out]; rfl, 0, rfl⟩
      · have h92 : e = 92 := by rcases he with h | h; exact absurd h h34; exact h
        have t2 : ((s[1].toNat : Int) == 34) = false := by rw [g1, h92]; rfl
        have t3 : ((s[1].toNat : Int) == 92) = true := by rw [g1, h92]; rfl
        have G1 := Lib.hid g1; have E92 := Lib.hid h92
        clear hs hsl hlen hER hcp g1 he h34 h92
        go_enter Tryd.func60, Tryd.ntmps60
        go_wp2
        go_ret2
        exact ⟨by rw [G1.out]; rfl, 0, rfl⟩
    · have n34 : e.toNat ≠ 34 := fun h => he (.inl (UInt8.toNat_inj.1 h))
      have n92 : e.toNat ≠ 92 := fun h => he (.inr (UInt8.toNat_inj.1 h))
      have t2 : ((s[1].toNat : Int) == 34) = false := by rw [g1]; simp; omega
      have t3 : ((s[1].toNat : Int) == 92) = false := by rw [g1]; simp; omega
      rw [hs] at hcp
      by_cases hb : beginsB (92 :: e :: r) [92, 117, 48, 48] = true
      · rw [trimPrefix_yes hb, hasPrefix_begins, hb] at hcp
        obtain ⟨rfl, r, rfl⟩ : e = 117 ∧ ∃ r', r = 48 :: 48 :: r' := by
          have := begins_full hb
          simp only [List.cons_append, List.nil_append, List.cons.injEq, true_and] at this
          exact ⟨this.1, _, this.2⟩
        have hcp2 : ∀ w : World, Calls Tryd.prog 61 #[.string s, .string ⟨#[92, 117, 48, 48]⟩] w fun e w' => e = .returned (.tuple #[.string ⟨r.toArray⟩, .bool true]) ∧ w' = w := hcp
        clear hcp
        have hr5 : s.size = r.length + 4 := by rw [hlen]; simp
        have hts : (⟨r.toArray⟩ : ByteArray).size = r.length := by show r.toArray.size = _; simp
        have htl : (⟨r.toArray⟩ : ByteArray).data.toList = r := by simp
        obtain ⟨two, htwo⟩ : ∃ two : ByteArray, two = ⟨r.toArray⟩ := ⟨_, rfl⟩
        rw [← htwo] at hcp2 hts htl
        by_cases hl2 : r.length < 2
        · have e0 : ER = (0, 0) := hER.symm.trans (by
            unfold escR
            dsimp only
            rw [if_neg (by decide)]
            rcases r with _ | ⟨x, _ | ⟨y, r⟩⟩
            · rfl
            · rfl
            · simp at hl2; omega)
          subst e0
          have t5 : decide ((two.size : Int) < 2) = true := by simp; omega
          have HCP := Lib.hid hcp2; clear hcp2 hs hsl hlen hER g1 he hb n34 n92 htwo htl
          go_enter Tryd.func60, Tryd.ntmps60
          go_wp2_with (go_at_call 61; refine (HCP.out _).mono ?_; rintro e1 w1 ⟨rfl, rfl⟩)
          go_ret2
          exact ⟨rfl, 0, rfl⟩
        · obtain ⟨h, l, r, rfl⟩ : ∃ h l r', r = h :: l :: r' := by
            rcases r with _ | ⟨x, _ | ⟨y, r⟩⟩
            · simp at hl2
            · simp at hl2
            · exact ⟨x, y, r, rfl⟩
          have t5 : decide ((two.size : Int) < 2) = false := by simp; omega
          have k0 : 0 < two.size := by omega
          have k1 : 1 < two.size := by omega
          have y0 : two[0] = h := by
            have : two.data.toList[0]'(by rw [htl]; simp) = h := by simp only [htl]; rfl
            exact this
          have y1 : two[1] = l := by
            have : two.data.toList[1]'(by rw [htl]; simp) = l := by simp only [htl]; rfl
            exact this
          have i0 := fun w => Tryd.strings_IndexByte ⟨#[48, 49]⟩ (two[0].toNat : Int) w
          have i1 := fun w => Tryd.strings_IndexByte ⟨#[48, 49, 50, 51, 52, 53, 54, 55, 56, 57, 97, 98, 99, 100, 101, 102]⟩ (two[1].toNat : Int) w
          have I0 : ∀ w, Calls Tryd.prog 69 #[.string ⟨#[48, 49]⟩, .int .u8 (two[0].toNat : Int)] w fun e w' => e = .returned (.int .i64 (if h = 48 then 0 else if h = 49 then 1 else -1)) ∧ w' = w := fun w => (i0 w).mono fun e w' ⟨h1, h2⟩ => ⟨by
            rw [h1, y0]
            have : ((h.toNat : Int)).toNat.toUInt8 = h := by simp
            rw [this]; exact congrArg (fun x => Ending.returned (.int .i64 x)) (idx01 h), h2⟩
          have I1 : ∀ w, Calls Tryd.prog 69 #[.string ⟨#[48, 49, 50, 51, 52, 53, 54, 55, 56, 57, 97, 98, 99, 100, 101, 102]⟩, .int .u8 (two[1].toNat : Int)] w fun e w' => e = .returned (.int .i64 (hexC l)) ∧ w' = w := fun w => (i1 w).mono fun e w' ⟨h1, h2⟩ => ⟨by
            rw [h1, y1]
            have : ((l.toNat : Int)).toNat.toUInt8 = l := by simp
            rw [this]; exact congrArg (fun x => Ending.returned (.int .i64 x)) (idx16 l), h2⟩
          clear i0 i1
          have hER2 : ER = if (h = 48 ∨ h = 49) ∧ 0 ≤ hexC l then (UInt8.ofNat (16 * (h.toNat - 48) + (hexC l).toNat), 6) else (0, 0) := hER.symm.trans (by
            unfold escR
            dsimp only
            rw [if_neg (by decide)]
            simp only [true_and])
          have HER := Lib.hid hER2
          obtain ⟨p, hp⟩ : ∃ p : Int, (if h = 48 then 0 else if h = 49 then 1 else -1) = p := ⟨_, rfl⟩
          obtain ⟨q, hq⟩ : ∃ q : Int, hexC l = q := ⟨_, rfl⟩
          rw [hp] at I0; rw [hq] at I1
          have HP := Lib.hid hp; have HQ := Lib.hid hq; have HI0 := Lib.hid I0; have HI1 := Lib.hid I1; have HCP := Lib.hid hcp2
          have h46 : s.size = two.size + 4 := by rw [hr5, hts]
          have hw6 : (s.size : Int) - two.size + 2 = 6 := by omega
          have hw4 : (s.size : Int) - two.size = 4 := by omega
          clear hr5 hts h46 hl2
          clear hcp2 hs hsl hlen hER g1 he hb n34 n92 htwo htl hER2 hp hq I0 I1 y0 y1
          have hsl01 := Tryd.slice01
          have hx0 : ∀ W, (Instr.index 9 (.string two) (.int .i64 0)).run Tryd.prog W = .ok (.int .u8 (two[0].toNat : Int)) W := fun W => by
            have := run_index_string (P := Tryd.prog) (w := W) 9 two .i64 0 Tryd.underlying9
            rw [this, dif_pos ⟨by decide, by omega⟩]; rfl
          have hx1 : ∀ W, (Instr.index 9 (.string two) (.int .i64 1)).run Tryd.prog W = .ok (.int .u8 (two[1].toNat : Int)) W := fun W => by
            have := run_index_string (P := Tryd.prog) (w := W) 9 two .i64 1 Tryd.underlying9
            rw [this, dif_pos ⟨by decide, by omega⟩]; rfl
          by_cases h01 : h = 48 ∨ h = 49
          · by_cases hq0 : 0 ≤ hexC l
            · have hq16 := (hexC_is l hq0).2
              have e0 : ER = (UInt8.ofNat (16 * (h.toNat - 48) + (hexC l).toNat), 6) := HER.out.trans (if_pos ⟨h01, hq0⟩)
              rw [HQ.out] at e0 hq0 hq16
              obtain ⟨m, rfl⟩ : ∃ m : Nat, q = m := ⟨q.toNat, by omega⟩
              have hm : m < 16 := by omega
              have q0 : decide ((m : Int) < 0) = false := by simp
              have ho0 : bits .or .i64 0 (m : Int) = m := or0 m hm
              have ho1 : bits .or .i64 16 (m : Int) = 16 + m := or16 m hm
              have hcv0 : IntKind.u8.wrap (m : Int) = m := by rw [IntKind.wrap_u8]; omega
              have hcv1 : IntKind.u8.wrap (16 + m : Int) = 16 + m := by rw [IntKind.wrap_u8]; omega
              rcases h01 with rfl | rfl
              · obtain rfl : p = 0 := HP.out.symm.trans rfl
                subst e0
                have hb : ((UInt8.ofNat (16 * ((48 : UInt8).toNat - 48) + (m : Int).toNat)).toNat : Int) = m := by
                  rw [UInt8.toNat_ofNat']; have : (48 : UInt8).toNat = 48 := rfl; omega
                have HB := Lib.hid hb; clear hb
                go_enter Tryd.func60, Tryd.ntmps60
                go_wp2_with (go_at_call 61; refine (HCP.out _).mono ?_; rintro e1 w1 ⟨rfl, rfl⟩)
                go_quiet (first | (go_at_call 69; exact Calls.quiet_of_same (HI0.out _)) | (go_at_call 69; exact Calls.quiet_of_same (HI1.out _)))
                go_wp2
                go_ret2
                exact ⟨congrArg (fun x => Ending.returned (.tuple #[.int .u8 x, .int .i64 6])) HB.out.symm, _, rfl⟩
              · obtain rfl : p = 1 := HP.out.symm.trans rfl
                subst e0
                have hb : ((UInt8.ofNat (16 * ((49 : UInt8).toNat - 48) + (m : Int).toNat)).toNat : Int) = 16 + m := by
                  rw [UInt8.toNat_ofNat']; have : (49 : UInt8).toNat = 49 := rfl; omega
                have HB := Lib.hid hb; clear hb
                go_enter Tryd.func60, Tryd.ntmps60
                go_wp2_with (go_at_call 61; refine (HCP.out _).mono ?_; rintro e1 w1 ⟨rfl, rfl⟩)
                go_quiet (first | (go_at_call 69; exact Calls.quiet_of_same (HI0.out _)) | (go_at_call 69; exact Calls.quiet_of_same (HI1.out _)))
                go_wp2
                go_ret2
                exact ⟨congrArg (fun x => Ending.returned (.tuple #[.int .u8 x, .int .i64 6])) HB.out.symm, _, rfl⟩
            · have e0 : ER = (0, 0) := HER.out.trans (if_neg (fun h => hq0 h.2))
              have q0 : decide (q < 0) = true := by rw [HQ.out] at hq0; simp; omega
              subst e0
              rcases h01 with rfl | rfl
              · obtain rfl : p = 0 := HP.out.symm.trans rfl
                go_enter Tryd.func60, Tryd.ntmps60
                go_wp2_with (go_at_call 61; refine (HCP.out _).mono ?_; rintro e1 w1 ⟨rfl, rfl⟩)
                go_quiet (first | (go_at_call 69; exact Calls.quiet_of_same (HI0.out _)) | (go_at_call 69; exact Calls.quiet_of_same (HI1.out _)))
                go_wp2
                go_ret2
                exact ⟨rfl, _, rfl⟩
              · obtain rfl : p = 1 := HP.out.symm.trans rfl
                go_enter Tryd.func60, Tryd.ntmps60
                go_wp2_with (go_at_call 61; refine (HCP.out _).mono ?_; rintro e1 w1 ⟨rfl, rfl⟩)
                go_quiet (first | (go_at_call 69; exact Calls.quiet_of_same (HI0.out _)) | (go_at_call 69; exact Calls.quiet_of_same (HI1.out _)))
                go_wp2
                go_ret2
                exact ⟨rfl, _, rfl⟩
          · have e0 : ER = (0, 0) := HER.out.trans (if_neg (fun h => h01 h.1))
            obtain rfl : p = -1 := HP.out.symm.trans (by rw [if_neg (fun h => h01 (.inl h)), if_neg (fun h => h01 (.inr h))])
            subst e0
            go_enter Tryd.func60, Tryd.ntmps60
            go_wp2_with (go_at_call 61; refine (HCP.out _).mono ?_; rintro e1 w1 ⟨rfl, rfl⟩)
            go_quiet (first | (go_at_call 69; exact Calls.quiet_of_same (HI0.out _)) | (go_at_call 69; exact Calls.quiet_of_same (HI1.out _)))
            go_wp2
            go_ret2
            exact ⟨rfl, _, rfl⟩
      · have hb' : beginsB (92 :: e :: r) [92, 117, 48, 48] = false := by simpa using hb
        rw [trimPrefix_no hb', hasPrefix_begins, hb'] at hcp
        have e0 : ER = (0, 0) := hER.symm.trans (by
          unfold escR
          dsimp only
          rw [if_neg he]
          rcases r with _ | ⟨x, _ | ⟨y, _ | ⟨h, _ | ⟨l, r⟩⟩⟩⟩
          · rfl
          · rfl
          · rfl
          · rfl
          · refine if_neg ?_
            rintro ⟨rfl, rfl, rfl, _⟩
            exact hb (by simp [beginsB]))
        subst e0
        have HCP := Lib.hid hcp; clear hcp hs hsl hlen hER g1 he hb hb' n34 n92
        go_enter Tryd.func60, Tryd.ntmps60
        go_wp2_with (go_at_call 61; refine (HCP.out _).mono ?_; rintro e1 w1 ⟨rfl, rfl⟩)
        go_ret2
        exact ⟨rfl, 0, rfl⟩
end Go.Proofs.YtoijjcbcmjdggaaDoor
