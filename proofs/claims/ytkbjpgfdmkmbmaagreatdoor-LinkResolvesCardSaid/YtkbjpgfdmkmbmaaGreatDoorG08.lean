/- Texts merged by program, in build order: StoreRead, RowsRef. -/
import Derived.Test.YtkbjpgfdmkmbmaaGreatDoorG06
import Derived.Test.YtkbjpgfdmkmbmaaGreatDoorG07
import Derived.BigQuiet
import Derived.Deep.RegionLaw
import Derived.Deep.RegionWith
import Derived.Deep.Cut
set_option linter.unusedVariables false
set_option linter.unusedSimpArgs false
namespace Go.Proofs.YtkbjpgfdmkmbmaaGreatDoor
open Go.RowKit
set_option linter.unusedVariables false
set_option linter.unusedSimpArgs false

theorem RdW.at4 {w : World} {A : Option Addr} {n c : Nat} {l : List UInt8} (h : RdW w (.slice A n c) l) (h4 : 4 ≤ n) : ∃ g o, A = some ⟨g, o, none⟩ ∧ g < w.heap.size ∧ ∀ j, j < l.length → w.cell? ⟨g, o + j, none⟩ = some (.int .u8 (b4 l j : Nat)) := by
  obtain ⟨A', c', e, h1, h2, h3⟩ := h
  cases e
  rcases h3 with h3 | ⟨g, o, rfl, hg, h3⟩
  · omega
  refine ⟨g, o, rfl, hg, fun j hj => ?_⟩
  have := h3 j (.int .u8 (b4 l j : Nat)) (by
    unfold cells b4
    rw [List.getElem?_map, List.getElem?_eq_getElem hj, List.getD_eq_getElem?_getD, List.getElem?_eq_getElem hj]
    rfl)
  rwa [Addr.add_lit] at this
/-- what a number ahead of bytes is -/
def NumIs (A : Option Addr) (l : List UInt8) (n c : Nat) (e : Ending) : Prop :=
  (n < 4 ∧ e = .returned (.tuple #[.int .u32 0, .slice none 0 0, .bool false])) ∨ (4 ≤ n ∧ ∃ PA, e = .returned (.tuple #[.int .u32 (num4 l : Nat), .slice PA (n - 4) (c - 4), .bool true]) ∧ ∀ W, RdW W (.slice A n c) l → RdW W (.slice PA (n - 4) (c - 4)) (l.drop 4))
set_option maxRecDepth 100000 in
set_option maxHeartbeats 1000000 in
theorem snumber_any (A : Option Addr) (n c : Nat) (l : List UInt8) (hn : l.length = n) (hl : n ≤ 1000000) (w : World) (h : RdW w (.slice A n c) l) :
    Calls Tryz.prog 42 #[.slice A n c] w fun e w' => NumIs A l n c e ∧ Below w.heap.size w w' := by
  by_cases h4 : 4 ≤ n
  · obtain ⟨g, o, rfl, hg, hc⟩ := h.at4 h4
    have hall := numK_all l
    have hcap : n ≤ c := by
      obtain ⟨A', c', e, h1, h2, h3⟩ := h
      cases e
      omega
    obtain ⟨i0, hib, hzb, hzb1, _⟩ := info_parts Tryz.infoByte
    have hsl : ∀ (W : World), (Instr.slice 60 (.slice (some ⟨g, o, none⟩) n c) (some (.int .i64 4)) none none).run Tryz.prog W = .ok (.slice (if c = 4 then some ⟨g, o, none⟩ else (some ⟨g, o, none⟩ : Option Addr).map (·.add (4 * 1))) (n - 4) (c - 4)) W := fun W => by
      have hs : (sizeOf 5).run Tryz.prog W = .ok 1 W := by simp [sizeOf, typeInfo, hib, hzb1]
      have he : Tryz.prog.elem 60 = 5 := by kernel_rfl
      have := run_slice_l W 60 (some ⟨g, o, none⟩) n c (by rw [he]; exact Tryz.underlying60) .i64 4 (by omega) (by omega)
      rw [this, he, hs]
      simp [sliced]
    obtain ⟨RA, hRA⟩ : ∃ RA, (if c = 4 then some ⟨g, o, none⟩ else (some ⟨g, o, none⟩ : Option Addr).map (·.add (4 * 1))) = RA := ⟨_, rfl⟩
    rw [hRA] at hsl
    have hfrom : ∀ W, RdW W (.slice (some ⟨g, o, none⟩) n c) l → RdW W (.slice RA (n - 4) (c - 4)) (l.drop 4) := fun W h => by rw [← hRA]; exact RdW.from hn h 4 h4
    have hpost : ∀ e W, e = Ending.returned (.tuple #[.int .u32 (num4 l : Nat), .slice RA (n - 4) (c - 4), .bool true]) → Below w.heap.size w W → NumIs (some ⟨g, o, none⟩) l n c e ∧ Below w.heap.size w W := fun e W he hb => ⟨.inr ⟨h4, _, he, hfrom⟩, hb⟩
    have hcl : ∀ k, k < 4 → w.cell? ⟨g, o + k, none⟩ = some (.int .u8 (b4 l k : Nat)) := fun k hk => hc k (by omega)
    have q1 : (4 : Int) ≤ c := by omega
    have q2 : (4 : Int) ≤ n := by omega
    have q3 : (n : Int) ≤ c := by omega
    have HP := Lib.hid hpost; have HC := Lib.hid hcl; have HALL := Lib.hid hall
    have HSL := Lib.hid hsl
    clear hpost hcl hall hfrom hc h hn hg hsl hRA hib hzb hzb1
    go_enter Tryz.func42, Tryz.ntmps42
    go_wp2
    go_loopw [5, 7, 14] (fun n x i W => ∃ k : Nat, k ≤ 4 ∧ i = .int .i64 (k : Int) ∧ n = .int .u32 (numK l k : Nat) ∧ W = w) (fun _ _ i _ => 4 - (intOf i).toNat)
    case atStart => exact ⟨0, by omega, rfl, rfl, rfl⟩
    case round =>
      obtain ⟨k, hk, rfl, rfl, rfl⟩ := hrel
      by_cases hlt : k < 4
      · have hd : decide ((k : Int) < 4) = true := by simp; omega
        have hk0 : (0 : Int) ≤ k := by omega
        have hk1 : (k : Int) < 4 := by omega
        have c1 := HC.out k hlt
        have hb8 : b4 l k < 256 := (l.getD k 0).toNat_lt
        have hn := numK_lt l k
        have hn2 : numK l k < 16777216 := Nat.lt_of_lt_of_le hn (by
          match k, hlt with
          | 0, _ => decide
          | 1, _ => decide
          | 2, _ => decide
          | 3, _ => decide)
        have hnx : numK l (k + 1) = numK l k * 256 + b4 l k := rfl
        have hor : bits .or .u32 ((numK l k : Int) * 256) (b4 l k : Int) = ((numK l (k + 1) : Nat) : Int) := by
          have h1 := bits_word_or (numK l k * 256) (b4 l k) (by omega) (by omega)
          have h2 := or_add 8 (numK l k) (b4 l k) (by omega)
          rw [show 2 ^ 8 * numK l k = numK l k * 256 by omega] at h2
          rw [show ((numK l k : Int) * 256) = ((numK l k * 256 : Nat) : Int) by omega, h1, h2, hnx]
        obtain ⟨N1, hN1⟩ : ∃ N, numK l (k + 1) = N := ⟨_, rfl⟩
        rw [hN1] at hor
        have HN1 := Lib.hid hN1
        clear hN1
        clear hnx
        generalize numK l k = N0 at *
        generalize b4 l k = B0 at *
        have HOR := Lib.hid hor
        clear hor hn
        go_wp2
        rw [HOR.out]
        exact ⟨⟨k + 1, by omega, by go_num, by rw [HN1.out], trivial⟩, by simp [intOf]; omega⟩
      · obtain rfl : k = 4 := by omega
        rw [show ((4 : Nat) : Int) = 4 from rfl, HALL.out]
        go_wp2
        have hsl := HSL.out
        go_quiet (fail)
        go_wp2
        go_ret3
        exact HP.out _ _ rfl (belowDrewN (Below.refl _ _) _)
  · have q1 : decide ((n : Int) < 4) = true := by simp; omega
    have q2 : (n : Int) < 4 := by omega
    have hp : NumIs A l n c (.returned (.tuple #[.int .u32 0, .slice none 0 0, .bool false])) := .inl ⟨by omega, rfl⟩
    have HP := Lib.hid hp
    clear hp h hn h4
    go_enter Tryz.func42, Tryz.ntmps42
    go_wp2
    go_ret3
    exact ⟨HP.out, Below.refl _ _⟩
/-- what a text ahead of bytes is -/
def TxtIs (A : Option Addr) (l : List UInt8) (n c : Nat) (e : Ending) : Prop :=
  (txtL l = none ∧ e = .returned (.tuple #[.string ⟨#[]⟩, .slice none 0 0, .bool false])) ∨ ∃ s r PA c', txtL l = some (s, r) ∧ e = .returned (.tuple #[tv s, .slice PA r.length c', .bool true]) ∧ ∀ W, RdW W (.slice A n c) l → RdW W (.slice PA r.length c') r
set_option maxRecDepth 100000 in
set_option maxHeartbeats 1000000 in
theorem stext_any (A : Option Addr) (n c : Nat) (l : List UInt8) (hn : l.length = n) (hl : n ≤ 1000000) (w : World) (h : RdW w (.slice A n c) l) :
    Calls Tryz.prog 61 #[.slice A n c] w fun e w' => TxtIs A l n c e ∧ Below w.heap.size w w' := by
  have hnum := snumber_any A n c l hn hl w h
  have HNUM := Lib.hid hnum; have HN := Lib.hid hn; have HL := Lib.hid hl; have HRDA := Lib.hid h
  clear hnum hn hl h
  go_enter Tryz.func61, Tryz.ntmps61
  go_wp2_with fail
  refine HNUM.out.mono ?_
  rintro e w1 ⟨hN, hb1⟩
  rcases hN with ⟨h4, rfl⟩ | ⟨h4, PA, rfl, hr⟩
  · have hno : TxtIs A l n c (.returned (.tuple #[.string ⟨#[]⟩, .slice none 0 0, .bool false])) := .inl ⟨by
      unfold txtL
      rw [if_neg (by rw [HN.out]; omega)], rfl⟩
    have HNO := Lib.hid hno; have HB := Lib.hid hb1
    clear hno hb1 h4
    dsimp only
    go_wp2
    go_ret3
    exact ⟨HNO.out, HB.out⟩
  · obtain ⟨s, hs⟩ : ∃ s, num4 l = s := ⟨_, rfl⟩
    have hs32 : s < 4294967296 := by rw [← hs]; exact num4_lt l
    have hDl : (l.drop 4).length = n - 4 := by rw [List.length_drop, HN.out]
    rw [hs]
    by_cases hsn : s ≤ n - 4
    · have ht : txtL l = some ((l.drop 4).take s, l.drop (4 + s)) := by
        unfold txtL
        rw [hs, if_pos (by rw [HN.out]; omega)]
      obtain ⟨D, hD⟩ : ∃ D, l.drop 4 = D := ⟨_, rfl⟩
      rw [hD] at hDl hr ht
      have hdd : l.drop (4 + s) = D.drop s := by rw [← hD, List.drop_drop]
      rw [hdd] at ht
      obtain ⟨m, hm⟩ : ∃ m, n - 4 = m := ⟨_, rfl⟩
      obtain ⟨q, hq⟩ : ∃ q, c - 4 = q := ⟨_, rfl⟩
      rw [hm] at hDl hr hsn
      rw [hq] at hr
      rw [hm, hq]
      have hmq : m ≤ q := by
        obtain ⟨A', c', e, h1, h2, h3⟩ := hr w HRDA.out
        cases e
        omega
      have hmb : m ≤ 1000000 := by have := HL.out; omega
      have htx : ∀ W, Below w1.heap.size w1 W → (convert 60 9 (.slice PA s q)).run Tryz.prog W = .ok (tv (D.take s)) W := fun W hb => by
        have h1 : RdW W (.slice PA D.length q) D := by rw [hDl]; exact hr W (HRDA.out.below (hb1.chain hb))
        exact (RdW.take h1 s (by omega)).text
      obtain ⟨i0, hib, hzb, hzb1, _⟩ := info_parts Tryz.infoByte
      have hz : ∀ W, (sizeOf 5).run Tryz.prog W = .ok 1 W := fun W => by simp [sizeOf, typeInfo, hib, hzb1]
      have he : Tryz.prog.elem 60 = 5 := by kernel_rfl
      have hsl : ∀ (W : World), (Instr.slice 60 (.slice PA m q) (some (.int .u32 (s : Int))) none none).run Tryz.prog W = .ok (.slice (if q = s then PA else PA.map (·.add (s * 1))) (m - s) (q - s)) W := fun W => by
        have := run_slice_l W 60 PA m q (by rw [he]; exact Tryz.underlying60) .u32 s (by omega) (by omega)
        rw [this, he, hz]
        simp [sliced]
      have hsh : ∀ (W : World), (Instr.slice 60 (.slice PA m q) none (some (.int .u32 (s : Int))) none).run Tryz.prog W = .ok (.slice PA s q) W := fun W => by
        have := run_slice_h W 60 PA m q (by rw [he]; exact Tryz.underlying60) .u32 s (by omega) (by omega)
        rw [this, he, hz]
        simp [sliced]
        intro _
        cases PA <;> rfl
      obtain ⟨RA, hRA⟩ : ∃ RA, (if q = s then PA else PA.map (·.add (s * 1))) = RA := ⟨_, rfl⟩
      have hfrom : ∀ W, RdW W (.slice A n c) l → RdW W (.slice RA (m - s) (q - s)) (D.drop s) := fun W h => by rw [← hRA]; exact RdW.from hDl (hr W h) s hsn
      rw [hRA] at hsl
      obtain ⟨S, hS⟩ : ∃ S, D.take s = S := ⟨_, rfl⟩
      obtain ⟨R, hR⟩ : ∃ R, D.drop s = R := ⟨_, rfl⟩
      have hRl : R.length = m - s := by rw [← hR, List.length_drop, hDl]
      rw [hS] at htx ht
      rw [hR] at hfrom ht
      have hpost : ∀ e W, e = Ending.returned (.tuple #[tv S, .slice RA (m - s) (q - s), .bool true]) → Below w1.heap.size w1 W → TxtIs A l n c e ∧ Below w.heap.size w W := fun e W hE hb =>
        ⟨.inr ⟨S, R, RA, q - s, ht, by rw [hE, hRl], by rw [hRl]; exact hfrom⟩, hb1.chain hb⟩
      obtain ⟨T, hT⟩ : ∃ T, tv S = T := ⟨_, rfl⟩
      rw [hT] at htx hpost
      have HP := Lib.hid hpost; have HTX := Lib.hid htx; have HSL := Lib.hid hsl; have HSH := Lib.hid hsh
      clear hpost htx hsl hsh hfrom ht hT hRl hS hR hRA hr hdd hD hDl hs hs32 hb1 hib hzb hzb1 hz he hm hq
      have q1 : ¬ (m : Int) < (s : Int) := by omega
      have q2 : decide ((m : Int) < (s : Int)) = false := by simp; omega
      have q3 : (s : Int) ≤ (m : Int) := by omega
      have q4 : IntKind.u64.wrap (s : Int) = s := by rw [IntKind.wrap_u64]; omega
      have q5 : IntKind.u64.wrap (m : Int) = m := by rw [IntKind.wrap_u64]; omega
      dsimp only
      go_wp2_with fail
      have h1 := HTX.out _ (Below.refl _ _)
      have hsl := HSL.out
      have hsh := HSH.out
      clear h1
      refine wp_region_held_drew (S := (fun W => (convert 60 9 (.slice PA s q)).run Tryz.prog W = .ok T W)) (by kernel_rfl) (HTX.out _ (Below.refl _ _).drew) (fun hHeld => ?_)
      refine wpAnyH_take (i := 0) (oi := _) (v := ?v1) (by simp only [List.getElem?_toArray, List.getElem?_cons_succ, List.getElem?_cons_zero]; rfl) (by kernel_rfl) (by kernel_rfl) (by kernel_rfl) (by exact fun _ _ _ h => h) (Or.inl ⟨by rfl, ?hy1⟩) (by assumption) ?rest1
      case hy1 => (intro w hSw; (try dsimp only at hSw); go_simp; try with_reducible rfl)
      try simp only [Act.put, List.setIfInBounds_toArray, List.set_cons_zero, List.set_cons_succ]
      refine wpAnyH_take (i := 1) (oi := _) (v := ?v2) (by simp only [List.getElem?_toArray, List.getElem?_cons_succ, List.getElem?_cons_zero]; rfl) (by kernel_rfl) (by kernel_rfl) (by kernel_rfl) (by exact fun _ _ _ h => h) (Or.inl ⟨by rfl, ?hy2⟩) (by assumption) ?rest2
      case hy2 => (intro w hSw; (try dsimp only at hSw); go_simp; try with_reducible rfl)
      try simp only [Act.put, List.setIfInBounds_toArray, List.set_cons_zero, List.set_cons_succ]
      refine wpAnyH_take (i := 2) (oi := _) (v := ?v3) (by simp only [List.getElem?_toArray, List.getElem?_cons_succ, List.getElem?_cons_zero]; rfl) (by kernel_rfl) (by kernel_rfl) (by kernel_rfl) (by exact fun _ _ _ h => h) (Or.inl ⟨by rfl, ?hy3⟩) (by assumption) ?rest3
      case hy3 => (intro w hSw; (try dsimp only at hSw); go_simp; try with_reducible rfl)
      try simp only [Act.put, List.setIfInBounds_toArray, List.set_cons_zero, List.set_cons_succ]
      refine wpAnyH_take (i := 3) (oi := _) (v := ?v4) (by simp only [List.getElem?_toArray, List.getElem?_cons_succ, List.getElem?_cons_zero]; rfl) (by kernel_rfl) (by kernel_rfl) (by kernel_rfl) (by exact fun _ _ _ h => h) (Or.inl ⟨by rfl, ?hy4⟩) (by assumption) ?rest4
      case hy4 => (intro w hSw; (try dsimp only at hSw); go_simp; try with_reducible rfl)
      try simp only [Act.put, List.setIfInBounds_toArray, List.set_cons_zero, List.set_cons_succ]
      refine wpAnyH_take (i := 4) (oi := _) (v := ?v5) (by simp only [List.getElem?_toArray, List.getElem?_cons_succ, List.getElem?_cons_zero]; rfl) (by kernel_rfl) (by kernel_rfl) (by kernel_rfl) (by exact fun _ _ _ h => h) (Or.inl ⟨by rfl, ?hy5⟩) (by assumption) ?rest5
      case hy5 => (intro w hSw; (try dsimp only at hSw); go_simp; try with_reducible rfl)
      try simp only [Act.put, List.setIfInBounds_toArray, List.set_cons_zero, List.set_cons_succ]
      refine wpAnyH_take (i := 5) (oi := _) (v := ?v6) (by simp only [List.getElem?_toArray, List.getElem?_cons_succ, List.getElem?_cons_zero]; rfl) (by kernel_rfl) (by kernel_rfl) (by kernel_rfl) (by exact fun _ _ _ h => h) (Or.inl ⟨by rfl, ?hy6⟩) (by assumption) ?rest6
      case hy6 => (intro w hSw; (try dsimp only at hSw); go_simp; try with_reducible rfl)
      try simp only [Act.put, List.setIfInBounds_toArray, List.set_cons_zero, List.set_cons_succ]
      refine wpAnyH_take (i := 6) (oi := _) (v := ?v7) (by simp only [List.getElem?_toArray, List.getElem?_cons_succ, List.getElem?_cons_zero]; rfl) (by kernel_rfl) (by kernel_rfl) (by kernel_rfl) (by exact fun _ _ _ h => h) (Or.inl ⟨by rfl, ?hy7⟩) (by assumption) ?rest7
      case hy7 => (intro w hSw; (try dsimp only at hSw); go_simp; try with_reducible rfl)
      try simp only [Act.put, List.setIfInBounds_toArray, List.set_cons_zero, List.set_cons_succ]
      refine wpAnyH_take (i := 7) (oi := _) (v := ?v8) (by simp only [List.getElem?_toArray, List.getElem?_cons_succ, List.getElem?_cons_zero]; rfl) (by kernel_rfl) (by kernel_rfl) (by kernel_rfl) (by exact fun _ _ _ h => h) (Or.inl ⟨by rfl, ?hy8⟩) (by assumption) ?rest8
      case hy8 => (intro w hSw; (try dsimp only at hSw); go_simp; try with_reducible rfl)
      try simp only [Act.put, List.setIfInBounds_toArray, List.set_cons_zero, List.set_cons_succ]
      refine wpAnyH_take (i := 8) (oi := _) (v := ?v9) (by simp only [List.getElem?_toArray, List.getElem?_cons_succ, List.getElem?_cons_zero]; rfl) (by kernel_rfl) (by kernel_rfl) (by kernel_rfl) (by exact fun _ _ _ h => h) (Or.inl ⟨by rfl, ?hy9⟩) (by assumption) ?rest9
      case hy9 => (intro w hSw; (try dsimp only at hSw); go_simp; try with_reducible rfl)
      try simp only [Act.put, List.setIfInBounds_toArray, List.set_cons_zero, List.set_cons_succ]
      refine wpAnyH_take (i := 9) (oi := _) (v := ?v10) (by simp only [List.getElem?_toArray, List.getElem?_cons_succ, List.getElem?_cons_zero]; rfl) (by kernel_rfl) (by kernel_rfl) (by kernel_rfl) (by exact fun _ _ _ h => h) (Or.inl ⟨by rfl, ?hy10⟩) (by assumption) ?rest10
      case hy10 => (intro w hSw; (try dsimp only at hSw); go_simp; try with_reducible rfl)
      try simp only [Act.put, List.setIfInBounds_toArray, List.set_cons_zero, List.set_cons_succ]
      refine wpAnyH_done (by kernel_rfl) ?_ _
      go_wp2
      go_ret3
      exact HP.out _ _ rfl (belowDrewN (Below.refl _ _) _)
    · have hno : TxtIs A l n c (.returned (.tuple #[.string ⟨#[]⟩, .slice none 0 0, .bool false])) := .inl ⟨by
        unfold txtL
        rw [hs, if_neg (by rw [HN.out]; omega)], rfl⟩
      obtain ⟨m, hm⟩ : ∃ m, n - 4 = m := ⟨_, rfl⟩
      obtain ⟨q, hq⟩ : ∃ q, c - 4 = q := ⟨_, rfl⟩
      rw [hm] at hsn hDl
      rw [hm, hq]
      have hmb : m ≤ 1000000 := by have := HL.out; omega
      have q1 : (m : Int) < (s : Int) := by omega
      have q2 : decide ((m : Int) < (s : Int)) = true := by simp; omega
      have q4 : IntKind.u64.wrap (s : Int) = s := by rw [IntKind.wrap_u64]; omega
      have q5 : IntKind.u64.wrap (m : Int) = m := by rw [IntKind.wrap_u64]; omega
      have HNO := Lib.hid hno; have HB := Lib.hid hb1
      clear hno hb1 h4 hr hDl hs hs32 hsn hm hq
      dsimp only
      go_wp2
      go_ret3
      exact ⟨HNO.out, HB.out⟩
theorem results_cell_two {P : Program} {fn : Func} {p u x : Tmp} {ty : TypeId} (h : fn.results = #[.cell p ty, .tmp u, .tmp x]) (tmps : Array Value) (w : World) (a : Addr) (v : Value) (hp : tmps.getD p undef = .pointer (some a)) (hl : (loadVar ty a).run P w = .ok v w) :
    (results fn tmps).run P w = .ok (.tuple #[v, tmps.getD u undef, tmps.getD x undef]) w := by
  have ha : (asAddr (.pointer (some a))).run P w = .ok a w := rfl
  simp only [results, h]
  simp only [Array.getD_eq_getD_getElem?] at hp
  simp [Sem.run_bind, Result.andThen, hp, ha, hl]
theorem box3_of {w : World} {b : Nat} {c0 c1 c2 : Value} {t : TypeId} (h : w.heap[b]? = some (.cells #[c0, c1, c2] t (0, 0))) :
    (w.cell? ⟨b, 0, none⟩ = some c0 ∧ w.cell? ⟨b, 1, none⟩ = some c1 ∧ w.cell? ⟨b, 2, none⟩ = some c2) ∧ w.frozen? ⟨b, 0, none⟩ = false ∧ w.frozen? ⟨b, 1, none⟩ = false ∧ w.frozen? ⟨b, 2, none⟩ = false :=
  ⟨⟨cell_here h, cell_here h, cell_here h⟩, frozen_here h _, frozen_here h _, frozen_here h _⟩
def set3 (w : World) (b : Nat) (c0 c1 c2 : Value) : World := ((w.setCell ⟨b, 0, none⟩ c0).setCell ⟨b, 1, none⟩ c1).setCell ⟨b, 2, none⟩ c2
theorem set3_here {w : World} {b : Nat} {c0 c1 c2 x0 x1 x2 : Value} {t : TypeId} {fr : Nat × Nat} (h : w.heap[b]? = some (.cells #[x0, x1, x2] t fr)) : (set3 w b c0 c1 c2).heap[b]? = some (.cells #[c0, c1, c2] t fr) := by
  have := set_here (o := 2) (set_here (o := 1) (set_here (o := 0) h c0) c1) c2
  unfold set3
  simpa using this
theorem set3_below {w w' : World} {b B : Nat} (h : Below B w w') (hb : B ≤ b) (c0 c1 c2 : Value) : Below B w (set3 w' b c0 c1 c2) := by
  unfold set3
  exact ((h.setCell (p := ⟨b, 0, none⟩) hb c0).setCell (p := ⟨b, 1, none⟩) hb c1).setCell (p := ⟨b, 2, none⟩) hb c2
theorem Tryz.sizeCh : (Tryz.prog.info? 37).map (·.size) = some 3 := by kernel_rfl
theorem load3 {W : World} {b : Nat} {c0 c1 c2 : Value} {t : TypeId} {fr : Nat × Nat} (h : W.heap[b]? = some (.cells #[c0, c1, c2] t fr)) : (loadVar 37 ⟨b, 0, none⟩).run Tryz.prog W = .ok (.agg #[c0, c1, c2]) W :=
  run_loadVar_mid W b 0 37 [c0, c1, c2] _ (fun j v hv => by
    rw [Nat.zero_add, cell_here h]
    simpa using hv) Tryz.underlying37 rfl Tryz.sizeCh
def chV (x : Ch) : Value := .agg #[tv x.key, tv x.value, .bool x.gone]
/-- what a change ahead of bytes is -/
def OneIs (A : Option Addr) (l : List UInt8) (n c : Nat) (e : Ending) : Prop :=
  (chgC l = none ∧ e = .returned (.tuple #[.agg #[.string ⟨#[]⟩, .string ⟨#[]⟩, .bool false], .slice none 0 0, .bool false])) ∨ ∃ x r PA c', chgC l = some (x, r) ∧ e = .returned (.tuple #[chV x, .slice PA r.length c', .bool true]) ∧ ∀ W, RdW W (.slice A n c) l → RdW W (.slice PA r.length c') r
theorem chgC_few {l : List UInt8} (h : l.length < 4) : chgC l = none := by
  unfold chgC chgL
  rw [if_neg (by omega)]
theorem chgC_great {l : List UInt8} (h : 1 < num4 l) : chgC l = none := by
  unfold chgC
  cases chgL l with
  | none => rfl
  | some x => exact if_neg (fun e => by omega)
theorem chgC_none {l : List UInt8} (h : chgL l = none) : chgC l = none := by
  unfold chgC
  rw [h]
theorem chgC_key {l : List UInt8} (h : txtL (l.drop 4) = none) : chgC l = none := chgC_none (by
  unfold chgL
  rw [h]
  split <;> rfl)
theorem chgC_val {l k r : List UInt8} (h : txtL (l.drop 4) = some (k, r)) (h2 : txtL r = none) : chgC l = none := chgC_none (by
  unfold chgL
  rw [h]
  dsimp only
  rw [h2]
  split <;> rfl)
theorem chgC_all {l k v r r2 : List UInt8} (h4 : 4 ≤ l.length) (h1 : num4 l ≤ 1) (h : txtL (l.drop 4) = some (k, r)) (h2 : txtL r = some (v, r2)) : chgC l = if num4 l = 1 ∧ v ≠ [] then none else some (⟨k, v, decide (num4 l = 1)⟩, r2) := by
  have hc := chgL_eq l h4 k v r r2 h h2
  rw [chgC_eq hc]
  by_cases hv : num4 l = 1 ∧ v ≠ []
  · rw [if_pos hv]
    exact if_neg fun e => hv.2 (e.2 hv.1)
  · rw [if_neg hv]
    exact if_pos ⟨h1, fun e => Classical.byContradiction fun hn => hv ⟨e, hn⟩⟩
set_option maxRecDepth 100000 in
set_option maxHeartbeats 2000000 in
theorem sone_any (A : Option Addr) (n c : Nat) (l : List UInt8) (hn : l.length = n) (hl : n ≤ 1000000) (w : World) (h : RdW w (.slice A n c) l) :
    Calls Tryz.prog 43 #[.slice A n c] w fun e w' => OneIs A l n c e ∧ Below w.heap.size w w' := by
  obtain ⟨W0, hW0⟩ : ∃ W, W = w.alloc (.cells #[.string ⟨#[]⟩, .string ⟨#[]⟩, .bool false] 37 (0, 0)) := ⟨_, rfl⟩
  have hb0 : Below w.heap.size w W0 := by rw [hW0]; exact (Below.refl _ _).alloc (Nat.le_refl _) _
  have k0 : W0.heap[w.heap.size]? = some (.cells #[.string ⟨#[]⟩, .string ⟨#[]⟩, .bool false] 37 (0, 0)) := by rw [hW0]; exact heap_alloc_last w _
  have hnum := snumber_any A n c l hn hl W0 (h.below hb0)
  have HNUM := Lib.hid hnum; have HN := Lib.hid hn; have HL := Lib.hid hl; have HB0 := Lib.hid hb0; have K0 := Lib.hid k0; have HW0 := Lib.hid hW0; have HRDA := Lib.hid h
  clear hnum hn hl h hb0 k0 hW0
  go_enter Tryz.func43, Tryz.ntmps43
  go_wp2_with fail
  rw [← HW0.out]
  refine HNUM.out.mono ?_
  rintro e w1 ⟨hN, hb1⟩
  have B1 := Lib.hid hb1
  have hk1 := blk_below K0.out hb1
  have K1 := Lib.hid hk1
  clear hb1 hk1
  rcases hN with ⟨h4, rfl⟩ | ⟨h4, PA, rfl, hr⟩
  · have hno := chgC_few (l := l) (by rw [HN.out]; omega)
    have HNO := Lib.hid hno
    clear hno h4
    obtain ⟨⟨c0, c1, c2⟩, f0, f1, f2⟩ := box3_of K1.out
    dsimp only
    go_wp2
    refine bodyPost_ret (results_cell_two (p := 2) rfl _ _ ⟨w.heap.size, 0, none⟩ _ rfl (load3 (set3_here K1.out))) rfl ⟨.inl ⟨HNO.out, rfl⟩, set3_below (HB0.out.chain B1.out) (Nat.le_refl _) _ _ _⟩
  · obtain ⟨s, hs⟩ : ∃ s, num4 l = s := ⟨_, rfl⟩
    have hs32 : s < 4294967296 := by rw [← hs]; exact num4_lt l
    have hDl : (l.drop 4).length = n - 4 := by rw [List.length_drop, HN.out]
    rw [hs]
    by_cases hs1 : 1 < s
    · have hno := chgC_great (l := l) (by rw [hs]; exact hs1)
      have HNO := Lib.hid hno
      have q1 : (1 : Int) < (s : Int) := by omega
      have q2 : decide ((1 : Int) < (s : Int)) = true := by simp; omega
      obtain ⟨⟨c0, c1, c2⟩, f0, f1, f2⟩ := box3_of K1.out
      clear hno h4 hr hs hs32 hDl hs1
      dsimp only
      go_wp2
      refine bodyPost_ret (results_cell_two (p := 2) rfl _ _ ⟨w.heap.size, 0, none⟩ _ rfl (load3 (set3_here K1.out))) rfl ⟨.inl ⟨HNO.out, rfl⟩, set3_below (HB0.out.chain B1.out) (Nat.le_refl _) _ _ _⟩
    · have q1 : ¬ (1 : Int) < (s : Int) := by omega
      have q2 : decide ((1 : Int) < (s : Int)) = false := by simp; omega
      obtain ⟨D, hD⟩ : ∃ D, l.drop 4 = D := ⟨_, rfl⟩
      rw [hD] at hDl hr
      have ht1 := stext_any PA (n - 4) (c - 4) D hDl (by have := HL.out; omega) w1 (hr w1 (HRDA.out.below (HB0.out.chain B1.out)))
      have HR1 := Lib.hid hr
      have HT1 := Lib.hid ht1; have HS := Lib.hid hs; have HD := Lib.hid hD; have HS1 := Lib.hid (Nat.le_of_not_lt hs1); have H4 := Lib.hid h4
      clear ht1 hr hs hD hs1 h4 hDl hs32
      dsimp only
      go_wp2_with fail
      refine HT1.out.mono ?_
      rintro e w2 ⟨hT, hb2⟩
      have B2 := Lib.hid (B1.out.chain hb2)
      have hk2 := blk_below K0.out B2.out
      have K2 := Lib.hid hk2
      clear hb2 hk2
      rcases hT with ⟨ht, rfl⟩ | ⟨k, r, PB, cb, ht, rfl, hr⟩
      · have hno := chgC_key (l := l) (by rw [HD.out]; exact ht)
        have HNO := Lib.hid hno
        obtain ⟨⟨c0, c1, c2⟩, f0, f1, f2⟩ := box3_of K2.out
        clear hno ht
        dsimp only
        go_wp2
        refine bodyPost_ret (results_cell_two (p := 2) rfl _ _ ⟨w.heap.size, 0, none⟩ _ rfl (load3 (set3_here K2.out))) rfl ⟨.inl ⟨HNO.out, rfl⟩, set3_below (HB0.out.chain B2.out) (Nat.le_refl _) _ _ _⟩
      · have hrl := (txtL_inv ht).2.2
        have ht2 := stext_any PB r.length cb r rfl (by have := HL.out; have := HN.out; rw [← HD.out, List.length_drop] at hrl; omega) w2 (hr w2 (HR1.out w2 (HRDA.out.below (HB0.out.chain B2.out))))
        have HR2 := Lib.hid hr
        have HT2 := Lib.hid ht2; have HTT := Lib.hid ht
        obtain ⟨rl, hrle⟩ : ∃ m, r.length = m := ⟨_, rfl⟩
        have HRLE := Lib.hid hrle
        rw [hrle] at HT2 ⊢
        obtain ⟨S1, hT1⟩ : ∃ S : ByteArray, S = ⟨k.toArray⟩ := ⟨_, rfl⟩
        have HT1e := Lib.hid hT1
        rw [show tv k = .string S1 by rw [hT1]; rfl]
        clear ht2 hr ht hrl hrle hT1
        dsimp only
        go_wp2_with fail
        refine HT2.out.mono ?_
        rintro e w3 ⟨hT, hb3⟩
        have B3 := Lib.hid (B2.out.chain hb3)
        have hk3 := blk_below K0.out B3.out
        have K3 := Lib.hid hk3
        clear hb3 hk3
        rcases hT with ⟨ht, rfl⟩ | ⟨v, r2, PC, cc, ht, rfl, hr⟩
        · have hno := chgC_val (l := l) (by rw [HD.out]; exact HTT.out) ht
          have HNO := Lib.hid hno
          obtain ⟨⟨c0, c1, c2⟩, f0, f1, f2⟩ := box3_of K3.out
          clear hno ht
          dsimp only
          go_wp2
          refine bodyPost_ret (results_cell_two (p := 2) rfl _ _ ⟨w.heap.size, 0, none⟩ _ rfl (load3 (set3_here K3.out))) rfl ⟨.inl ⟨HNO.out, rfl⟩, set3_below (HB0.out.chain B3.out) (Nat.le_refl _) _ _ _⟩
        · have hone := chgC_all (by rw [HN.out]; exact H4.out) (by rw [HS.out]; exact HS1.out) (by rw [HD.out]; exact HTT.out) ht
          rw [HS.out] at hone
          obtain ⟨⟨c0, c1, c2⟩, f0, f1, f2⟩ := box3_of K3.out
          obtain ⟨S2, hS2⟩ : ∃ S : ByteArray, S = ⟨v.toArray⟩ := ⟨_, rfl⟩
          have hne : S2.toList.isEmpty = decide (v = []) := by
            rw [hS2, ByteArray.toList_eq]
            show v.isEmpty = _
            cases v <;> simp
          have hrd : ∀ W, RdW W (.slice A n c) l → RdW W (.slice PC r2.length cc) r2 := fun W h => hr W (by have := HR2.out W (HR1.out W h); rwa [HRLE.out] at this)
          have HRD := Lib.hid hrd
          unfold tv
          rw [← hS2]
          obtain ⟨m2, hm2⟩ : ∃ m, r2.length = m := ⟨_, rfl⟩
          rw [hm2]
          have HM2 := Lib.hid hm2; have HS2 := Lib.hid hS2
          have q5 := HS1.out
          clear hrd hr ht hm2 hS2
          by_cases hs1 : s = 1
          · subst hs1
            clear q1 q2 q5
            by_cases hv : v = []
            · rw [decide_eq_true hv] at hne
              rw [if_neg (fun e => e.2 hv), decide_eq_true rfl] at hone
              have HONE := Lib.hid hone
              clear hone hv
              dsimp only
              go_wp2
              refine bodyPost_ret (results_cell_two (p := 2) rfl _ _ ⟨w.heap.size, 0, none⟩ _ rfl (load3 (set3_here K3.out))) rfl ⟨.inr ⟨_, _, PC, cc, HONE.out, ?_, ?_⟩, set3_below (HB0.out.chain B3.out) (Nat.le_refl _) _ _ _⟩
              · rw [HM2.out]
                unfold chV tv
                rw [← HS2.out, ← HT1e.out]
                rfl
              · exact HRD.out
            · rw [decide_eq_false hv] at hne
              rw [if_pos ⟨rfl, hv⟩] at hone
              have HNO := Lib.hid hone
              clear hone hv
              dsimp only
              go_wp2
              refine bodyPost_ret (results_cell_two (p := 2) rfl _ _ ⟨w.heap.size, 0, none⟩ _ rfl (load3 (set3_here K3.out))) rfl ⟨.inl ⟨HNO.out, rfl⟩, set3_below (HB0.out.chain B3.out) (Nat.le_refl _) _ _ _⟩
          · rw [if_neg (fun e => hs1 e.1), decide_eq_false hs1] at hone
            have HONE := Lib.hid hone
            clear hone hne
            dsimp only
            go_wp2
            refine bodyPost_ret (results_cell_two (p := 2) rfl _ _ ⟨w.heap.size, 0, none⟩ _ rfl (load3 (set3_here K3.out))) rfl ⟨.inr ⟨_, _, PC, cc, HONE.out, ?_, ?_⟩, set3_below (HB0.out.chain B3.out) (Nat.le_refl _) _ _ _⟩
            · rw [HM2.out]
              unfold chV tv
              have hs0 : ((s : Int) == 1) = false := by simp; omega
              rw [← HS2.out, ← HT1e.out, hs0]
              rfl
            · exact HRD.out
end Go.Proofs.YtkbjpgfdmkmbmaaGreatDoor
namespace Go.Proofs.YtkbjpgfdmkmbmaaGreatDoor
open Go.RowKit
set_option linter.unusedVariables false
set_option linter.unusedSimpArgs false

theorem keysR_snoc (rows : RowL) (r : List UInt8 × List UInt8) (p : List UInt8) : keysR (rows ++ [r]) p = keysR rows p ++ (if r.1.take p.length = p then [r.1] else []) := by
  unfold keysR
  rw [List.map_append, List.filter_append]
  congr 1
  show List.filter _ [r.1] = _
  by_cases h : r.1.take p.length = p <;> simp [h]
theorem keysR_le (rows : RowL) (p : List UInt8) : (keysR rows p).length ≤ rows.length := by
  unfold keysR
  exact Nat.le_trans (List.length_filter_le _ _) (by rw [List.length_map]; exact Nat.le_refl _)
set_option maxRecDepth 100000 in
set_option maxHeartbeats 4000000 in
theorem refKeysR_any (A : Option Addr) (c : Nat) (rows : RowL) (p : ByteArray) (hl : rows.length ≤ 100000) (w : World) (h : RdR w (.slice A rows.length c) rows) (hz : ∀ r ∈ rows, r.1.length ≤ 1000000000000) (hp : p.size ≤ 1000000000000000) :
    Calls Tryz.prog 24 #[.slice A rows.length c, .string p] w fun e w' => (∃ v, e = .returned v ∧ TRow w' w.heap.size v (keysR rows p.data.toList)) ∧ Below w.heap.size w w' := by
  obtain ⟨i0, hi, hz0, hz1, hz2⟩ := info_parts Tryz.infoStrK
  obtain ⟨n, hn⟩ : ∃ n, rows.length = n := ⟨_, rfl⟩
  have HRD := Lib.hid h; have HN := Lib.hid hn; have HZ := Lib.hid hz
  rw [hn] at hl ⊢
  clear h hn hz
  go_enter Tryz.func24, Tryz.ntmps24
  go_wp2
  go_loopw [5, 6] (fun v i W => ∃ k : Nat, k ≤ n ∧ i = .int .i64 k ∧ Hid (TRow W w.heap.size v (keysR (rows.take k) p.data.toList) ∧ Below w.heap.size w W)) (fun _ i _ => n - (intOf i).toNat)
  case atStart => exact ⟨0, Nat.zero_le _, rfl, Lib.hid ⟨World.ownsRow_nil _ _ _ _, Below.refl _ _⟩⟩
  case round =>
    obtain ⟨k, hk, rfl, hT⟩ := hrel
    by_cases hlt : k < n
    · have hkr : decide ((k : Int) < n) = true := by simp; omega
      have hkl : k < rows.length := by rw [HN.out]; exact hlt
      have hk0 : (0 : Int) ≤ k := by omega
      have hk1 : (k : Int) < n := by omega
      obtain ⟨g, o, rfl, hg, c1, c2⟩ := (HRD.out.below hT.out.2).at k hkl
      obtain ⟨x, hx⟩ : ∃ x, rows[k] = x := ⟨_, rfl⟩
      have hxz := HZ.out rows[k] (List.getElem_mem hkl)
      have htk := keysR_snoc (rows.take k) x p.data.toList
      rw [← hx, ← List.take_succ_eq_append_getElem hkl, hx] at htk
      rw [hx] at c1 hxz
      unfold tv at c1
      obtain ⟨X1, hX1⟩ : ∃ X : ByteArray, X = ⟨x.1.toArray⟩ := ⟨_, rfl⟩
      rw [← hX1] at c1
      have hXs : X1.size = x.1.length := by rw [hX1]; show x.1.toArray.size = _; simp
      have hps : p.data.toList.length = p.size := rfl
      have hle := keysR_le (rows.take k) p.data.toList
      have hle2 : (rows.take k).length ≤ k := List.length_take_le _ _
      have hz := hT.out.2.size
      by_cases hlong : p.size ≤ X1.size
      · have d1 : decide ((p.size : Int) ≤ X1.size) = true := by simp; omega
        have d0 : (p.size : Int) ≤ X1.size := by omega
        by_cases heq : x.1.take p.data.toList.length = p.data.toList
        · rw [if_pos heq] at htk
          have hbe : ((X1.extract 0 p.size).toList == p.toList) = true := by
            rw [ByteArray.toList_eq, ByteArray.toList_eq, ByteArray.data_extract, hX1, beq_iff_eq]
            simp only [Array.toList_extract, List.extract_eq_take_drop, Nat.sub_zero, List.drop_zero]
            show List.take p.size x.1 = p.data.toList
            exact heq
          have HTK := Lib.hid htk; have OWN := Lib.hid hT.out.1; have HX1 := Lib.hid hX1; have HLE := Lib.hid (Nat.le_trans hle hle2)
          clear htk hle hle2 hX1 hkl hg hx heq hxz hXs hps c2
          go_wp2_with (at_builtin; refine wpList_append_own _ rfl (.tmp 34) (.tmp 40) 57 rfl w.heap.size 9 i0 _ 1 16 Tryz.underlying57 hi hz0 hz1 hz2 rfl (by decide) _ _ _ rfl (World.ownsRow.alloc OWN.out _) ⟨_, 0, none⟩ 1 1 [.string X1] rfl rfl (new_cells _ #[_] _) (by intro u hu; simp at hu; subst hu; rfl) (by have := HLE.out; unfold maxLen; omega) (by have := HLE.out; omega) (by simp; omega) ?_)
          intro v1 w1 hown1 hgrow1 _
          have hb1 : Below w.heap.size w w1 := (hT.out.2.alloc (by omega) _).grown hgrow1 (by simp; omega) (fun j hj => (OWN.out.lt j hj).1)
          go_wp2
          go_roundw
          case rel =>
            refine ⟨k + 1, by omega, by go_num, Lib.hid ⟨?_, hb1⟩⟩
            rw [HTK.out]
            exact TRow.cut hown1 (by rw [List.length_append]; rfl) (by rw [tcells_app, HX1.out]; rfl)
          case measure => simp [intOf]; omega
        · rw [if_neg heq, List.append_nil] at htk
          have hbe : ((X1.extract 0 p.size).toList == p.toList) = false := by
            rw [beq_eq_false_iff_ne, ByteArray.toList_eq, ByteArray.toList_eq, ByteArray.data_extract, hX1]
            simp only [Array.toList_extract, List.extract_eq_take_drop, Nat.sub_zero, List.drop_zero]
            exact heq
          have HTK := Lib.hid htk; have OWN := Lib.hid hT.out.1
          clear htk hle hle2 hX1 hkl hg hx heq hxz hXs hps c2
          go_wp2
          go_roundw
          case rel => exact ⟨k + 1, by omega, by go_num, Lib.hid ⟨by rw [HTK.out]; exact OWN.out, hT.out.2⟩⟩
          case measure => simp [intOf]; omega
      · have d1 : decide ((p.size : Int) ≤ X1.size) = false := by simp; omega
        have hne : ¬ x.1.take p.data.toList.length = p.data.toList := fun e => by
          have := congrArg List.length e
          rw [List.length_take] at this
          omega
        rw [if_neg hne, List.append_nil] at htk
        have HTK := Lib.hid htk; have OWN := Lib.hid hT.out.1
        clear htk hle hle2 hX1 hkl hg hx hne hxz hXs hps c2
        go_wp2
        go_roundw
        case rel => exact ⟨k + 1, by omega, by go_num, Lib.hid ⟨by rw [HTK.out]; exact OWN.out, hT.out.2⟩⟩
        case measure => simp [intOf]; omega
    · obtain rfl : k = n := by omega
      have hkr : decide ((k : Int) < k) = false := by simp
      have htk : rows.take k = rows := List.take_of_length_le (by rw [HN.out]; exact Nat.le_refl _)
      have hown := hT.out.1
      rw [htk] at hown
      have OWN := Lib.hid hown
      clear htk hown
      go_wp2
      go_ret
      exact ⟨⟨_, rfl, OWN.out⟩, hT.out.2⟩
end Go.Proofs.YtkbjpgfdmkmbmaaGreatDoor
