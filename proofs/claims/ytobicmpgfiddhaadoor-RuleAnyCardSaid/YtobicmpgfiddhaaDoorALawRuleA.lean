/- Texts merged by program, in build order: LawRuleA. -/
import Derived.Test.YtobicmpgfiddhaaDoorA05
import Derived.Test.YtobicmpgfiddhaaDoorA04
import Derived.Test.YtobicmpgfiddhaaDoorARuleRun
import Derived.Test.YtobicmpgfiddhaaDoorRuleRef
import Derived.Test.YtobicmpgfiddhaaDoorJsonRSame
import Derived.Test.YtobicmpgfiddhaaDoorHeldMore
import Derived.Deep.RegionLaw
import Derived.Deep.RegionWith
namespace Go.Proofs.YtobicmpgfiddhaaDoor
open Go.RowKit Go.Shelf
set_option linter.unusedVariables false
set_option linter.unusedSimpArgs false

theorem tcells_oneX (l : List (List UInt8)) : ∀ u ∈ tcells l, u.oneCell' = true := by
  intro u hu
  unfold tcells at hu
  obtain ⟨x, _, rfl⟩ := List.mem_map.1 hu
  rfl
theorem small_textsA {u : V} (h : u.smallB 12 = true) : ∀ x ∈ u.list, x.text.length ≤ 1000000 := by
  obtain ⟨k, n, t, l, ks⟩ := u
  rw [small_mk] at h
  simp only [Bool.and_eq_true, decide_eq_true_eq] at h
  intro x hx
  obtain ⟨i, hi, rfl⟩ := List.mem_iff_getElem.1 (show x ∈ l from hx)
  have h3 := (smalls_iff l 11).1 h.2 i hi
  generalize l[i] = y at h3
  obtain ⟨k, n, t, l, ks⟩ := y
  rw [small_mk] at h3
  simp only [Bool.and_eq_true, decide_eq_true_eq] at h3
  show t.length ≤ _
  omega
set_option maxRecDepth 100000 in
set_option maxHeartbeats 16000000 in
theorem ruleAny_at {w : World} (C : CodeRule w) (A : Option Addr) (c : Nat) (l : List RU) (hl : RdU w (.slice A l.length c) l) (hlz : l.length ≤ 9223372036854775807) (u : V) (cs : List Value) (hv : VIs w 0 w.heap.size u cs) :
    Calls Tryd.prog 4 #[.slice A l.length c, .agg cs.toArray] w fun e w' => e = .returned (.bool true) ∧ Below w.heap.size w w' := by
  obtain ⟨i0, hi, hz0, hz1, hz2⟩ := info_parts Tryd.infoStrsX
  obtain ⟨j0, hj, hy0, hy1, hy2⟩ := info_parts Tryd.infoStrR
  obtain ⟨CA, cc, CA', cc', hcs⟩ := hv.form
  obtain ⟨ck, hck⟩ : ∃ z, u.kind = z := ⟨_, rfl⟩
  obtain ⟨cn, hcn⟩ : ∃ z, u.num = z := ⟨_, rfl⟩
  obtain ⟨ct, hct⟩ : ∃ z : ByteArray, (⟨u.text.toArray⟩ : ByteArray) = z := ⟨_, rfl⟩
  obtain ⟨cl, hcl⟩ : ∃ z, u.list.length = z := ⟨_, rfl⟩
  obtain ⟨cm, hcm⟩ : ∃ z, u.keys.length = z := ⟨_, rfl⟩
  rw [hck, hcn, hct, hcl, hcm] at hcs
  subst hcs
  obtain ⟨n, hn⟩ : ∃ n, l.length = n := ⟨_, rfl⟩
  rw [hn] at hlz hl ⊢
  obtain ⟨W1, hW1⟩ : ∃ W1, W1 = w.alloc (.cells #[.int .i64 ck, .int .i64 cn, .string ct, .slice CA cl cc, .slice CA' cm cc'] 25) := ⟨_, rfl⟩
  have b1 : Below w.heap.size w W1 := by rw [hW1]; exact (Below.refl _ _).alloc (Nat.le_refl _) _
  have q1 : W1.heap[w.heap.size]? = some (.cells #[.int .i64 ck, .int .i64 cn, .string ct, .slice CA cl cc, .slice CA' cm cc'] 25 (0, 0)) := by rw [hW1]; exact heap_alloc_last w _
  have ha := fun W (hW : Below w.heap.size w W) => answers14_any C W hW
  have hsm := small_any u 12 W1 0 w.heap.size _ (by decide) (hv.below b1) b1.size
  rw [show ((12 : Nat) : Int) = 12 from rfl] at hsm
  have hbx := fun W (hW : Below W1.heap.size W1 W) => (box_of (blk_below q1 hW)).1
  have HA := Lib.hid ha; have HSM := Lib.hid hsm; have HBX := Lib.hid hbx; have HW1 := Lib.hid hW1; have B1 := Lib.hid b1; have HV := Lib.hid hv; have HC := Lib.hid C; have HN := Lib.hid hn; have HL := Lib.hid hl
  clear ha hsm hbx hW1 b1 q1 hv C hn hl hck hcn hct hcl hcm
  by_cases h60 : 60 < n
  · have t1 : decide ((60 : Int) < (n : Int)) = true := by simp; omega
    go_enter Tryd.func4, Tryd.ntmps4
    go_wp2_with (go_at_call 8; rw [← HW1.out]; (with_reducible refine (HA.out _ B1.out).mono ?_); rintro e1 w1 ⟨rfl, hb1⟩; have HB1 := Lib.hid (B1.out.chain hb1); clear hb1; dsimp only)
    go_ret
    exact ⟨rfl, HB1.out⟩
  have t1 : decide ((60 : Int) < (n : Int)) = false := by simp; omega
  cases hs : u.smallB 12 with
  | false =>
    rw [hs] at HSM
    go_enter Tryd.func4, Tryd.ntmps4
    go_wp2_with (first
      | (go_at_call 7; rw [← HW1.out]; (with_reducible refine HSM.out.mono ?_); rintro e1 w1 ⟨rfl, hb1⟩; have HB1 := Lib.hid (B1.out.chain hb1); clear hb1; dsimp only)
      | (go_at_call 8; (with_reducible refine (HA.out _ HB1.out).mono ?_); rintro e2 w2 ⟨rfl, hb2⟩; have HB2 := Lib.hid (HB1.out.chain hb2); clear hb2; dsimp only))
    go_ret
    exact ⟨rfl, HB2.out⟩
  | true =>
  rw [hs] at HSM
  have hux := small_textsA hs
  have HUX := Lib.hid hux
  clear hux hs
  go_enter Tryd.func4, Tryd.ntmps4
  go_wp2_with (go_at_call 7; rw [← HW1.out]; (with_reducible refine HSM.out.mono ?_); rintro e1 w1 ⟨rfl, hb1⟩; have BW1 := Lib.hid (B1.out.chain hb1); have HC1 := Lib.hid hb1; clear hb1; dsimp only)
  clear HW1 HSM
  have XS := Lib.hid (XSt.start (w := w1))
  go_loopw [5, 6] (fun sv i W => ∃ (k : Nat) (xs : List Value), k ≤ n ∧ i = .int .i64 k ∧ Hid (XSt w1.heap.size w1 W sv (((l.take k).filter RU.good).map RU.words) xs ∧ ∀ r ∈ l.take k, r.args.length ≤ 10 ∧ ∀ x ∈ r.args, x.length ≤ 200)) (fun _ i _ => n - (intOf i).toNat)
  case atStart => exact ⟨0, [], Nat.zero_le _, rfl, Lib.hid ⟨XS.out, fun r hr => by cases hr⟩⟩
  case round =>
    obtain ⟨k, xs, hkn, rfl, hxs⟩ := hrel
    obtain ⟨LA, lc, rfl⟩ := own_form hxs.out.1.row
    have BWR := Lib.hid (BW1.out.chain hxs.out.1.low)
    have hfl : (((l.take k).filter RU.good).map RU.words).length ≤ 60 := by
      rw [List.length_map]
      have h1 := List.length_filter_le RU.good (l.take k)
      rw [List.length_take] at h1
      omega
    obtain ⟨GL, hGL⟩ : ∃ GL, ((l.take k).filter RU.good).map RU.words = GL := ⟨_, rfl⟩
    rw [hGL] at hxs hfl ⊢
    obtain ⟨gn, hgn⟩ : ∃ z, GL.length = z := ⟨_, rfl⟩
    rw [hgn] at hxs ⊢
    by_cases hlt : k < n
    · have hkr : decide ((k : Int) < n) = true := by simp; omega
      obtain ⟨g, o, uv, rfl, hg, c0, c1, ht⟩ := HL.out.at k (by have := HN.out; omega)
      obtain ⟨r, hr⟩ : ∃ r, l[k]'(by have := HN.out; omega) = r := ⟨_, rfl⟩
      have hlk : l[k]? = some r := by rw [← hr]; exact List.getElem?_eq_getElem _
      rw [hr] at c0 ht
      have hfs : ((l.take (k + 1)).filter RU.good).map RU.words = GL ++ (if r.good = true then [r.words] else []) := by
        rw [filter_snoc hlk, List.map_append, hGL]
        congr 1
        split <;> rfl
      have htk : l.take (k + 1) = l.take k ++ [r] := by rw [List.take_add_one, hlk]; rfl
      obtain ⟨op, args⟩ := r
      dsimp only at c0 c1 ht
      obtain ⟨AR, ca, rfl, hca, har⟩ := ht
      obtain ⟨OP, hOP⟩ : ∃ OP : ByteArray, (⟨op.toArray⟩ : ByteArray) = OP := ⟨_, rfl⟩
      obtain ⟨na, hna⟩ : ∃ na, args.length = na := ⟨_, rfl⟩
      unfold tv at c0
      rw [hOP] at c0
      rw [hna] at c1 hca
      have hcb : ∀ W, Below w.heap.size w W → (W.cell? ⟨g, o + k * 2, none⟩ = some (.string OP) ∧ W.cell? ⟨g, o + k * 2 + 1, none⟩ = some (.slice AR na ca)) := fun W hb => ⟨(hb.cell (p := ⟨g, o + k * 2, none⟩) hg).trans c0, (hb.cell (p := ⟨g, o + k * 2 + 1, none⟩) hg).trans c1⟩
      have har2 : ∀ W, Below w.heap.size w W → ∀ j x, args[j]? = some x → ∃ gq oq, AR = some ⟨gq, oq, none⟩ ∧ gq < W.heap.size ∧ W.cell? ⟨gq, oq + j, none⟩ = some (tv x) := fun W hb j x hx => by
        obtain ⟨gq, oq, e, hgq, hc⟩ := har j x hx
        exact ⟨gq, oq, e, Nat.lt_of_lt_of_le hgq hb.size, (hb.cell (p := ⟨gq, oq + j, none⟩) hgq).trans hc⟩
      have hk0 : (0 : Int) ≤ k := by omega
      have hk1 : (k : Int) < n := by omega
      obtain ⟨d0, d1⟩ := hcb wr BWR.out
      have HCB := Lib.hid hcb; have HAR2 := Lib.hid har2; have HNA' := Lib.hid hna; have HOPP := Lib.hid hOP; have HFS := Lib.hid hfs; have HTK := Lib.hid htk; have HXS := Lib.hid hxs.out; have HXL := Lib.hid hfl; have HCA := Lib.hid hca
      clear hcb har2 hna hOP hfs htk hxs c0 c1 har hr hlk hfl hca hGL hgn
      by_cases h10 : 10 < na
      · have hd : decide ((10 : Int) < (na : Int)) = true := by simp; omega
        go_wp2_with (go_at_call 8; (with_reducible refine (HA.out _ BWR.out).mono ?_); rintro e1 w2 ⟨rfl, hb1⟩; have HB1 := Lib.hid (BWR.out.chain hb1); clear hb1; dsimp only)
        go_ret
        exact ⟨rfl, HB1.out⟩
      have hd : decide ((10 : Int) < (na : Int)) = false := by simp; omega
      go_wp2
      go_loop [7] (fun j => ∃ j0 : Nat, j0 ≤ na ∧ j = .int .i64 j0 ∧ Hid (∀ x ∈ args.take j0, x.length ≤ 200)) (fun j => na - (intOf j).toNat)
      case atStart => exact ⟨0, Nat.zero_le _, rfl, Lib.hid (fun x hx => by cases hx)⟩
      case round =>
        obtain ⟨j, hjn, rfl, hjx⟩ := hrel
        by_cases hlj : j < na
        · have hjr : decide ((j : Int) < na) = true := by simp; omega
          have hjl : j < args.length := by have := HNA'.out; omega
          obtain ⟨x, hx⟩ : ∃ x, args[j] = x := ⟨_, rfl⟩
          have hjk : args[j]? = some x := by rw [← hx]; exact List.getElem?_eq_getElem _
          obtain ⟨gq, oq, rfl, -, hcx⟩ := HAR2.out wr BWR.out j x hjk
          have htj : args.take (j + 1) = args.take j ++ [x] := by rw [List.take_add_one, hjk]; rfl
          obtain ⟨X, hX⟩ : ∃ X : ByteArray, (⟨x.toArray⟩ : ByteArray) = X := ⟨_, rfl⟩
          have hXs : X.size = x.length := by rw [← hX]; show x.toArray.size = _; simp
          unfold tv at hcx
          rw [hX] at hcx
          have hj0 : (0 : Int) ≤ j := by omega
          have hj1 : (j : Int) < na := by omega
          clear hX hx hjk
          by_cases h200 : 200 < X.size
          · have he : decide ((200 : Int) < (X.size : Int)) = true := by simp; omega
            go_wp2_with (go_at_call 8; (with_reducible refine (HA.out _ BWR.out).mono ?_); rintro e1 w2 ⟨rfl, hb1⟩; have HB1 := Lib.hid (BWR.out.chain hb1); clear hb1; dsimp only)
            go_ret
            exact ⟨rfl, HB1.out⟩
          · have he : decide ((200 : Int) < (X.size : Int)) = false := by simp; omega
            go_wp2
            exact ⟨⟨j + 1, by omega, by go_num, Lib.hid (fun y hy => by
              rw [htj] at hy
              rcases List.mem_append.1 hy with hy | hy
              · exact hjx.out y hy
              · rw [List.mem_singleton.1 hy]; omega)⟩, by simp [intOf]; omega⟩
        · obtain rfl : na = j := by omega
          have hjr : decide ((na : Int) < na) = false := by simp
          have ha200 : ∀ x ∈ args, x.length ≤ 200 := by
            have := hjx.out
            rwa [List.take_of_length_le (by have := HNA'.out; omega)] at this
          have hrd : True := trivial
          have hrl : ∀ W, Below w.heap.size w W → Calls Tryd.prog 12 #[.string OP, .slice AR na ca] W fun e w' => e = .returned (.bool (RU.mk op args).good) ∧ Below W.heap.size W w' := fun W hb => by
            have h1 := HNA'.out
            have h2 := refRule_any op AR ca args (by omega) (fun x hx => by have := ha200 x hx; omega) W ⟨AR, ca, rfl, by have := HCA.out; omega, fun q x hq => HAR2.out W hb q x hq⟩
            rw [h1] at h2
            rw [← HOPP.out]
            exact h2
          have hnew : ∀ r ∈ l.take (k + 1), r.args.length ≤ 10 ∧ ∀ x ∈ r.args, x.length ≤ 200 := fun r hr => by
            rw [HTK.out] at hr
            rcases List.mem_append.1 hr with hr | hr
            · exact HXS.out.2 r hr
            · rw [List.mem_singleton.1 hr]; exact ⟨by show args.length ≤ 10; have := HNA'.out; omega, ha200⟩
          obtain ⟨gd, hgd⟩ : ∃ b, (RU.mk op args).good = b := ⟨_, rfl⟩
          rw [hgd] at hrl
          have hne : gd = true → args ≠ [] := fun h => by
            rw [← hgd] at h
            obtain ⟨h1, h2⟩ := good_parts h
            intro e
            rw [e] at h2
            exact h1 h2.symm
          have hfs2 := HFS.out
          rw [hgd] at hfs2
          have HRL := Lib.hid hrl; have HNEW := Lib.hid hnew; have HNE := Lib.hid hne; have HFS2 := Lib.hid hfs2
          clear hrl hnew hne hfs2 hrd ha200 hjx hgd
          go_upto_region 14 with fail
          refine wp_region_held_drew (S := (fun W => W.cell? ⟨g, o + k * 2, none⟩ = some (.string OP) ∧ W.cell? ⟨g, o + k * 2 + 1, none⟩ = some (.slice AR na ca))) (by kernel_rfl) (HCB.out _ BWR.out.drew) (fun hHeld => ?_)
          refine wpAnyH_take (i := 0) (oi := _) (v := ?v51001) (by simp only [List.getElem?_toArray, List.getElem?_cons_succ, List.getElem?_cons_zero]; rfl) (by kernel_rfl) (by kernel_rfl) (by kernel_rfl) (by exact fun _ _ _ h => h) (Or.inl ⟨by rfl, ?hy51001⟩) (by assumption) ?rest51001
          case hy51001 => (intro w hSw; (try dsimp only at hSw); go_simp; try with_reducible rfl)
          try simp only [Act.put, List.setIfInBounds_toArray, List.set_cons_zero, List.set_cons_succ]
          refine wpAnyH_take (i := 1) (oi := _) (v := ?v51002) (by simp only [List.getElem?_toArray, List.getElem?_cons_succ, List.getElem?_cons_zero]; rfl) (by kernel_rfl) (by kernel_rfl) (by kernel_rfl) (by exact fun _ _ _ h => h) (Or.inl ⟨by rfl, ?hy51002⟩) (by assumption) ?rest51002
          case hy51002 => (intro w hSw; (try dsimp only at hSw); go_simp; try with_reducible rfl)
          try simp only [Act.put, List.setIfInBounds_toArray, List.set_cons_zero, List.set_cons_succ]
          refine wpAnyH_take (i := 2) (oi := _) (v := ?v51003) (by simp only [List.getElem?_toArray, List.getElem?_cons_succ, List.getElem?_cons_zero]; rfl) (by kernel_rfl) (by kernel_rfl) (by kernel_rfl) (by exact fun _ _ _ h => h) (Or.inl ⟨by rfl, ?hy51003⟩) (by assumption) ?rest51003
          case hy51003 => (intro w hSw; (try dsimp only at hSw); go_simp; try with_reducible rfl)
          try simp only [Act.put, List.setIfInBounds_toArray, List.set_cons_zero, List.set_cons_succ]
          refine wpAnyH_take (i := 3) (oi := _) (v := ?v51004) (by simp only [List.getElem?_toArray, List.getElem?_cons_succ, List.getElem?_cons_zero]; rfl) (by kernel_rfl) (by kernel_rfl) (by kernel_rfl) (by exact fun _ _ _ h => h) (Or.inl ⟨by rfl, ?hy51004⟩) (by assumption) ?rest51004
          case hy51004 => (intro w hSw; (try dsimp only at hSw); go_simp; try with_reducible rfl)
          try simp only [Act.put, List.setIfInBounds_toArray, List.set_cons_zero, List.set_cons_succ]
          refine wpAnyH_take (i := 4) (oi := _) (v := ?v51005) (by simp only [List.getElem?_toArray, List.getElem?_cons_succ, List.getElem?_cons_zero]; rfl) (by kernel_rfl) (by kernel_rfl) (by kernel_rfl) (by exact fun _ _ _ h => h) (Or.inl ⟨by rfl, ?hy51005⟩) (by assumption) ?rest51005
          case hy51005 => (intro w hSw; (try dsimp only at hSw); go_simp; try with_reducible rfl)
          try simp only [Act.put, List.setIfInBounds_toArray, List.set_cons_zero, List.set_cons_succ]
          refine wpAnyH_take (i := 5) (oi := _) (v := ?v51006) (by simp only [List.getElem?_toArray, List.getElem?_cons_succ, List.getElem?_cons_zero]; rfl) (by kernel_rfl) (by kernel_rfl) (by kernel_rfl) (by exact fun _ _ _ h => h) (Or.inl ⟨by rfl, ?hy51006⟩) (by assumption) ?rest51006
          case hy51006 => (intro w hSw; (try dsimp only at hSw); go_simp; try with_reducible rfl)
          try simp only [Act.put, List.setIfInBounds_toArray, List.set_cons_zero, List.set_cons_succ]
          refine wpAnyH_take (i := 6) (oi := _) (v := ?v51007) (by simp only [List.getElem?_toArray, List.getElem?_cons_succ, List.getElem?_cons_zero]; rfl) (by kernel_rfl) (by kernel_rfl) (by kernel_rfl) (by exact fun _ _ _ h => h) (Or.inl ⟨by rfl, ?hy51007⟩) (by assumption) ?rest51007
          case hy51007 => (intro w hSw; (try dsimp only at hSw); go_simp; try with_reducible rfl)
          try simp only [Act.put, List.setIfInBounds_toArray, List.set_cons_zero, List.set_cons_succ]
          refine wpAnyH_take (i := 7) (oi := _) (v := ?v51008) (by simp only [List.getElem?_toArray, List.getElem?_cons_succ, List.getElem?_cons_zero]; rfl) (by kernel_rfl) (by kernel_rfl) (by kernel_rfl) (by exact fun _ _ _ h => h) (Or.inl ⟨by rfl, ?hy51008⟩) (by assumption) ?rest51008
          case hy51008 => (intro w hSw; (try dsimp only at hSw); go_simp; try with_reducible rfl)
          try simp only [Act.put, List.setIfInBounds_toArray, List.set_cons_zero, List.set_cons_succ]
          refine wpAnyH_take (i := 8) (oi := _) (v := ?v51009) (by simp only [List.getElem?_toArray, List.getElem?_cons_succ, List.getElem?_cons_zero]; rfl) (by kernel_rfl) (by kernel_rfl) (by kernel_rfl) (by exact fun _ _ _ h => h) (Or.inl ⟨by rfl, ?hy51009⟩) (by assumption) ?rest51009
          case hy51009 => (intro w hSw; (try dsimp only at hSw); go_simp; try with_reducible rfl)
          try simp only [Act.put, List.setIfInBounds_toArray, List.set_cons_zero, List.set_cons_succ]
          refine wpAnyH_take (i := 9) (oi := _) (v := ?v51010) (by simp only [List.getElem?_toArray, List.getElem?_cons_succ, List.getElem?_cons_zero]; rfl) (by kernel_rfl) (by kernel_rfl) (by kernel_rfl) (by exact fun _ _ _ h => h) (Or.inl ⟨by rfl, ?hy51010⟩) (by assumption) ?rest51010
          case hy51010 => (intro w hSw; (try dsimp only at hSw); go_simp; try with_reducible rfl)
          try simp only [Act.put, List.setIfInBounds_toArray, List.set_cons_zero, List.set_cons_succ]
          refine wpAnyH_ready (rs := [10]) (by kernel_rfl) (by simp) ?_
          refine AllReadyH.cons (o := _) (by simp only [List.getElem?_toArray, List.getElem?_cons_succ, List.getElem?_cons_zero]; rfl) (fun K hK => ?_) AllReadyH.nil
          go_simp
          go_at_call 12
          (with_reducible refine (HRL.out _ BWR.out.drew).mono ?_)
          rintro e4 w4 ⟨rfl, hb4⟩
          have Q4 := Lib.hid (below_drew2 _ _ hb4)
          clear hb4
          dsimp only
          refine hK.out _ _ (HCB.out _ (BWR.out.chain Q4.out)) (fun hHeld => ?_)
          clear hK K
          try simp only [Act.put, List.setIfInBounds_toArray, List.set_cons_zero, List.set_cons_succ]
          refine wpAnyH_done (by kernel_rfl) ?_ _
          cases gd with
          | false =>
            go_wp2
            go_roundw
            case rel => exact ⟨k + 1, xs, by omega, by go_num, Lib.hid ⟨by rw [HFS2.out]; simpa using HXS.out.1.later Q4.out, HNEW.out⟩⟩
            case measure => simp [intOf]; omega
          | true =>
            have hX4 := HXS.out.1.later Q4.out
            have hne := HNE.out rfl
            have htc : (tcells args).length = na * 1 := by unfold tcells; rw [List.length_map, HNA'.out]; omega
            have hna10 : na ≤ 10 := by omega
            have har : ∀ W, Below w.heap.size w W → ∃ ad, AR = some ad ∧ ∀ j u, (tcells args)[j]? = some u → W.cell? (ad.add j) = some u := fun W hb => by
              cases hargs : args with
              | nil => exact absurd hargs hne
              | cons a0 ar =>
                obtain ⟨gq, oq, e, -, -⟩ := HAR2.out W hb 0 a0 (by rw [hargs]; rfl)
                refine ⟨_, e, fun j u hu => ?_⟩
                rw [← hargs] at hu
                unfold tcells at hu
                rw [List.getElem?_map] at hu
                obtain ⟨x, hx, rfl⟩ := Option.map_eq_some_iff.1 hu
                obtain ⟨gq', oq', e', -, hc⟩ := HAR2.out W hb j x hx
                rw [e] at e'
                injection e' with e'
                injection e' with e1 e2
                subst e1; subst e2
                rw [Addr.add_lit]
                exact hc
            have hta : ∀ (W W2 : World) (v : Value), XSt w1.heap.size w1 W (.slice LA gn lc) GL xs → W2.ownsRow W.heap.size 9 1 v (1 + na) ([.string OP] ++ tcells args) → TAt w1.heap.size W2 (.slice LA gn lc) v (op :: args) := fun W W2 v hx ho => by
              have hlen : (op :: args).length = 1 + na := by rw [List.length_cons, HNA'.out]; omega
              rw [← hlen] at ho
              refine TAt.of ho ?_ (by simp) hx.size (fun q hq => (hx.row.lt q hq).2)
              show _ = tv op :: tcells args
              rw [← HOPP.out]
              rfl
            have X4 := Lib.hid hX4; have HTC := Lib.hid htc; have HNA := Lib.hid hna10; have HAR := Lib.hid har; have HTA := Lib.hid hta
            clear hX4 hne htc hna10 har hta
            obtain ⟨e0, e1⟩ := HCB.out _ (BWR.out.chain Q4.out)
            go_upto_region 15 with fail
            refine wp_region_held_drew (S := (fun W => W.cell? ⟨g, o + k * 2, none⟩ = some (.string OP) ∧ W.cell? ⟨g, o + k * 2 + 1, none⟩ = some (.slice AR na ca))) (by kernel_rfl) (HCB.out _ ((BWR.out.chain Q4.out).drew)) (fun hHeld => ?_)
            refine wpAnyH_take (i := 0) (oi := _) (v := ?v51012) (by simp only [List.getElem?_toArray, List.getElem?_cons_succ, List.getElem?_cons_zero]; rfl) (by kernel_rfl) (by kernel_rfl) (by kernel_rfl) (by exact fun _ _ _ h => h) (Or.inl ⟨by rfl, ?hy51012⟩) (by assumption) ?rest51012
            case hy51012 => (intro w hSw; (try dsimp only at hSw); go_simp; try with_reducible rfl)
            try simp only [Act.put, List.setIfInBounds_toArray, List.set_cons_zero, List.set_cons_succ]
            refine wpAnyH_take (i := 1) (oi := _) (v := ?v51013) (by simp only [List.getElem?_toArray, List.getElem?_cons_succ, List.getElem?_cons_zero]; rfl) (by kernel_rfl) (by kernel_rfl) (by kernel_rfl) (by exact fun _ _ _ h => h) (Or.inl ⟨by rfl, ?hy51013⟩) (by assumption) ?rest51013
            case hy51013 => (intro w hSw; (try dsimp only at hSw); go_simp; try with_reducible rfl)
            try simp only [Act.put, List.setIfInBounds_toArray, List.set_cons_zero, List.set_cons_succ]
            refine wpAnyH_take (i := 2) (oi := _) (v := ?v51014) (by simp only [List.getElem?_toArray, List.getElem?_cons_succ, List.getElem?_cons_zero]; rfl) (by kernel_rfl) (by kernel_rfl) (by kernel_rfl) (by exact fun _ _ _ h => h) (Or.inl ⟨by rfl, ?hy51014⟩) (by assumption) ?rest51014
            case hy51014 => (intro w hSw; (try dsimp only at hSw); go_simp; try with_reducible rfl)
            try simp only [Act.put, List.setIfInBounds_toArray, List.set_cons_zero, List.set_cons_succ]
            refine wpAnyH_take (i := 3) (oi := _) (v := ?v51015) (by simp only [List.getElem?_toArray, List.getElem?_cons_succ, List.getElem?_cons_zero]; rfl) (by kernel_rfl) (by kernel_rfl) (by kernel_rfl) (by exact fun _ _ _ h => h) (Or.inl ⟨by rfl, ?hy51015⟩) (by assumption) ?rest51015
            case hy51015 => (intro w hSw; (try dsimp only at hSw); go_simp; try with_reducible rfl)
            try simp only [Act.put, List.setIfInBounds_toArray, List.set_cons_zero, List.set_cons_succ]
            refine wpAnyH_take (i := 4) (oi := _) (v := ?v51016) (by simp only [List.getElem?_toArray, List.getElem?_cons_succ, List.getElem?_cons_zero]; rfl) (by kernel_rfl) (by kernel_rfl) (by kernel_rfl) (by exact fun _ _ _ h => h) (Or.inl ⟨by rfl, ?hy51016⟩) (by assumption) ?rest51016
            case hy51016 => (intro w hSw; (try dsimp only at hSw); go_simp; try with_reducible rfl)
            try simp only [Act.put, List.setIfInBounds_toArray, List.set_cons_zero, List.set_cons_succ]
            refine wpAnyH_take (i := 5) (oi := _) (v := ?v51017) (by simp only [List.getElem?_toArray, List.getElem?_cons_succ, List.getElem?_cons_zero]; rfl) (by kernel_rfl) (by kernel_rfl) (by kernel_rfl) (by exact fun _ _ _ h => h) (Or.inl ⟨by rfl, ?hy51017⟩) (by assumption) ?rest51017
            case hy51017 => (intro w hSw; (try dsimp only at hSw); go_simp; try with_reducible rfl)
            try simp only [Act.put, List.setIfInBounds_toArray, List.set_cons_zero, List.set_cons_succ]
            refine wpAnyH_take (i := 7) (oi := _) (v := ?v51018) (by simp only [List.getElem?_toArray, List.getElem?_cons_succ, List.getElem?_cons_zero]; rfl) (by kernel_rfl) (by kernel_rfl) (by kernel_rfl) (by exact fun _ _ _ h => h) (Or.inl ⟨by rfl, ?hy51018⟩) (by assumption) ?rest51018
            case hy51018 => (intro w hSw; (try dsimp only at hSw); go_simp; try with_reducible rfl)
            try simp only [Act.put, List.setIfInBounds_toArray, List.set_cons_zero, List.set_cons_succ]
            refine wpAnyH_take (i := 8) (oi := _) (v := ?v51019) (by simp only [List.getElem?_toArray, List.getElem?_cons_succ, List.getElem?_cons_zero]; rfl) (by kernel_rfl) (by kernel_rfl) (by kernel_rfl) (by exact fun _ _ _ h => h) (Or.inl ⟨by rfl, ?hy51019⟩) (by assumption) ?rest51019
            case hy51019 => (intro w hSw; (try dsimp only at hSw); go_simp; try with_reducible rfl)
            try simp only [Act.put, List.setIfInBounds_toArray, List.set_cons_zero, List.set_cons_succ]
            refine wpAnyH_take (i := 9) (oi := _) (v := ?v51020) (by simp only [List.getElem?_toArray, List.getElem?_cons_succ, List.getElem?_cons_zero]; rfl) (by kernel_rfl) (by kernel_rfl) (by kernel_rfl) (by exact fun _ _ _ h => h) (Or.inl ⟨by rfl, ?hy51020⟩) (by assumption) ?rest51020
            case hy51020 => (intro w hSw; (try dsimp only at hSw); go_simp; try with_reducible rfl)
            try simp only [Act.put, List.setIfInBounds_toArray, List.set_cons_zero, List.set_cons_succ]
            refine wpAnyH_take (i := 10) (oi := _) (v := ?v51021) (by simp only [List.getElem?_toArray, List.getElem?_cons_succ, List.getElem?_cons_zero]; rfl) (by kernel_rfl) (by kernel_rfl) (by kernel_rfl) (by exact fun _ _ _ h => h) (Or.inl ⟨by rfl, ?hy51021⟩) (by assumption) ?rest51021
            case hy51021 => (intro w hSw; (try dsimp only at hSw); go_simp; try with_reducible rfl)
            try simp only [Act.put, List.setIfInBounds_toArray, List.set_cons_zero, List.set_cons_succ]
            refine wpAnyH_take (i := 11) (oi := _) (v := ?v51022) (by simp only [List.getElem?_toArray, List.getElem?_cons_succ, List.getElem?_cons_zero]; rfl) (by kernel_rfl) (by kernel_rfl) (by kernel_rfl) (by exact fun _ _ _ h => h) (Or.inl ⟨by rfl, ?hy51022⟩) (by assumption) ?rest51022
            case hy51022 => (intro w hSw; (try dsimp only at hSw); go_simp; try with_reducible rfl)
            try simp only [Act.put, List.setIfInBounds_toArray, List.set_cons_zero, List.set_cons_succ]
            refine wpAnyH_ready (rs := [6]) (by kernel_rfl) (by simp) ?_
            refine AllReadyH.cons (o := _) (by simp only [List.getElem?_toArray, List.getElem?_cons_succ, List.getElem?_cons_zero]; rfl) (fun K hK => ?_) AllReadyH.nil
            go_simp
            have QA := Lib.hid (((Below.refl w4.heap.size w4).drew).alloc (Nat.le_refl w4.heap.size) (.cells #[.string OP] 9))
            refine hK.out _ _ (HCB.out _ ((BWR.out.chain Q4.out).chain QA.out)) (fun hHeld => ?_)
            clear hK K
            try simp only [Act.put, List.setIfInBounds_toArray, List.set_cons_zero, List.set_cons_succ]
            refine wpAnyH_ready (rs := [12]) (by kernel_rfl) (by simp) ?_
            refine AllReadyH.cons (o := _) (by simp only [List.getElem?_toArray, List.getElem?_cons_succ, List.getElem?_cons_zero]; rfl) (fun K hK => ?_) AllReadyH.nil
            refine step_append_opt rfl (.tmp 73) (.tmp 78) 23 rfl w4.heap.size 9 j0 _ 1 16 Tryd.underlying23 hj hy0 hy1 hy2 rfl (by decide) _ 1 [.string OP] rfl (World.ownsRow_lit (base := w4.heap.size) w4.drew #[.string OP] 1 (Nat.le_refl w4.heap.size) (by unfold maxLen; decide) rfl) AR na ca (tcells args) rfl HTC.out (.inr (HAR.out _ ((BWR.out.chain Q4.out).chain QA.out))) (tcells_oneX _) (by have := HNA.out; unfold maxLen; omega) (by have := HNA.out; omega) QA.out.size ?_
            intro v5 w5 hown5 hg5 hat5
            have Q5 := Lib.hid (QA.out.grown hg5 QA.out.size (fun j hj => by cases hj; exact Nat.le_refl w4.heap.size))
            have ht5 := HTA.out w4 w5 v5 X4.out hown5
            obtain ⟨A5, c5, rfl⟩ := own_form hown5
            have T5 := Lib.hid ht5
            clear hown5 hg5 hat5 ht5
            refine hK.out _ _ (HCB.out _ ((BWR.out.chain Q4.out).chain Q5.out)) (fun hHeld => ?_)
            clear hK K
            try simp only [Act.put, List.setIfInBounds_toArray, List.set_cons_zero, List.set_cons_succ]
            refine wpAnyH_ready (rs := [13]) (by kernel_rfl) (by simp) ?_
            refine AllReadyH.cons (o := _) (by simp only [List.getElem?_toArray, List.getElem?_cons_succ, List.getElem?_cons_zero]; rfl) (fun K hK => ?_) AllReadyH.nil
            go_simp
            have Q6 := Lib.hid (Q5.out.alloc Q5.out.size (.cells #[.slice A5 (1 + na) c5] 23))
            refine hK.out _ _ (HCB.out _ ((BWR.out.chain Q4.out).chain Q6.out)) (fun hHeld => ?_)
            clear hK K
            try simp only [Act.put, List.setIfInBounds_toArray, List.set_cons_zero, List.set_cons_succ]
            refine wpAnyH_ready (rs := [14]) (by kernel_rfl) (by simp) ?_
            refine AllReadyH.cons (o := _) (by simp only [List.getElem?_toArray, List.getElem?_cons_succ, List.getElem?_cons_zero]; rfl) (fun K hK => ?_) AllReadyH.nil
            have x6 := X4.out.later Q6.out
            refine step_append_opt rfl (.tmp 67) (.tmp 80) 35 rfl w1.heap.size 23 i0 _ 1 24 Tryd.underlying35 hi hz0 hz1 hz2 rfl (by decide) _ _ xs rfl x6.row (some ⟨w5.heap.size, 0, none⟩) 1 1 [.slice A5 (1 + na) c5] rfl rfl (.inr ⟨_, rfl, new_cells _ #[_] _⟩) (by intro u hu; simp at hu; subst hu; rfl) (by have := HXL.out; unfold maxLen; omega) (by have := HXL.out; omega) x6.size ?_
            intro v7 w7 hown7 hg7 hat7
            have x7 := x6.item (op :: args) (T5.out.later ((Below.refl w5.heap.size w5).alloc (Nat.le_refl _) (.cells #[.slice A5 (1 + na) c5] 23))) hown7 hg7 hat7
            obtain ⟨A7, c7, rfl⟩ := own_form hown7
            have X7 := Lib.hid x7
            clear hown7 hg7 hat7 x7 x6
            refine hK.out _ _ (HCB.out _ (BW1.out.chain X7.out.low)) (fun hHeld => ?_)
            clear hK K
            try simp only [Act.put, List.setIfInBounds_toArray, List.set_cons_zero, List.set_cons_succ]
            refine wpAnyH_take (i := 15) (oi := _) (v := ?v51027) (by simp only [List.getElem?_toArray, List.getElem?_cons_succ, List.getElem?_cons_zero]; rfl) (by kernel_rfl) (by kernel_rfl) (by kernel_rfl) (by exact fun _ _ _ h => h) (Or.inl ⟨by rfl, ?hy51027⟩) (by assumption) ?rest51027
            case hy51027 => (intro w hSw; (try dsimp only at hSw); go_simp; try with_reducible rfl)
            try simp only [Act.put, List.setIfInBounds_toArray, List.set_cons_zero, List.set_cons_succ]
            refine wpAnyH_done (by kernel_rfl) ?_ _
            go_wp2
            go_roundw
            case rel => exact ⟨k + 1, _, by omega, by go_num, Lib.hid ⟨by rw [HFS2.out, if_pos rfl]; exact X7.out, HNEW.out⟩⟩
            case measure => simp [intOf]; omega
    · obtain rfl : k = n := by omega
      have hkr : decide ((k : Int) < k) = false := by simp
      have htk : l.take k = l := List.take_of_length_le (by have := HN.out; omega)
      obtain ⟨hx1, hx2⟩ := hxs.out
      rw [htk] at hGL hx2
      have hgn2 : (l.filter RU.good).length = gn := by rw [← hgn, ← hGL, List.length_map]
      have hvu := fun W (hW : Below w.heap.size w W) => VIs.more (Nat.le_refl 0) hW.size (HV.out.below hW)
      have hrun : ∀ W, Below w.heap.size w W → Calls Tryd.prog 10 #[.slice A k c, .agg #[.int .i64 ck, .int .i64 cn, .string ct, .slice CA cl cc, .slice CA' cm cc']] W (CRunSays W (runU (l.filter RU.good) u)) := fun W hW => by
        have h1 := HC.out.run W hW A c l (by have := HN.out; omega) (fun r hr => ⟨by have := (hx2 r hr).1; omega, fun x hx => by have := (hx2 r hr).2 x hx; omega⟩) u _ HUX.out (by rw [HN.out]; exact HL.out.below hW) (hvu W hW)
        rw [HN.out] at h1
        exact h1
      have hrrun : ∀ W, Below w.heap.size w W → RdX W (.slice LA gn lc) GL → Calls Tryd.prog 13 #[.slice LA gn lc, .agg #[.int .i64 ck, .int .i64 cn, .string ct, .slice CA cl cc, .slice CA' cm cc']] W (RunSays W (runU (l.filter RU.good) u)) := fun W hW hX => by
        have h1 := refRun_any LA lc (l.filter RU.good) (by omega) (fun r hr => (List.mem_filter.1 hr).2) u _ HUX.out W (by rw [hgn2, hGL]; exact hX) (hvu W hW)
        rw [hgn2] at h1
        exact h1
      obtain ⟨sm, hsm⟩ : ∃ b, (runU (l.filter RU.good) u).isSome = b := ⟨_, rfl⟩
      obtain ⟨Z, hZ⟩ : ∃ Z, (runU (l.filter RU.good) u).getD V.zero = Z := ⟨_, rfl⟩
      unfold CRunSays at hrun
      unfold RunSays at hrrun
      rw [hsm, hZ] at hrun hrrun
      have hdx := hx1.done
      have hss : (sm == sm) = true := by simp
      have hb3 := HC1
      have RUN := Lib.hid hrun; have RRUN := Lib.hid hrrun; have DX := Lib.hid hdx; have LOW := Lib.hid hx1.low
      have hbr : Below W1.heap.size W1 wr := HC1.out.chain hx1.low
      have HBR := Lib.hid hbr
      obtain ⟨e0, e1, e2, e3, e4⟩ := HBX.out _ hbr
      clear hrun hrrun hdx hx1 hx2 hxs hGL hgn hgn2 htk hvu hsm hZ hbr hb3 hfl
      go_wp2_with (first
        | (go_at_call 10; (with_reducible refine (RUN.out _ BWR.out).mono ?_)
           rintro e5 w5 ⟨⟨yk, yn, yt, YA, ya, yb, YA', ya', yb', rfl, hv5⟩, hb5⟩
           have b6 : Below w5.heap.size w5 (w5.alloc (.cells #[.int .i64 yk, .int .i64 yn, .string yt, .slice YA ya yb, .slice YA' ya' yb'] 25)) := (Below.refl _ _).alloc (Nat.le_refl _) _
           clear e0 e1 e2 e3 e4
           obtain ⟨e0, e1, e2, e3, e4⟩ := HBX.out _ ((HBR.out.chain hb5).chain b6)
           have B6 := Lib.hid ((BWR.out.chain hb5).chain b6); have DX6 := Lib.hid ((DX.out.below hb5).below b6); have VY6 := Lib.hid (hv5.below b6); have K6 := Lib.hid (heap_alloc_last w5 (.cells #[.int .i64 yk, .int .i64 yn, .string yt, .slice YA ya yb, .slice YA' ya' yb'] 25)); have S6 := Lib.hid b6.size
           clear hb5 hv5 b6
           dsimp only)
        | (go_at_call 13; (with_reducible refine (RRUN.out _ B6.out DX6.out).mono ?_)
           rintro e7 w7 ⟨⟨zk, zn, zt, ZA, za, zb0, ZA', za', zb', rfl, hv7⟩, hb7⟩
           have b8 : Below w7.heap.size w7 (w7.alloc (.cells #[.int .i64 zk, .int .i64 zn, .string zt, .slice ZA za zb0, .slice ZA' za' zb'] 25)) := (Below.refl _ _).alloc (Nat.le_refl _) _
           clear e0 e1 e2 e3 e4
           have B8 := Lib.hid ((B6.out.chain hb7).chain b8); have VZ8 := Lib.hid (hv7.below b8); have VY8 := Lib.hid (VY6.out.below (((hb7.chain b8)).mono S6.out)); have K8 := Lib.hid (heap_alloc_last w7 (.cells #[.int .i64 zk, .int .i64 zn, .string zt, .slice ZA za zb0, .slice ZA' za' zb'] 25)); have K68 := Lib.hid (blk_below K6.out (hb7.chain b8)); have S8 := Lib.hid b8.size; have T8 := Lib.hid (Nat.le_trans S6.out ((hb7.chain b8).size))
           clear hb7 hv7 b8
           dsimp only)
        | (go_at_call 8; (with_reducible refine (HA.out _ B8.out).mono ?_)
           rintro e9 w9 ⟨rfl, hb9⟩
           obtain ⟨⟨f0, f1, f2, f3, f4⟩, -⟩ := box_of (blk_below K68.out hb9)
           obtain ⟨⟨g0, g1, g2, g3, g4⟩, -⟩ := box_of (blk_below K8.out hb9)
           have B9 := Lib.hid (B8.out.chain hb9); have VY9 := Lib.hid (VY8.out.below (hb9.mono T8.out)); have VZ9 := Lib.hid (VZ8.out.below (hb9.mono S8.out)); have S9 := Lib.hid (Nat.le_trans S8.out hb9.size); have T9 := Lib.hid (Nat.le_trans T8.out hb9.size)
           clear hb9
           dsimp only)
        | (go_at_call 14; (with_reducible refine (refSame_any Z Z _ _ _ _ _ _ _ VY9.out VZ9.out T9.out S9.out).mono ?_)
           rintro ea wa ⟨ba, rfl, hba, hbb⟩
           obtain rfl : ba = true := hba.2 rfl
           have BA := Lib.hid (B9.out.chain hbb)
           clear hbb hba
           dsimp only))
      go_ret
      exact ⟨rfl, BA.out⟩
theorem ruleAny_row {w : World} (A : Option Addr) (c : Nat) (l : List RU) (u : V) (cs : List Value) (h : RdU w (.slice A l.length c) l ∧ l.length ≤ 200000000000000 ∧ ∀ r ∈ l, r.args.length ≤ 200000000000000 ∧ ∀ x ∈ r.args, x.length ≤ 200000000000000) {B : Nat} (hv : VIs w 0 w.heap.size u cs ∧ u.wt ≤ B) (C : CodeRule w) :
    Calls Tryd.prog 4 #[.slice A l.length c, .agg cs.toArray] w fun e w' => e = .returned (.bool true) ∧ Below w.heap.size w w' :=
  ruleAny_at C A c l h.1 (by have := h.2.1; omega) u cs hv.1
end Go.Proofs.YtobicmpgfiddhaaDoor
