/- Texts merged by program, in build order: StoreKeys, StoreRenew2, StoreDoC. -/
import Derived.Test.YtkbjpgfdmkmbmaaGreatDoorG17
import Derived.Test.YtkbjpgfdmkmbmaaGreatDoorG07
import Derived.Sort.OwnSorted
import Derived.Sort.Walk0
import Derived.Test.YtkbjpgfdmkmbmaaGreatDoorG09
import Derived.Test.YtkbjpgfdmkmbmaaGreatDoorG10
import Derived.Test.YtkbjpgfdmkmbmaaGreatDoorG11
set_option linter.unusedVariables false
set_option linter.unusedSimpArgs false
namespace Go.Proofs.YtkbjpgfdmkmbmaaGreatDoor
open Go.RowKit Go.Maps
open Go.Op (bytesLess)
set_option linter.unusedVariables false
set_option linter.unusedSimpArgs false

theorem prefix_take (k p : List UInt8) : Lib.hasPrefix k p = decide (k.take p.length = p) := by
  unfold Lib.hasPrefix
  rw [Bool.eq_iff_iff, List.isPrefixOf_iff_prefix, List.prefix_iff_eq_take]
  simp [eq_comm]
theorem less_le {x y : List UInt8} (h : bytesLess x y = true) : leB x y = true := by
  rw [bytesLess_eq] at h
  have h := of_decide_eq_true h
  exact decide_eq_true (List.le_of_lt h)
theorem rising_pair : ∀ rows : RowL, Rising rows → (rows.map (·.1)).Pairwise (fun x y => leB x y = true)
  | [], _ => List.Pairwise.nil
  | r :: rs, h => by
    rw [List.map_cons]
    refine List.pairwise_cons.2 ⟨fun k hk => ?_, rising_pair rs h.2⟩
    obtain ⟨x, hx, rfl⟩ := List.mem_map.1 hk
    exact less_le (h.1 x hx)
theorem sorted_keys {rows : RowL} (hr : Rising rows) {ss : List (List UInt8)} (hp : ss.Perm (rows.map (·.1))) (p : List UInt8) : (ss.filter fun k => Lib.hasPrefix k p).mergeSort leB = keysR rows p := by
  have h1 : (ss.filter fun k => Lib.hasPrefix k p).Perm (keysR rows p) := by
    unfold keysR
    have : (fun k => Lib.hasPrefix k p) = fun k => decide (k.take p.length = p) := funext fun k => prefix_take k p
    rw [this]
    exact hp.filter _
  rw [mergeSort_of_perm h1]
  exact List.mergeSort_of_pairwise (by unfold keysR; exact (rising_pair rows hr).filter _)
set_option maxRecDepth 100000 in
set_option maxHeartbeats 4000000 in
theorem skeys_any (b : Nat) (rows : RowL) (P : List UInt8) (hl : rows.length ≤ 1000000000) (w : World) (hm : MapAt w b rows) :
    Calls Tryz.prog 38 #[.map (some b), .string ⟨P.toArray⟩] w fun e w' => (∃ v, e = .returned v ∧ RdT w' v (keysR rows P)) ∧ Below w.heap.size w w' := by
  obtain ⟨i0, hi, hz0, hz1, hz2⟩ := info_parts Tryz.infoStrK
  have hb := hm.lt
  have hos := hm.own
  have hrs := hm.rising
  obtain ⟨N, hN⟩ : ∃ N, rows.length = N := ⟨_, rfl⟩
  have hsz := size_rows rows
  have hks := keys_rows rows
  rw [hN] at hl hos hsz
  obtain ⟨Ds, hDs⟩ : ∃ D, rowsD rows = D := ⟨_, rfl⟩
  rw [hDs] at hos hsz hks
  obtain ⟨SP, hSP⟩ : ∃ S : ByteArray, S = ⟨P.toArray⟩ := ⟨_, rfl⟩
  have hpre := fun (k : List UInt8) (W : World) => Tryz.strings_HasPrefix ⟨k.toArray⟩ SP W
  have hpe : ∀ k : List UInt8, Lib.hasPrefix (⟨k.toArray⟩ : ByteArray).data.toList SP.data.toList = Lib.hasPrefix k P := fun k => by rw [hSP]
  simp only [hpe] at hpre
  have hpre2 : ∀ (k : List UInt8) (W : World), Calls Tryz.prog 57 #[.string ⟨k.toArray⟩, .string SP] W fun e w' => e = .returned (.bool (Lib.hasPrefix k P)) ∧ W = w' := fun k W => (hpre k W).mono fun e w' h => ⟨h.1, h.2.symm⟩
  rw [← hSP]
  have HRS := Lib.hid hrs; have HSZ := Lib.hid hsz; have HKS := Lib.hid hks; have PRE := Lib.hid hpre2; have HOS := Lib.hid hos
  clear hm hrs hDs hN hsz hks hpre hpre2 hSP hpe
  go_enter Tryz.func38, Tryz.ntmps38
  go_wp2_with (first
    | (at_range; refine wpList_range_own _ rfl _ 65 rfl 9 78 keyedS Tryz.underMap rowE b N _ rfl hos ?_; intro w0 hrg0 hg0 hs0)
    | go_in)
  go_frame
  rw [HSZ.out] at hrg0
  go_loopw [5, 6] (fun v _ wr => ∃ (left : Lit → Bool) (cnt : Nat) (ss : List (List UInt8)), wr.ranges Tryz.prog 9 rowE b w.heap.size N Ds left cnt ∧ ss.length + cnt ≤ N ∧
      TRow wr (w.heap.size + 1) v (ss.filter fun k => Lib.hasPrefix k P) ∧ Collected Ds left ss ∧ w.grownBy wr none ∧ w.heap.size + 1 ≤ wr.heap.size)
    (fun _ _ wr => wr.rangeLeft b w.heap.size)
  case atStart =>
    exact ⟨_, _, [], hrg0, by simp, World.ownsRow_nil _ _ _ _, Collected.start Ds, hg0, by rw [hs0]; exact Nat.le_refl _⟩
  case round =>
    obtain ⟨left, cnt, ss, hrg, hcn, hT, hC, hgw, hws⟩ := hrel
    go_wp2_with (first
      | (at_next; refine wpList_next_ranges _ rfl _ rfl 9 keyedS rowE (fun l : List UInt8 => .string ⟨l.toArray⟩) rowV (fun key kl hk => by obtain ⟨x, hx, _⟩ := Maps.keyOf_str Tryz.underlying9 hk; exact ⟨x, hx⟩) (fun v y hv => by obtain ⟨x, hx, _⟩ := rowE_inv hv; exact ⟨x, hx⟩) b w.heap.size N _ _ _ rfl hrg ?_ ?_)
      | go_in)
    · intro hc0 hl0
      have hperm := hC.perm hrg.owns keyedS Tryz.underlying9 hl0
      rw [HKS.out] at hperm
      have hsort := sorted_keys HRS.out hperm P
      obtain ⟨L, hL⟩ : ∃ L, (ss.filter fun k => Lib.hasPrefix k P) = L := ⟨_, rfl⟩
      rw [hL] at hT hsort
      have hLn : L.length ≤ 1000000000 := by
        have := List.length_filter_le (fun k => Lib.hasPrefix k P) ss
        rw [hL] at this
        omega
      have hgb : Below w.heap.size w wr := (Below.refl _ _).grown hgw (by exact Nat.le_refl _) (fun j hj => by cases hj)
      have hsl : (keysR rows P).length = L.length := by rw [← hsort]; simp
      rcases hT.2 with ⟨rfl, h0⟩ | ⟨g, cap, cur, rfl, hB, hg, h4, h5, h6, h7⟩
      · have hk0 : keysR rows P = [] := List.length_eq_zero_iff.1 (by rw [hsl]; exact h0)
        have hsr := Lib.hid ((Tryz.slices_Sort_string_none none 0 wr).mono (R' := fun e w' => e = .returned (.tuple #[]) ∧ wr = w') fun e w' h => ⟨h.1, h.2.symm⟩)
        have hend : RdT wr (.slice none 0 0) (keysR rows P) := by
          rw [hk0]
          exact ⟨none, 0, rfl, Nat.le_refl _, fun k x hk => by simp at hk⟩
        have HEND := Lib.hid hend; have BB := Lib.hid hgb
        clear hk0 hend hgb hT h0 hsl hsort hperm hC hL
        go_wp2_with fail
        refine hsr.out.mono ?_
        rintro e w2 ⟨rfl, rfl⟩
        dsimp only
        go_wp2
        go_ret
        exact ⟨⟨_, rfl, HEND.out⟩, BB.out⟩
      · have hsr := Tryz.slices_Sort_string g 0 cap L wr (holds_of_block hg (by have := h7; simp only [Nat.mul_one] at this; exact this)) (Array.getElem?_eq_some_iff.1 hg).1 (by omega)
        have hsr2 : Calls Tryz.prog 58 #[.slice (some ⟨g, 0, none⟩) L.length cap] wr fun e w' => e = .returned (.tuple #[]) ∧ RdT w' (.slice (some ⟨g, 0, none⟩) L.length cap) (keysR rows P) ∧ Below w.heap.size w w' := hsr.mono fun e w' h => by
          obtain ⟨h1, n, os, rfl⟩ := h
          have ho := ownsRow_sorted (n := n) (os := os) (ts := L.mergeSort leB) (ss := L) (by simp) hB hg h4 h5 h6
          rw [hsort] at ho
          have h2 : TRow _ (w.heap.size + 1) _ (keysR rows P) := TRow.cut ho hsl.symm rfl
          refine ⟨h1, ?_, ?_⟩
          · have := h2.rd
            rw [hsort]
            exact this
          · exact hgb.grown (grownBy_sorted _) hgb.size (fun j hj => by have := Option.some.inj hj; omega)
        have HS := Lib.hid hsr2
        clear hsr hsr2 hgb hT hsl hsort hperm hC hL h7 hg
        go_wp2_with fail
        refine HS.out.mono ?_
        rintro e w2 ⟨rfl, hr2, hb2⟩
        have HR2 := Lib.hid hr2; have HB2 := Lib.hid hb2
        clear hr2 hb2
        dsimp only
        go_wp2
        go_ret
        exact ⟨⟨_, rfl, HR2.out⟩, HB2.out⟩
    · intro x cv kl yd yp w1 cnt1 hkey hlx hv hat hrg1 hlt hg1 hs1 hen
      obtain ⟨x', ex, rfl, hxl⟩ := Maps.keyOf_str Tryz.underlying9 hkey
      obtain rfl : x = x' := encStr_inj ex
      have hC2 := hC.step hlx hat
      have hT1 : TRow w1 (w.heap.size + 1) u5 (ss.filter fun k => Lib.hasPrefix k P) := World.ownsRow.kept hT hg1 (.inr fun e => by have := (World.ownsRow.lt hT _ e).1; omega)
      have hgw1 := hgw.andThen hg1 (fun j hj => .inl (by cases hj; exact Nat.le_refl _))
      have hws1 : w.heap.size + 1 ≤ w1.heap.size := by rw [hs1]; exact hws
      have hpx := PRE.out x
      have hlen : (ss.filter fun k => Lib.hasPrefix k P).length ≤ 1000000000 := by
        have := List.length_filter_le (fun k => Lib.hasPrefix k P) ss
        omega
      obtain ⟨SX, hSX⟩ : ∃ S : ByteArray, S = ⟨x.toArray⟩ := ⟨_, rfl⟩
      rw [← hSX] at hen hpx ⊢
      obtain ⟨v0, hv0⟩ : ∃ v, rowV cv = v := ⟨_, rfl⟩
      rw [hv0] at hen ⊢
      have hss : (ss ++ [x]).length = ss.length + 1 := by simp
      have C2 := Lib.hid hC2; have T1 := Lib.hid hT1; have PX := Lib.hid hpx; have HSX := Lib.hid hSX
      clear hs1 hC hC2 hT hT1 hpx hv hkey hat hlx hxl ex hSX hv0 hg1
      cases hp : Lib.hasPrefix x P with
      | false =>
        have hpx := PX.out w1
        rw [hp] at hpx
        have PX2 := Lib.hid hpx
        have hfl : ((ss ++ [x]).filter fun k => Lib.hasPrefix k P) = ss.filter fun k => Lib.hasPrefix k P := by
          rw [List.filter_append, List.filter_cons, if_neg (by rw [hp]; exact Bool.false_ne_true)]
          simp
        have HFL := Lib.hid hfl
        clear hpx hp hfl
        go_wp2_with fail
        refine PX2.out.mono ?_
        rintro e w2 ⟨rfl, rfl⟩
        dsimp only
        go_wp2
        go_roundw
        case rel => exact ⟨_, cnt1, ss ++ [x], hrg1, by omega, by rw [HFL.out]; exact T1.out, C2.out, hgw1, hws1⟩
        case measure => rw [hrg1.left_eq, hrg.left_eq]; exact hlt
      | true =>
        have hpx := PX.out w1
        rw [hp] at hpx
        have PX2 := Lib.hid hpx
        have hfl : ((ss ++ [x]).filter fun k => Lib.hasPrefix k P) = (ss.filter fun k => Lib.hasPrefix k P) ++ [x] := by
          rw [List.filter_append, List.filter_cons, if_pos hp]
          simp
        have HFL := Lib.hid hfl
        clear hpx hp hfl
        obtain ⟨L, hL⟩ : ∃ L, (ss.filter fun k => Lib.hasPrefix k P) = L := ⟨_, rfl⟩
        have HLE := Lib.hid hL
        have hown := T1.out
        rw [hL] at hown hlen
        unfold TRow at hown
        have OWN := Lib.hid hown
        clear hown hL
        go_wp2_with fail
        refine PX2.out.mono ?_
        rintro e w2 ⟨rfl, rfl⟩
        dsimp only
        go_wp2_with (at_builtin; refine wpList_append_opt rfl (.tmp 16) (.tmp 18) 57 rfl (w.heap.size + 1) 9 i0 _ 1 16 Tryz.underlying57 hi hz0 hz1 hz2 rfl (by decide) _ _ _ rfl (World.ownsRow.alloc OWN.out _) (some ⟨_, 0, none⟩) 1 1 [.string SX] rfl rfl (.inr ⟨_, rfl, new_cells _ #[_] _⟩) (by intro u hu; simp at hu; subst hu; rfl) (by unfold maxLen; omega) (by omega) (by simp; omega) ?_)
        intro v8 w8 hown8 hg8 _
        have hg9 : w1.grownBy w8 u5.ownBlock := (World.grownBy_alloc _ _ _).trans hg8
        have hrg2 := hrg1.kept hg9 (fun e => by have := (World.ownsRow.lt OWN.out _ e.symm).1; omega) (fun e => by have := (World.ownsRow.lt OWN.out _ e.symm).1; omega)
        have hgw2 := hgw1.andThen hg9 (fun j hj => .inl (by have := (World.ownsRow.lt OWN.out _ hj).1; omega))
        go_wp2
        go_roundw
        case rel =>
          refine ⟨_, cnt1, ss ++ [x], hrg2, by omega, ?_, C2.out, hgw2, Nat.le_trans hws1 hg9.size⟩
          rw [HFL.out, HLE.out]
          exact TRow.cut hown8 (by rw [List.length_append]; rfl) (by rw [tcells_app, HSX.out]; rfl)
        case measure => rw [hrg2.left_eq, hrg.left_eq]; exact hlt
end Go.Proofs.YtkbjpgfdmkmbmaaGreatDoor
namespace Go.Proofs.YtkbjpgfdmkmbmaaGreatDoor
open Go.RowKit Go.Maps
set_option linter.unusedVariables false
set_option linter.unusedSimpArgs false

theorem zero_row (w : World) : (zeroValue 78).run Tryz.prog w = .ok (rowV []) w := by kernel_rfl
set_option maxRecDepth 100000 in
/-- 'm[k]' of a key that is there -/
theorem MapAt.look {w : World} {b : Nat} {rows : RowL} (h : MapAt w b rows) (k v : List UInt8) (hk : k.length ≤ 1000000000000000) (hg : getR rows k = some v) : (Instr.lookup 65 (.map (some b)) (.string ⟨k.toArray⟩) false).run Tryz.prog w = .ok (rowV v) w := by
  obtain ⟨u, ps, hrun, hv⟩ := h.own.lookup keyedS Tryz.underMap (zero_row w) (rowE_mk []) (keyOf_text k hk)
  rw [at_rows, hg] at hv
  obtain ⟨x, rfl, hx⟩ := rowE_inv hv
  injection hx with hx _
  injection hx with hx
  injection hx with hx
  rw [hrun, hx]
theorem Tryz.infoStrQ : (Tryz.prog.info? 9).map (·.size) = some 1 := by kernel_rfl
theorem run_rowField (W : World) (S : ByteArray) : (Instr.field 78 (.agg #[.string S]) 0).run Tryz.prog W = .ok (.string S) W := by
  have hs : (sizeOf 9).run Tryz.prog W = .ok 1 W := by
    obtain ⟨i0, h0, h1⟩ := Option.map_eq_some_iff.1 Tryz.infoStrQ
    simp [sizeOf, typeInfo, h0, h1]
  have ha : (asAgg (.agg #[.string S])).run Tryz.prog W = .ok #[.string S] W := rfl
  simp [Instr.field, run_underlying Tryz.underlying78, ha, part, hs, Result.andThen]
/-- a tape renewed: the error, the tape -/
def renewS (t : TP) (rows : RowL) : Int × TP := if 32768 < (recL (allR rows)).length then (7, t) else ((t.swap (frameL (recL (allR rows)))).2, (t.swap (frameL (recL (allR rows)))).1)
theorem allR_take (rows : RowL) (k : Nat) (h : k < rows.length) : allR (rows.take (k + 1)) = allR (rows.take k) ++ [⟨rows[k].1, rows[k].2, false⟩] := by
  unfold allR
  rw [List.take_succ_eq_append_getElem h, List.map_append]
  rfl
theorem rowKey_le (rows : RowL) (k : Nat) (h : k < rows.length) : rows[k].1.length ≤ (recL (allR rows)).length := by
  have := recAll_mem (allR rows) ⟨rows[k].1, rows[k].2, false⟩ (List.mem_map.2 ⟨rows[k], List.getElem_mem h, rfl⟩)
  rw [recOne_len] at this
  rw [recL_len]
  have h2 : (Ch.mk rows[k].1 rows[k].2 false).key.length = rows[k].1.length := rfl
  omega
set_option maxRecDepth 100000 in
set_option maxHeartbeats 4000000 in
theorem srenew_any (q b : Nat) (T : Nat → Prop) (t : TP) (rows : RowL) (hr : rows.length ≤ 1000000) (hz : (recL (allR rows)).length ≤ 10000000) (ht : t.Ok) (htl : t.b.length ≤ 100000) (w : World) (hct : CT w T q t) (hro : RoundsIn w) (hm : MapAt w b rows) :
    Calls Tryz.prog 51 #[.pointer (some ⟨q, 0, none⟩), .map (some b)] w fun e w' => e = .returned (.int .i64 (renewS t rows).1) ∧ (∃ T' : Nat → Prop, CT w' T' q (renewS t rows).2 ∧ ∀ b, T' b → T b ∨ w.heap.size ≤ b) ∧ Only T w w' := by
  obtain ⟨i0, hi, hz0, hz1, hz2⟩ := info_parts Tryz.infoChg
  have hks := skeys_any b rows [] (by omega) w hm
  rw [keysR_all] at hks
  have hat := fun k (hk : k < rows.length) => getR_at rows k rows[k] hm.rising (List.getElem?_eq_getElem hk)
  have hkl := fun k (hk : k < rows.length) => rowKey_le rows k hk
  obtain ⟨n, hn⟩ : ∃ n, rows.length = n := ⟨_, rfl⟩
  have hlen : (rows.map (·.1)).length = n := by simp [hn]
  have KS := Lib.hid hks; have HAT := Lib.hid hat; have HKL := Lib.hid hkl; have HN := Lib.hid hn; have HM := Lib.hid hm; have HCT := Lib.hid hct; have HRO := Lib.hid hro; have HZ := Lib.hid hz; have OK := Lib.hid ht; have HLEN := Lib.hid hlen
  rw [hn] at hr
  clear hks hat hkl hn hm hct hro hz ht hlen
  go_enter Tryz.func51, Tryz.ntmps51
  go_wp2_with fail
  refine Calls.mono (by exact KS.out) ?_
  rintro e w1 ⟨⟨v1, rfl, hrd⟩, hb1⟩
  obtain ⟨A1, c1, rfl⟩ := rdt_form hrd
  have B1 := Lib.hid hb1; have RD := Lib.hid hrd
  rw [HLEN.out]
  clear hb1 hrd
  dsimp only
  go_wp2_with fail
  go_loopw [5, 7, 14] (fun v x i W => ∃ k : Nat, k ≤ n ∧ i = .int .i64 k ∧ Hid (CRow W w1.heap.size 37 v (allR (rows.take k)) ∧ Below w1.heap.size w1 W ∧ Below w.heap.size w W)) (fun _ _ i _ => n - (intOf i).toNat)
  case atStart => exact ⟨0, Nat.zero_le _, rfl, Lib.hid ⟨by rw [List.take_zero]; exact World.ownsRow_nil _ _ _ _, Below.refl _ _, B1.out⟩⟩
  case round =>
    obtain ⟨k, hk, rfl, hT⟩ := hrel
    by_cases hlt : k < n
    · have hkr : decide ((k : Int) < n) = true := by simp; omega
      have hk0 : (0 : Int) ≤ k := by omega
      have hk1 : (k : Int) < n := by omega
      have hkl : k < rows.length := by rw [HN.out]; exact hlt
      have hkm : k < (rows.map (·.1)).length := by rw [HLEN.out]; exact hlt
      obtain ⟨g, o, rfl, hg, e0⟩ := (RD.out.below hT.out.2.1).at k hkm
      have hgr := HAT.out k hkl
      have hks := HKL.out k hkl
      have hstep := allR_take rows k hkl
      obtain ⟨x, hx⟩ : ∃ x, rows[k] = x := ⟨_, rfl⟩
      rw [List.getElem_map, hx] at e0
      rw [hx] at hgr hks hstep
      have hlk := (HM.out.below hT.out.2.2).look x.1 x.2 (by have := HZ.out; omega) hgr
      obtain ⟨S1, hS1⟩ : ∃ S : ByteArray, S = ⟨x.1.toArray⟩ := ⟨_, rfl⟩
      obtain ⟨S2, hS2⟩ : ∃ S : ByteArray, S = ⟨x.2.toArray⟩ := ⟨_, rfl⟩
      unfold tv at e0
      unfold rowV at hlk
      rw [← hS1] at e0 hlk
      rw [← hS2] at hlk
      have hown := hT.out.1
      have hln : (allR (rows.take k)).length = k := by unfold allR; rw [List.length_map, List.length_take]; omega
      unfold CRow at hown
      rw [hln] at hown
      have hcc : ccells (allR (rows.take (k + 1))) = ccells (allR (rows.take k)) ++ [.string S1, .string S2, .bool false] := by rw [hstep, ccells_app, hS1, hS2]; rfl
      have hln2 : (allR (rows.take (k + 1))).length = k + 1 := by rw [hstep, List.length_append, hln]; rfl
      have hfd := run_rowField wr S2
      have OWN := Lib.hid hown; have HCC := Lib.hid hcc; have HLN2 := Lib.hid hln2
      have hzz : w1.heap.size ≤ wr.heap.size := hT.out.2.1.size
      have hz0' : w.heap.size ≤ w1.heap.size := B1.out.size
      clear hown hcc hln2 hln hstep hgr hks hx hS1 hS2 hg hkl hkm
      go_wp2_with (at_builtin; refine wpList_append_opt rfl (.tmp 18) (.tmp 25) 22 rfl w1.heap.size 37 i0 _ 3 40 Tryz.underlying22 hi hz0 hz1 hz2 rfl (by decide) _ _ _ rfl (World.ownsRow.alloc OWN.out _) (some ⟨_, 0, none⟩) 1 1 [.string S1, .string S2, .bool false] rfl rfl (.inr ⟨_, rfl, new_cells _ #[_, _, _] _⟩) (by intro u hu; simp at hu; rcases hu with rfl | rfl | rfl <;> rfl) (by unfold maxLen; omega) (by omega) (by simp; omega) ?_)
      intro v8 w8 hown8 hg8 _
      have hb9 : Below w1.heap.size w1 w8 := (hT.out.2.1.alloc hzz _).grown hg8 (by simp; omega) (fun x hx => (OWN.out.lt x hx).1)
      have hb8 : Below w.heap.size w w8 := B1.out.chain hb9
      go_wp2
      go_roundw
      case rel => exact ⟨k + 1, by omega, by go_num, Lib.hid ⟨CRow.cut hown8 (by rw [HLN2.out]) (by rw [HCC.out]), hb9, hb8⟩⟩
      case measure => simp [intOf]; omega
    · obtain rfl : k = n := by omega
      have hkr : decide ((k : Int) < k) = false := by simp
      have htk : rows.take k = rows := by rw [← HN.out]; exact List.take_length
      have hrow := hT.out.1
      rw [htk] at hrow
      have hln : (allR rows).length = k := by unfold allR; rw [List.length_map, HN.out]
      obtain ⟨Ao, co, hu⟩ := own_form hrow
      rw [hln] at hu
      subst hu
      have hpr := sprinted_any Ao k co (allR rows) hln HZ.out wr (by have := hrow.rd; exact this)
      have PR := Lib.hid hpr; have B2 := Lib.hid hT.out.2.2
      clear hpr hrow hln htk hT
      go_wp2_with fail
      refine PR.out.mono ?_
      rintro e w2 ⟨hP, hb2⟩
      have B3 := Lib.hid (B2.out.chain hb2)
      clear hb2
      rcases hP with ⟨hle, v, rfl, hbuf⟩ | ⟨hgt, rfl⟩
      · have hS : renewS t rows = ((t.swap (frameL (recL (allR rows)))).2, (t.swap (frameL (recL (allR rows)))).1) := if_neg (by omega)
        obtain ⟨R, hR⟩ : ∃ R, recL (allR rows) = R := ⟨_, rfl⟩
        rw [hR] at hle hbuf hS
        have HS := Lib.hid hS
        obtain ⟨Av, cv, hv⟩ := own_form hbuf
        subst hv
        have hfr := codeFrame.frame w2 Av cv R (by omega) (HRO.out.below B3.out) hbuf.rd.weak
        obtain ⟨m, hm⟩ : ∃ m, R.length = m := ⟨_, rfl⟩
        rw [hm] at hfr hle
        rw [hm]
        have hFl : (frameL R).length = 8 + m := by rw [frameL_len, hm]
        have FR := Lib.hid hfr; have HFL := Lib.hid hFl
        clear hfr hbuf hS hR hm hFl
        dsimp only
        go_wp2_with fail
        refine FR.out.mono ?_
        rintro e w3 ⟨⟨v4, rfl, hr4, hn4⟩, hb3⟩
        have B4 := Lib.hid (B3.out.chain hb3)
        have hct := tapeW.below HCT.out B4.out
        have hsw := tapeW.swap w3 T q t v4 (frameL R) hct OK.out (by omega) hr4 (by rw [HFL.out]; omega) (fun g hg hT => by
          have h1 := hn4 g hg
          have h2 := tapeW.lt HCT.out g hT
          have h3 := B3.out.size
          omega)
        obtain ⟨A5, c5, rfl⟩ : ∃ A5 c5, v4 = .slice A5 (8 + m) c5 := by
          obtain ⟨A5, c5, e, _⟩ := hr4
          exact ⟨A5, c5, by rw [e, HFL.out]⟩
        have SW := Lib.hid hsw
        have hd : decide ((65536 : Int) < ((8 + m : Nat) : Int)) = false := by simp; omega
        have hd2 : ¬ (65536 : Int) < ((8 + m : Nat) : Int) := by omega
        clear hsw hct hr4 hn4 hb3
        dsimp only
        go_wp2_with fail
        refine SW.out.mono ?_
        rintro e w4 ⟨rfl, ⟨T', hct', hT'⟩, ho4⟩
        have hend : (∃ T'' : Nat → Prop, CT w4 T'' q (t.swap (frameL R)).1 ∧ ∀ b, T'' b → T b ∨ w.heap.size ≤ b) ∧ Only T w w4 := ⟨⟨T', hct', fun b hb => (hT' b hb).imp id (fun h => Nat.le_trans B4.out.size h)⟩, (Only.of_below B4.out).trans ho4⟩
        have HEND := Lib.hid hend
        clear hct' hT' ho4 hend
        dsimp only
        go_wp2
        go_ret
        rw [HS.out]
        exact ⟨rfl, HEND.out⟩
      · have hS : renewS t rows = (7, t) := if_pos hgt
        have HS := Lib.hid hS
        have hfr := codeFrame.frame w2 none 0 [] (by simp) (HRO.out.below B3.out) (RdAt.nil w2).weak
        have FR := Lib.hid hfr
        clear hfr hS hgt
        dsimp only
        go_wp2_with fail
        refine Calls.mono (by exact FR.out) ?_
        rintro e w3 ⟨⟨v4, rfl, hr4, -⟩, hb3⟩
        have B4 := Lib.hid (B3.out.chain hb3)
        have hend : (∃ T'' : Nat → Prop, CT w3 T'' q t ∧ ∀ b, T'' b → T b ∨ w.heap.size ≤ b) ∧ Only T w w3 := ⟨⟨T, tapeW.below HCT.out B4.out, fun b hb => .inl hb⟩, Only.of_below B4.out⟩
        have HEND := Lib.hid hend
        clear hr4 hb3 hend
        dsimp only
        go_wp2
        go_ret
        rw [HS.out]
        exact ⟨rfl, HEND.out⟩
end Go.Proofs.YtkbjpgfdmkmbmaaGreatDoor
namespace Go.Proofs.YtkbjpgfdmkmbmaaGreatDoor
open Go.RowKit Go.Maps
set_option linter.unusedVariables false
set_option linter.unusedSimpArgs false

/-- a record brought on a tape: the error, the tape -/
def layS (t : TP) (R : List UInt8) (rows : RowL) : Int × TP :=
  if 65536 < t.b.length + R.length + 8 then renewS t rows
  else if (t.write (frameL R)).2 = 0 then ((t.write (frameL R)).1.sync.2, (t.write (frameL R)).1.sync.1)
  else ((t.write (frameL R)).2, (t.write (frameL R)).1)
set_option maxRecDepth 100000 in
set_option maxHeartbeats 4000000 in
theorem slay_any (q b : Nat) (T : Nat → Prop) (t : TP) (A : Option Addr) (m c : Nat) (R : List UInt8) (hm : R.length = m) (hm1 : m ≤ 32768) (rows : RowL) (hr : rows.length ≤ 1000000) (hz : (recL (allR rows)).length ≤ 10000000) (ht : t.Ok) (htl : t.b.length ≤ 100000) (w : World) (hct : CT w T q t) (hro : RoundsIn w) (hma : MapAt w b rows) (h : RdW w (.slice A m c) R) :
    Calls Tryz.prog 32 #[.pointer (some ⟨q, 0, none⟩), .slice A m c, .map (some b)] w fun e w' => e = .returned (.int .i64 (layS t R rows).1) ∧ (∃ T' : Nat → Prop, CT w' T' q (layS t R rows).2 ∧ ∀ b, T' b → T b ∨ w.heap.size ≤ b) ∧ Only T w w' := by
  have hfr := codeFrame.frame w A c R (by omega) hro (by rw [hm]; exact h)
  rw [hm] at hfr
  have hFl : (frameL R).length = 8 + m := by rw [frameL_len, hm]
  obtain ⟨tl, htle⟩ : ∃ n, t.b.length = n := ⟨_, rfl⟩
  rw [htle] at htl
  have FR := Lib.hid hfr; have HFL := Lib.hid hFl; have HCT := Lib.hid hct; have HRO := Lib.hid hro; have HMA := Lib.hid hma; have OK := Lib.hid ht; have HZ := Lib.hid hz; have HTL := Lib.hid htle; have HM := Lib.hid hm
  clear hfr hFl hct hro hma ht hz htle hm h
  go_enter Tryz.func32, Tryz.ntmps32
  go_wp2_with fail
  refine FR.out.mono ?_
  rintro e w1 ⟨⟨v1, rfl, hr1, hn1⟩, hb1⟩
  obtain ⟨A5, c5, rfl⟩ : ∃ A5 c5, v1 = .slice A5 (8 + m) c5 := by
    obtain ⟨A5, c5, e, _⟩ := hr1
    exact ⟨A5, c5, by rw [e, HFL.out]⟩
  have hct1 := tapeW.below HCT.out hb1
  have hby := tapeW.bytes w1 T q t hct1 (by rw [HTL.out]; omega)
  rw [HTL.out] at hby
  have BY := Lib.hid hby; have R1 := Lib.hid hr1; have N1 := Lib.hid hn1; have B1 := Lib.hid hb1
  clear hct1 hby hr1 hn1 hb1
  dsimp only
  go_wp2_with fail
  refine BY.out.mono ?_
  rintro e w2 ⟨⟨A2, c2, rfl, -, -⟩, hb2⟩
  have B2 := Lib.hid (B1.out.chain hb2)
  have hr2 := R1.out.below hb2
  have R2 := Lib.hid hr2
  clear hb2 hr2
  have hw8 : IntKind.i64.wrap ((tl : Int) + ((8 + m : Nat) : Int)) = (tl : Int) + ((8 + m : Nat) : Int) := wraps_i64 _ (by omega) (by omega)
  by_cases hbig : 65536 < tl + m + 8
  · have hS : layS t R rows = renewS t rows := if_pos (by rw [HTL.out, HM.out]; exact hbig)
    have HS := Lib.hid hS
    have hd : decide ((65536 : Int) < (tl : Int) + (8 + (m : Int))) = true := by simp; omega
    have hd2 : (65536 : Int) < (tl : Int) + (8 + (m : Int)) := by omega
    have hre := srenew_any q b T t rows hr HZ.out OK.out (by rw [HTL.out]; exact htl) w2 (tapeW.below HCT.out B2.out) (HRO.out.below B2.out) (HMA.out.below B2.out)
    have RE := Lib.hid hre
    clear hS hre hbig
    dsimp only
    go_wp2_with fail
    refine RE.out.mono ?_
    rintro e w3 ⟨rfl, ⟨T', hct', hT'⟩, ho3⟩
    have hend : (∃ T'' : Nat → Prop, CT w3 T'' q (renewS t rows).2 ∧ ∀ b, T'' b → T b ∨ w.heap.size ≤ b) ∧ Only T w w3 := ⟨⟨T', hct', fun b hb => (hT' b hb).imp id (fun h => Nat.le_trans B2.out.size h)⟩, (Only.of_below B2.out).trans ho3⟩
    have HEND := Lib.hid hend
    clear hct' hT' ho3 hend
    dsimp only
    go_wp2
    go_ret
    rw [HS.out]
    exact ⟨rfl, HEND.out⟩
  · have hS : layS t R rows = if (t.write (frameL R)).2 = 0 then ((t.write (frameL R)).1.sync.2, (t.write (frameL R)).1.sync.1) else ((t.write (frameL R)).2, (t.write (frameL R)).1) := if_neg (by rw [HTL.out, HM.out]; exact hbig)
    have hd : decide ((65536 : Int) < (tl : Int) + (8 + (m : Int))) = false := by simp; omega
    have hd2 : ¬ (65536 : Int) < (tl : Int) + (8 + (m : Int)) := by omega
    have hwr := tapeW.write w2 T q t (.slice A5 (8 + m) c5) (frameL R) (tapeW.below HCT.out B2.out) OK.out (by rw [HTL.out]; omega) R2.out (by rw [HFL.out]; omega) (fun g hg hT => by
      have h1 := N1.out g hg
      have h2 := tapeW.lt HCT.out g hT
      omega)
    have hwo := TP.write_ok OK.out (frameL R)
    have hws : (t.write (frameL R)).1.b.length ≤ 100000000 := by
      have := hwo.2
      rw [HTL.out, HFL.out] at this
      omega
    obtain ⟨WR, hWR⟩ : ∃ x, t.write (frameL R) = x := ⟨_, rfl⟩
    rw [hWR] at hS hwr hwo hws
    obtain ⟨E1, hE1⟩ : ∃ E, WR.2 = E := ⟨_, rfl⟩
    rw [hE1] at hS hwr
    have HS := Lib.hid hS; have HW := Lib.hid hwr; have WO := Lib.hid hwo.1; have WS := Lib.hid hws
    clear hS hwr hwo hws hWR hbig hE1
    dsimp only
    go_wp2_with fail
    refine HW.out.mono ?_
    rintro e w3 ⟨rfl, ⟨T1, hct3, hT1⟩, ho3⟩
    have CT3 := Lib.hid hct3; have HT1 := Lib.hid hT1
    have ho := (Only.of_below B2.out).trans ho3
    have O3 := Lib.hid ho; have SZ2 := Lib.hid B2.out.size; have SZ3 := Lib.hid ho3.size; have ON3 := Lib.hid ho3
    clear hct3 hT1 ho3 ho
    by_cases hE : E1 = 0
    · subst hE
      have hS := HS.out
      rw [if_pos rfl] at hS
      have HS2 := Lib.hid hS
      have hsy := tapeW.sync w3 T1 q WR.1 CT3.out WO.out WS.out
      have SY := Lib.hid hsy
      clear hS hsy
      dsimp only
      go_wp2_with fail
      refine SY.out.mono ?_
      rintro e w4 ⟨rfl, ⟨T2, hct4, hT2⟩, ho4⟩
      have hend : (∃ T'' : Nat → Prop, CT w4 T'' q WR.1.sync.1 ∧ ∀ b, T'' b → T b ∨ w.heap.size ≤ b) ∧ Only T w w4 := by
        refine ⟨⟨T2, hct4, fun b hb => ?_⟩, O3.out.then ho4 fun i hi hlt => ?_⟩
        · have h1 := SZ2.out; have h2 := SZ3.out
          rcases hT2 b hb with h | h
          · rcases HT1.out b h with h | h
            · exact .inl h
            · exact .inr (by omega)
          · exact .inr (by omega)
        · rcases HT1.out i hi with h | h
          · exact h
          · have := SZ2.out; omega
      have HEND := Lib.hid hend
      clear hct4 hT2 ho4 hend
      dsimp only
      go_wp2
      go_ret
      rw [HS2.out]
      exact ⟨rfl, HEND.out⟩
    · have hS := HS.out
      rw [if_neg hE] at hS
      have HS2 := Lib.hid hS
      have hend : (∃ T'' : Nat → Prop, CT w3 T'' q WR.1 ∧ ∀ b, T'' b → T b ∨ w.heap.size ≤ b) ∧ Only T w w3 := ⟨⟨T1, CT3.out, fun b hb => (HT1.out b hb).imp id (fun h => Nat.le_trans SZ2.out h)⟩, O3.out⟩
      have HEND := Lib.hid hend
      clear hS hend
      dsimp only
      go_wp2
      go_ret
      rw [HS2.out]
      exact ⟨rfl, HEND.out⟩
theorem doS_lay (t : TP) (rows : RowL) (l : List Ch) (h0 : l.length ≠ 0) (hs : (recL l).length ≤ 32768) :
    doS t rows l = ((layS t (recL l) (turnL rows l)).1, (if (layS t (recL l) (turnL rows l)).1 = 0 then turnL rows l else rows), (layS t (recL l) (turnL rows l)).2) := by
  unfold doS layS renewS
  rw [if_neg h0, if_neg (show ¬ 32768 < (recL l).length by omega)]
  by_cases h1 : 65536 < t.b.length + (recL l).length + 8
  · rw [if_pos h1, if_pos h1]
    by_cases h2 : 32768 < (recL (allR (turnL rows l))).length
    · rw [if_pos h2, if_pos h2]
      rfl
    · rw [if_neg h2, if_neg h2]
  · rw [if_neg h1, if_neg h1]
    by_cases h2 : (t.write (frameL (recL l))).2 = 0
    · rw [if_pos h2, if_pos h2]
    · rw [if_neg h2, if_neg h2]
      dsimp only
      rw [if_neg h2]
/-- the code's store: its struct, its map's block -/
def CStore (w : World) (S : Nat → Prop) (p q : Nat) (rows : RowL) : Prop := ∃ b, StoreBox w p q b ∧ MapAt w b rows ∧ ∀ x, S x ↔ x = p ∨ x = b
set_option maxRecDepth 100000 in
set_option maxHeartbeats 4000000 in
theorem sdo_any (T S : Nat → Prop) (p q : Nat) (t : TP) (rows : RowL) (A : Option Addr) (c : Nat) (l : List Ch) (w : World) (hct : CT w T q t) (hcs : CStore w S p q rows) (hST : ∀ b, S b → ¬ T b) (ht : t.Ok) (htl : t.b.length ≤ 100000) (hr : rows.length ≤ 50000) (hro : RoundsIn w) (h : RdC w (.slice A l.length c) l) (hl : l.length ≤ 50000) (hz : (recL l).length ≤ 1000000) (hz2 : (recL (allR (turnL rows l))).length ≤ 1000000) :
    Calls Tryz.prog 17 #[.pointer (some ⟨p, 0, none⟩), .slice A l.length c] w fun e w' =>
    e = .returned (.int .i64 (doS t rows l).1) ∧ (∃ T' S' : Nat → Prop, CT w' T' q (doS t rows l).2.2 ∧ CStore w' S' p q (doS t rows l).2.1 ∧ (∀ b, S' b → ¬ T' b) ∧ (∀ b, T' b ∨ S' b → T b ∨ S b ∨ w.heap.size ≤ b)) ∧ Only (fun b => T b ∨ S b) w w' := by
  obtain ⟨b, hbx, hm, hS⟩ := hcs
  have hzx : ∀ x ∈ l, x.key.length ≤ 10000000 ∧ x.val.length ≤ 10000000 := fun x hx => by have := recOne_le l x hx; omega
  have hrl : (turnL rows l).length ≤ 1000000 := by have := turnL_le l rows; omega
  obtain ⟨n, hn⟩ : ∃ n, l.length = n := ⟨_, rfl⟩
  rw [hn] at h hl ⊢
  have hpr := sprinted_any A n c l hn (by omega) w h
  have hbe := fun W (hb : Below w.heap.size w W) => sbehind_any p q b rows A n c l hn (by omega) hzx (by omega) W (blk_below hbx hb) (hm.below hb) (h.below hb)
  have PR := Lib.hid hpr; have BE := Lib.hid hbe; have HCT := Lib.hid hct; have HBX := Lib.hid hbx; have HM := Lib.hid hm; have HS := Lib.hid hS; have HST := Lib.hid hST; have OK := Lib.hid ht; have HTL := Lib.hid htl; have HRO := Lib.hid hro; have HRL := Lib.hid hrl; have HZ2 := Lib.hid hz2; have HN := Lib.hid hn
  clear hpr hbe hct hbx hm hS hST ht htl hro h hrl hz2 hzx
  by_cases h0 : n = 0
  · have hd : doS t rows l = (0, rows, t) := if_pos (by rw [hn]; exact h0)
    have HD := Lib.hid hd
    subst h0
    clear hd hn
    go_enter Tryz.func17, Tryz.ntmps17
    go_wp2
    go_ret
    rw [HD.out]
    exact ⟨rfl, ⟨T, S, HCT.out, ⟨b, HBX.out, HM.out, HS.out⟩, HST.out, fun b hb => hb.elim .inl (fun h => .inr (.inl h))⟩, Only.refl _ _⟩
  · have q0 : ((n : Int) == 0) = false := by simp; omega
    have q1 : decide ((n : Int) = 0) = false := by simp; omega
    clear hn
    go_enter Tryz.func17, Tryz.ntmps17
    go_wp2_with fail
    refine PR.out.mono ?_
    rintro e w1 ⟨hP, hb1⟩
    have B1 := Lib.hid hb1
    clear hb1
    rcases hP with ⟨hle, v, rfl, hbuf⟩ | ⟨hgt, rfl⟩
    · have hd := doS_lay t rows l (by rw [HN.out]; exact h0) hle
      obtain ⟨R, hR⟩ : ∃ R, recL l = R := ⟨_, rfl⟩
      obtain ⟨R2, hR2⟩ : ∃ R, turnL rows l = R := ⟨_, rfl⟩
      rw [hR, hR2] at hd
      rw [hR] at hle hbuf
      obtain ⟨LY, hLY⟩ : ∃ x, layS t R R2 = x := ⟨_, rfl⟩
      rw [hLY] at hd
      obtain ⟨Av, cv, hv⟩ := own_form hbuf
      subst hv
      obtain ⟨m, hm⟩ : ∃ m, R.length = m := ⟨_, rfl⟩
      rw [hm] at hle ⊢
      have hrec := hbuf.rd.weak
      rw [hm] at hrec
      have hbe := BE.out w1 B1.out
      rw [hR2] at hbe
      have hrl := HRL.out
      have hz2 := HZ2.out
      rw [hR2] at hrl hz2
      have HD := Lib.hid hd; have BE2 := Lib.hid hbe; have HREC := Lib.hid hrec; have HM2 := Lib.hid hm; have HLY := Lib.hid hLY; have HRL2 := Lib.hid hrl; have HZ3 := Lib.hid hz2; have HR2 := Lib.hid hR2
      clear hd hbe hrec hm hLY hrl hz2 hbuf hR hR2
      dsimp only
      go_wp2_with fail
      refine BE2.out.mono ?_
      rintro e w2 ⟨⟨bd, rfl, hmd, hnew⟩, hb2⟩
      have B2 := Lib.hid (B1.out.chain hb2)
      have hbx2 := blk_below HBX.out B2.out
      have c0 : w2.cell? ⟨p, 0, none⟩ = some (.pointer (some ⟨q, 0, none⟩)) := (cell_here hbx2).trans rfl
      have hnew2 : w.heap.size ≤ bd := Nat.le_trans B1.out.size hnew
      have hly := slay_any q bd T t Av m cv R HM2.out hle R2 HRL2.out (by have := HZ3.out; omega) OK.out HTL.out w2 (tapeW.below HCT.out B2.out) (HRO.out.below B2.out) hmd (HREC.out.below hb2)
      rw [HLY.out] at hly
      have LA := Lib.hid hly; have MD := Lib.hid hmd; have NW := Lib.hid hnew2
      clear hly hmd hnew hb2 hbx2 hnew2
      dsimp only
      go_wp2_with fail
      refine LA.out.mono ?_
      rintro e w3 ⟨rfl, ⟨T', hct', hT'⟩, ho3⟩
      have hpT : ¬ T p := HST.out p ((HS.out p).2 (.inl rfl))
      have hbT : ¬ T b := HST.out b ((HS.out b).2 (.inr rfl))
      have hbdT : ¬ T bd := fun e => by have := tapeW.lt HCT.out bd e; have := NW.out; omega
      have hplt : p < w.heap.size := (Array.getElem?_eq_some_iff.1 HBX.out).1
      have hbx3 : StoreBox w3 p q b := (ho3.block p (Nat.lt_of_lt_of_le hplt B2.out.size) hpT).trans (blk_below HBX.out B2.out)
      have hm3 : MapAt w3 b rows := (HM.out.below B2.out).keep (ho3.block b (Nat.lt_of_lt_of_le HM.out.lt B2.out.size) hbT)
      have hmd3 : MapAt w3 bd R2 := MD.out.keep (ho3.block bd MD.out.lt hbdT)
      have ho : Only T w w3 := (Only.of_below B2.out).trans ho3
      have hTn : ∀ x, x < w2.heap.size → ¬ T x → ¬ T' x := fun x hx hn hT => by
        rcases hT' x hT with h | h
        · exact hn h
        · omega
      have hpT' : ¬ T' p := hTn p (Nat.lt_of_lt_of_le hplt B2.out.size) hpT
      have hbT' : ¬ T' b := hTn b (Nat.lt_of_lt_of_le HM.out.lt B2.out.size) hbT
      have hbdT' : ¬ T' bd := hTn bd MD.out.lt hbdT
      have hTw : ∀ x, T' x → T x ∨ w.heap.size ≤ x := fun x hx => (hT' x hx).imp id (fun h => Nat.le_trans B2.out.size h)
      obtain ⟨⟨c0, c1⟩, f0, f1⟩ : (w3.cell? ⟨p, 0, none⟩ = some (.pointer (some ⟨q, 0, none⟩)) ∧ w3.cell? ⟨p, 1, none⟩ = some (.map (some b))) ∧ w3.frozen? ⟨p, 0, none⟩ = false ∧ w3.frozen? ⟨p, 1, none⟩ = false := ⟨⟨(cell_here hbx3).trans rfl, (cell_here hbx3).trans rfl⟩, frozen_here hbx3 _, frozen_here hbx3 _⟩
      by_cases hE : LY.1 = 0
      · have hd := HD.out
        rw [if_pos hE, hE] at hd
        rw [hE]
        have hbx4 : StoreBox (w3.setCell ⟨p, 1, none⟩ (.map (some bd))) p q bd := by
          have := set_here (o := 1) hbx3 (.map (some bd))
          unfold StoreBox
          simpa using this
        have hend : (∃ T'' S' : Nat → Prop, CT (w3.setCell ⟨p, 1, none⟩ (.map (some bd))) T'' q LY.2 ∧ CStore (w3.setCell ⟨p, 1, none⟩ (.map (some bd))) S' p q R2 ∧ (∀ b, S' b → ¬ T'' b) ∧ (∀ b, T'' b ∨ S' b → T b ∨ S b ∨ w.heap.size ≤ b)) ∧ Only (fun b => T b ∨ S b) w (w3.setCell ⟨p, 1, none⟩ (.map (some bd))) := by
          refine ⟨⟨T', fun x => x = p ∨ x = bd, tapeW.keep hct' (by rw [set_size]; exact Nat.le_refl _) (fun x hx => set_there _ (fun e => hpT' (e ▸ hx))), ⟨bd, hbx4, hmd3.keep (set_there _ (fun e => by have := NW.out; omega)), fun x => Iff.rfl⟩, ?_, ?_⟩, ?_⟩
          · rintro x (rfl | rfl)
            · exact hpT'
            · exact hbdT'
          · rintro x (hx | rfl | rfl)
            · exact (hTw x hx).imp id .inr
            · exact .inr (.inl ((HS.out _).2 (.inl rfl)))
            · exact .inr (.inr NW.out)
          · exact (ho.mono fun i _ h => .inl h).set (.inr ((HS.out p).2 (.inl rfl))) _
        have HEND := Lib.hid hend; have HD2 := Lib.hid hd
        clear hend hd hbx4 hct' hT' ho3 hpT hbT hbdT hplt hbx3 hm3 hmd3 ho hTn hpT' hbT' hbdT' hTw
        dsimp only
        go_wp2
        go_ret
        rw [HD2.out]
        exact ⟨rfl, HEND.out⟩
      · have hd := HD.out
        rw [if_neg hE] at hd
        obtain ⟨E1, hE1⟩ : ∃ E, LY.1 = E := ⟨_, rfl⟩
        rw [hE1] at hd hE
        rw [hE1]
        have hend : (∃ T'' S' : Nat → Prop, CT w3 T'' q LY.2 ∧ CStore w3 S' p q rows ∧ (∀ b, S' b → ¬ T'' b) ∧ (∀ b, T'' b ∨ S' b → T b ∨ S b ∨ w.heap.size ≤ b)) ∧ Only (fun b => T b ∨ S b) w w3 := by
          refine ⟨⟨T', S, hct', ⟨b, hbx3, hm3, HS.out⟩, ?_, ?_⟩, ho.mono fun i _ h => .inl h⟩
          · intro x hx
            rcases (HS.out x).1 hx with rfl | rfl
            · exact hpT'
            · exact hbT'
          · rintro x (hx | hx)
            · exact (hTw x hx).imp id .inr
            · exact .inr (.inl hx)
        have HEND := Lib.hid hend; have HD2 := Lib.hid hd
        clear hend hd hct' hT' ho3 hpT hbT hbdT hplt hbx3 hm3 hmd3 ho hTn hpT' hbT' hbdT' hTw hE1 c0 c1 f0 f1
        dsimp only
        go_wp2
        go_ret
        rw [HD2.out]
        exact ⟨rfl, HEND.out⟩
    · have hd : doS t rows l = (3, rows, t) := by
        unfold doS
        rw [if_neg (by rw [HN.out]; exact h0), if_pos hgt]
      have HD := Lib.hid hd
      have hend : (∃ T' S' : Nat → Prop, CT w1 T' q t ∧ CStore w1 S' p q rows ∧ (∀ b, S' b → ¬ T' b) ∧ (∀ b, T' b ∨ S' b → T b ∨ S b ∨ w.heap.size ≤ b)) ∧ Only (fun b => T b ∨ S b) w w1 :=
        ⟨⟨T, S, tapeW.below HCT.out B1.out, ⟨b, blk_below HBX.out B1.out, HM.out.below B1.out, HS.out⟩, HST.out, fun b hb => hb.elim .inl (fun h => .inr (.inl h))⟩, Only.of_below B1.out⟩
      have HEND := Lib.hid hend
      clear hd hend hgt
      dsimp only
      go_wp2
      go_ret
      rw [HD.out]
      exact ⟨rfl, HEND.out⟩
end Go.Proofs.YtkbjpgfdmkmbmaaGreatDoor
