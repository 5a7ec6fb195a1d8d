/- The reference's digits. -/
import Derived.Test.YtefnkkjmcfpiaaaDoorBase
import Derived.Test.YtefnkkjmcfpiaaaDoorJsonPure
import Derived.Deep.RegionWith
import Derived.Deep.MidRow
namespace Go.Proofs.YtefnkkjmcfpiaaaDoor
open Go.RowKit

theorem dec_size (n : Nat) (h : n < 18446744073709551616) : (decL n).length ≤ 20 := decL_len n 20 (Nat.lt_of_lt_of_le h (by decide)) (by decide)
theorem conv_at (W : World) (g : Nat) (l : List UInt8) (n c : Nat) (hn : n = l.length) (h : ∀ j (hj : j < l.length), W.cell? ⟨g, j, none⟩ = some (.int .u8 (l[j].toNat : Int))) :
    (convert 54 9 (.slice (some ⟨g, 0, none⟩) n c)).run Tryd.prog W = .ok (.string ⟨l.toArray⟩) W := by
  subst hn
  refine run_convert_bytes_back (P := Tryd.prog) W 54 9 5 ⟨g, 0, none⟩ c l Tryd.underlying54 Tryd.underlying5 Tryd.underlying9 (fun j hj => ?_)
  rw [Addr.add_mid, Nat.zero_add]; exact h j hj
set_option maxRecDepth 100000 in
set_option maxHeartbeats 1000000 in
theorem dec_any (n : Nat) : ∀ (w : World), n < 18446744073709551616 →
    Calls Tryd.prog 42 #[.int .u64 (n : Int)] w fun e w' => e = .returned (.string ⟨(decL n).toArray⟩) ∧ Below w.heap.size w w' := by
  induction n using Nat.strongRecOn with
  | _ n ih =>
    intro w hn
    have hdv := digit_val n
    by_cases h : n < 10
    · have hd : decide ((n : Int) < 10) = true := by simp; omega
      have e : decL n = [digit n] := by unfold decL; rw [if_pos h]
      have hx : (48 : Int) + (n : Int) = ((digit n).toNat : Int) := by omega
      have hcv := conv_new w [digit n] #[.int .u8 (48 + (n : Int))] 1 1 rfl (by rw [hx]; rfl)
      rw [← e] at hcv
      have HE := Lib.hid e; clear e hx hdv
      have bn : (n : Int) < 10 := by omega
      clear ih
      go_enter Tryd.func42, Tryd.ntmps42
      go_wp2
      go_ret
      exact ⟨rfl, (Below.refl _ _).alloc (Nat.le_refl _) _⟩
    · have hd : decide ((n : Int) < 10) = false := by simp; omega
      have hih := fun w => ih (n / 10) (by omega) w (by omega)
      have hc : ((n / 10 : Nat) : Int) = (n : Int) / 10 := by omega
      rw [hc] at hih
      have e : decL n = decL (n / 10) ++ [digit n] := by rw [decL, if_neg h]
      have hl := dec_size (n / 10) (by omega)
      have hw1 : IntKind.u64.wrap ((n : Int) / 10) = (n : Int) / 10 := by rw [IntKind.wrap_u64]; omega
      have hw2 : (n : Int).tmod 10 = (n : Int) % 10 := Int.tmod_eq_emod_of_nonneg (by omega)
      have hw3 : IntKind.u8.wrap ((n : Int) % 10) = (n : Int) % 10 := by rw [IntKind.wrap_u8]; omega
      have hw4 : IntKind.u8.wrap (48 + (n : Int) % 10) = 48 + (n : Int) % 10 := by rw [IntKind.wrap_u8]; omega
      have hx : (48 : Int) + (n : Int) % 10 = ((digit n).toNat : Int) := by omega
      have HX := Lib.hid hx
      have hcn : ∀ (W : World) (g : Nat), W.cell? ⟨g, 0, none⟩ = some (.int .u8 (48 + (n : Int) % 10)) → (convert 54 9 (.slice (some ⟨g, 0, none⟩) 1 1)).run Tryd.prog W = .ok (.string ⟨[digit n].toArray⟩) W := fun W g hc =>
        conv_at W g [digit n] 1 1 rfl (fun j hj => by
          have : j = 0 := by simpa using hj
          subst this
          rw [hc, hx]; rfl)
      obtain ⟨D, hD⟩ : ∃ D : ByteArray, D = ⟨(decL (n / 10)).toArray⟩ := ⟨_, rfl⟩
      obtain ⟨G, hG⟩ : ∃ G : ByteArray, G = ⟨[digit n].toArray⟩ := ⟨_, rfl⟩
      have hDs : D.size ≤ 20 := by rw [hD]; exact hl
      have hGs : G.size = 1 := by rw [hG]; rfl
      have hfin : D ++ G = ⟨(decL n).toArray⟩ := by
        rw [e, hD, hG]; apply ByteArray.ext; simp
      rw [← hD] at hih
      rw [← hG] at hcn
      have e2 : ∀ W, (Op.stringOp .add D G).run Tryd.prog W = .ok (.string (D ++ G)) W := fun W => run_string_add_sum W _ _ (by omega)
      have hc1 : ∀ W : World, (convert 54 9 (.slice (some ⟨W.heap.size, 0, none⟩) 1 1)).run Tryd.prog (W.alloc (.cells #[.int .u8 (48 + (n : Int) % 10)] 5)) = .ok (.string G) (W.alloc (.cells #[.int .u8 (48 + (n : Int) % 10)] 5)) := fun W => hcn _ _ (new_cells W #[_] _ 0 _ rfl)
      have hc2 : (convert 54 9 (.slice (some ⟨w.heap.size, 0, none⟩) 1 1)).run Tryd.prog (w.alloc (.cells #[.int .u8 (48 + (n : Int) % 10)] 5)).drew = .ok (.string G) (w.alloc (.cells #[.int .u8 (48 + (n : Int) % 10)] 5)).drew := hcn _ _ (new_cells w #[_] _ 0 _ rfl)
      have hnc : (w.alloc (.cells #[.int .u8 (48 + (n : Int) % 10)] 5)).drew.cell? ⟨w.heap.size, 0, none⟩ = some (.int .u8 (48 + (n : Int) % 10)) := new_cells w #[_] _ 0 _ rfl
      have hns : w.heap.size < (w.alloc (.cells #[.int .u8 (48 + (n : Int) % 10)] 5)).drew.heap.size := by simp
      have HNC := Lib.hid hnc; have HNS := Lib.hid hns; have HFIN := Lib.hid hfin
      clear e hdv hc hx hD hG hDs hGs hfin hnc hns hl
      have HIH := Lib.hid hih; have HN := Lib.hid hn; have HCN := Lib.hid hcn
      clear hcn
      have hn2 : (n : Int) ≤ 18446744073709551615 := by omega
      clear ih hih hn
      go_enter Tryd.func42, Tryd.ntmps42
      go_wp2_with fail
      go_region_with (go_at_call 42; with_reducible refine (HIH.out _).mono ?_; rintro e1 w1 ⟨rfl, hb1⟩; try (have hz := HCN.out w1 w.heap.size ((hb1.cell (p := ⟨w.heap.size, 0, none⟩) HNS.out).trans HNC.out)))
      all_goals
        go_wp2
        go_ret
        refine ⟨congrArg (fun x => Ending.returned (.string x)) HFIN.out, ?_⟩
        first
          | exact (below_drew2 _ _ hb1).alloc (below_drew2 _ _ hb1).size _
          | exact ((((Below.refl w.heap.size w).alloc (Nat.le_refl _) _).drew).trans (hb1.mono (by simp)))
theorem decI_size (n : Int) (h : -9223372036854775808 ≤ n ∧ n ≤ 9223372036854775807) : (decI n).length ≤ 21 := by
  have := dec_size n.natAbs (by omega)
  unfold decI; split
  · rw [List.length_cons]; omega
  · omega
set_option maxRecDepth 100000 in
theorem refDec_any (n : Int) (h : -9223372036854775808 ≤ n ∧ n ≤ 9223372036854775807) (w : World) :
    Calls Tryd.prog 33 #[.int .i64 n] w fun e w' => e = .returned (.string ⟨(decI n).toArray⟩) ∧ Below w.heap.size w w' := by
  by_cases hn : n < 0
  · have hd : decide (n < 0) = true := by simp; omega
    obtain ⟨m, hm⟩ : ∃ m : Nat, n.natAbs = m := ⟨_, rfl⟩
    have hc := fun w => dec_any m w (by omega)
    have e0 : -(n + 1) = (m : Int) - 1 := by omega
    have e1 : IntKind.u64.wrap (-(n + 1)) + 1 = (m : Int) := by rw [e0, IntKind.wrap_u64]; omega
    have e2 : IntKind.u64.wrap (m : Int) = (m : Int) := by rw [IntKind.wrap_u64]; omega
    have hs := dec_size m (by omega)
    have hfin : decI n = 45 :: decL m := by unfold decI; rw [if_pos hn, hm]
    obtain ⟨D, hD⟩ : ∃ D : ByteArray, D = ⟨(decL m).toArray⟩ := ⟨_, rfl⟩
    have hDs : D.size ≤ 20 := by rw [hD]; exact hs
    have hf2 : (⟨#[45]⟩ : ByteArray) ++ D = ⟨(decI n).toArray⟩ := by rw [hfin, hD]; apply ByteArray.ext; simp
    rw [← hD] at hc
    have e3 : ∀ W, (Op.stringOp .add ⟨#[45]⟩ D).run Tryd.prog W = .ok (.string (⟨#[45]⟩ ++ D)) W := fun W => run_string_add_sum W _ _ (by show 1 + D.size ≤ _; omega)
    have HC := Lib.hid hc; have HF := Lib.hid hf2
    clear hc hf2 hfin hD hs
    go_enter Tryd.func33, Tryd.ntmps33
    go_wp2_with (go_at_call 42; with_reducible refine (HC.out _).mono ?_; rintro e1 w1 ⟨rfl, hb1⟩)
    go_ret
    exact ⟨congrArg (fun x => Ending.returned (.string x)) HF.out, hb1⟩
  · have hd : decide (n < 0) = false := by simp; omega
    obtain ⟨m, rfl⟩ : ∃ m : Nat, n = (m : Int) := ⟨n.toNat, by omega⟩
    have hc := fun w => dec_any m w (by omega)
    have hfin : decI (m : Int) = decL m := by unfold decI; rw [if_neg hn]; rfl
    have e2 : IntKind.u64.wrap (m : Int) = (m : Int) := by rw [IntKind.wrap_u64]; omega
    have HC := Lib.hid hc; have HF := Lib.hid hfin
    clear hc hfin
    go_enter Tryd.func33, Tryd.ntmps33
    go_wp2_with (go_at_call 42; with_reducible refine (HC.out _).mono ?_; rintro e1 w1 ⟨rfl, hb1⟩)
    go_ret
    exact ⟨ret_str HF.out.symm, hb1⟩
end Go.Proofs.YtefnkkjmcfpiaaaDoor
