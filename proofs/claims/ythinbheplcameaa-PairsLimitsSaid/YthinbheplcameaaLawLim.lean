/- The walk of PairsLimits. -/
import Derived.Test.YthinbheplcameaaAns2
namespace Go.Proofs.Ythinbheplcameaa
open Go.RowKit

def amps : Nat → List UInt8
  | 0 => []
  | n + 1 => 97 :: 38 :: amps n
theorem amps_snoc (n : Nat) : amps (n + 1) = amps n ++ [97, 38] := by
  induction n with
  | zero => rfl
  | succ n ih =>
    show 97 :: 38 :: amps (n + 1) = (97 :: 38 :: amps n) ++ [97, 38]
    rw [ih]; rfl
theorem amps_len (n : Nat) : (amps n).length = 2 * n := by
  induction n with
  | zero => rfl
  | succ n ih => simp [amps, ih]; omega
theorem amps_parts (n : Nat) : partsL (amps n) = List.replicate n [97] := by
  induction n with
  | zero => decide
  | succ n ih =>
    have := partsL_app [97] (amps n) (by decide)
    rw [amps, show (97 : UInt8) :: 38 :: amps n = [97] ++ 38 :: amps n from rfl, this, ih]
    rfl
theorem amps_pairs (n : Nat) : pairsL (List.replicate n [97]) = some (List.replicate n ([97], [])) := by
  induction n with
  | zero => rfl
  | succ n ih => rw [List.replicate_succ, pairsL_cons, ih]; rfl
theorem amps_form (n : Nat) : formL (amps n) = some (List.replicate n ([97], [])) := by unfold formL; rw [amps_parts, amps_pairs]
theorem amps_few (n : Nat) (h : n ≤ 64) : parseE (amps n) = 0 := (parse_some (by rw [amps_len]; omega) (amps_form n) (by simpa using h)).1
theorem amps_many (n : Nat) (h : 64 < n) (h' : n ≤ 80) : parseE (amps n) = 3 := (parse_many (by rw [amps_len]; omega) (amps_form n) (by simpa using h)).1

theorem unq_zeros (n : Nat) : unq (List.replicate n 0) = some (List.replicate n 0) := by
  induction n with
  | zero => rfl
  | succ n ih => rw [List.replicate_succ, unq_same _ (by decide) (by decide), ih]; rfl
theorem zeros_not (c : UInt8) (hc : c ≠ 0) (n : Nat) : c ∉ List.replicate n (0 : UInt8) := by
  intro h; exact hc (List.eq_of_mem_replicate h)
theorem zeros_form (n : Nat) (h : 0 < n) : formL (List.replicate n 0) = some [(List.replicate n 0, [])] := by
  unfold formL
  rw [partsL_one _ (zeros_not 38 (by decide) n), one1, if_neg (by intro e; have := congrArg List.length e; simp at this; omega)]
  have hat : atL 61 (List.replicate n (0 : UInt8)) = n := by rw [atL_none _ _ (zeros_not 61 (by decide) n)]; simp
  have hp : pairL (List.replicate n 0) = some (List.replicate n 0, []) := by
    refine pairL_some ?_ ?_
    · rw [hat, List.take_of_length_le (by simp)]; exact unq_zeros n
    · rw [hat, List.drop_eq_nil_of_le (by simp)]; rfl
  rw [pairsL_cons, hp]; rfl
theorem zeros_few (n : Nat) (h0 : 0 < n) (h : n ≤ 4096) : parseE (List.replicate n 0) = 0 := (parse_some (by simpa using h) (zeros_form n h0) (by simp)).1
theorem zeros_many (n : Nat) (h : 4096 < n) : parseE (List.replicate n 0) = 3 := (parse_large (by simpa using h)).1
theorem zero_cells (n : Nat) : (madeCells #[Value.int .u8 0] n).toList = cells (List.replicate n 0) := by
  apply List.ext_getElem
  · simp [madeCells, cells]
  · intro i h1 h2
    simp [madeCells, cells, Nat.mod_one]

set_option maxRecDepth 100000 in
set_option maxHeartbeats 1000000 in
theorem pairsLimits_walk (x y : Int) (hx : 0 ≤ x) (hx' : x < 256) (hy : 0 ≤ y) (hy' : y < 65536) (w : World) :
    Calls Try.prog 13 #[.int .u8 x, .int .u16 y] w fun e w' => e = .returned (.bool true) ∧ Below w.heap.size w w' := by
  obtain ⟨i0, hi, hz0, hz1, hz2⟩ := info_parts Try.infoByte
  obtain ⟨K, hK⟩ : ∃ K : Nat, x % 80 = (K : Int) := ⟨(x % 80).toNat, by omega⟩
  obtain ⟨M, hM⟩ : ∃ M : Nat, 4000 + y % 200 = (M : Int) := ⟨(4000 + y % 200).toNat, by omega⟩
  have hK80 : K < 80 := by omega
  have hM0 : 4000 ≤ M := by omega
  have hM1 : M < 4200 := by omega
  have hp1 := parse_any (str (amps K))
  rw [str_list] at hp1
  have hp2 := parse_any (str (List.replicate M 0))
  rw [str_list] at hp2
  go_enter Try.func13, Try.ntmps13
  go_wp2
  go_loop [6, 7] (fun s i => ∃ k : Nat, k ≤ K ∧ i = .int .i64 k ∧ s = .string ⟨(amps k).toArray⟩) (fun _ i => K - (intOf i).toNat)
  case atStart => exact ⟨0, Nat.zero_le _, rfl, rfl⟩
  case round =>
    obtain ⟨k, hk, rfl, rfl⟩ := hrel
    by_cases hlt : k < K
    · have hal := amps_len k
      have has := amps_snoc k
      have HS := Lib.hid has; have HL := Lib.hid hal; clear has
      have hal2 : (amps k).length ≤ 160 := by omega
      clear hal
      go_wp2
      go_round
      case rel => exact ⟨k + 1, by omega, by go_num, str_eq (by apply ByteArray.ext; apply Array.ext'; rw [HS.out]; simp [ByteArray.data_append])⟩
      case measure => simp [intOf]; omega
    · have hke : k = K := by omega
      subst hke
      have hE1 : parseE (amps k) = 0 ∧ k ≤ 64 ∨ parseE (amps k) = 3 ∧ 64 < k := by
        by_cases h : k ≤ 64
        · exact .inl ⟨amps_few k h, h⟩
        · exact .inr ⟨amps_many k (by omega) (by omega), by omega⟩
      have hE2 : parseE (List.replicate M 0) = 0 ∧ M ≤ 4096 ∨ parseE (List.replicate M 0) = 3 ∧ 4096 < M := by
        by_cases h : M ≤ 4096
        · exact .inl ⟨zeros_few M (by omega) h, h⟩
        · exact .inr ⟨zeros_many M (by omega), by omega⟩
      generalize parseE (amps k) = E1 at *
      generalize parseE (List.replicate M 0) = E2 at *
      have HM := Lib.hid hM
      have hM4 : (M : Int) = 4000 + y % 200 := hM.symm
      have HM4 := Lib.hid hM4; clear hM4
      go_wp2_with fail
      refine (hp1 _).mono ?_
      rintro e w1 ⟨v1, rfl, _, hb1⟩
      go_wp2_with (at_make; refine wpList_make_full _ rfl _ _ 31 rfl w1.heap.size 5 i0 _ 1 Try.underlying31 hi hz0 hz1 _ _ _ _ M rfl rfl (by first | rfl | exact HM.out) (by first | rfl | exact HM.out) (by rw [hz2]; omega) (by unfold maxLen; omega) (Nat.le_refl _) ?_)
      intro w2 hown2 hg2
      have hbuf : Buf w2 w1.heap.size (.slice (some ⟨w1.heap.size, 0, none⟩) M M) (List.replicate M 0) := Buf.cut hown2 (by simp) (zero_cells M)
      have hcv := hbuf.text
      have hb2 := (Below.refl w1.heap.size w1).grown hg2 (Nat.le_refl _) (by simp)
      go_wp2_with fail
      refine (hp2 _).mono ?_
      rintro e w3 ⟨v3, rfl, _, hb3⟩
      have hb03 := (hb1.chain hb2).chain hb3
      go_wp2_with fail
      refine (answers2_any _).mono ?_
      rintro e w4 ⟨rfl, hb4⟩
      have hb04 := hb03.chain hb4
      clear hp1 hp2 hcv hbuf hown2
      rcases hE1 with ⟨rfl, hk1⟩ | ⟨rfl, hk1⟩
      · have d1 : decide ((k : Int) ≤ 64) = true := by simp; omega
        rcases hE2 with ⟨rfl, hm1⟩ | ⟨rfl, hm1⟩
        · have d2 : decide ((M : Int) ≤ 4096) = true := by simp; omega
          go_wp2
          go_ret
          exact ⟨rfl, hb04⟩
        · have d2 : decide ((M : Int) ≤ 4096) = false := by simp; omega
          go_wp2
          go_ret
          exact ⟨rfl, hb04⟩
      · have d1 : decide ((k : Int) ≤ 64) = false := by simp; omega
        rcases hE2 with ⟨rfl, hm1⟩ | ⟨rfl, hm1⟩
        · have d2 : decide ((M : Int) ≤ 4096) = true := by simp; omega
          go_wp2
          go_ret
          exact ⟨rfl, hb04⟩
        · have d2 : decide ((M : Int) ≤ 4096) = false := by simp; omega
          go_wp2
          go_ret
          exact ⟨rfl, hb04⟩
theorem u16_of_wf {x : Int} (h : (Lit.int .u16 x).wf = true) : 0 ≤ x ∧ x < 65536 := by
  simp [Lit.wf, IntKind.min, IntKind.max, IntKind.signed, IntKind.bits] at h
  exact ⟨by omega, by omega⟩
theorem pairsLimits_law (x y : Int) (hx : (Lit.int .u8 x).wf = true) (hy : (Lit.int .u16 y).wf = true) (w : World) :
    Calls Try.prog 13 #[.int .u8 x, .int .u16 y] w fun e w' => e = .returned (.bool true) ∧ Below w.heap.size w w' :=
  pairsLimits_walk x y (byte_of_wf hx).1 (byte_of_wf hx).2 (u16_of_wf hy).1 (u16_of_wf hy).2 w
end Go.Proofs.Ythinbheplcameaa
