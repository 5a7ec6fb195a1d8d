/- Layer 13, the landed code: numbers as texts, and texts as numbers. -/
import Derived.Test.YtefnkkjmcfpiaaaDoorItoaDec
import Derived.Test.YtefnkkjmcfpiaaaDoorKitIn
import Derived.Test.YtefnkkjmcfpiaaaDoorShelf
import Derived.Test.YtefnkkjmcfpiaaaDoorTextsPure
import Derived.Test.YtefnkkjmcfpiaaaDoorTexts
import Derived.Lib.AppendIntMem
namespace Go.Proofs.YtefnkkjmcfpiaaaDoor
open Go.RowKit
set_option linter.unusedVariables false
set_option linter.unusedSimpArgs false

theorem dvalF_le (l : List UInt8) : ∀ acc : Nat, acc ≤ l.foldl dvalF acc := by
  induction l with
  | nil => intro acc; exact Nat.le_refl _
  | cons c r ih =>
    intro acc
    have h := ih (dvalF acc c)
    have h1 : acc ≤ dvalF acc c := by unfold dvalF; omega
    rw [List.foldl_cons]
    omega
theorem pu_digits : ∀ (l : List UInt8) (acc : Nat), (∀ c ∈ l, isDigit c = true) → l.foldl dvalF acc < 18446744073709551616 → Lib.parseUint10 acc l = .ok (l.foldl dvalF acc)
  | [], acc, _, _ => rfl
  | c :: r, acc, hd, hb => by
    have hc := isDigit_val (hd c (List.mem_cons_self ..))
    rw [List.foldl_cons] at hb ⊢
    have h1 := dvalF_le r (dvalF acc c)
    have h2 : dvalF acc c = acc * 10 + (c.toNat - 48) := rfl
    rw [Lib.parseUint10, if_pos hc, if_neg (by omega), if_neg (by omega), ← h2]
    exact pu_digits r _ (fun x hx => hd x (List.mem_cons_of_mem _ hx)) hb
theorem mag_decL (n : Nat) (hn : n < 18446744073709551616) : Lib.parseMag (decL n) = .ok n := by
  have hp := decL_pos n
  have hne : decL n ≠ [] := by intro e; rw [e] at hp; simp at hp
  have hv : (decL n).foldl dvalF 0 = n := dval_decL n
  unfold Lib.parseMag
  rw [if_neg hne, pu_digits _ _ (decL_all n) (by rw [hv]; exact hn), hv]
/-- what Atoi reads of a number's text -/
theorem atoi_decI (n : Int) (h0 : -9223372036854775808 ≤ n) (h1 : n ≤ 9223372036854775807) : Lib.atoiAll (decI n) = .ok n := by
  unfold decI
  by_cases hn : n < 0
  · rw [if_pos hn, Lib.atoiAll_minus, mag_decL _ (by omega)]
    show (if 9223372036854775808 < n.natAbs then Lib.NumEnd.range else .ok (-(n.natAbs : Int))) = _
    rw [if_neg (by omega)]
    congr 1; omega
  · rw [if_neg hn]
    have hp := decL_pos n.natAbs
    have hall := decL_all n.natAbs
    have hm := mag_decL n.natAbs (by omega)
    cases hd : decL n.natAbs with
    | nil => rw [hd] at hp; simp at hp
    | cons c r =>
      have hc := isDigit_val (hall c (by rw [hd]; exact List.mem_cons_self ..))
      rw [hd] at hm
      rw [Lib.atoiAll_plain c r (by omega) (by omega), hm]
      show (if 9223372036854775808 ≤ n.natAbs then Lib.NumEnd.range else .ok (n.natAbs : Int)) = _
      rw [if_neg (by omega)]
      congr 1; omega
/-- an int -/
def Int64 (n : Int) : Prop := -9223372036854775808 ≤ n ∧ n ≤ 9223372036854775807
theorem itoa_any (n : Int) (hn : Int64 n) (w : World) (hk : KitIn w.heap.size w) :
    Calls Tryd.prog 28 #[.int .i64 n] w fun e w' => e = .returned (tv (decI n)) ∧ Below w.heap.size w w' :=
  (Tryd.strconv_Itoa n hn.1 hn.2 w hk.tab).mono fun e w' ⟨he, k, os, hw⟩ => ⟨by rw [he, itoa_dec]; rfl, by rw [hw]; exact Lib.below_grow _ _ (Nat.le_refl _) _ _⟩
/-- what a text is as a number -/
def NumSays (l : List UInt8) (e : Ending) : Prop := (∃ n, Int64 n ∧ l = decI n ∧ e = .returned (.tuple #[.int .i64 n, .bool true])) ∨ ((∀ n, Int64 n → l ≠ decI n) ∧ e = .returned (.tuple #[.int .i64 0, .bool false]))
theorem KitIn.later {w w' : World} (h : KitIn w.heap.size w) (hb : Below w.heap.size w w') : KitIn w'.heap.size w' := (h.below hb).more hb.size
set_option maxRecDepth 100000 in
set_option maxHeartbeats 1000000 in
theorem number13_any (s : ByteArray) (hs : s.size ≤ 200000000000000) (w : World) (hk : KitIn w.heap.size w) :
    Calls Tryd.prog 40 #[.string s] w fun e w' => NumSays s.data.toList e ∧ Below w.heap.size w w' := by
  rcases hres : Lib.atoiAll s.data.toList with v | _ | _
  · have hv : Int64 v := Lib.atoiAll_bounds hres
    have hat := Tryd.strconv_Atoi_ok s (by omega) v hres w
    obtain ⟨S2, hS2⟩ : ∃ B : ByteArray, B = ⟨(decI v).toArray⟩ := ⟨_, rfl⟩
    have hit := fun W hk => itoa_any v hv W hk
    unfold tv at hit
    rw [← hS2] at hit
    have hyes : s.data.toList = decI v → NumSays s.data.toList (.returned (.tuple #[.int .i64 v, .bool true])) := fun h => .inl ⟨v, hv, h, rfl⟩
    have hno : s.data.toList ≠ decI v → NumSays s.data.toList (.returned (.tuple #[.int .i64 0, .bool false])) := fun h => .inr ⟨fun n hn e => h (by
      rw [e, atoi_decI n hn.1 hn.2] at hres
      injection hres with hres
      rw [e, hres]), rfl⟩
    have hq : (!S2.toList == s.toList) = !decide (decI v = s.data.toList) := str_neq S2 s (decI v) s.data.toList hS2 (by simp)
    have HAT := Lib.hid hat; have HIT := Lib.hid hit; have HY := Lib.hid hyes; have HN := Lib.hid hno; have HQ := Lib.hid hq; have HK := Lib.hid hk
    clear hat hit hyes hno hq hk hres hv hS2
    go_enter Tryd.func40, Tryd.ntmps40
    go_wp2_with fail
    refine HAT.out.mono ?_
    rintro e w1 ⟨rfl, hw⟩
    have hb1 : Below w.heap.size w w1 := by
      rcases hw with rfl | ⟨t, rfl⟩
      · exact Below.refl _ _
      · exact Lib.bytesWorld_below _ _ _
    have B1 := Lib.hid hb1
    clear hw hb1
    dsimp only
    go_wp2_with fail
    refine (HIT.out _ (HK.out.later B1.out)).mono ?_
    rintro e w2 ⟨rfl, hb2⟩
    have B2 := Lib.hid (B1.out.chain hb2)
    clear hb2
    dsimp only
    by_cases heq : decI v = s.data.toList
    · have hx : (!S2.toList == s.toList) = false := by rw [HQ.out, decide_eq_true heq]; rfl
      have HE := Lib.hid heq
      clear heq
      go_wp2
      go_ret2
      exact ⟨HY.out HE.out.symm, B2.out⟩
    · have hx : (!S2.toList == s.toList) = true := by rw [HQ.out, decide_eq_false heq]; rfl
      have HE := Lib.hid heq
      clear heq
      go_wp2
      go_ret2
      exact ⟨HN.out fun h => HE.out h.symm, B2.out⟩
  all_goals
    have hno : NumSays s.data.toList (.returned (.tuple #[.int .i64 0, .bool false])) := .inr ⟨fun n hn e => (by
      rw [e, atoi_decI n hn.1 hn.2] at hres
      cases hres), rfl⟩
  · obtain ⟨ev, h1, h2⟩ := hk.syn
    have hat := Tryd.strconv_Atoi_bad s (by omega) (by rw [hres]; rfl) ev w h1 h2
    have HAT := Lib.hid hat; have HN := Lib.hid hno
    clear hat hno hk hres h1 h2
    go_enter Tryd.func40, Tryd.ntmps40
    go_wp2_with fail
    refine HAT.out.mono ?_
    rintro e w1 ⟨N, rfl, -, -, hb1⟩
    have B1 := Lib.hid hb1
    clear hb1
    dsimp only
    go_wp2
    go_ret2
    exact ⟨HN.out, B1.out⟩
  · obtain ⟨ev, h1, h2⟩ := hk.rng
    have hat := Tryd.strconv_Atoi_range s (by omega) hres ev w h1 h2
    obtain ⟨sat, hsat⟩ : ∃ x, Lib.atoiSat s.data.toList = x := ⟨_, rfl⟩
    rw [hsat] at hat
    have HAT := Lib.hid hat; have HN := Lib.hid hno
    clear hat hno hk hres h1 h2 hsat
    go_enter Tryd.func40, Tryd.ntmps40
    go_wp2_with fail
    refine HAT.out.mono ?_
    rintro e w1 ⟨N, rfl, -, -, hb1⟩
    have B1 := Lib.hid hb1
    clear hb1
    dsimp only
    go_wp2
    go_ret2
    exact ⟨HN.out, B1.out⟩
end Go.Proofs.YtefnkkjmcfpiaaaDoor
