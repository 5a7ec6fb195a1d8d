/- TextPlain's walk. -/
import Derived.Test.YtahgcnoaflamfaaLawQuotes
namespace Go.Proofs.Ytahgcnoaflamfaa
open Go.RowKit

theorem conv_new (w : World) (l : List UInt8) (cs : Array Value) (n c : Nat) (hn : n = l.length) (h : cs.toList = cells l) :
    (convert 31 9 (.slice (some ⟨w.heap.size, 0, none⟩) n c)).run Try.prog (w.alloc (.cells cs 5)) = .ok (.string ⟨l.toArray⟩) (w.alloc (.cells cs 5)) := by
  subst hn
  refine run_convert_bytes_back (P := Try.prog) _ 31 9 5 ⟨w.heap.size, 0, none⟩ c l Try.underlying31 Try.underlying5 Try.underlying9 (fun j hj => ?_)
  exact new_cells w cs 5 j _ (by rw [h]; simp [cells, hj])

theorem rep_snoc (c : UInt8) (j : Nat) : ByteArray.mk (List.replicate j c).toArray ++ ByteArray.mk #[c] = ByteArray.mk (List.replicate (j + 1) c).toArray := by
  have h := app_list (List.replicate j c) c
  rw [show List.replicate j c ++ [c] = List.replicate (j + 1) c by rw [List.replicate_succ']] at h
  apply ByteArray.ext
  apply Array.toList_inj.1
  exact h
theorem quote_rep_plain (c : UInt8) (h : plainB c = true) (k : Nat) : quoteL (List.replicate k c) = List.replicate k c := by
  induction k with
  | zero => rfl
  | succ k ih =>
    have : quoteL (c :: List.replicate k c) = quote1 c ++ quoteL (List.replicate k c) := by simp [quoteL]
    rw [List.replicate_succ, this, ih]; simp [quote1, h]
theorem quote_rep_len (c : UInt8) (h : plainB c = false) (k : Nat) : (quoteL (List.replicate k c)).length = 3 * k := by
  induction k with
  | zero => rfl
  | succ k ih =>
    have : quoteL (c :: List.replicate k c) = quote1 c ++ quoteL (List.replicate k c) := by simp [quoteL]
    rw [List.replicate_succ, this, List.length_append, ih]; simp [quote1, h]; omega

theorem byte_of_wf {x : Int} (h : (Lit.int .u8 x).wf = true) : 0 ≤ x ∧ x < 256 := by
  simp [Lit.wf, IntKind.min, IntKind.max, IntKind.signed, IntKind.bits] at h
  exact ⟨by omega, by omega⟩
theorem byte_ex {x : Int} (h : (Lit.int .u8 x).wf = true) : ∃ c : UInt8, x = (c.toNat : Int) := by
  have := byte_of_wf h
  exact ⟨UInt8.ofNat x.toNat, by rw [UInt8.toNat_ofNat']; omega⟩

theorem str_eq {a b : ByteArray} (h : a = b) : Value.string a = .string b := by rw [h]

set_option maxRecDepth 100000 in
theorem textPlain_law (b n : Int) (hb : (Lit.int .u8 b).wf = true) (hn : (Lit.int .u8 n).wf = true) (w : World) :
    Calls Try.prog 8 #[.int .u8 b, .int .u8 n] w fun e w' => e = .returned (.bool true) ∧ Below w.heap.size w w' := by
  obtain ⟨c, rfl⟩ := byte_ex hb
  obtain ⟨n0, n1⟩ := byte_of_wf hn
  clear hb hn
  obtain ⟨m, rfl⟩ := Int.eq_ofNat_of_zero_le n0
  have hm : m % 20 < 20 := by omega
  go_enter Try.func8, Try.ntmps8
  go_wp2
  go_loopw [6, 7] (fun s i wr => ∃ j : Nat, j ≤ m % 20 ∧ i = .int .i64 j ∧ s = .string ⟨(List.replicate j c).toArray⟩ ∧ Below w.heap.size w wr) (fun _ i _ => m % 20 - (intOf i).toNat)
  case atStart => exact ⟨0, Nat.zero_le _, rfl, rfl, Below.refl _ _⟩
  case round =>
    obtain ⟨j, hj, rfl, rfl, hbw⟩ := hrel
    have hbs := hbw.size
    by_cases hlt : j < m % 20
    · have hcv := conv_new wr [c] #[.int .u8 (c.toNat : Int)] 1 1 rfl rfl
      go_wp2
      go_roundw
      case rel => exact ⟨j + 1, by omega, by go_num, str_eq (rep_snoc c j), hbw.alloc hbs _⟩
      case measure => simp [intOf]; omega
    · have hje : j = m % 20 := by omega
      have HJ := Lib.hid hje; clear hje
      have hz : (ByteArray.mk (List.replicate j c).toArray).size ≤ 46912496117759 := by show (List.replicate j c).length ≤ _; simp; omega
      by_cases hp : plainB c = true
      · have hq : quoteL (List.replicate j c) = List.replicate j c := quote_rep_plain c hp j
        have HZ := Lib.hid hz; clear hz hp
        go_wp2_with fail
        refine (quote_any _ HZ.out _).mono ?_
        rintro e w1 ⟨rfl, hb1⟩
        go_wp2_with fail
        refine (answers_any _).mono ?_
        rintro e w2 ⟨rfl, hb2⟩
        go_wp2_with fail
        refine (refQuote_any _ HZ.out _).mono ?_
        rintro e w3 ⟨rfl, hb3⟩
        go_wp2
        go_ret
        exact ⟨rfl, ((hbw.chain hb1).chain hb2).chain hb3⟩
      · have hp' : plainB c = false := by simpa using hp
        have hq := quote_rep_len c hp' j
        have HZ := Lib.hid hz; clear hz hp hp'
        have hl : (((quoteL (List.replicate j c)).length : Int) == 3 * ((m : Int) % 20)) = true := by have := HJ.out; simp; omega
        have HQ := Lib.hid hq; clear hq
        by_cases he : (quoteL (List.replicate j c) == (ByteArray.mk (Array.replicate j c)).toList) = true
        · go_wp2_with fail
          refine (quote_any _ HZ.out _).mono ?_
          rintro e w1 ⟨rfl, hb1⟩
          go_wp2_with fail
          refine (answers_any _).mono ?_
          rintro e w2 ⟨rfl, hb2⟩
          go_wp2_with fail
          refine (refQuote_any _ HZ.out _).mono ?_
          rintro e w3 ⟨rfl, hb3⟩
          go_wp2
          go_ret
          exact ⟨rfl, ((hbw.chain hb1).chain hb2).chain hb3⟩
        · have he' : (quoteL (List.replicate j c) == (ByteArray.mk (Array.replicate j c)).toList) = false := by simpa using he
          clear he
          go_wp2_with fail
          refine (quote_any _ HZ.out _).mono ?_
          rintro e w1 ⟨rfl, hb1⟩
          go_wp2_with fail
          refine (answers_any _).mono ?_
          rintro e w2 ⟨rfl, hb2⟩
          go_wp2_with fail
          refine (refQuote_any _ HZ.out _).mono ?_
          rintro e w3 ⟨rfl, hb3⟩
          go_wp2
          go_ret
          exact ⟨rfl, ((hbw.chain hb1).chain hb2).chain hb3⟩
end Go.Proofs.Ytahgcnoaflamfaa
