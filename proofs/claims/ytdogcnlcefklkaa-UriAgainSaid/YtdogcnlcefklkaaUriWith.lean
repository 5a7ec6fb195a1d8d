/- uri.With and the reference's. -/
import Derived.Test.YtdogcnlcefklkaaUriPrint
import Derived.Test.YtdogcnlcefklkaaRefBuild
namespace Go.Proofs.Ytdogcnlcefklkaa
open Go.RowKit

/-- a text with more pairs in its query -/
def markL (s : List UInt8) : List UInt8 := if atL 63 s < s.length then [38] else [63]
def withL (s : List UInt8) (l : PL) : List UInt8 := if l = [] then s else s ++ markL s ++ buildL l
theorem strIndex1_any (s : ByteArray) (c : UInt8) (w : World) :
    Calls Try.prog 25 #[.string s, .string ⟨#[c]⟩] w fun e w' => e = .returned (.int .i64 (Lib.indexByte s.data.toList c)) ∧ w = w' := by
  go_enter Try.func25, Try.ntmps25
  go_wp2_with fail
  refine (index1_c s c _).mono ?_
  rintro e w' ⟨rfl, rfl⟩
  go_wp2
  go_ret
  exact ⟨rfl, rfl⟩
theorem contains1_any (s : ByteArray) (c : UInt8) (w : World) :
    Calls Try.prog 19 #[.string s, .string ⟨#[c]⟩] w fun e w' => e = .returned (.bool (decide (atL c s.data.toList < s.data.toList.length))) ∧ w = w' := by
  have hi := atL_index c s.data.toList
  have hcall := strIndex1_any s c
  have hle := atL_le c s.data.toList
  generalize Lib.indexByte s.data.toList c = ix at *
  generalize atL c s.data.toList = k at *
  generalize s.data.toList.length = n at *
  have HI := Lib.hid hi; clear hi
  go_enter Try.func19, Try.ntmps19
  go_wp2_with fail
  refine (hcall _).mono ?_
  rintro e w' ⟨rfl, rfl⟩
  go_wp2
  go_ret
  refine ⟨ret_bool ?_, rfl⟩
  have := HI.out
  by_cases h : k < n
  · rw [if_pos h] at this; simp [h]; omega
  · rw [if_neg h] at this; simp [h]; omega

theorem with_none {s : List UInt8} {l : PL} (h : l = []) : withL s l = s := by unfold withL; rw [if_pos h]
theorem with_amp {s : List UInt8} {l : PL} (h : l ≠ []) (h' : atL 63 s < s.length) : str s ++ ⟨#[38]⟩ ++ str (buildL l) = str (withL s l) := by
  have e : (⟨#[38]⟩ : ByteArray) = str [38] := rfl
  rw [e, str_app, str_app]; unfold withL markL; rw [if_neg h, if_pos h']
theorem with_que {s : List UInt8} {l : PL} (h : l ≠ []) (h' : ¬ atL 63 s < s.length) : str s ++ ⟨#[63]⟩ ++ str (buildL l) = str (withL s l) := by
  have e : (⟨#[63]⟩ : ByteArray) = str [63] := rfl
  rw [e, str_app, str_app]; unfold withL markL; rw [if_neg h, if_neg h']

set_option maxRecDepth 100000 in
set_option maxHeartbeats 1000000 in
theorem with_any (s : List UInt8) (hs : s.length ≤ 1048576) (A : Option Addr) (c B m : Nat) (l : PL) (hl : l.length ≤ 1048576) (hm : m ≤ 1048576) (hz : ∀ p ∈ l, p.1.length + p.2.length ≤ m) (w : World) (hB : B ≤ w.heap.size) (hp : Prs w B A l) :
    Calls Try.prog 13 #[.string (str s), .slice A l.length c] w fun e w' => e = .returned (.string (str (withL s l))) ∧ Below w.heap.size w w' := by
  have hbd := fun w hB hp => build_any A c B m l hl hm hz w hB hp
  have hbl := buildL_len l m hz
  have hbl2 : (buildL l).length ≤ 1048576 * (3 * 1048576 + 2) := Nat.le_trans hbl (Nat.mul_le_mul hl (by omega))
  have hcn := contains1_any (str s) 63
  rw [str_list] at hcn
  have hS : (str s).size = s.length := rfl
  have hBL : (str (buildL l)).size = (buildL l).length := rfl
  have h1 := @with_none s l
  have h2 := @with_amp s l
  have h3 := @with_que s l
  have hn0 : l = [] ∨ 0 < l.length := by cases l; exact Or.inl rfl; exact Or.inr (by simp)
  have hne : 0 < l.length → l ≠ [] := fun h e => by subst e; simp at h
  obtain ⟨n, hn⟩ : ∃ n, l.length = n := ⟨_, rfl⟩
  rw [hn] at hbd hl hn0 hne ⊢
  have HN := Lib.hid hn; have H1 := Lib.hid h1; have H2 := Lib.hid h2; have H3 := Lib.hid h3; have HZ := Lib.hid hz; have HNE := Lib.hid hne; clear hn h1 h2 h3 hz hne hbl
  rcases hn0 with h0 | h0
  · have e := H1.out h0
    have hn : n = 0 := by rw [← HN.out, h0]; rfl
    subst hn
    rw [e]
    clear h0
    go_enter Try.func13, Try.ntmps13
    go_wp2
    go_ret
    exact ⟨rfl, Below.refl _ _⟩
  · have hd0 : ((n : Int) == 0) = false := by simp; omega
    have HD := Lib.hid (HNE.out h0)
    generalize str (withL s l) = R at *
    generalize buildL l = XL at *
    by_cases hq : atL 63 s < s.length
    · have hR := H2.out HD.out hq
      rw [decide_eq_true hq] at hcn
      clear hq H1 H2 H3
      have HR := Lib.hid hR; clear hR
      go_enter Try.func13, Try.ntmps13
      go_wp2_with fail
      refine (hcn _).mono ?_
      rintro e w' ⟨rfl, rfl⟩
      go_wp2_with fail
      refine (hbd _ hB hp).mono ?_
      rintro e w' ⟨rfl, hb⟩
      go_wp2
      go_ret
      exact ⟨ret_s HR.out, hb⟩
    · have hR := H3.out HD.out hq
      rw [decide_eq_false hq] at hcn
      clear hq H1 H2 H3
      have HR := Lib.hid hR; clear hR
      go_enter Try.func13, Try.ntmps13
      go_wp2_with fail
      refine (hcn _).mono ?_
      rintro e w' ⟨rfl, rfl⟩
      go_wp2_with fail
      refine (hbd _ hB hp).mono ?_
      rintro e w' ⟨rfl, hb⟩
      go_wp2
      go_ret
      exact ⟨ret_s HR.out, hb⟩
set_option maxRecDepth 100000 in
set_option maxHeartbeats 1000000 in
theorem refWith_any (s : List UInt8) (hs : s.length ≤ 1048576) (A : Option Addr) (c B m : Nat) (l : PL) (hl : l.length ≤ 1048576) (hm : m ≤ 1048576) (hz : ∀ p ∈ l, p.1.length + p.2.length ≤ m) (w : World) (hB : B ≤ w.heap.size) (hp : Prs w B A l) :
    Calls Try.prog 14 #[.string (str s), .slice A l.length c] w fun e w' => e = .returned (.string (str (withL s l))) ∧ Below w.heap.size w w' := by
  have hbd := fun w hB hp => refBuild_any A c B m l hl hm hz w hB hp
  have hbl := buildL_len l m hz
  have hbl2 : (buildL l).length ≤ 1048576 * (3 * 1048576 + 2) := Nat.le_trans hbl (Nat.mul_le_mul hl (by omega))
  have hcn := at_any (str s) 63 (by rw [str_size]; unfold maxLen; omega)
  rw [str_list] at hcn
  have hS : (str s).size = s.length := rfl
  have hBL : (str (buildL l)).size = (buildL l).length := rfl
  have h1 := @with_none s l
  have h2 := @with_amp s l
  have h3 := @with_que s l
  have hn0 : l = [] ∨ 0 < l.length := by cases l; exact Or.inl rfl; exact Or.inr (by simp)
  have hne : 0 < l.length → l ≠ [] := fun h e => by subst e; simp at h
  obtain ⟨n, hn⟩ : ∃ n, l.length = n := ⟨_, rfl⟩
  rw [hn] at hbd hl hn0 hne ⊢
  have HN := Lib.hid hn; have H1 := Lib.hid h1; have H2 := Lib.hid h2; have H3 := Lib.hid h3; have HZ := Lib.hid hz; have HNE := Lib.hid hne; clear hn h1 h2 h3 hz hne hbl
  rcases hn0 with h0 | h0
  · have e := H1.out h0
    have hn : n = 0 := by rw [← HN.out, h0]; rfl
    subst hn
    rw [e]
    clear h0
    go_enter Try.func14, Try.ntmps14
    go_wp2
    go_ret
    exact ⟨rfl, Below.refl _ _⟩
  · have hd0 : ((n : Int) == 0) = false := by simp; omega
    have HD := Lib.hid (HNE.out h0)
    generalize str (withL s l) = R at *
    generalize buildL l = XL at *
    by_cases hq : atL 63 s < s.length
    · have hR := H2.out HD.out hq
      have hd : decide ((atL 63 s : Int) < (s.length : Int)) = true := by simp; omega
      clear H1 H2 H3
      have HR := Lib.hid hR; clear hR
      generalize atL 63 s = k at *
      go_enter Try.func14, Try.ntmps14
      go_wp2_with fail
      refine (hcn _).mono ?_
      rintro e w' ⟨rfl, rfl⟩
      go_wp2_with fail
      refine (hbd _ hB hp).mono ?_
      rintro e w' ⟨rfl, hb⟩
      go_wp2
      go_ret
      exact ⟨ret_s HR.out, hb⟩
    · have hR := H3.out HD.out hq
      have hd : decide ((atL 63 s : Int) < (s.length : Int)) = false := by simp; omega
      clear H1 H2 H3
      have HR := Lib.hid hR; clear hR
      generalize atL 63 s = k at *
      go_enter Try.func14, Try.ntmps14
      go_wp2_with fail
      refine (hcn _).mono ?_
      rintro e w' ⟨rfl, rfl⟩
      go_wp2_with fail
      refine (hbd _ hB hp).mono ?_
      rintro e w' ⟨rfl, hb⟩
      go_wp2
      go_ret
      exact ⟨ret_s HR.out, hb⟩
end Go.Proofs.Ytdogcnlcefklkaa
