/- uri.Print and the reference's PrintURI. -/
import Derived.Test.YtdogcnlcefklkaaUriParse
namespace Go.Proofs.Ytdogcnlcefklkaa
open Go.RowKit

theorem str_app (a b : List UInt8) : str a ++ str b = str (a ++ b) := by
  apply ByteArray.ext; apply Array.ext'; simp [ByteArray.data_append]
/-- no part is longer than what can be reached -/
def SizedU (q : Quad) : Prop := q.1.length ≤ 140737488355328 ∧ q.2.1.length ≤ 140737488355328 ∧ q.2.2.1.length ≤ 140737488355328 ∧ q.2.2.2.length ≤ 140737488355328
theorem print_none {q : Quad} (h : q.2.2.2 = []) : str q.1 ++ ⟨#[58, 47, 47]⟩ ++ str q.2.1 ++ str q.2.2.1 = str (printL q) := by
  have e : (⟨#[58, 47, 47]⟩ : ByteArray) = str [58, 47, 47] := rfl
  rw [e, str_app, str_app, str_app]; unfold printL; rw [if_pos h, List.append_nil]
theorem print_some {q : Quad} (h : q.2.2.2 ≠ []) : str q.1 ++ ⟨#[58, 47, 47]⟩ ++ str q.2.1 ++ str q.2.2.1 ++ (⟨#[63]⟩ ++ str q.2.2.2) = str (printL q) := by
  have e : (⟨#[58, 47, 47]⟩ : ByteArray) = str [58, 47, 47] := rfl
  have e' : (⟨#[63]⟩ : ByteArray) = str [63] := rfl
  rw [e, e', str_app, str_app, str_app, str_app, str_app]; unfold printL; rw [if_neg h]; rfl
theorem print_some' {q : Quad} (h : q.2.2.2 ≠ []) : str q.1 ++ ⟨#[58, 47, 47]⟩ ++ str q.2.1 ++ str q.2.2.1 ++ ⟨#[63]⟩ ++ str q.2.2.2 = str (printL q) := by
  have e : (⟨#[58, 47, 47]⟩ : ByteArray) = str [58, 47, 47] := rfl
  have e' : (⟨#[63]⟩ : ByteArray) = str [63] := rfl
  rw [e, e', str_app, str_app, str_app, str_app, str_app]; unfold printL; rw [if_neg h, List.append_assoc]; rfl
theorem ret_s {a b : ByteArray} (h : a = b) : Ending.returned (.string a) = .returned (.string b) := by rw [h]

set_option maxRecDepth 100000 in
set_option maxHeartbeats 1000000 in
theorem print_any (q : Quad) (hz : SizedU q) (w : World) :
    Calls Try.prog 10 #[uval q] w fun e w' => e = .returned (.string (str (printL q))) ∧ Below w.heap.size w w' := by
  have hn := @print_none q
  have hs := @print_some q
  obtain ⟨a, b, c, d⟩ := q
  unfold uval
  unfold SizedU at hz
  dsimp only at hz hn hs ⊢
  generalize str (printL (a, b, c, d)) = R at *
  have hA : (str a).size = a.length := rfl
  have hB : (str b).size = b.length := rfl
  have hC : (str c).size = c.length := rfl
  have hD : (str d).size = d.length := rfl
  have HN := Lib.hid hn; have HS := Lib.hid hs; clear hn hs
  by_cases hd : d = []
  · have HE := Lib.hid hd
    have hd' : (!d == []) = false := by simp [hd]
    go_enter Try.func10, Try.ntmps10
    go_wp2
    go_ret
    exact ⟨ret_s (HN.out HE.out), (Below.refl _ _).alloc (Nat.le_refl _) _⟩
  · have HE := Lib.hid hd
    have hd' : (!d.isEmpty) = true := by simpa using hd
    clear hd
    go_enter Try.func10, Try.ntmps10
    go_wp2
    go_ret
    exact ⟨ret_s (HS.out HE.out), (Below.refl _ _).alloc (Nat.le_refl _) _⟩
set_option maxRecDepth 100000 in
set_option maxHeartbeats 1000000 in
theorem refPrint_any (q : Quad) (hz : SizedU q) (w : World) :
    Calls Try.prog 11 #[uval q] w fun e w' => e = .returned (.string (str (printL q))) ∧ Below w.heap.size w w' := by
  have hn := @print_none q
  have hs := @print_some' q
  obtain ⟨a, b, c, d⟩ := q
  unfold uval
  unfold SizedU at hz
  dsimp only at hz hn hs ⊢
  generalize str (printL (a, b, c, d)) = R at *
  have hA : (str a).size = a.length := rfl
  have hB : (str b).size = b.length := rfl
  have hC : (str c).size = c.length := rfl
  have hD : (str d).size = d.length := rfl
  have HN := Lib.hid hn; have HS := Lib.hid hs; clear hn hs
  by_cases hd : d = []
  · have HE := Lib.hid hd
    have hd' : (!d == []) = false := by simp [hd]
    go_enter Try.func11, Try.ntmps11
    go_wp2
    go_ret
    exact ⟨ret_s (HN.out HE.out), (Below.refl _ _).alloc (Nat.le_refl _) _⟩
  · have HE := Lib.hid hd
    have hd' : (!d.isEmpty) = true := by simpa using hd
    clear hd
    go_enter Try.func11, Try.ntmps11
    go_wp2
    go_ret
    exact ⟨ret_s (HS.out HE.out), (Below.refl _ _).alloc (Nat.le_refl _) _⟩
end Go.Proofs.Ytdogcnlcefklkaa
