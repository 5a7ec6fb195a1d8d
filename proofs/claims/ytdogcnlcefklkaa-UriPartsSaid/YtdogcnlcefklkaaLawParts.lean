/- The walk of UriParts. -/
import Derived.Test.YtdogcnlcefklkaaAns3
import Derived.Test.YtdogcnlcefklkaaRefUri
namespace Go.Proofs.Ytdogcnlcefklkaa
open Go.RowKit

/-- the cells of a URI's variable -/
def UAt (b : Nat) (a c d e : List UInt8) (W : World) : Prop :=
  W.cell? ⟨b, 0, none⟩ = some (.string (str a)) ∧ W.cell? ⟨b, 1, none⟩ = some (.string (str c)) ∧ W.cell? ⟨b, 2, none⟩ = some (.string (str d)) ∧ W.cell? ⟨b, 3, none⟩ = some (.string (str e))
theorem UAt.below {b : Nat} {a c d e : List UInt8} {W W' : World} (h : UAt b a c d e W) (hb : b < W.heap.size) (h' : Below W.heap.size W W') : UAt b a c d e W' :=
  ⟨(h'.cell (p := ⟨b, 0, none⟩) hb).trans h.1, (h'.cell (p := ⟨b, 1, none⟩) hb).trans h.2.1, (h'.cell (p := ⟨b, 2, none⟩) hb).trans h.2.2.1, (h'.cell (p := ⟨b, 3, none⟩) hb).trans h.2.2.2⟩
theorem UAt.new (w : World) (a c d e : List UInt8) : UAt w.heap.size a c d e (w.alloc (.cells #[.string (str a), .string (str c), .string (str d), .string (str e)] 23)) := by
  unfold UAt; simp

set_option maxRecDepth 100000 in
set_option maxHeartbeats 2000000 in
theorem uriParts_walk (s : ByteArray) (hs : s.size ≤ maxLen) (w : World) (hv : VarIn w) : Calls Try.prog 3 #[.string s] w fun e w' => e = .returned (.bool true) ∧ Below w.heap.size w w' := by
  have hp := parse_any s hs
  have hr := refUri_any s hs
  unfold uriSays at hp hr
  have hag := @uri_again s.data.toList
  have hln := uri_len s.data.toList
  have hE : uriE s.data.toList = 0 ∨ uriE s.data.toList = 2 ∨ uriE s.data.toList = 3 := by
    unfold uriE; split
    · simp
    · split <;> simp
  generalize uriE s.data.toList = E at *
  generalize uriV s.data.toList = V at *
  have hsz : SizedU V := by unfold SizedU; omega
  have hpr := print_any V hsz
  have hrp := refPrint_any V hsz
  have hsl : (str (printL V)).size ≤ 20000 := by
    rw [str_size]; unfold printL; simp only [List.length_append]
    split <;> simp <;> omega
  unfold uval at hp hr hpr hrp
  generalize printL V = R at *
  obtain ⟨va, vb, vc, vd⟩ := V
  dsimp only at hp hr hpr hrp
  clear hln hsz
  have HAG := Lib.hid hag; clear hag
  have hEE : (E != E) = false := by simp
  go_enter Try.func3, Try.ntmps3
  go_wp2_with fail
  refine (hp _ hv).mono ?_
  rintro e w1 ⟨rfl, hb1⟩
  go_wp2_with fail
  refine (hr _).mono ?_
  rintro e w2 ⟨rfl, hb2⟩
  have hu1 := UAt.new w1 va vb vc vd
  have hs1 : w1.heap.size < (w1.alloc (.cells #[.string (str va), .string (str vb), .string (str vc), .string (str vd)] 23)).heap.size := by simp
  have hu2 := hu1.below hs1 hb2
  have hs2 := Nat.lt_of_lt_of_le hs1 hb2.size
  have hu3 := hu2.below hs2 ((Below.refl _ _).alloc (Nat.le_refl _) (.cells #[.string (str va), .string (str vb), .string (str vc), .string (str vd)] 23))
  have hu4 := UAt.new w2 va vb vc vd
  have hb03 : Below w.heap.size w (w2.alloc (.cells #[.string (str va), .string (str vb), .string (str vc), .string (str vd)] 23)) := (hb1.chain (((Below.refl _ _).alloc (Nat.le_refl _) _).chain hb2)).chain ((Below.refl _ _).alloc (Nat.le_refl _) _)
  have hs3 : w1.heap.size < (w2.alloc (.cells #[.string (str va), .string (str vb), .string (str vc), .string (str vd)] 23)).heap.size := by simp; omega
  have hs4 : w2.heap.size < (w2.alloc (.cells #[.string (str va), .string (str vb), .string (str vc), .string (str vd)] 23)).heap.size := by simp
  go_wp2_with fail
  clear hu1 hu2 hs1 hs2
  generalize (w2.alloc (.cells #[.string (str va), .string (str vb), .string (str vc), .string (str vd)] 23)) = W at *
  generalize w1.heap.size = p1 at *
  generalize w2.heap.size = p2 at *
  clear hb1 hb2
  have hub : ∀ {W W' : World}, UAt p1 va vb vc vd W ∧ UAt p2 va vb vc vd W → p1 < W.heap.size → p2 < W.heap.size → Below W.heap.size W W' → UAt p1 va vb vc vd W' ∧ UAt p2 va vb vc vd W' :=
    fun h h1 h2 hb => ⟨h.1.below h1 hb, h.2.below h2 hb⟩
  have hu0 : UAt p1 va vb vc vd W ∧ UAt p2 va vb vc vd W := ⟨hu3, hu4⟩
  clear hu3 hu4
  unfold UAt at hub hu0
  go_region_held3 (fun W => (W.cell? ⟨p1, 0, none⟩ = some (.string (str va)) ∧ W.cell? ⟨p1, 1, none⟩ = some (.string (str vb)) ∧ W.cell? ⟨p1, 2, none⟩ = some (.string (str vc)) ∧ W.cell? ⟨p1, 3, none⟩ = some (.string (str vd))) ∧ (W.cell? ⟨p2, 0, none⟩ = some (.string (str va)) ∧ W.cell? ⟨p2, 1, none⟩ = some (.string (str vb)) ∧ W.cell? ⟨p2, 2, none⟩ = some (.string (str vc)) ∧ W.cell? ⟨p2, 3, none⟩ = some (.string (str vd)))) (first | exact hu0 | exact hub hu0 hs3 hs4 (Below.refl _ _).drew | exact hub (hub hu0 hs3 hs4 (Below.refl _ _).drew) hs3 hs4 (by assumption) | exact hub (hub (hub hu0 hs3 hs4 (Below.refl _ _).drew) hs3 hs4 (by assumption)) (Nat.lt_of_lt_of_le hs3 hb4.size) (Nat.lt_of_lt_of_le hs4 hb4.size) (by assumption)) (first | (go_at_call 10; refine (hpr _).mono ?_; rintro e w4 ⟨rfl, hb4⟩) | (go_at_call 11; refine (hrp _).mono ?_; rintro e w5 ⟨rfl, hb5⟩))
  have hb5' := ((Below.refl W.heap.size W).drew.chain hb4).chain hb5
  have hv5 := (hv.below hb03).below hb5'
  have hu5 := (hub hu0 hs3 hs4 hb5').1
  have hs5 := Nat.lt_of_lt_of_le hs3 hb5'.size
  clear hu0 hb4 hs3 hs4
  go_wp2_with fail
  refine (answers3_any _ hv5).mono ?_
  rintro e w6 ⟨rfl, hb6⟩
  have hu6 : UAt p1 va vb vc vd w6 := UAt.below hu5 hs5 hb6
  unfold UAt at hu6
  obtain ⟨c0, c1, c2, c3⟩ := hu6
  have hb06 := (hb03.chain hb5').chain hb6
  clear hub hu5
  rcases hE with rfl | rfl | rfl
  · rcases HAG.out rfl with h | h
    · have hss : s = str R := by rw [str_eta s, ← h]
      subst hss
      go_wp2_with fail
      refine (hpr _).mono ?_
      rintro e w7 ⟨rfl, hb7⟩
      go_wp2
      go_ret
      exact ⟨rfl, hb06.chain hb7⟩
    · have hss : s = str R ++ ⟨#[63]⟩ := by
        have e : str R ++ str [63] = str (R ++ [63]) := str_app R [63]
        rw [str_eta s, ← h]; exact e.symm
      have HSS := Lib.hid hss; clear hss
      have hst : s.toList = R ++ [63] := by rw [ByteArray.toList_eq, ← h]
      have hne : (R == s.toList) = false := by
        rw [hst]; simp
      have HST := Lib.hid hst; clear hst h
      have u6 : UAt p1 va vb vc vd w6 := ⟨c0, c1, c2, c3⟩
      have hs6 := Nat.lt_of_lt_of_le hs5 hb6.size
      go_wp2_with fail
      refine (hpr _).mono ?_
      rintro e w7 ⟨rfl, hb7⟩
      have u7 := u6.below hs6 hb7
      unfold UAt at u7
      obtain ⟨d0, d1, d2, d3⟩ := u7
      clear c0 c1 c2 c3
      go_wp2_with fail
      refine (hpr _).mono ?_
      rintro e w8 ⟨rfl, hb8⟩
      have hRl : R.length ≤ 20000 := hsl
      go_wp2
      go_ret
      exact ⟨ret_bool (by rw [← HSS.out]; simp), (hb06.chain hb7).chain hb8⟩
  · go_wp2
    go_ret
    exact ⟨rfl, hb06⟩
  · go_wp2
    go_ret
    exact ⟨rfl, hb06⟩
theorem uriParts_law (s : ByteArray) (hs : s.size ≤ maxLen) (w : World) (hv : VarIn w) : Calls Try.prog 3 #[.string s] w fun e w' => e = .returned (.bool true) ∧ Below w.heap.size w w' := uriParts_walk s hs w hv
end Go.Proofs.Ytdogcnlcefklkaa
