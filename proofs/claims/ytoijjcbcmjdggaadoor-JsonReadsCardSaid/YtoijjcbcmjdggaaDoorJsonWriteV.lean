/- JSON: the code's write and Print. -/
import Derived.Test.YtoijjcbcmjdggaaDoorJsonWriteP
import Derived.Test.YtoijjcbcmjdggaaDoorJsonFits
namespace Go.Proofs.YtoijjcbcmjdggaaDoor
open Go.RowKit

theorem formatBool_t : Lib.formatBool true = trueT := by decide +kernel
theorem formatBool_f : Lib.formatBool false = falseT := by decide +kernel
theorem wsL (B b : Nat) (l t : List UInt8) (w : World) (h : Bld w B b l) (hlen : l.length + t.length ≤ 140737488355328) (hBw : B ≤ w.heap.size) :
    Calls Tryd.prog 35 #[.pointer (some ⟨b, 0, none⟩), .string ⟨t.toArray⟩] w fun e w' => (∃ v, e = .returned v) ∧ Bld w' B b (l ++ t) ∧ Below B w w' :=
  (writeString_any B b l ⟨t.toArray⟩ w h (by show l.length + t.toArray.size ≤ _; simpa using hlen) hBw).mono fun _ _ ⟨h1, h2, h3, _⟩ => ⟨⟨_, h1⟩, h2, h3⟩
set_option maxRecDepth 100000 in
set_option maxHeartbeats 2000000 in
theorem write_at (m : Nat) : ∀ v : V, v.size ≤ m → WriteSays v := by
  induction m with
  | zero => intro v hm; exact absurd (size_pos v) (by omega)
  | succ m ih =>
  intro v hm w B b acc L N p o cs hg hlen h hBw h5 hpN hv hN hk
  obtain ⟨k, n, t, l, ks⟩ := v
  have HD := good_head hg
  have h5' := h5
  obtain ⟨⟨ml, mk, -, -⟩, A, c, A', c', rfl, h1, h2⟩ := hv.out
  obtain ⟨c0, c1, c2, c3, c4, e, m0, m1, m2, m3, m4⟩ := h5
  injection e with e0 e; injection e with e1 e; injection e with e2 e; injection e with e3 e; injection e with e4 e
  subst e0; subst e1; subst e2; subst e3; subst e4
  have hk6 : k = 1 ∨ k = 2 ∨ k = 3 ∨ k = 4 ∨ k = 5 ∨ k = 6 := by have := HD.kind; omega
  have HB := Lib.hid h; have HK := Lib.hid hk
  have ihs := fun i (hi : i < l.length) => ih l[i] (by have := size_get (k := k) (n := n) (t := t) (ks := ks) i hi; omega)
  clear h hk h1 h2 ih
  rcases hk6 with rfl | rfl | rfl | rfl | rfl | rfl
  · rw [show_one] at hlen ⊢
    have hc := wsL B b acc nullT w HB.out hlen hBw
    have HC := Lib.hid hc; clear hc ihs hv h5' hg HD hlen hm
    go_enter Tryd.func23, Tryd.ntmps23
    go_wp2_with fail
    refine HC.out.mono ?_
    rintro e1 w1 ⟨⟨v, rfl⟩, hb1, hw1⟩
    dsimp only
    go_wp2
    go_end0
    exact ⟨rfl, hb1, hw1⟩
  · rw [show_two] at hlen ⊢
    have hn01 := HD.bool rfl
    have hfb := Tryd.strconv_FormatBool
    have HFB := Lib.hid hfb; clear hfb ihs hv h5' hg HD hm
    rcases hn01 with rfl | rfl
    · rw [if_neg (by decide)] at hlen ⊢
      have hc := wsL B b acc falseT w HB.out hlen hBw
      have HC := Lib.hid hc; clear hc hlen
      go_enter Tryd.func23, Tryd.ntmps23
      go_wp2_with (go_at_call 36; refine (HFB.out false _).mono ?_; rintro e1 w1 ⟨rfl, rfl⟩; rw [formatBool_f])
      refine HC.out.mono ?_
      rintro e1 w1 ⟨⟨v, rfl⟩, hb1, hw1⟩
      dsimp only
      go_wp2
      go_end0
      exact ⟨rfl, hb1, hw1⟩
    · rw [if_pos rfl] at hlen ⊢
      have hc := wsL B b acc trueT w HB.out hlen hBw
      have HC := Lib.hid hc; clear hc hlen
      go_enter Tryd.func23, Tryd.ntmps23
      go_wp2_with (go_at_call 36; refine (HFB.out true _).mono ?_; rintro e1 w1 ⟨rfl, rfl⟩; rw [formatBool_t])
      refine HC.out.mono ?_
      rintro e1 w1 ⟨⟨v, rfl⟩, hb1, hw1⟩
      dsimp only
      go_wp2
      go_end0
      exact ⟨rfl, hb1, hw1⟩
  · rw [show_three] at hlen ⊢
    have hn := HD.num rfl
    have hfi := formatInt_any n (by omega) (by omega) w B HK.out
    have hc := fun w1 (hb : Below w.heap.size w w1) => wsL B b acc (decI n) w1 (HB.out.below hb) hlen (Nat.le_trans hBw hb.size)
    have HC := Lib.hid hc; have HFI := Lib.hid hfi; clear hc hfi ihs hv h5' hg HD hlen hm
    go_enter Tryd.func23, Tryd.ntmps23
    go_wp2_with (go_at_call 37; refine (HFI.out).mono ?_; rintro e1 w1 ⟨rfl, hb1⟩)
    refine (HC.out _ hb1).mono ?_
    rintro e2 w2 ⟨⟨v, rfl⟩, hb2, hw2⟩
    dsimp only
    go_wp2
    go_end0
    exact ⟨rfl, hb2, (hb1.mono hBw).trans hw2⟩
  · rw [show_four] at hlen ⊢
    have hc := quote_any B b acc t w hlen HB.out hBw
    have HC := Lib.hid hc; clear hc ihs hv h5' hg HD hlen hm
    go_enter Tryd.func23, Tryd.ntmps23
    go_wp2_with (go_at_call 38; refine (HC.out).mono ?_; rintro e1 w1 ⟨rfl, hb1, hw1⟩)
    go_end0
    exact ⟨rfl, hb1, hw1⟩
  · rw [show_list] at hlen ⊢
    simp only [List.length_cons, List.length_append, List.length_nil] at hlen
    have hc1 := wbI B b acc 91 91 rfl w HB.out (by omega) hBw
    have hc2 := fun w1 (hw : Below B w w1) hb => writeList n t l ks ihs w1 B b (acc ++ [91]) L N p o _ hg (by simp; omega) hb (Nat.le_trans hBw hw.size) (h5'.keep hpN (fun s hs => hw.cell (Nat.lt_of_lt_of_le hs hN))) hpN (hv.below (hw.mono hN)) hN (HK.out.below hw)
    have hc3 := fun w1 (hw : Below B w w1) hb => wbI B b ((acc ++ [91]) ++ V.items l) 93 93 rfl w1 hb (by simp; omega) (Nat.le_trans hBw hw.size)
    have C1 := Lib.hid hc1; have C2 := Lib.hid hc2; have C3 := Lib.hid hc3; clear hc1 hc2 hc3 ihs hv h5' hg HD hlen hm
    go_enter Tryd.func23, Tryd.ntmps23
    go_wp2_with fail
    refine C1.out.mono ?_
    rintro e1 w1 ⟨rfl, hb1, hw1⟩
    dsimp only
    go_wp2_with (go_at_call 40; refine (C2.out _ hw1 hb1).mono ?_; rintro e2 w2 ⟨rfl, hb2, hw2⟩)
    refine (C3.out _ (hw1.trans hw2) hb2).mono ?_
    rintro e3 w3 ⟨rfl, hb3, hw3⟩
    dsimp only
    go_wp2
    go_end0
    exact ⟨rfl, by simpa using hb3, (hw1.trans hw2).trans hw3⟩
  · rw [show_object] at hlen ⊢
    simp only [List.length_cons, List.length_append, List.length_nil] at hlen
    have hc1 := wbI B b acc 123 123 rfl w HB.out (by omega) hBw
    have hc2 := fun w1 (hw : Below B w w1) hb => writePairs n t l ks ihs w1 B b (acc ++ [123]) L N p o _ hg (by simp; omega) hb (Nat.le_trans hBw hw.size) (h5'.keep hpN (fun s hs => hw.cell (Nat.lt_of_lt_of_le hs hN))) hpN (hv.below (hw.mono hN)) hN (HK.out.below hw)
    have hc3 := fun w1 (hw : Below B w w1) hb => wbI B b ((acc ++ [123]) ++ V.pairs l ks) 125 125 rfl w1 hb (by simp; omega) (Nat.le_trans hBw hw.size)
    have C1 := Lib.hid hc1; have C2 := Lib.hid hc2; have C3 := Lib.hid hc3; clear hc1 hc2 hc3 ihs hv h5' hg HD hlen hm
    go_enter Tryd.func23, Tryd.ntmps23
    go_wp2_with fail
    refine C1.out.mono ?_
    rintro e1 w1 ⟨rfl, hb1, hw1⟩
    dsimp only
    go_wp2_with (go_at_call 40; refine (C2.out _ hw1 hb1).mono ?_; rintro e2 w2 ⟨rfl, hb2, hw2⟩)
    refine (C3.out _ (hw1.trans hw2) hb2).mono ?_
    rintro e3 w3 ⟨rfl, hb3, hw3⟩
    dsimp only
    go_wp2
    go_end0
    exact ⟨rfl, by simpa using hb3, (hw1.trans hw2).trans hw3⟩
end Go.Proofs.YtoijjcbcmjdggaaDoor
