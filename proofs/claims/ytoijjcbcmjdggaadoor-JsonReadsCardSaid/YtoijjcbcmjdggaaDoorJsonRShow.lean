/- JSON: the reference's show. -/
import Derived.Test.YtoijjcbcmjdggaaDoorJsonRSame
import Derived.Test.YtoijjcbcmjdggaaDoorJsonItems
import Derived.Test.YtoijjcbcmjdggaaDoorJsonDec
import Derived.Test.YtoijjcbcmjdggaaDoorJsonQuote
import Derived.Test.YtoijjcbcmjdggaaDoorJsonWrite
namespace Go.Proofs.YtoijjcbcmjdggaaDoor
open Go.RowKit
set_option linter.unusedVariables false
set_option linter.unusedSimpArgs false

theorem sum_lists (a b : List UInt8) (h : a.length + b.length ≤ 140737488355328) (W : World) : (Op.stringOp .add ⟨a.toArray⟩ ⟨b.toArray⟩).run Tryd.prog W = .ok (.string ⟨(a ++ b).toArray⟩) W := by
  have := run_string_add_sum (P := Tryd.prog) W ⟨a.toArray⟩ ⟨b.toArray⟩ (by show a.toArray.size + b.toArray.size ≤ _; simp; omega)
  rw [this]
  congr 2
theorem quoteC_least (c : UInt8) : 1 ≤ (quoteC c).length := by
  unfold quoteC; split
  · simp
  · split <;> simp
theorem qL_least (l : List UInt8) : l.length ≤ (qL l).length := by
  induction l with
  | nil => simp
  | cons c r ih =>
    have := quoteC_least c
    show (c :: r).length ≤ (quoteC c ++ qL r).length
    rw [List.length_append, List.length_cons]; omega
theorem quoteJ_least (l : List UInt8) : l.length ≤ (quoteJ l).length := by
  have := qL_least l
  rw [quoteJ_q]; simp; omega
theorem good_headB {k n : Int} {t : List UInt8} {l : List V} {ks : List (List UInt8)} (h : (V.mk k n t l ks).good = true) : headB k n t l.length ks = true := by
  rw [good_mk, Bool.and_eq_true] at h
  exact h.1
set_option maxRecDepth 100000 in
set_option maxHeartbeats 20000000 in
theorem refShow_at (m : Nat) : ∀ (v : V) (w : World) (L N : Nat) (cs : List Value), v.size ≤ m → v.good = true → v.show.length ≤ 10000000000000 → VIs w L N v cs → N ≤ w.heap.size →
    Calls Tryd.prog 27 #[.agg cs.toArray] w fun e w' => e = .returned (.string ⟨v.show.toArray⟩) ∧ Below w.heap.size w w' := by
  induction m with
  | zero => intro v w L N cs hm; exact absurd (size_pos v) (by omega)
  | succ m ih =>
  intro v w L N cs hm hg hlen hv hN
  obtain ⟨k, n, t, l, ks⟩ := v
  obtain ⟨⟨ml, mk, mt, mx⟩, A, c, A', c', rfl, h1, h2⟩ := hv.out
  have hh := good_head hg
  have hgi := fun i hi => good_item hg i hi
  have hmem := show_mem (good_headB hg)
  have hb0 := (Below.refl w.heap.size w).alloc (Nat.le_refl _) (.cells #[.int .i64 k, .int .i64 n, .string ⟨t.toArray⟩, .slice A l.length c, .slice A' ks.length c'] 25)
  have x1 := Box.new w (.int .i64 k) (.int .i64 n) (.string ⟨t.toArray⟩) (.slice A l.length c) (.slice A' ks.length c') 25
  have hsz1 : w.heap.size + 1 ≤ (w.alloc (.cells #[.int .i64 k, .int .i64 n, .string ⟨t.toArray⟩, .slice A l.length c, .slice A' ks.length c'] 25)).heap.size := by simp
  obtain ⟨SH, hSH⟩ : ∃ SH, (V.mk k n t l ks).show = SH := ⟨_, rfl⟩
  have hsh : (V.mk k n t l ks).show = if k = 1 then nullT else if k = 2 then (if n = 1 then trueT else falseT) else if k = 3 then decI n else if k = 4 then quoteJ t else if k = 5 then 91 :: (V.items l ++ [93]) else 123 :: (V.pairs l ks ++ [125]) := by
    conv => lhs; unfold V.show
  rw [hSH] at hlen hmem hsh ⊢
  have HB0 := Lib.hid hb0; have X1 := Lib.hid x1; have HS1 := Lib.hid hsz1; have HM := Lib.hid hm; have GI := Lib.hid hgi; have HL := Lib.hid hlen; have MM := Lib.hid hmem; have SS := Lib.hid hsh
  have hk := hh.kind
  have hkk : k = 1 ∨ k = 2 ∨ k = 3 ∨ k = 4 ∨ k = 5 ∨ k = 6 := by omega
  have HH := Lib.hid hh
  clear hb0 x1 hsz1 hv mx hm hg hgi hmem hlen hsh hSH hh hk
  rcases hkk with rfl | rfl | rfl | rfl | rfl | rfl
  · have e : SH = nullT := SS.out
    subst e
    go_enter Tryd.func27, Tryd.ntmps27
    go_wp2
    go_ret
    exact ⟨rfl, HB0.out⟩
  · by_cases hn : n = 1
    · subst hn
      have e : SH = trueT := SS.out
      subst e
      go_enter Tryd.func27, Tryd.ntmps27
      go_wp2
      go_ret
      exact ⟨rfl, HB0.out⟩
    · have d1 : (n == 1) = false := by simp; omega
      have e : SH = falseT := SS.out.trans (by rw [if_neg (by decide), if_pos rfl, if_neg hn])
      subst e
      clear hn
      go_enter Tryd.func27, Tryd.ntmps27
      go_wp2
      go_ret
      exact ⟨rfl, HB0.out⟩
  · have e : SH = decI n := SS.out
    subst e
    have hc := fun wq => refDec_any n (by have := HH.out.num rfl; omega) wq
    have HC := Lib.hid hc
    clear hc
    go_enter Tryd.func27, Tryd.ntmps27
    go_wp2_with (go_at_call 42; with_reducible refine (HC.out _).mono ?_; rintro e1 w1 ⟨rfl, hb1⟩)
    go_ret
    exact ⟨rfl, HB0.out.trans (hb1.mono (by simp))⟩
  · have e : SH = quoteJ t := SS.out
    subst e
    have hc := fun wq => refQuoteJ_any ⟨t.toArray⟩ (by
      have := HL.out
      have := quoteJ_least t
      show t.toArray.size ≤ _
      rw [List.size_toArray]; omega) wq
    have HC := Lib.hid hc
    clear hc
    go_enter Tryd.func27, Tryd.ntmps27
    go_wp2_with (go_at_call 43; with_reducible refine (HC.out _).mono ?_; rintro e1 w1 ⟨rfl, hb1⟩)
    go_ret
    exact ⟨rfl, HB0.out.trans (hb1.mono (by simp))⟩
  · -- a list
    have e : SH = 91 :: (V.items l ++ [93]) := SS.out
    subst e
    clear SS
    obtain ⟨nl, hnl⟩ : ∃ nl, l.length = nl := ⟨_, rfl⟩
    have hpl := items_len l
    have hall : V.items (l.take nl) = V.items l := by rw [← hnl, List.take_length]
    obtain ⟨lk, hlk⟩ : ∃ lk, ks.length = lk := ⟨_, rfl⟩
    rw [hnl] at HB0 X1 HS1 ml ⊢
    rw [hlk] at HB0 X1 HS1 mk ⊢
    clear hlk
    have NL := Lib.hid hnl; have H1 := Lib.hid h1; have H2 := Lib.hid h2; have PL := Lib.hid hpl; have ALL := Lib.hid hall
    have hl := HL.out
    rw [List.length_cons, List.length_append] at hl
    obtain ⟨T, hT⟩ : ∃ T, (V.items l).length = T := ⟨_, rfl⟩
    rw [hT] at hl PL
    have TT := Lib.hid hT
    clear hnl h1 h2 hpl hall hT mk
    go_enter Tryd.func27, Tryd.ntmps27
    go_wp2
    go_loopw [3, 4] (fun s i wr => ∃ j : Nat, j ≤ nl ∧ i = .int .i64 j ∧ s = .string ⟨(V.items (l.take j)).toArray⟩ ∧ Box wr w.heap.size (.int .i64 5) (.int .i64 n) (.string ⟨t.toArray⟩) (.slice A nl c) (.slice A' lk c') ∧ w.heap.size + 1 ≤ wr.heap.size ∧ Below w.heap.size w wr) (fun _ i _ => nl - (intOf i).toNat)
    case atStart => exact ⟨0, Nat.zero_le _, rfl, by rw [items_zero], X1.out, HS1.out, HB0.out⟩
    case round =>
      obtain ⟨j, hj, rfl, rfl, bx, hs, hb⟩ := hrel
      have BX := Lib.hid bx; have HBB := Lib.hid hb
      obtain ⟨b0, -, -, b3, b4⟩ := bx
      by_cases hlt : j < nl
      · have hjl : j < l.length := by have := NL.out; omega
        obtain ⟨p, o, rfl, _, hpN, xs, hx5, hxv⟩ := VIs.item H2.out j hjl
        have hbN := hb.mono hN
        have hxl := MM.out l[j] (List.getElem_mem hjl)
        rw [List.length_cons, List.length_append, TT.out] at hxl
        have hc := fun wq (hwq : Below w.heap.size w wq) => ih l[j] wq L N xs (by have := HM.out; have := size_get (k := 5) (n := n) (t := t) (ks := ks) j hjl; omega) (GI.out j hjl) (by omega) (hxv.below (hwq.mono hN)) (Nat.le_trans hN hwq.size)
        obtain ⟨a0, a1, a2, a3, a4, rfl, m0, m1, m2, m3, m4⟩ := hx5.keep (w' := wr) hpN (fun p hp => hbN.cell hp)
        have hj1 := PL.out (j + 1)
        have hn0 := items_one l; have hn1 := items_next l j hjl
        have hz0 := items_zero l
        obtain ⟨IJ, hIJ⟩ : ∃ x, V.items (l.take (j + 1)) = x := ⟨_, rfl⟩
        rw [hIJ] at hj1
        by_cases h0 : 0 < j
        · have t0 : decide ((0 : Int) < j) = true := by simp; omega
          have hn := hn1 h0
          rw [hIJ] at hn
          have HIJ := Lib.hid hIJ
          clear hIJ hn0 hn1 hz0
          generalize l[j] = x at *
          generalize V.items (l.take j) = it at *
          subst hn
          try simp only [List.length_append, List.length_cons, List.length_nil] at hj1
          obtain ⟨X, hX⟩ : ∃ X : ByteArray, X = ⟨x.show.toArray⟩ := ⟨_, rfl⟩
          obtain ⟨S0, hS0⟩ : ∃ S : ByteArray, S = ⟨it.toArray⟩ := ⟨_, rfl⟩
          obtain ⟨S1, hS1⟩ : ∃ S : ByteArray, S = ⟨(it ++ [44]).toArray⟩ := ⟨_, rfl⟩
          have eS1 : ∀ W, (Op.stringOp .add S0 ⟨#[44]⟩).run Tryd.prog W = .ok (.string S1) W := fun W => by
            rw [hS1, hS0]; exact sum_lists it [44] (by first | omega | (simp only [List.length_append, List.length_cons, List.length_nil]; omega)) W
          obtain ⟨S4, hS4⟩ : ∃ S : ByteArray, S = ⟨((it ++ [44]) ++ x.show).toArray⟩ := ⟨_, rfl⟩
          have eS4 : ∀ W, (Op.stringOp .add S1 X).run Tryd.prog W = .ok (.string S4) W := fun W => by
            rw [hS4, hS1, hX]; exact sum_lists (it ++ [44]) x.show (by first | omega | (simp only [List.length_append, List.length_cons, List.length_nil]; omega)) W
          have hfin : S4 = ⟨(it ++ (44 : UInt8) :: x.show).toArray⟩ := by rw [hS4]; simp
          rw [← hX] at hc
          rw [← hS0]
          have HC := Lib.hid hc; have HF := Lib.hid hfin
          have hpw : p < wr.heap.size := by omega
          clear hc hfin hX hb hx5 hxv hj1 hxl hbN hS0 hS1 hS4
          go_wp2_with (go_at_call 27; with_reducible refine (HC.out _ HBB.out).mono ?_; rintro e1 w1 ⟨rfl, hb12⟩)
          have hs1 := hb12.size
          go_roundw
          case rel => exact ⟨j + 1, by omega, by go_num, by rw [HF.out, HIJ.out], BX.out.below (by omega) hb12, by omega, HBB.out.trans (hb12.mono (by omega))⟩
          case measure => simp [intOf]; omega
        · obtain rfl : j = 0 := by omega
          simp only [Nat.zero_mul, Nat.add_zero] at m0 m1 m2 m3 m4
          have hn := hn0 hjl
          rw [hz0]
          rw [hIJ] at hn
          have HIJ := Lib.hid hIJ
          clear hIJ hn0 hn1 hz0
          generalize l[0] = x at *
          subst hn
          try simp only [List.length_append, List.length_cons, List.length_nil] at hj1
          obtain ⟨X, hX⟩ : ∃ X : ByteArray, X = ⟨x.show.toArray⟩ := ⟨_, rfl⟩
          obtain ⟨S4, hS4⟩ : ∃ S : ByteArray, S = ⟨([] ++ x.show).toArray⟩ := ⟨_, rfl⟩
          have eS4 : ∀ W, (Op.stringOp .add ⟨#[]⟩ X).run Tryd.prog W = .ok (.string S4) W := fun W => by
            rw [hS4, hX]; exact sum_lists [] x.show (by first | omega | (simp only [List.length_append, List.length_cons, List.length_nil]; omega)) W
          have hfin : S4 = ⟨(x.show).toArray⟩ := by rw [hS4]; simp
          rw [← hX] at hc
          have HC := Lib.hid hc; have HF := Lib.hid hfin
          have hpw : p < wr.heap.size := by omega
          clear hc hfin hX hb hx5 hxv hj1 hxl hbN hS4
          go_wp2_with (go_at_call 27; with_reducible refine (HC.out _ HBB.out).mono ?_; rintro e1 w1 ⟨rfl, hb12⟩)
          have hs1 := hb12.size
          go_roundw
          case rel => exact ⟨0 + 1, by omega, by go_num, by rw [HF.out, HIJ.out], BX.out.below (by omega) hb12, by omega, HBB.out.trans (hb12.mono (by omega))⟩
          case measure => simp [intOf] <;> omega
      · obtain rfl : j = nl := by omega
        rw [ALL.out]
        obtain ⟨S0, hS0⟩ : ∃ S : ByteArray, S = ⟨(V.items l).toArray⟩ := ⟨_, rfl⟩
        obtain ⟨S1, hS1⟩ : ∃ S : ByteArray, S = ⟨([91] ++ V.items l).toArray⟩ := ⟨_, rfl⟩
        obtain ⟨S2, hS2⟩ : ∃ S : ByteArray, S = ⟨(([91] ++ V.items l) ++ [93]).toArray⟩ := ⟨_, rfl⟩
        have hTT := TT.out
        have e1 : ∀ W, (Op.stringOp .add ⟨#[91]⟩ S0).run Tryd.prog W = .ok (.string S1) W := fun W => by
          rw [hS1, hS0]; exact sum_lists [91] (V.items l) (by simp only [List.length_cons, List.length_nil]; omega) W
        have e2 : ∀ W, (Op.stringOp .add S1 ⟨#[93]⟩).run Tryd.prog W = .ok (.string S2) W := fun W => by
          rw [hS2, hS1]; exact sum_lists _ [93] (by first | omega | (simp only [List.length_append, List.length_cons, List.length_nil]; omega)) W
        have hfin : S2 = ⟨(91 :: (V.items l ++ [93])).toArray⟩ := by rw [hS2]; simp
        rw [← hS0]
        have HF := Lib.hid hfin
        clear hfin hS0 hS1 hS2 hTT hb
        go_wp2
        go_ret
        exact ⟨congrArg (fun x => Ending.returned (.string x)) HF.out, HBB.out⟩
  · -- an object
    have e : SH = 123 :: (V.pairs l ks ++ [125]) := SS.out
    subst e
    clear SS
    obtain ⟨nl, hnl⟩ : ∃ nl, l.length = nl := ⟨_, rfl⟩
    have hpl := pairs_len l ks
    have hall : V.pairs (l.take nl) ks = V.pairs l ks := by rw [← hnl, List.take_length]
    have hkl := HH.out.keys rfl
    rw [hnl] at hkl HB0 X1 HS1 ml ⊢
    rw [hkl] at HB0 X1 HS1 mk ⊢
    have KL := Lib.hid hkl
    clear hkl
    have NL := Lib.hid hnl; have H1 := Lib.hid h1; have H2 := Lib.hid h2; have PL := Lib.hid hpl; have ALL := Lib.hid hall
    have hl := HL.out
    rw [List.length_cons, List.length_append] at hl
    obtain ⟨T, hT⟩ : ∃ T, (V.pairs l ks).length = T := ⟨_, rfl⟩
    rw [hT] at hl PL
    have TT := Lib.hid hT
    clear hnl h1 h2 hpl hall hT mk
    go_enter Tryd.func27, Tryd.ntmps27
    go_wp2
    go_loopw [3, 4] (fun s i wr => ∃ j : Nat, j ≤ nl ∧ i = .int .i64 j ∧ s = .string ⟨(V.pairs (l.take j) ks).toArray⟩ ∧ Box wr w.heap.size (.int .i64 6) (.int .i64 n) (.string ⟨t.toArray⟩) (.slice A nl c) (.slice A' nl c') ∧ w.heap.size + 1 ≤ wr.heap.size ∧ Below w.heap.size w wr) (fun _ i _ => nl - (intOf i).toNat)
    case atStart => exact ⟨0, Nat.zero_le _, rfl, by rw [pairs_zero], X1.out, HS1.out, HB0.out⟩
    case round =>
      obtain ⟨j, hj, rfl, rfl, bx, hs, hb⟩ := hrel
      have BX := Lib.hid bx; have HBB := Lib.hid hb
      obtain ⟨b0, -, -, b3, b4⟩ := bx
      by_cases hlt : j < nl
      · have hjl : j < l.length := by have := NL.out; omega
        obtain ⟨p, o, rfl, _, hpN, xs, hx5, hxv⟩ := VIs.item H2.out j hjl
        have hbN := hb.mono hN
        have hxl := MM.out l[j] (List.getElem_mem hjl)
        rw [List.length_cons, List.length_append, TT.out] at hxl
        have hc := fun wq (hwq : Below w.heap.size w wq) => ih l[j] wq L N xs (by have := HM.out; have := size_get (k := 6) (n := n) (t := t) (ks := ks) j hjl; omega) (GI.out j hjl) (by omega) (hxv.below (hwq.mono hN)) (Nat.le_trans hN hwq.size)
        obtain ⟨a0, a1, a2, a3, a4, rfl, m0, m1, m2, m3, m4⟩ := hx5.keep (w' := wr) hpN (fun p hp => hbN.cell hp)
        have hj1 := PL.out (j + 1)
        have hjk : j < ks.length := by have := KL.out; omega
        obtain ⟨kb, ko, rfl, _, hkN, hkc⟩ := VIs.key H1.out j hjk
        have hkw := (hb.cell (p := ⟨kb, ko + j, none⟩) (by show kb < _; omega)).trans hkc
        have hn0 := pairs_one l ks; have hn1 := pairs_next l ks j hjl hjk
        have hz0 := pairs_zero l ks
        obtain ⟨IJ, hIJ⟩ : ∃ x, V.pairs (l.take (j + 1)) ks = x := ⟨_, rfl⟩
        rw [hIJ] at hj1
        by_cases h0 : 0 < j
        · have t0 : decide ((0 : Int) < j) = true := by simp; omega
          have hn := hn1 h0
          rw [hIJ] at hn
          have HIJ := Lib.hid hIJ
          clear hIJ hn0 hn1 hz0
          generalize l[j] = x at *
          generalize ks[j] = key at *
          generalize V.pairs (l.take j) ks = it at *
          subst hn
          try simp only [List.length_append, List.length_cons, List.length_nil] at hj1
          obtain ⟨X, hX⟩ : ∃ X : ByteArray, X = ⟨x.show.toArray⟩ := ⟨_, rfl⟩
          obtain ⟨Q, hQ⟩ : ∃ Q : ByteArray, Q = ⟨(quoteJ key).toArray⟩ := ⟨_, rfl⟩
          obtain ⟨S0, hS0⟩ : ∃ S : ByteArray, S = ⟨it.toArray⟩ := ⟨_, rfl⟩
          obtain ⟨S1, hS1⟩ : ∃ S : ByteArray, S = ⟨(it ++ [44]).toArray⟩ := ⟨_, rfl⟩
          have eS1 : ∀ W, (Op.stringOp .add S0 ⟨#[44]⟩).run Tryd.prog W = .ok (.string S1) W := fun W => by
            rw [hS1, hS0]; exact sum_lists it [44] (by first | omega | (simp only [List.length_append, List.length_cons, List.length_nil]; omega)) W
          obtain ⟨S2, hS2⟩ : ∃ S : ByteArray, S = ⟨((it ++ [44]) ++ quoteJ key).toArray⟩ := ⟨_, rfl⟩
          have eS2 : ∀ W, (Op.stringOp .add S1 Q).run Tryd.prog W = .ok (.string S2) W := fun W => by
            rw [hS2, hS1, hQ]; exact sum_lists (it ++ [44]) (quoteJ key) (by first | omega | (simp only [List.length_append, List.length_cons, List.length_nil]; omega)) W
          obtain ⟨S3, hS3⟩ : ∃ S : ByteArray, S = ⟨(((it ++ [44]) ++ quoteJ key) ++ [58]).toArray⟩ := ⟨_, rfl⟩
          have eS3 : ∀ W, (Op.stringOp .add S2 ⟨#[58]⟩).run Tryd.prog W = .ok (.string S3) W := fun W => by
            rw [hS3, hS2]; exact sum_lists ((it ++ [44]) ++ quoteJ key) [58] (by first | omega | (simp only [List.length_append, List.length_cons, List.length_nil]; omega)) W
          obtain ⟨S4, hS4⟩ : ∃ S : ByteArray, S = ⟨((((it ++ [44]) ++ quoteJ key) ++ [58]) ++ x.show).toArray⟩ := ⟨_, rfl⟩
          have eS4 : ∀ W, (Op.stringOp .add S3 X).run Tryd.prog W = .ok (.string S4) W := fun W => by
            rw [hS4, hS3, hX]; exact sum_lists (((it ++ [44]) ++ quoteJ key) ++ [58]) x.show (by first | omega | (simp only [List.length_append, List.length_cons, List.length_nil]; omega)) W
          have hfin : S4 = ⟨(it ++ (44 : UInt8) :: (quoteJ key ++ (58 : UInt8) :: x.show)).toArray⟩ := by rw [hS4]; simp
          rw [← hX] at hc
          have hq := fun wq => refQuoteJ_any ⟨key.toArray⟩ (by have := quoteJ_least key; show key.toArray.size ≤ _; rw [List.size_toArray]; omega) wq
          have hqe : quoteJ (ByteArray.mk key.toArray).data.toList = quoteJ key := rfl
          rw [hqe, ← hQ] at hq
          have HQ := Lib.hid hq
          rw [← hS0]
          have HC := Lib.hid hc; have HF := Lib.hid hfin
          have hpw : p < wr.heap.size := by omega
          clear hc hfin hX hb hx5 hxv hj1 hxl hbN hQ hq hqe hS0 hS1 hS2 hS3 hS4
          go_wp2_with fail
          refine (HQ.out _).mono ?_
          rintro e1 w1 ⟨rfl, hb1⟩
          have c0 := (hb1.cell (p := ⟨w.heap.size, 0, none⟩) hs).trans b0
          have c3 := (hb1.cell (p := ⟨w.heap.size, 3, none⟩) hs).trans b3
          have d0 := (hb1.cell (p := ⟨p, o + j * 5, none⟩) hpw).trans m0
          have d1 := (hb1.cell (p := ⟨p, o + j * 5 + 1, none⟩) hpw).trans m1
          have d2 := (hb1.cell (p := ⟨p, o + j * 5 + 2, none⟩) hpw).trans m2
          have d3 := (hb1.cell (p := ⟨p, o + j * 5 + 3, none⟩) hpw).trans m3
          have d4 := (hb1.cell (p := ⟨p, o + j * 5 + 4, none⟩) hpw).trans m4
          dsimp only
          go_wp2_with (go_at_call 27; with_reducible refine (HC.out _ (HBB.out.trans (hb1.mono (by omega)))).mono ?_; rintro e2 w2 ⟨rfl, hb2⟩)
          have hb12 := hb1.trans (hb2.mono hb1.size)
          have hs1 := hb12.size
          go_roundw
          case rel => exact ⟨j + 1, by omega, by go_num, by rw [HF.out, HIJ.out], BX.out.below (by omega) hb12, by omega, HBB.out.trans (hb12.mono (by omega))⟩
          case measure => simp [intOf]; omega
        · obtain rfl : j = 0 := by omega
          simp only [Nat.zero_mul, Nat.add_zero] at m0 m1 m2 m3 m4 hkw
          have hn := hn0 hjl hjk
          rw [hz0]
          rw [hIJ] at hn
          have HIJ := Lib.hid hIJ
          clear hIJ hn0 hn1 hz0
          generalize l[0] = x at *
          generalize ks[0] = key at *
          subst hn
          try simp only [List.length_append, List.length_cons, List.length_nil] at hj1
          obtain ⟨X, hX⟩ : ∃ X : ByteArray, X = ⟨x.show.toArray⟩ := ⟨_, rfl⟩
          obtain ⟨Q, hQ⟩ : ∃ Q : ByteArray, Q = ⟨(quoteJ key).toArray⟩ := ⟨_, rfl⟩
          obtain ⟨S2, hS2⟩ : ∃ S : ByteArray, S = ⟨([] ++ quoteJ key).toArray⟩ := ⟨_, rfl⟩
          have eS2 : ∀ W, (Op.stringOp .add ⟨#[]⟩ Q).run Tryd.prog W = .ok (.string S2) W := fun W => by
            rw [hS2, hQ]; exact sum_lists [] (quoteJ key) (by first | omega | (simp only [List.length_append, List.length_cons, List.length_nil]; omega)) W
          obtain ⟨S3, hS3⟩ : ∃ S : ByteArray, S = ⟨(([] ++ quoteJ key) ++ [58]).toArray⟩ := ⟨_, rfl⟩
          have eS3 : ∀ W, (Op.stringOp .add S2 ⟨#[58]⟩).run Tryd.prog W = .ok (.string S3) W := fun W => by
            rw [hS3, hS2]; exact sum_lists ([] ++ quoteJ key) [58] (by first | omega | (simp only [List.length_append, List.length_cons, List.length_nil]; omega)) W
          obtain ⟨S4, hS4⟩ : ∃ S : ByteArray, S = ⟨((([] ++ quoteJ key) ++ [58]) ++ x.show).toArray⟩ := ⟨_, rfl⟩
          have eS4 : ∀ W, (Op.stringOp .add S3 X).run Tryd.prog W = .ok (.string S4) W := fun W => by
            rw [hS4, hS3, hX]; exact sum_lists (([] ++ quoteJ key) ++ [58]) x.show (by first | omega | (simp only [List.length_append, List.length_cons, List.length_nil]; omega)) W
          have hfin : S4 = ⟨(quoteJ key ++ (58 : UInt8) :: x.show).toArray⟩ := by rw [hS4]; simp
          rw [← hX] at hc
          have hq := fun wq => refQuoteJ_any ⟨key.toArray⟩ (by have := quoteJ_least key; show key.toArray.size ≤ _; rw [List.size_toArray]; omega) wq
          have hqe : quoteJ (ByteArray.mk key.toArray).data.toList = quoteJ key := rfl
          rw [hqe, ← hQ] at hq
          have HQ := Lib.hid hq
          have HC := Lib.hid hc; have HF := Lib.hid hfin
          have hpw : p < wr.heap.size := by omega
          clear hc hfin hX hb hx5 hxv hj1 hxl hbN hQ hq hqe hS2 hS3 hS4
          go_wp2_with fail
          refine (HQ.out _).mono ?_
          rintro e1 w1 ⟨rfl, hb1⟩
          have c0 := (hb1.cell (p := ⟨w.heap.size, 0, none⟩) hs).trans b0
          have c3 := (hb1.cell (p := ⟨w.heap.size, 3, none⟩) hs).trans b3
          have d0 := (hb1.cell (p := ⟨p, o, none⟩) hpw).trans m0
          have d1 := (hb1.cell (p := ⟨p, o + 1, none⟩) hpw).trans m1
          have d2 := (hb1.cell (p := ⟨p, o + 2, none⟩) hpw).trans m2
          have d3 := (hb1.cell (p := ⟨p, o + 3, none⟩) hpw).trans m3
          have d4 := (hb1.cell (p := ⟨p, o + 4, none⟩) hpw).trans m4
          dsimp only
          go_wp2_with (go_at_call 27; with_reducible refine (HC.out _ (HBB.out.trans (hb1.mono (by omega)))).mono ?_; rintro e2 w2 ⟨rfl, hb2⟩)
          have hb12 := hb1.trans (hb2.mono hb1.size)
          have hs1 := hb12.size
          go_roundw
          case rel => exact ⟨0 + 1, by omega, by go_num, by rw [HF.out, HIJ.out], BX.out.below (by omega) hb12, by omega, HBB.out.trans (hb12.mono (by omega))⟩
          case measure => simp [intOf] <;> omega
      · obtain rfl : j = nl := by omega
        rw [ALL.out]
        obtain ⟨S0, hS0⟩ : ∃ S : ByteArray, S = ⟨(V.pairs l ks).toArray⟩ := ⟨_, rfl⟩
        obtain ⟨S1, hS1⟩ : ∃ S : ByteArray, S = ⟨([123] ++ V.pairs l ks).toArray⟩ := ⟨_, rfl⟩
        obtain ⟨S2, hS2⟩ : ∃ S : ByteArray, S = ⟨(([123] ++ V.pairs l ks) ++ [125]).toArray⟩ := ⟨_, rfl⟩
        have hTT := TT.out
        have e1 : ∀ W, (Op.stringOp .add ⟨#[123]⟩ S0).run Tryd.prog W = .ok (.string S1) W := fun W => by
          rw [hS1, hS0]; exact sum_lists [123] (V.pairs l ks) (by simp only [List.length_cons, List.length_nil]; omega) W
        have e2 : ∀ W, (Op.stringOp .add S1 ⟨#[125]⟩).run Tryd.prog W = .ok (.string S2) W := fun W => by
          rw [hS2, hS1]; exact sum_lists _ [125] (by first | omega | (simp only [List.length_append, List.length_cons, List.length_nil]; omega)) W
        have hfin : S2 = ⟨(123 :: (V.pairs l ks ++ [125])).toArray⟩ := by rw [hS2]; simp
        rw [← hS0]
        have HF := Lib.hid hfin
        clear hfin hS0 hS1 hS2 hTT hb
        go_wp2
        go_ret
        exact ⟨congrArg (fun x => Ending.returned (.string x)) HF.out, HBB.out⟩
theorem refShow_any (v : V) (w : World) (L N : Nat) (cs : List Value) (hg : v.good = true) (hl : v.show.length ≤ 10000000000000) (hv : VIs w L N v cs) (hN : N ≤ w.heap.size) :
    Calls Tryd.prog 27 #[.agg cs.toArray] w fun e w' => e = .returned (.string ⟨v.show.toArray⟩) ∧ Below w.heap.size w w' :=
  refShow_at v.size v w L N cs (Nat.le_refl _) hg hl hv hN
end Go.Proofs.YtoijjcbcmjdggaaDoor
