/- Texts merged by program, in build order: JsonRShow, JsonRParse. -/
import Derived.Test.YtcbajbpdgmmaeaaDoorC06
import Derived.Test.YtcbajbpdgmmaeaaDoorC03
import Derived.Test.YtcbajbpdgmmaeaaDoorC17
import Derived.Test.YtcbajbpdgmmaeaaDoorC16
namespace Go.Proofs.YtcbajbpdgmmaeaaDoor
open Go.RowKit
set_option linter.unusedVariables false
set_option linter.unusedSimpArgs false

theorem sum_lists (a b : List UInt8) (h : a.length + b.length ≤ 140737488355328) (W : World) : (Op.stringOp .add ⟨a.toArray⟩ ⟨b.toArray⟩).run Tryd.prog W = .ok (.string ⟨(a ++ b).toArray⟩) W := by
  have := run_string_add_sum (P := Tryd.prog) W ⟨a.toArray⟩ ⟨b.toArray⟩ (by show a.toArray.size + b.toArray.size ≤ _; simp; omega)
  rw [this]
  congr 2
theorem quoteC_least (c : UInt8) : 1 ≤ (quoteC c).length := by
  unfold quoteC; split
  · simp
  · split <;> simp
theorem qL_least (l : List UInt8) : l.length ≤ (qL l).length := by
  induction l with
  | nil => simp
  | cons c r ih =>
    have := quoteC_least c
    show (c :: r).length ≤ (quoteC c ++ qL r).length
    rw [List.length_append, List.length_cons]; omega
theorem quoteJ_least (l : List UInt8) : l.length ≤ (quoteJ l).length := by
  have := qL_least l
  rw [quoteJ_q]; simp; omega
theorem good_headB {k n : Int} {t : List UInt8} {l : List V} {ks : List (List UInt8)} (h : (V.mk k n t l ks).good = true) : headB k n t l.length ks = true := by
  rw [good_mk, Bool.and_eq_true] at h
  exact h.1
set_option maxRecDepth 100000 in
set_option maxHeartbeats 20000000 in
theorem refShow_at (m : Nat) : ∀ (v : V) (w : World) (L N : Nat) (cs : List Value), v.size ≤ m → v.good = true → v.show.length ≤ 10000000000000 → VIs w L N v cs → N ≤ w.heap.size →
    Calls Tryd.prog 30 #[.agg cs.toArray] w fun e w' => e = .returned (.string ⟨v.show.toArray⟩) ∧ Below w.heap.size w w' := by
  induction m with
  | zero => intro v w L N cs hm; exact absurd (size_pos v) (by omega)
  | succ m ih =>
  intro v w L N cs hm hg hlen hv hN
  obtain ⟨k, n, t, l, ks⟩ := v
  obtain ⟨⟨ml, mk, mt, mx⟩, A, c, A', c', rfl, h1, h2⟩ := hv.out
  have hh := good_head hg
  have hgi := fun i hi => good_item hg i hi
  have hmem := show_mem (good_headB hg)
  have hb0 := (Below.refl w.heap.size w).alloc (Nat.le_refl _) (.cells #[.int .i64 k, .int .i64 n, .string ⟨t.toArray⟩, .slice A l.length c, .slice A' ks.length c'] 28)
  have x1 := Box.new w (.int .i64 k) (.int .i64 n) (.string ⟨t.toArray⟩) (.slice A l.length c) (.slice A' ks.length c') 28
  have hsz1 : w.heap.size + 1 ≤ (w.alloc (.cells #[.int .i64 k, .int .i64 n, .string ⟨t.toArray⟩, .slice A l.length c, .slice A' ks.length c'] 28)).heap.size := by simp
  obtain ⟨SH, hSH⟩ : ∃ SH, (V.mk k n t l ks).show = SH := ⟨_, rfl⟩
  have hsh : (V.mk k n t l ks).show = if k = 1 then nullT else if k = 2 then (if n = 1 then trueT else falseT) else if k = 3 then decI n else if k = 4 then quoteJ t else if k = 5 then 91 :: (V.items l ++ [93]) else 123 :: (V.pairs l ks ++ [125]) := by
    conv => lhs; unfold V.show
  rw [hSH] at hlen hmem hsh ⊢
  have HB0 := Lib.hid hb0; have X1 := Lib.hid x1; have HS1 := Lib.hid hsz1; have HM := Lib.hid hm; have GI := Lib.hid hgi; have HL := Lib.hid hlen; have MM := Lib.hid hmem; have SS := Lib.hid hsh
  have hk := hh.kind
  have hkk : k = 1 ∨ k = 2 ∨ k = 3 ∨ k = 4 ∨ k = 5 ∨ k = 6 := by omega
  have HH := Lib.hid hh
  clear hb0 x1 hsz1 hv mx hm hg hgi hmem hlen hsh hSH hh hk
  rcases hkk with rfl | rfl | rfl | rfl | rfl | rfl
  · have e : SH = nullT := SS.out
    subst e
    go_enter Tryd.func30, Tryd.ntmps30
    go_wp2
    go_ret
    exact ⟨rfl, HB0.out⟩
  · by_cases hn : n = 1
    · subst hn
      have e : SH = trueT := SS.out
      subst e
      go_enter Tryd.func30, Tryd.ntmps30
      go_wp2
      go_ret
      exact ⟨rfl, HB0.out⟩
    · have d1 : (n == 1) = false := by simp; omega
      have e : SH = falseT := SS.out.trans (by rw [if_neg (by decide), if_pos rfl, if_neg hn])
      subst e
      clear hn
      go_enter Tryd.func30, Tryd.ntmps30
      go_wp2
      go_ret
      exact ⟨rfl, HB0.out⟩
  · have e : SH = decI n := SS.out
    subst e
    have hc := fun wq => refDec_any n (by have := HH.out.num rfl; omega) wq
    have HC := Lib.hid hc
    clear hc
    go_enter Tryd.func30, Tryd.ntmps30
    go_wp2_with (go_at_call 38; with_reducible refine (HC.out _).mono ?_; rintro e1 w1 ⟨rfl, hb1⟩)
    go_ret
    exact ⟨rfl, HB0.out.trans (hb1.mono (by simp))⟩
  · have e : SH = quoteJ t := SS.out
    subst e
    have hc := fun wq => refQuoteJ_any ⟨t.toArray⟩ (by
      have := HL.out
      have := quoteJ_least t
      show t.toArray.size ≤ _
      rw [List.size_toArray]; omega) wq
    have HC := Lib.hid hc
    clear hc
    go_enter Tryd.func30, Tryd.ntmps30
    go_wp2_with (go_at_call 39; with_reducible refine (HC.out _).mono ?_; rintro e1 w1 ⟨rfl, hb1⟩)
    go_ret
    exact ⟨rfl, HB0.out.trans (hb1.mono (by simp))⟩
  · -- a list
    have e : SH = 91 :: (V.items l ++ [93]) := SS.out
    subst e
    clear SS
    obtain ⟨nl, hnl⟩ : ∃ nl, l.length = nl := ⟨_, rfl⟩
    have hpl := items_len l
    have hall : V.items (l.take nl) = V.items l := by rw [← hnl, List.take_length]
    obtain ⟨lk, hlk⟩ : ∃ lk, ks.length = lk := ⟨_, rfl⟩
    rw [hnl] at HB0 X1 HS1 ml ⊢
    rw [hlk] at HB0 X1 HS1 mk ⊢
    clear hlk
    have NL := Lib.hid hnl; have H1 := Lib.hid h1; have H2 := Lib.hid h2; have PL := Lib.hid hpl; have ALL := Lib.hid hall
    have hl := HL.out
    rw [List.length_cons, List.length_append] at hl
    obtain ⟨T, hT⟩ : ∃ T, (V.items l).length = T := ⟨_, rfl⟩
    rw [hT] at hl PL
    have TT := Lib.hid hT
    clear hnl h1 h2 hpl hall hT mk
    go_enter Tryd.func30, Tryd.ntmps30
    go_wp2
    go_loopw [3, 4] (fun s i wr => ∃ j : Nat, j ≤ nl ∧ i = .int .i64 j ∧ s = .string ⟨(V.items (l.take j)).toArray⟩ ∧ Box wr w.heap.size (.int .i64 5) (.int .i64 n) (.string ⟨t.toArray⟩) (.slice A nl c) (.slice A' lk c') ∧ w.heap.size + 1 ≤ wr.heap.size ∧ Below w.heap.size w wr) (fun _ i _ => nl - (intOf i).toNat)
    case atStart => exact ⟨0, Nat.zero_le _, rfl, by rw [items_zero], X1.out, HS1.out, HB0.out⟩
    case round =>
      obtain ⟨j, hj, rfl, rfl, bx, hs, hb⟩ := hrel
      have BX := Lib.hid bx; have HBB := Lib.hid hb
      obtain ⟨b0, -, -, b3, b4⟩ := bx
      by_cases hlt : j < nl
      · have hjl : j < l.length := by have := NL.out; omega
        obtain ⟨p, o, rfl, _, hpN, xs, hx5, hxv⟩ := VIs.item H2.out j hjl
        have hbN := hb.mono hN
        have hxl := MM.out l[j] (List.getElem_mem hjl)
        rw [List.length_cons, List.length_append, TT.out] at hxl
        have hc := fun wq (hwq : Below w.heap.size w wq) => ih l[j] wq L N xs (by have := HM.out; have := size_get (k := 5) (n := n) (t := t) (ks := ks) j hjl; omega) (GI.out j hjl) (by omega) (hxv.below (hwq.mono hN)) (Nat.le_trans hN hwq.size)
        obtain ⟨a0, a1, a2, a3, a4, rfl, m0, m1, m2, m3, m4⟩ := hx5.keep (w' := wr) hpN (fun p hp => hbN.cell hp)
        have hj1 := PL.out (j + 1)
        have hn0 := items_one l; have hn1 := items_next l j hjl
        have hz0 := items_zero l
        obtain ⟨IJ, hIJ⟩ : ∃ x, V.items (l.take (j + 1)) = x := ⟨_, rfl⟩
        rw [hIJ] at hj1
        by_cases h0 : 0 < j
        · have t0 : decide ((0 : Int) < j) = true := by simp; omega
          have hn := hn1 h0
          rw [hIJ] at hn
          have HIJ := Lib.hid hIJ
          clear hIJ hn0 hn1 hz0
          generalize l[j] = x at *
          generalize V.items (l.take j) = it at *
          subst hn
          try simp only [List.length_append, List.length_cons, List.length_nil] at hj1
          obtain ⟨X, hX⟩ : ∃ X : ByteArray, X = ⟨x.show.toArray⟩ := ⟨_, rfl⟩
          obtain ⟨S0, hS0⟩ : ∃ S : ByteArray, S = ⟨it.toArray⟩ := ⟨_, rfl⟩
          obtain ⟨S1, hS1⟩ : ∃ S : ByteArray, S = ⟨(it ++ [44]).toArray⟩ := ⟨_, rfl⟩
          have eS1 : ∀ W, (Op.stringOp .add S0 ⟨#[44]⟩).run Tryd.prog W = .ok (.string S1) W := fun W => by
            rw [hS1, hS0]; exact sum_lists it [44] (by first | omega | (simp only [List.length_append, List.length_cons, List.length_nil]; omega)) W
          obtain ⟨S4, hS4⟩ : ∃ S : ByteArray, S = ⟨((it ++ [44]) ++ x.show).toArray⟩ := ⟨_, rfl⟩
          have eS4 : ∀ W, (Op.stringOp .add S1 X).run Tryd.prog W = .ok (.string S4) W := fun W => by
            rw [hS4, hS1, hX]; exact sum_lists (it ++ [44]) x.show (by first | omega | (simp only [List.length_append, List.length_cons, List.length_nil]; omega)) W
          have hfin : S4 = ⟨(it ++ (44 : UInt8) :: x.show).toArray⟩ := by rw [hS4]; simp
          rw [← hX] at hc
          rw [← hS0]
          have HC := Lib.hid hc; have HF := Lib.hid hfin
          have hpw : p < wr.heap.size := by omega
          clear hc hfin hX hb hx5 hxv hj1 hxl hbN hS0 hS1 hS4
          go_wp2_with (go_at_call 30; with_reducible refine (HC.out _ HBB.out).mono ?_; rintro e1 w1 ⟨rfl, hb12⟩)
          have hs1 := hb12.size
          go_roundw
          case rel => exact ⟨j + 1, by omega, by go_num, by rw [HF.out, HIJ.out], BX.out.below (by omega) hb12, by omega, HBB.out.trans (hb12.mono (by omega))⟩
          case measure => simp [intOf]; omega
        · obtain rfl : j = 0 := by omega
          simp only [Nat.zero_mul, Nat.add_zero] at m0 m1 m2 m3 m4
          have hn := hn0 hjl
          rw [hz0]
          rw [hIJ] at hn
          have HIJ := Lib.hid hIJ
          clear hIJ hn0 hn1 hz0
          generalize l[0] = x at *
          subst hn
          try simp only [List.length_append, List.length_cons, List.length_nil] at hj1
          obtain ⟨X, hX⟩ : ∃ X : ByteArray, X = ⟨x.show.toArray⟩ := ⟨_, rfl⟩
          obtain ⟨S4, hS4⟩ : ∃ S : ByteArray, S = ⟨([] ++ x.show).toArray⟩ := ⟨_, rfl⟩
          have eS4 : ∀ W, (Op.stringOp .add ⟨#[]⟩ X).run Tryd.prog W = .ok (.string S4) W := fun W => by
            rw [hS4, hX]; exact sum_lists [] x.show (by first | omega | (simp only [List.length_append, List.length_cons, List.length_nil]; omega)) W
          have hfin : S4 = ⟨(x.show).toArray⟩ := by rw [hS4]; simp
          rw [← hX] at hc
          have HC := Lib.hid hc; have HF := Lib.hid hfin
          have hpw : p < wr.heap.size := by omega
          clear hc hfin hX hb hx5 hxv hj1 hxl hbN hS4
          go_wp2_with (go_at_call 30; with_reducible refine (HC.out _ HBB.out).mono ?_; rintro e1 w1 ⟨rfl, hb12⟩)
          have hs1 := hb12.size
          go_roundw
          case rel => exact ⟨0 + 1, by omega, by go_num, by rw [HF.out, HIJ.out], BX.out.below (by omega) hb12, by omega, HBB.out.trans (hb12.mono (by omega))⟩
          case measure => simp [intOf] <;> omega
      · obtain rfl : j = nl := by omega
        rw [ALL.out]
        obtain ⟨S0, hS0⟩ : ∃ S : ByteArray, S = ⟨(V.items l).toArray⟩ := ⟨_, rfl⟩
        obtain ⟨S1, hS1⟩ : ∃ S : ByteArray, S = ⟨([91] ++ V.items l).toArray⟩ := ⟨_, rfl⟩
        obtain ⟨S2, hS2⟩ : ∃ S : ByteArray, S = ⟨(([91] ++ V.items l) ++ [93]).toArray⟩ := ⟨_, rfl⟩
        have hTT := TT.out
        have e1 : ∀ W, (Op.stringOp .add ⟨#[91]⟩ S0).run Tryd.prog W = .ok (.string S1) W := fun W => by
          rw [hS1, hS0]; exact sum_lists [91] (V.items l) (by simp only [List.length_cons, List.length_nil]; omega) W
        have e2 : ∀ W, (Op.stringOp .add S1 ⟨#[93]⟩).run Tryd.prog W = .ok (.string S2) W := fun W => by
          rw [hS2, hS1]; exact sum_lists _ [93] (by first | omega | (simp only [List.length_append, List.length_cons, List.length_nil]; omega)) W
        have hfin : S2 = ⟨(91 :: (V.items l ++ [93])).toArray⟩ := by rw [hS2]; simp
        rw [← hS0]
        have HF := Lib.hid hfin
        clear hfin hS0 hS1 hS2 hTT hb
        go_wp2
        go_ret
        exact ⟨congrArg (fun x => Ending.returned (.string x)) HF.out, HBB.out⟩
  · -- an object
    have e : SH = 123 :: (V.pairs l ks ++ [125]) := SS.out
    subst e
    clear SS
    obtain ⟨nl, hnl⟩ : ∃ nl, l.length = nl := ⟨_, rfl⟩
    have hpl := pairs_len l ks
    have hall : V.pairs (l.take nl) ks = V.pairs l ks := by rw [← hnl, List.take_length]
    have hkl := HH.out.keys rfl
    rw [hnl] at hkl HB0 X1 HS1 ml ⊢
    rw [hkl] at HB0 X1 HS1 mk ⊢
    have KL := Lib.hid hkl
    clear hkl
    have NL := Lib.hid hnl; have H1 := Lib.hid h1; have H2 := Lib.hid h2; have PL := Lib.hid hpl; have ALL := Lib.hid hall
    have hl := HL.out
    rw [List.length_cons, List.length_append] at hl
    obtain ⟨T, hT⟩ : ∃ T, (V.pairs l ks).length = T := ⟨_, rfl⟩
    rw [hT] at hl PL
    have TT := Lib.hid hT
    clear hnl h1 h2 hpl hall hT mk
    go_enter Tryd.func30, Tryd.ntmps30
    go_wp2
    go_loopw [3, 4] (fun s i wr => ∃ j : Nat, j ≤ nl ∧ i = .int .i64 j ∧ s = .string ⟨(V.pairs (l.take j) ks).toArray⟩ ∧ Box wr w.heap.size (.int .i64 6) (.int .i64 n) (.string ⟨t.toArray⟩) (.slice A nl c) (.slice A' nl c') ∧ w.heap.size + 1 ≤ wr.heap.size ∧ Below w.heap.size w wr) (fun _ i _ => nl - (intOf i).toNat)
    case atStart => exact ⟨0, Nat.zero_le _, rfl, by rw [pairs_zero], X1.out, HS1.out, HB0.out⟩
    case round =>
      obtain ⟨j, hj, rfl, rfl, bx, hs, hb⟩ := hrel
      have BX := Lib.hid bx; have HBB := Lib.hid hb
      obtain ⟨b0, -, -, b3, b4⟩ := bx
      by_cases hlt : j < nl
      · have hjl : j < l.length := by have := NL.out; omega
        obtain ⟨p, o, rfl, _, hpN, xs, hx5, hxv⟩ := VIs.item H2.out j hjl
        have hbN := hb.mono hN
        have hxl := MM.out l[j] (List.getElem_mem hjl)
        rw [List.length_cons, List.length_append, TT.out] at hxl
        have hc := fun wq (hwq : Below w.heap.size w wq) => ih l[j] wq L N xs (by have := HM.out; have := size_get (k := 6) (n := n) (t := t) (ks := ks) j hjl; omega) (GI.out j hjl) (by omega) (hxv.below (hwq.mono hN)) (Nat.le_trans hN hwq.size)
        obtain ⟨a0, a1, a2, a3, a4, rfl, m0, m1, m2, m3, m4⟩ := hx5.keep (w' := wr) hpN (fun p hp => hbN.cell hp)
        have hj1 := PL.out (j + 1)
        have hjk : j < ks.length := by have := KL.out; omega
        obtain ⟨kb, ko, rfl, _, hkN, hkc⟩ := VIs.key H1.out j hjk
        have hkw := (hb.cell (p := ⟨kb, ko + j, none⟩) (by show kb < _; omega)).trans hkc
        have hn0 := pairs_one l ks; have hn1 := pairs_next l ks j hjl hjk
        have hz0 := pairs_zero l ks
        obtain ⟨IJ, hIJ⟩ : ∃ x, V.pairs (l.take (j + 1)) ks = x := ⟨_, rfl⟩
        rw [hIJ] at hj1
        by_cases h0 : 0 < j
        · have t0 : decide ((0 : Int) < j) = true := by simp; omega
          have hn := hn1 h0
          rw [hIJ] at hn
          have HIJ := Lib.hid hIJ
          clear hIJ hn0 hn1 hz0
          generalize l[j] = x at *
          generalize ks[j] = key at *
          generalize V.pairs (l.take j) ks = it at *
          subst hn
          try simp only [List.length_append, List.length_cons, List.length_nil] at hj1
          obtain ⟨X, hX⟩ : ∃ X : ByteArray, X = ⟨x.show.toArray⟩ := ⟨_, rfl⟩
          obtain ⟨Q, hQ⟩ : ∃ Q : ByteArray, Q = ⟨(quoteJ key).toArray⟩ := ⟨_, rfl⟩
          obtain ⟨S0, hS0⟩ : ∃ S : ByteArray, S = ⟨it.toArray⟩ := ⟨_, rfl⟩
          obtain ⟨S1, hS1⟩ : ∃ S : ByteArray, S = ⟨(it ++ [44]).toArray⟩ := ⟨_, rfl⟩
          have eS1 : ∀ W, (Op.stringOp .add S0 ⟨#[44]⟩).run Tryd.prog W = .ok (.string S1) W := fun W => by
            rw [hS1, hS0]; exact sum_lists it [44] (by first | omega | (simp only [List.length_append, List.length_cons, List.length_nil]; omega)) W
          obtain ⟨S2, hS2⟩ : ∃ S : ByteArray, S = ⟨((it ++ [44]) ++ quoteJ key).toArray⟩ := ⟨_, rfl⟩
          have eS2 : ∀ W, (Op.stringOp .add S1 Q).run Tryd.prog W = .ok (.string S2) W := fun W => by
            rw [hS2, hS1, hQ]; exact sum_lists (it ++ [44]) (quoteJ key) (by first | omega | (simp only [List.length_append, List.length_cons, List.length_nil]; omega)) W
          obtain ⟨S3, hS3⟩ : ∃ S : ByteArray, S = ⟨(((it ++ [44]) ++ quoteJ key) ++ [58]).toArray⟩ := ⟨_, rfl⟩
          have eS3 : ∀ W, (Op.stringOp .add S2 ⟨#[58]⟩).run Tryd.prog W = .ok (.string S3) W := fun W => by
            rw [hS3, hS2]; exact sum_lists ((it ++ [44]) ++ quoteJ key) [58] (by first | omega | (simp only [List.length_append, List.length_cons, List.length_nil]; omega)) W
          obtain ⟨S4, hS4⟩ : ∃ S : ByteArray, S = ⟨((((it ++ [44]) ++ quoteJ key) ++ [58]) ++ x.show).toArray⟩ := ⟨_, rfl⟩
          have eS4 : ∀ W, (Op.stringOp .add S3 X).run Tryd.prog W = .ok (.string S4) W := fun W => by
            rw [hS4, hS3, hX]; exact sum_lists (((it ++ [44]) ++ quoteJ key) ++ [58]) x.show (by first | omega | (simp only [List.length_append, List.length_cons, List.length_nil]; omega)) W
          have hfin : S4 = ⟨(it ++ (44 : UInt8) :: (quoteJ key ++ (58 : UInt8) :: x.show)).toArray⟩ := by rw [hS4]; simp
          rw [← hX] at hc
          have hq := fun wq => refQuoteJ_any ⟨key.toArray⟩ (by have := quoteJ_least key; show key.toArray.size ≤ _; rw [List.size_toArray]; omega) wq
          have hqe : quoteJ (ByteArray.mk key.toArray).data.toList = quoteJ key := rfl
          rw [hqe, ← hQ] at hq
          have HQ := Lib.hid hq
          rw [← hS0]
          have HC := Lib.hid hc; have HF := Lib.hid hfin
          have hpw : p < wr.heap.size := by omega
          clear hc hfin hX hb hx5 hxv hj1 hxl hbN hQ hq hqe hS0 hS1 hS2 hS3 hS4
          go_wp2_with fail
          refine (HQ.out _).mono ?_
          rintro e1 w1 ⟨rfl, hb1⟩
          have c0 := (hb1.cell (p := ⟨w.heap.size, 0, none⟩) hs).trans b0
          have c3 := (hb1.cell (p := ⟨w.heap.size, 3, none⟩) hs).trans b3
          have d0 := (hb1.cell (p := ⟨p, o + j * 5, none⟩) hpw).trans m0
          have d1 := (hb1.cell (p := ⟨p, o + j * 5 + 1, none⟩) hpw).trans m1
          have d2 := (hb1.cell (p := ⟨p, o + j * 5 + 2, none⟩) hpw).trans m2
          have d3 := (hb1.cell (p := ⟨p, o + j * 5 + 3, none⟩) hpw).trans m3
          have d4 := (hb1.cell (p := ⟨p, o + j * 5 + 4, none⟩) hpw).trans m4
          dsimp only
          go_wp2_with (go_at_call 30; with_reducible refine (HC.out _ (HBB.out.trans (hb1.mono (by omega)))).mono ?_; rintro e2 w2 ⟨rfl, hb2⟩)
          have hb12 := hb1.trans (hb2.mono hb1.size)
          have hs1 := hb12.size
          go_roundw
          case rel => exact ⟨j + 1, by omega, by go_num, by rw [HF.out, HIJ.out], BX.out.below (by omega) hb12, by omega, HBB.out.trans (hb12.mono (by omega))⟩
          case measure => simp [intOf]; omega
        · obtain rfl : j = 0 := by omega
          simp only [Nat.zero_mul, Nat.add_zero] at m0 m1 m2 m3 m4 hkw
          have hn := hn0 hjl hjk
          rw [hz0]
          rw [hIJ] at hn
          have HIJ := Lib.hid hIJ
          clear hIJ hn0 hn1 hz0
          generalize l[0] = x at *
          generalize ks[0] = key at *
          subst hn
          try simp only [List.length_append, List.length_cons, List.length_nil] at hj1
          obtain ⟨X, hX⟩ : ∃ X : ByteArray, X = ⟨x.show.toArray⟩ := ⟨_, rfl⟩
          obtain ⟨Q, hQ⟩ : ∃ Q : ByteArray, Q = ⟨(quoteJ key).toArray⟩ := ⟨_, rfl⟩
          obtain ⟨S2, hS2⟩ : ∃ S : ByteArray, S = ⟨([] ++ quoteJ key).toArray⟩ := ⟨_, rfl⟩
          have eS2 : ∀ W, (Op.stringOp .add ⟨#[]⟩ Q).run Tryd.prog W = .ok (.string S2) W := fun W => by
            rw [hS2, hQ]; exact sum_lists [] (quoteJ key) (by first | omega | (simp only [List.length_append, List.length_cons, List.length_nil]; omega)) W
          obtain ⟨S3, hS3⟩ : ∃ S : ByteArray, S = ⟨(([] ++ quoteJ key) ++ [58]).toArray⟩ := ⟨_, rfl⟩
          have eS3 : ∀ W, (Op.stringOp .add S2 ⟨#[58]⟩).run Tryd.prog W = .ok (.string S3) W := fun W => by
            rw [hS3, hS2]; exact sum_lists ([] ++ quoteJ key) [58] (by first | omega | (simp only [List.length_append, List.length_cons, List.length_nil]; omega)) W
          obtain ⟨S4, hS4⟩ : ∃ S : ByteArray, S = ⟨((([] ++ quoteJ key) ++ [58]) ++ x.show).toArray⟩ := ⟨_, rfl⟩
          have eS4 : ∀ W, (Op.stringOp .add S3 X).run Tryd.prog W = .ok (.string S4) W := fun W => by
            rw [hS4, hS3, hX]; exact sum_lists (([] ++ quoteJ key) ++ [58]) x.show (by first | omega | (simp only [List.length_append, List.length_cons, List.length_nil]; omega)) W
          have hfin : S4 = ⟨(quoteJ key ++ (58 : UInt8) :: x.show).toArray⟩ := by rw [hS4]; simp
          rw [← hX] at hc
          have hq := fun wq => refQuoteJ_any ⟨key.toArray⟩ (by have := quoteJ_least key; show key.toArray.size ≤ _; rw [List.size_toArray]; omega) wq
          have hqe : quoteJ (ByteArray.mk key.toArray).data.toList = quoteJ key := rfl
          rw [hqe, ← hQ] at hq
          have HQ := Lib.hid hq
          have HC := Lib.hid hc; have HF := Lib.hid hfin
          have hpw : p < wr.heap.size := by omega
          clear hc hfin hX hb hx5 hxv hj1 hxl hbN hQ hq hqe hS2 hS3 hS4
          go_wp2_with fail
          refine (HQ.out _).mono ?_
          rintro e1 w1 ⟨rfl, hb1⟩
          have c0 := (hb1.cell (p := ⟨w.heap.size, 0, none⟩) hs).trans b0
          have c3 := (hb1.cell (p := ⟨w.heap.size, 3, none⟩) hs).trans b3
          have d0 := (hb1.cell (p := ⟨p, o, none⟩) hpw).trans m0
          have d1 := (hb1.cell (p := ⟨p, o + 1, none⟩) hpw).trans m1
          have d2 := (hb1.cell (p := ⟨p, o + 2, none⟩) hpw).trans m2
          have d3 := (hb1.cell (p := ⟨p, o + 3, none⟩) hpw).trans m3
          have d4 := (hb1.cell (p := ⟨p, o + 4, none⟩) hpw).trans m4
          dsimp only
          go_wp2_with (go_at_call 30; with_reducible refine (HC.out _ (HBB.out.trans (hb1.mono (by omega)))).mono ?_; rintro e2 w2 ⟨rfl, hb2⟩)
          have hb12 := hb1.trans (hb2.mono hb1.size)
          have hs1 := hb12.size
          go_roundw
          case rel => exact ⟨0 + 1, by omega, by go_num, by rw [HF.out, HIJ.out], BX.out.below (by omega) hb12, by omega, HBB.out.trans (hb12.mono (by omega))⟩
          case measure => simp [intOf] <;> omega
      · obtain rfl : j = nl := by omega
        rw [ALL.out]
        obtain ⟨S0, hS0⟩ : ∃ S : ByteArray, S = ⟨(V.pairs l ks).toArray⟩ := ⟨_, rfl⟩
        obtain ⟨S1, hS1⟩ : ∃ S : ByteArray, S = ⟨([123] ++ V.pairs l ks).toArray⟩ := ⟨_, rfl⟩
        obtain ⟨S2, hS2⟩ : ∃ S : ByteArray, S = ⟨(([123] ++ V.pairs l ks) ++ [125]).toArray⟩ := ⟨_, rfl⟩
        have hTT := TT.out
        have e1 : ∀ W, (Op.stringOp .add ⟨#[123]⟩ S0).run Tryd.prog W = .ok (.string S1) W := fun W => by
          rw [hS1, hS0]; exact sum_lists [123] (V.pairs l ks) (by simp only [List.length_cons, List.length_nil]; omega) W
        have e2 : ∀ W, (Op.stringOp .add S1 ⟨#[125]⟩).run Tryd.prog W = .ok (.string S2) W := fun W => by
          rw [hS2, hS1]; exact sum_lists _ [125] (by first | omega | (simp only [List.length_append, List.length_cons, List.length_nil]; omega)) W
        have hfin : S2 = ⟨(123 :: (V.pairs l ks ++ [125])).toArray⟩ := by rw [hS2]; simp
        rw [← hS0]
        have HF := Lib.hid hfin
        clear hfin hS0 hS1 hS2 hTT hb
        go_wp2
        go_ret
        exact ⟨congrArg (fun x => Ending.returned (.string x)) HF.out, HBB.out⟩
theorem refShow_any (v : V) (w : World) (L N : Nat) (cs : List Value) (hg : v.good = true) (hl : v.show.length ≤ 10000000000000) (hv : VIs w L N v cs) (hN : N ≤ w.heap.size) :
    Calls Tryd.prog 30 #[.agg cs.toArray] w fun e w' => e = .returned (.string ⟨v.show.toArray⟩) ∧ Below w.heap.size w w' :=
  refShow_at v.size v w L N cs (Nat.le_refl _) hg hl hv hN
end Go.Proofs.YtcbajbpdgmmaeaaDoor
namespace Go.Proofs.YtcbajbpdgmmaeaaDoor
open Go.RowKit
set_option linter.unusedVariables false
set_option linter.unusedSimpArgs false

theorem ba_list (l : List UInt8) : (⟨l.toArray⟩ : ByteArray).toList = l := by simp
theorem ba_ne {a b : ByteArray} (h : a ≠ b) : (a == b) = false := by
  show (a.data == b.data) = false
  rw [beq_eq_false_iff_ne]
  exact fun e => h (ByteArray.ext e)
theorem ba_eq (a : ByteArray) : (a == a) = true := by
  show (a.data == a.data) = true
  simp
theorem str_injR {a b : List UInt8} (h : (⟨a.toArray⟩ : ByteArray) = ⟨b.toArray⟩) : a = b := by
  injection h with h; simpa using h
theorem zero_isR (w : World) (L N : Nat) : VIs w L N V.zero [.int .i64 0, .int .i64 0, .string ⟨#[]⟩, .slice none 0 0, .slice none 0 0] := VIs.mk (t := []) (l := []) (ks := []) ⟨by simp, by simp, by simp, by simp⟩ (.inl rfl) (.inl rfl)
set_option maxRecDepth 100000 in
set_option maxHeartbeats 40000000 in
theorem refParse_any (s : List UInt8) (hs : s.length ≤ 9223372036854775807) (w : World) :
    Calls Tryd.prog 28 #[.string ⟨s.toArray⟩] w fun e w' => (∃ k n t A a b A' a' b', e = .returned (.tuple #[.agg #[.int .i64 k, .int .i64 n, .string t, .slice A a b, .slice A' a' b'], .int .i64 (parseV s).2]) ∧
      VIs w' w.heap.size w'.heap.size (parseV s).1 [.int .i64 k, .int .i64 n, .string t, .slice A a b, .slice A' a' b']) ∧ Below w.heap.size w w' := by
  obtain ⟨PV, hPV⟩ : ∃ PV, parseV s = PV := ⟨_, rfl⟩
  rw [hPV]
  obtain ⟨S, hS⟩ : ∃ S : ByteArray, S = ⟨s.toArray⟩ := ⟨_, rfl⟩
  have hsz : S.size = s.length := by rw [hS]; show s.toArray.size = _; simp
  rw [← hS]
  obtain ⟨W1, hW1⟩ : ∃ W1, W1 = w.alloc (.cells #[.int .i64 0, .int .i64 0, .string ⟨#[]⟩, .slice none 0 0, .slice none 0 0] 28) := ⟨_, rfl⟩
  have x1 : W1.heap[w.heap.size]? = some (.cells #[.int .i64 0, .int .i64 0, .string ⟨#[]⟩, .slice none 0 0, .slice none 0 0] 28 (0, 0)) := by rw [hW1]; exact heap_alloc_last w _
  have b1 : Below w.heap.size w W1 := by rw [hW1]; exact (Below.refl _ _).alloc (Nat.le_refl _) _
  have z1 : W1.heap.size = w.heap.size + 1 := by rw [hW1]; simp
  have HW1 := Lib.hid hW1; have HX1 := Lib.hid x1; have HB1 := Lib.hid b1; have HZ1 := Lib.hid z1; have HS := Lib.hid hS
  clear hW1 x1 b1 z1 hS
  by_cases hl : 4096 < S.size
  · have d1 : decide ((4096 : Int) < (S.size : Int)) = true := by simp; omega
    have e : PV = (V.zero, 3) := hPV.symm.trans (by unfold parseV; rw [if_pos (by omega)])
    subst e
    have hsz' := Lib.hid hsz
    clear hsz hPV hs
    go_enter Tryd.func28, Tryd.ntmps28
    go_wp2_with fail
    refine bodyPost_ret (v := .tuple #[.agg #[.int .i64 0, .int .i64 0, .string ⟨#[]⟩, .slice none 0 0, .slice none 0 0], .int .i64 3]) (by simp [results, Tryd.results28, go_sem]) rfl ?_
    exact ⟨⟨_, _, _, _, _, _, _, _, _, rfl, zero_isR _ _ _⟩, (Below.refl _ _).alloc (Nat.le_refl _) _⟩
  · have d1 : decide ((4096 : Int) < (S.size : Int)) = false := by simp; omega
    have hval := value_allT (2 * s.length + 2) (2 * s.length + 2) s (Nat.le_refl _) (by omega) (by omega) W1
    have hrd := (read_all (2 * s.length + 2)).1 s
    have hPV2 : PV = match valueT (2 * s.length + 2) s with
      | (v, n) => match (if n = s.length ∧ v.fits 5000 = true ∧ v.show = s then some v else none) with
        | none => (V.zero, 2)
        | some v => if v.fits 8 then (v, 0) else (V.zero, 4) := by
      rw [← hPV]; unfold parseV readV
      rw [if_neg (by omega)]
      cases valueT (2 * s.length + 2) s
      rfl
    obtain ⟨⟨v, n⟩, hv⟩ : ∃ y, valueT (2 * s.length + 2) s = y := ⟨_, rfl⟩
    rw [hv] at hval hrd hPV2
    dsimp only at hval hrd hPV2
    rw [← HS.out] at hval
    rw [← hsz] at hPV2
    have hnS : n ≤ 4096 := by have := hrd.1; omega
    have hgs : v.fits 5000 = true → n ≠ 0 → v.show.length ≤ 10000000000000 := fun h1 h2 => by
      have := show_wt v.size v (Nat.le_refl _) (fits_isgood h1)
      have := hrd.2 h2
      omega
    have HV := Lib.hid hval; have HP := Lib.hid hPV2; have HSZ := Lib.hid hsz; have HGS := Lib.hid hgs
    clear hval hrd hPV2 hPV hv hgs hs hsz
    by_cases hn0 : n = 0
    · subst hn0
      have e : PV = (V.zero, 2) := HP.out.trans (by
        rw [if_neg (fun h => by
          have h1 := show_pos v
          rw [h.2.2] at h1
          have := HSZ.out
          omega)])
      subst e
      clear HP
      go_enter Tryd.func28, Tryd.ntmps28
      go_wp2_with fail
      rw [← HW1.out]
      refine (HV.out).mono ?_
      rintro e2 w2 ⟨⟨k', n', tt, A, a, b, A', a', b', rfl, hx⟩, hb2⟩
      dsimp only
      have hBW : Below W1.heap.size W1 (w2.alloc (.cells #[.int .i64 k', .int .i64 n', .string tt, .slice A a b, .slice A' a' b'] 28)) := hb2.alloc hb2.size _
      have hRW : (w2.alloc (.cells #[.int .i64 k', .int .i64 n', .string tt, .slice A a b, .slice A' a' b'] 28)).heap[w.heap.size]? = some (.cells #[.int .i64 0, .int .i64 0, .string ⟨#[]⟩, .slice none 0 0, .slice none 0 0] 28 (0, 0)) := (hBW.block w.heap.size (by have := HZ1.out; omega)).trans HX1.out
      obtain ⟨⟨p0, p1, p2, p3, p4⟩, q0, q1, q2, q3, q4⟩ := box_of hRW
      have HBW := Lib.hid hBW; have HRW := Lib.hid hRW
      clear hBW hRW
      clear hb2 hx
      go_wp2_with fail
      obtain ⟨wf, hwf⟩ : ∃ wf, wf = set5 (w2.alloc (.cells #[.int .i64 k', .int .i64 n', .string tt, .slice A a b, .slice A' a' b'] 28)) w.heap.size 0 (.int .i64 0) (.int .i64 0) (.string ⟨#[]⟩) (.slice none 0 0) (.slice none 0 0) := ⟨_, rfl⟩
      change bodyPost _ _ _ _ _ (set5 (w2.alloc (.cells #[.int .i64 k', .int .i64 n', .string tt, .slice A a b, .slice A' a' b'] 28)) w.heap.size 0 (.int .i64 0) (.int .i64 0) (.string ⟨#[]⟩) (.slice none 0 0) (.slice none 0 0))
      rw [← hwf]
      have hy : wf.heap[w.heap.size]? = some (.cells #[.int .i64 0, .int .i64 0, .string ⟨#[]⟩, .slice none 0 0, .slice none 0 0] 28 (0, 0)) := by rw [hwf]; exact set5_here HRW.out
      have hbf : Below w.heap.size w wf := by rw [hwf]; exact (HB1.out.trans (HBW.out.mono (by have := HZ1.out; omega))).trans (set5_below (Nat.le_refl _))
      obtain ⟨⟨g0, g1, g2, g3, g4⟩, -⟩ := box_of hy
      have HBF := Lib.hid hbf
      clear hbf hwf hy p0 p1 p2 p3 p4 q0 q1 q2 q3 q4
      refine bodyPost_ret (v := .tuple #[.agg #[.int .i64 0, .int .i64 0, .string ⟨#[]⟩, .slice none 0 0, .slice none 0 0], .int .i64 2]) (by simp [results, Tryd.results28, go_sem, g0, g1, g2, g3, g4]) rfl ?_
      exact ⟨⟨_, _, _, _, _, _, _, _, _, rfl, zero_isR _ _ _⟩, HBF.out⟩
    have d2 : ((n : Int) == 0) = false := by simp; omega
    by_cases hnl : n = S.size
    rotate_left
    · have d3 : ((n : Int) == (S.size : Int)) = false := by simp; omega
      have d3b : ((n : Int) != (S.size : Int)) = true := by simp; omega
      have e : PV = (V.zero, 2) := HP.out.trans (by rw [if_neg (fun h => hnl h.1)])
      subst e
      clear HP
      go_enter Tryd.func28, Tryd.ntmps28
      go_wp2_with fail
      rw [← HW1.out]
      refine (HV.out).mono ?_
      rintro e2 w2 ⟨⟨k', n', tt, A, a, b, A', a', b', rfl, hx⟩, hb2⟩
      dsimp only
      have hBW : Below W1.heap.size W1 (w2.alloc (.cells #[.int .i64 k', .int .i64 n', .string tt, .slice A a b, .slice A' a' b'] 28)) := hb2.alloc hb2.size _
      have hRW : (w2.alloc (.cells #[.int .i64 k', .int .i64 n', .string tt, .slice A a b, .slice A' a' b'] 28)).heap[w.heap.size]? = some (.cells #[.int .i64 0, .int .i64 0, .string ⟨#[]⟩, .slice none 0 0, .slice none 0 0] 28 (0, 0)) := (hBW.block w.heap.size (by have := HZ1.out; omega)).trans HX1.out
      obtain ⟨⟨p0, p1, p2, p3, p4⟩, q0, q1, q2, q3, q4⟩ := box_of hRW
      have HBW := Lib.hid hBW; have HRW := Lib.hid hRW
      clear hBW hRW
      clear hb2 hx
      go_wp2_with fail
      obtain ⟨wf, hwf⟩ : ∃ wf, wf = set5 (w2.alloc (.cells #[.int .i64 k', .int .i64 n', .string tt, .slice A a b, .slice A' a' b'] 28)) w.heap.size 0 (.int .i64 0) (.int .i64 0) (.string ⟨#[]⟩) (.slice none 0 0) (.slice none 0 0) := ⟨_, rfl⟩
      change bodyPost _ _ _ _ _ (set5 (w2.alloc (.cells #[.int .i64 k', .int .i64 n', .string tt, .slice A a b, .slice A' a' b'] 28)) w.heap.size 0 (.int .i64 0) (.int .i64 0) (.string ⟨#[]⟩) (.slice none 0 0) (.slice none 0 0))
      rw [← hwf]
      have hy : wf.heap[w.heap.size]? = some (.cells #[.int .i64 0, .int .i64 0, .string ⟨#[]⟩, .slice none 0 0, .slice none 0 0] 28 (0, 0)) := by rw [hwf]; exact set5_here HRW.out
      have hbf : Below w.heap.size w wf := by rw [hwf]; exact (HB1.out.trans (HBW.out.mono (by have := HZ1.out; omega))).trans (set5_below (Nat.le_refl _))
      obtain ⟨⟨g0, g1, g2, g3, g4⟩, -⟩ := box_of hy
      have HBF := Lib.hid hbf
      clear hbf hwf hy p0 p1 p2 p3 p4 q0 q1 q2 q3 q4
      refine bodyPost_ret (v := .tuple #[.agg #[.int .i64 0, .int .i64 0, .string ⟨#[]⟩, .slice none 0 0, .slice none 0 0], .int .i64 2]) (by simp [results, Tryd.results28, go_sem, g0, g1, g2, g3, g4]) rfl ?_
      exact ⟨⟨_, _, _, _, _, _, _, _, _, rfl, zero_isR _ _ _⟩, HBF.out⟩
    subst hnl
    have d3 : ((S.size : Int) == (S.size : Int)) = true := by simp
    obtain ⟨F5, hF5⟩ : ∃ F5, v.fits 5000 = F5 := ⟨_, rfl⟩
    cases F5 with
    | false =>
      have e : PV = (V.zero, 2) := HP.out.trans (by rw [if_neg (fun h => by rw [hF5] at h; cases h.2.1)])
      subst e
      clear HP
      go_enter Tryd.func28, Tryd.ntmps28
      go_wp2_with fail
      rw [← HW1.out]
      refine (HV.out).mono ?_
      rintro e2 w2 ⟨⟨k', n', tt, A, a, b, A', a', b', rfl, hx⟩, hb2⟩
      dsimp only
      obtain ⟨W3, hW3⟩ : ∃ W3, W3 = w2.alloc (.cells #[.int .i64 k', .int .i64 n', .string tt, .slice A a b, .slice A' a' b'] 28) := ⟨_, rfl⟩
      have b3 : Below W1.heap.size W1 W3 := by rw [hW3]; exact hb2.alloc hb2.size _
      have z3 : W3.heap.size = w2.heap.size + 1 := by rw [hW3]; simp
      have y3 : W3.heap[w2.heap.size]? = some (.cells #[.int .i64 k', .int .i64 n', .string tt, .slice A a b, .slice A' a' b'] 28 (0, 0)) := by rw [hW3]; exact heap_alloc_last w2 _
      have r3 := (b3.block w.heap.size (by have := HZ1.out; omega)).trans HX1.out
      have v3 : VIs W3 W1.heap.size w2.heap.size v [.int .i64 k', .int .i64 n', .string tt, .slice A a b, .slice A' a' b'] := by rw [hW3]; exact hx.below ((Below.refl _ _).alloc (Nat.le_refl _) _)
      have hlt2 : w.heap.size < w2.heap.size := by have := HZ1.out; have := hb2.size; omega
      have B3 := Lib.hid b3; have Z3 := Lib.hid z3; have Y3 := Lib.hid y3; have R3 := Lib.hid r3; have V3 := Lib.hid v3; have HW3 := Lib.hid hW3
      obtain ⟨⟨m0, m1, m2, m3, m4⟩, -⟩ := box_of y3
      have hfit := fun (d : Nat) (hd : d ≤ 1000000) wq (hb : Below W3.heap.size W3 wq) => refFits_any v d wq _ _ _ hd (v3.below (hb.mono (by omega))) (by have := hb.size; omega)
      have FIT := Lib.hid hfit
      have h5 : Calls Tryd.prog 16 #[.agg #[.int .i64 k', .int .i64 n', .string tt, .slice A a b, .slice A' a' b'], .int .i64 5000] W3 fun e w' => e = .returned (.bool (v.fits 5000)) ∧ Below W3.heap.size W3 w' := hfit 5000 (by decide) W3 (Below.refl _ _)
      rw [hF5] at h5
      have H5 := Lib.hid h5
      clear hfit h5
      clear hb2 hx b3 z3 y3 r3 v3 hW3
      go_wp2_with fail
      rw [← HW3.out]
      refine (H5.out).mono ?_
      rintro e4 w4 ⟨rfl, hb4⟩
      dsimp only
      have hBW : Below W1.heap.size W1 w4 := B3.out.trans (hb4.mono B3.out.size)
      have hRW : w4.heap[w.heap.size]? = some (.cells #[.int .i64 0, .int .i64 0, .string ⟨#[]⟩, .slice none 0 0, .slice none 0 0] 28 (0, 0)) := (hBW.block w.heap.size (by have := HZ1.out; omega)).trans HX1.out
      obtain ⟨⟨p0, p1, p2, p3, p4⟩, q0, q1, q2, q3, q4⟩ := box_of hRW
      have HBW := Lib.hid hBW; have HRW := Lib.hid hRW
      clear hBW hRW
      clear hb4 m0 m1 m2 m3 m4
      go_wp2_with fail
      obtain ⟨wf, hwf⟩ : ∃ wf, wf = set5 w4 w.heap.size 0 (.int .i64 0) (.int .i64 0) (.string ⟨#[]⟩) (.slice none 0 0) (.slice none 0 0) := ⟨_, rfl⟩
      change bodyPost _ _ _ _ _ (set5 w4 w.heap.size 0 (.int .i64 0) (.int .i64 0) (.string ⟨#[]⟩) (.slice none 0 0) (.slice none 0 0))
      rw [← hwf]
      have hy : wf.heap[w.heap.size]? = some (.cells #[.int .i64 0, .int .i64 0, .string ⟨#[]⟩, .slice none 0 0, .slice none 0 0] 28 (0, 0)) := by rw [hwf]; exact set5_here HRW.out
      have hbf : Below w.heap.size w wf := by rw [hwf]; exact (HB1.out.trans (HBW.out.mono (by have := HZ1.out; omega))).trans (set5_below (Nat.le_refl _))
      obtain ⟨⟨g0, g1, g2, g3, g4⟩, -⟩ := box_of hy
      have HBF := Lib.hid hbf
      clear hbf hwf hy p0 p1 p2 p3 p4 q0 q1 q2 q3 q4
      refine bodyPost_ret (v := .tuple #[.agg #[.int .i64 0, .int .i64 0, .string ⟨#[]⟩, .slice none 0 0, .slice none 0 0], .int .i64 2]) (by simp [results, Tryd.results28, go_sem, g0, g1, g2, g3, g4]) rfl ?_
      exact ⟨⟨_, _, _, _, _, _, _, _, _, rfl, zero_isR _ _ _⟩, HBF.out⟩
    | true =>
      have hgood := fits_isgood hF5
      have hlen := HGS.out hF5 hn0
      by_cases hsh : v.show = s
      rotate_left
      · have e : PV = (V.zero, 2) := HP.out.trans (by rw [if_neg (fun h => hsh h.2.2)])
        subst e
        clear HP
        obtain ⟨T, hT⟩ : ∃ T : ByteArray, (⟨v.show.toArray⟩ : ByteArray) = T := ⟨_, rfl⟩
        have d4 : (T == S) = false := by
          refine ba_ne ?_
          rw [← hT, HS.out]
          exact fun e => hsh (str_injR e)
        have d4c : (T.toList == S.toList) = false := by
          rw [beq_eq_false_iff_ne, ← hT, HS.out, ba_list, ba_list]
          exact hsh
        have d4b : (!(T.toList == S.toList)) = true := by rw [d4c]; rfl
        go_enter Tryd.func28, Tryd.ntmps28
        go_wp2_with fail
        rw [← HW1.out]
        refine (HV.out).mono ?_
        rintro e2 w2 ⟨⟨k', n', tt, A, a, b, A', a', b', rfl, hx⟩, hb2⟩
        dsimp only
        obtain ⟨W3, hW3⟩ : ∃ W3, W3 = w2.alloc (.cells #[.int .i64 k', .int .i64 n', .string tt, .slice A a b, .slice A' a' b'] 28) := ⟨_, rfl⟩
        have b3 : Below W1.heap.size W1 W3 := by rw [hW3]; exact hb2.alloc hb2.size _
        have z3 : W3.heap.size = w2.heap.size + 1 := by rw [hW3]; simp
        have y3 : W3.heap[w2.heap.size]? = some (.cells #[.int .i64 k', .int .i64 n', .string tt, .slice A a b, .slice A' a' b'] 28 (0, 0)) := by rw [hW3]; exact heap_alloc_last w2 _
        have r3 := (b3.block w.heap.size (by have := HZ1.out; omega)).trans HX1.out
        have v3 : VIs W3 W1.heap.size w2.heap.size v [.int .i64 k', .int .i64 n', .string tt, .slice A a b, .slice A' a' b'] := by rw [hW3]; exact hx.below ((Below.refl _ _).alloc (Nat.le_refl _) _)
        have hlt2 : w.heap.size < w2.heap.size := by have := HZ1.out; have := hb2.size; omega
        have B3 := Lib.hid b3; have Z3 := Lib.hid z3; have Y3 := Lib.hid y3; have R3 := Lib.hid r3; have V3 := Lib.hid v3; have HW3 := Lib.hid hW3
        obtain ⟨⟨m0, m1, m2, m3, m4⟩, -⟩ := box_of y3
        have hfit := fun (d : Nat) (hd : d ≤ 1000000) wq (hb : Below W3.heap.size W3 wq) => refFits_any v d wq _ _ _ hd (v3.below (hb.mono (by omega))) (by have := hb.size; omega)
        have FIT := Lib.hid hfit
        have h5 : Calls Tryd.prog 16 #[.agg #[.int .i64 k', .int .i64 n', .string tt, .slice A a b, .slice A' a' b'], .int .i64 5000] W3 fun e w' => e = .returned (.bool (v.fits 5000)) ∧ Below W3.heap.size W3 w' := hfit 5000 (by decide) W3 (Below.refl _ _)
        rw [hF5] at h5
        have H5 := Lib.hid h5
        clear hfit h5
        have hsho := fun wq (hb : Below W3.heap.size W3 wq) => refShow_any v wq _ _ _ hgood hlen (v3.below (hb.mono (by omega))) (by have := hb.size; omega)
        rw [hT] at hsho
        have SHO := Lib.hid hsho
        clear hsho
        clear hb2 hx b3 z3 r3 v3 hW3 hT hsh hgood hlen
        go_wp2_with fail
        rw [← HW3.out]
        refine (H5.out).mono ?_
        rintro e4 w4 ⟨rfl, hb4⟩
        dsimp only
        have y4 := (hb4.block w2.heap.size (by have := Z3.out; omega)).trans y3
        clear m0 m1 m2 m3 m4
        obtain ⟨⟨m0, m1, m2, m3, m4⟩, -⟩ := box_of y4
        have HB4 := Lib.hid hb4; have Y4 := Lib.hid y4
        clear hb4 y4 y3
        go_wp2_with fail
        refine (SHO.out _ HB4.out).mono ?_
        rintro e5 w5 ⟨rfl, hb5⟩
        dsimp only
        have hb35 := HB4.out.trans (hb5.mono HB4.out.size)
        have y5 := (hb5.block w2.heap.size (by have := Z3.out; have := HB4.out.size; omega)).trans Y4.out
        have HB35 := Lib.hid hb35; have Y5 := Lib.hid y5
        clear hb5 m0 m1 m2 m3 m4 hb35 y5
        have hBW : Below W1.heap.size W1 w5 := B3.out.trans (HB35.out.mono B3.out.size)
        have hRW : w5.heap[w.heap.size]? = some (.cells #[.int .i64 0, .int .i64 0, .string ⟨#[]⟩, .slice none 0 0, .slice none 0 0] 28 (0, 0)) := (hBW.block w.heap.size (by have := HZ1.out; omega)).trans HX1.out
        obtain ⟨⟨p0, p1, p2, p3, p4⟩, q0, q1, q2, q3, q4⟩ := box_of hRW
        have HBW := Lib.hid hBW; have HRW := Lib.hid hRW
        clear hBW hRW
        go_wp2_with fail
        obtain ⟨wf, hwf⟩ : ∃ wf, wf = set5 w5 w.heap.size 0 (.int .i64 0) (.int .i64 0) (.string ⟨#[]⟩) (.slice none 0 0) (.slice none 0 0) := ⟨_, rfl⟩
        change bodyPost _ _ _ _ _ (set5 w5 w.heap.size 0 (.int .i64 0) (.int .i64 0) (.string ⟨#[]⟩) (.slice none 0 0) (.slice none 0 0))
        rw [← hwf]
        have hy : wf.heap[w.heap.size]? = some (.cells #[.int .i64 0, .int .i64 0, .string ⟨#[]⟩, .slice none 0 0, .slice none 0 0] 28 (0, 0)) := by rw [hwf]; exact set5_here HRW.out
        have hbf : Below w.heap.size w wf := by rw [hwf]; exact (HB1.out.trans (HBW.out.mono (by have := HZ1.out; omega))).trans (set5_below (Nat.le_refl _))
        obtain ⟨⟨g0, g1, g2, g3, g4⟩, -⟩ := box_of hy
        have HBF := Lib.hid hbf
        clear hbf hwf hy p0 p1 p2 p3 p4 q0 q1 q2 q3 q4
        refine bodyPost_ret (v := .tuple #[.agg #[.int .i64 0, .int .i64 0, .string ⟨#[]⟩, .slice none 0 0, .slice none 0 0], .int .i64 2]) (by simp [results, Tryd.results28, go_sem, g0, g1, g2, g3, g4]) rfl ?_
        exact ⟨⟨_, _, _, _, _, _, _, _, _, rfl, zero_isR _ _ _⟩, HBF.out⟩
      · obtain ⟨F8, hF8⟩ : ∃ F8, v.fits 8 = F8 := ⟨_, rfl⟩
        have hT : (⟨v.show.toArray⟩ : ByteArray) = S := by rw [hsh, HS.out]
        have d4 : (S == S) = true := ba_eq S
        have d4b : (S != S) = false := by unfold bne; rw [d4]; rfl
        have e : PV = if F8 then (v, 0) else (V.zero, 4) := HP.out.trans (by rw [if_pos ⟨rfl, hF5, hsh⟩, ← hF8])
        clear HP
        cases F8 with
        | false =>
          have e2 : PV = (V.zero, 4) := e
          subst e2
          clear e
          go_enter Tryd.func28, Tryd.ntmps28
          go_wp2_with fail
          rw [← HW1.out]
          refine (HV.out).mono ?_
          rintro e2 w2 ⟨⟨k', n', tt, A, a, b, A', a', b', rfl, hx⟩, hb2⟩
          dsimp only
          obtain ⟨W3, hW3⟩ : ∃ W3, W3 = w2.alloc (.cells #[.int .i64 k', .int .i64 n', .string tt, .slice A a b, .slice A' a' b'] 28) := ⟨_, rfl⟩
          have b3 : Below W1.heap.size W1 W3 := by rw [hW3]; exact hb2.alloc hb2.size _
          have z3 : W3.heap.size = w2.heap.size + 1 := by rw [hW3]; simp
          have y3 : W3.heap[w2.heap.size]? = some (.cells #[.int .i64 k', .int .i64 n', .string tt, .slice A a b, .slice A' a' b'] 28 (0, 0)) := by rw [hW3]; exact heap_alloc_last w2 _
          have r3 := (b3.block w.heap.size (by have := HZ1.out; omega)).trans HX1.out
          have v3 : VIs W3 W1.heap.size w2.heap.size v [.int .i64 k', .int .i64 n', .string tt, .slice A a b, .slice A' a' b'] := by rw [hW3]; exact hx.below ((Below.refl _ _).alloc (Nat.le_refl _) _)
          have hlt2 : w.heap.size < w2.heap.size := by have := HZ1.out; have := hb2.size; omega
          have B3 := Lib.hid b3; have Z3 := Lib.hid z3; have Y3 := Lib.hid y3; have R3 := Lib.hid r3; have V3 := Lib.hid v3; have HW3 := Lib.hid hW3
          obtain ⟨⟨m0, m1, m2, m3, m4⟩, -⟩ := box_of y3
          have hfit := fun (d : Nat) (hd : d ≤ 1000000) wq (hb : Below W3.heap.size W3 wq) => refFits_any v d wq _ _ _ hd (v3.below (hb.mono (by omega))) (by have := hb.size; omega)
          have FIT := Lib.hid hfit
          have h5 : Calls Tryd.prog 16 #[.agg #[.int .i64 k', .int .i64 n', .string tt, .slice A a b, .slice A' a' b'], .int .i64 5000] W3 fun e w' => e = .returned (.bool (v.fits 5000)) ∧ Below W3.heap.size W3 w' := hfit 5000 (by decide) W3 (Below.refl _ _)
          rw [hF5] at h5
          have H5 := Lib.hid h5
          clear hfit h5
          have hsho := fun wq (hb : Below W3.heap.size W3 wq) => refShow_any v wq _ _ _ hgood hlen (v3.below (hb.mono (by omega))) (by have := hb.size; omega)
          rw [hT] at hsho
          have SHO := Lib.hid hsho
          clear hsho
          have h8 : ∀ wq, Below W3.heap.size W3 wq → Calls Tryd.prog 16 #[.agg #[.int .i64 k', .int .i64 n', .string tt, .slice A a b, .slice A' a' b'], .int .i64 8] wq fun e w' => e = .returned (.bool false) ∧ Below wq.heap.size wq w' := fun wq hb => by rw [← hF8]; exact FIT.out 8 (by decide) wq hb
          have H8 := Lib.hid h8
          clear h8
          clear hb2 hx b3 z3 r3 v3 hW3 hT hsh hgood hlen
          go_wp2_with fail
          rw [← HW3.out]
          refine (H5.out).mono ?_
          rintro e4 w4 ⟨rfl, hb4⟩
          dsimp only
          have y4 := (hb4.block w2.heap.size (by have := Z3.out; omega)).trans y3
          clear m0 m1 m2 m3 m4
          obtain ⟨⟨m0, m1, m2, m3, m4⟩, -⟩ := box_of y4
          have HB4 := Lib.hid hb4; have Y4 := Lib.hid y4
          clear hb4 y4 y3
          go_wp2_with fail
          refine (SHO.out _ HB4.out).mono ?_
          rintro e5 w5 ⟨rfl, hb5⟩
          dsimp only
          have hb35 := HB4.out.trans (hb5.mono HB4.out.size)
          have y5 := (hb5.block w2.heap.size (by have := Z3.out; have := HB4.out.size; omega)).trans Y4.out
          have HB35 := Lib.hid hb35; have Y5 := Lib.hid y5
          clear hb5 m0 m1 m2 m3 m4 hb35 y5
          obtain ⟨⟨m0, m1, m2, m3, m4⟩, -⟩ := box_of Y5.out
          go_wp2_with fail
          refine (H8.out _ HB35.out).mono ?_
          rintro e6 w6 ⟨rfl, hb6⟩
          dsimp only
          have hb36 := HB35.out.trans (hb6.mono HB35.out.size)
          have HB36 := Lib.hid hb36
          clear m0 m1 m2 m3 m4
          clear hb6 hb36
          have hBW : Below W1.heap.size W1 w6 := B3.out.trans (HB36.out.mono B3.out.size)
          have hRW : w6.heap[w.heap.size]? = some (.cells #[.int .i64 0, .int .i64 0, .string ⟨#[]⟩, .slice none 0 0, .slice none 0 0] 28 (0, 0)) := (hBW.block w.heap.size (by have := HZ1.out; omega)).trans HX1.out
          obtain ⟨⟨p0, p1, p2, p3, p4⟩, q0, q1, q2, q3, q4⟩ := box_of hRW
          have HBW := Lib.hid hBW; have HRW := Lib.hid hRW
          clear hBW hRW
          go_wp2_with fail
          obtain ⟨wf, hwf⟩ : ∃ wf, wf = set5 w6 w.heap.size 0 (.int .i64 0) (.int .i64 0) (.string ⟨#[]⟩) (.slice none 0 0) (.slice none 0 0) := ⟨_, rfl⟩
          change bodyPost _ _ _ _ _ (set5 w6 w.heap.size 0 (.int .i64 0) (.int .i64 0) (.string ⟨#[]⟩) (.slice none 0 0) (.slice none 0 0))
          rw [← hwf]
          have hy : wf.heap[w.heap.size]? = some (.cells #[.int .i64 0, .int .i64 0, .string ⟨#[]⟩, .slice none 0 0, .slice none 0 0] 28 (0, 0)) := by rw [hwf]; exact set5_here HRW.out
          have hbf : Below w.heap.size w wf := by rw [hwf]; exact (HB1.out.trans (HBW.out.mono (by have := HZ1.out; omega))).trans (set5_below (Nat.le_refl _))
          obtain ⟨⟨g0, g1, g2, g3, g4⟩, -⟩ := box_of hy
          have HBF := Lib.hid hbf
          clear hbf hwf hy p0 p1 p2 p3 p4 q0 q1 q2 q3 q4
          refine bodyPost_ret (v := .tuple #[.agg #[.int .i64 0, .int .i64 0, .string ⟨#[]⟩, .slice none 0 0, .slice none 0 0], .int .i64 4]) (by simp [results, Tryd.results28, go_sem, g0, g1, g2, g3, g4]) rfl ?_
          exact ⟨⟨_, _, _, _, _, _, _, _, _, rfl, zero_isR _ _ _⟩, HBF.out⟩
        | true =>
          have e2 : PV = (v, 0) := e
          subst e2
          clear e
          go_enter Tryd.func28, Tryd.ntmps28
          go_wp2_with fail
          rw [← HW1.out]
          refine (HV.out).mono ?_
          rintro e2 w2 ⟨⟨k', n', tt, A, a, b, A', a', b', rfl, hx⟩, hb2⟩
          dsimp only
          obtain ⟨W3, hW3⟩ : ∃ W3, W3 = w2.alloc (.cells #[.int .i64 k', .int .i64 n', .string tt, .slice A a b, .slice A' a' b'] 28) := ⟨_, rfl⟩
          have b3 : Below W1.heap.size W1 W3 := by rw [hW3]; exact hb2.alloc hb2.size _
          have z3 : W3.heap.size = w2.heap.size + 1 := by rw [hW3]; simp
          have y3 : W3.heap[w2.heap.size]? = some (.cells #[.int .i64 k', .int .i64 n', .string tt, .slice A a b, .slice A' a' b'] 28 (0, 0)) := by rw [hW3]; exact heap_alloc_last w2 _
          have r3 := (b3.block w.heap.size (by have := HZ1.out; omega)).trans HX1.out
          have v3 : VIs W3 W1.heap.size w2.heap.size v [.int .i64 k', .int .i64 n', .string tt, .slice A a b, .slice A' a' b'] := by rw [hW3]; exact hx.below ((Below.refl _ _).alloc (Nat.le_refl _) _)
          have hlt2 : w.heap.size < w2.heap.size := by have := HZ1.out; have := hb2.size; omega
          have B3 := Lib.hid b3; have Z3 := Lib.hid z3; have Y3 := Lib.hid y3; have R3 := Lib.hid r3; have V3 := Lib.hid v3; have HW3 := Lib.hid hW3
          obtain ⟨⟨m0, m1, m2, m3, m4⟩, -⟩ := box_of y3
          have hfit := fun (d : Nat) (hd : d ≤ 1000000) wq (hb : Below W3.heap.size W3 wq) => refFits_any v d wq _ _ _ hd (v3.below (hb.mono (by omega))) (by have := hb.size; omega)
          have FIT := Lib.hid hfit
          have h5 : Calls Tryd.prog 16 #[.agg #[.int .i64 k', .int .i64 n', .string tt, .slice A a b, .slice A' a' b'], .int .i64 5000] W3 fun e w' => e = .returned (.bool (v.fits 5000)) ∧ Below W3.heap.size W3 w' := hfit 5000 (by decide) W3 (Below.refl _ _)
          rw [hF5] at h5
          have H5 := Lib.hid h5
          clear hfit h5
          have hsho := fun wq (hb : Below W3.heap.size W3 wq) => refShow_any v wq _ _ _ hgood hlen (v3.below (hb.mono (by omega))) (by have := hb.size; omega)
          rw [hT] at hsho
          have SHO := Lib.hid hsho
          clear hsho
          have h8 : ∀ wq, Below W3.heap.size W3 wq → Calls Tryd.prog 16 #[.agg #[.int .i64 k', .int .i64 n', .string tt, .slice A a b, .slice A' a' b'], .int .i64 8] wq fun e w' => e = .returned (.bool true) ∧ Below wq.heap.size wq w' := fun wq hb => by rw [← hF8]; exact FIT.out 8 (by decide) wq hb
          have H8 := Lib.hid h8
          clear h8
          clear hb2 hx b3 z3 r3 v3 hW3 hT hsh hgood hlen
          go_wp2_with fail
          rw [← HW3.out]
          refine (H5.out).mono ?_
          rintro e4 w4 ⟨rfl, hb4⟩
          dsimp only
          have y4 := (hb4.block w2.heap.size (by have := Z3.out; omega)).trans y3
          clear m0 m1 m2 m3 m4
          obtain ⟨⟨m0, m1, m2, m3, m4⟩, -⟩ := box_of y4
          have HB4 := Lib.hid hb4; have Y4 := Lib.hid y4
          clear hb4 y4 y3
          go_wp2_with fail
          refine (SHO.out _ HB4.out).mono ?_
          rintro e5 w5 ⟨rfl, hb5⟩
          dsimp only
          have hb35 := HB4.out.trans (hb5.mono HB4.out.size)
          have y5 := (hb5.block w2.heap.size (by have := Z3.out; have := HB4.out.size; omega)).trans Y4.out
          have HB35 := Lib.hid hb35; have Y5 := Lib.hid y5
          clear hb5 m0 m1 m2 m3 m4 hb35 y5
          obtain ⟨⟨m0, m1, m2, m3, m4⟩, -⟩ := box_of Y5.out
          go_wp2_with fail
          refine (H8.out _ HB35.out).mono ?_
          rintro e6 w6 ⟨rfl, hb6⟩
          dsimp only
          have hb36 := HB35.out.trans (hb6.mono HB35.out.size)
          have HB36 := Lib.hid hb36
          clear m0 m1 m2 m3 m4
          have y6 := (hb6.block w2.heap.size (by have := Z3.out; have := HB35.out.size; omega)).trans Y5.out
          obtain ⟨⟨m0, m1, m2, m3, m4⟩, -⟩ := box_of y6
          have V6 := Lib.hid (V3.out.below (hb36.mono (by have := Z3.out; omega)))
          have HS6 := Lib.hid hb36.size
          clear hb6 hb36 y6
          have hBW : Below W1.heap.size W1 w6 := B3.out.trans (HB36.out.mono B3.out.size)
          have hRW : w6.heap[w.heap.size]? = some (.cells #[.int .i64 0, .int .i64 0, .string ⟨#[]⟩, .slice none 0 0, .slice none 0 0] 28 (0, 0)) := (hBW.block w.heap.size (by have := HZ1.out; omega)).trans HX1.out
          obtain ⟨⟨p0, p1, p2, p3, p4⟩, q0, q1, q2, q3, q4⟩ := box_of hRW
          have HBW := Lib.hid hBW; have HRW := Lib.hid hRW
          clear hBW hRW
          go_wp2_with fail
          obtain ⟨wf, hwf⟩ : ∃ wf, wf = set5 w6 w.heap.size 0 (.int .i64 k') (.int .i64 n') (.string tt) (.slice A a b) (.slice A' a' b') := ⟨_, rfl⟩
          change bodyPost _ _ _ _ _ (set5 w6 w.heap.size 0 (.int .i64 k') (.int .i64 n') (.string tt) (.slice A a b) (.slice A' a' b'))
          rw [← hwf]
          have hy : wf.heap[w.heap.size]? = some (.cells #[.int .i64 k', .int .i64 n', .string tt, .slice A a b, .slice A' a' b'] 28 (0, 0)) := by rw [hwf]; exact set5_here HRW.out
          have hbf : Below w.heap.size w wf := by rw [hwf]; exact (HB1.out.trans (HBW.out.mono (by have := HZ1.out; omega))).trans (set5_below (Nat.le_refl _))
          have hvf : VIs wf w.heap.size wf.heap.size v [.int .i64 k', .int .i64 n', .string tt, .slice A a b, .slice A' a' b'] := by
            have hsf : wf.heap.size = w6.heap.size := by rw [hwf, set5_size]
            rw [hsf]
            have h1 := HZ1.out; have h2 := Z3.out; have h3 := HS6.out
            exact (V6.out.keep2 fun p h1 h2 => World.cell?_of_block (w := w6) (by rw [hwf]; exact set5_there (by omega))).more (by omega) (by omega)
          obtain ⟨⟨g0, g1, g2, g3, g4⟩, -⟩ := box_of hy
          have HBF := Lib.hid hbf; have HVF := Lib.hid hvf
          clear hbf hvf hwf hy p0 p1 p2 p3 p4 q0 q1 q2 q3 q4 m0 m1 m2 m3 m4
          refine bodyPost_ret (v := .tuple #[.agg #[.int .i64 k', .int .i64 n', .string tt, .slice A a b, .slice A' a' b'], .int .i64 0]) (by simp [results, Tryd.results28, go_sem, g0, g1, g2, g3, g4]) rfl ?_
          exact ⟨⟨_, _, _, _, _, _, _, _, _, rfl, HVF.out⟩, HBF.out⟩
end Go.Proofs.YtcbajbpdgmmaeaaDoor
