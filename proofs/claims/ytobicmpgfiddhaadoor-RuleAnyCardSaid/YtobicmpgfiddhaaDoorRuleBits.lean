/- The landed rules: a text's value; the texts of a list that begin with a word. -/
import Derived.Test.YtobicmpgfiddhaaDoorRulePutC
import Derived.Test.YtobicmpgfiddhaaDoorListSt
import Derived.Test.YtobicmpgfiddhaaDoorShelf
namespace Go.Proofs.YtobicmpgfiddhaaDoor
open Go.RowKit
set_option linter.unusedVariables false
set_option linter.unusedSimpArgs false

theorem word_is (w : World) (L N : Nat) (s : List UInt8) (hs : s.length ≤ 9223372036854775807) (S : ByteArray) (hS : S = ⟨s.toArray⟩) : VIs w L N (wordV s) [.int .i64 4, .int .i64 0, .string S, .slice none 0 0, .slice none 0 0] := by
  subst hS
  exact VIs.mk (w := w) (L := L) (N := N) (k := 4) (n := 0) (t := s) (l := []) (ks := []) (A := none) (A' := none) (c := 0) (c' := 0) ⟨by simp, by simp, hs, by simp⟩ (.inl rfl) (.inl rfl)
theorem word_eq {x : V} {d : Nat} (h4 : x.kind = 4) (hf : x.fits (d + 1) = true) : x = wordV x.text := by
  obtain ⟨k, n, t, l, ks⟩ := x
  have h4 : k = 4 := h4
  rw [fits_mk, Bool.and_eq_true] at hf
  have hb := hf.1
  unfold headB at hb
  simp only [Bool.and_eq_true, decide_eq_true_eq] at hb
  have hl : l = [] := List.length_eq_zero_iff.1 (hb.1.1.1.1.2 (by omega) (by omega))
  have hk : ks = [] := hb.1.2 (by omega)
  have hn : n = 0 := hb.1.1.1.1.1.1.2 (by omega) (by omega)
  subst hl; subst hk; subst hn; subst h4
  rfl
theorem pre_take (s p : List UInt8) : Lib.hasPrefix s p = decide (s.take p.length = p) := by
  unfold Lib.hasPrefix
  rw [Bool.eq_iff_iff, List.isPrefixOf_iff_prefix, decide_eq_true_eq, List.prefix_iff_eq_take]
  exact eq_comm
set_option maxRecDepth 100000 in
theorem textValue_any (s : ByteArray) (w : World) : Calls Tryd.prog 43 #[.string s] w fun e w' => e = .returned (.agg #[.int .i64 4, .int .i64 0, .string s, .slice none 0 0, .slice none 0 0]) ∧ Below w.heap.size w w' := by
  go_enter Tryd.func43, Tryd.ntmps43
  go_wp2
  refine bodyPost_ret (v := .agg #[.int .i64 4, .int .i64 0, .string s, .slice none 0 0, .slice none 0 0]) (by simp [results, Tryd.results43, go_sem]) rfl ?_
  exact ⟨rfl, (Below.refl _ _).alloc (Nat.le_refl _) _⟩
/-- what beginning has behind so many items -/
def begL (l : List V) (s : List UInt8) : List V := l.filter (fun x => decide (x.kind = 4) && decide (x.text.take s.length = s))
theorem begL_take (l : List V) (s : List UInt8) (k : Nat) (x : V) (h : l[k]? = some x) : begL (l.take (k + 1)) s = begL (l.take k) s ++ (if (decide (x.kind = 4) && decide (x.text.take s.length = s)) = true then [x] else []) := by
  unfold begL
  rw [List.take_add_one, h, List.filter_append]
  congr 1
  by_cases hc : (decide (x.kind = 4) && decide (x.text.take s.length = s)) = true
  · rw [if_pos hc]; simp only [Option.toList, List.filter_cons, List.filter_nil]; rw [if_pos hc]
  · rw [if_neg hc]; simp only [Option.toList, List.filter_cons, List.filter_nil]; rw [if_neg hc]
theorem begL_len (l : List V) (s : List UInt8) (k : Nat) : (begL (l.take k) s).length ≤ k := by
  unfold begL
  exact Nat.le_trans (List.length_filter_le _ _) (by rw [List.length_take]; omega)
set_option maxRecDepth 100000 in
set_option maxHeartbeats 8000000 in
theorem beginning_any (v : V) (s : List UInt8) (w : World) (L N : Nat) (cs : List Value) (hv : VIs w L N v cs) (hN : N ≤ w.heap.size) (hl : v.list.length ≤ 100000) (hx : ∀ x ∈ v.list, x.kind = 4 → x = wordV x.text) (S : ByteArray) (hS : S = ⟨s.toArray⟩) :
    Calls Tryd.prog 48 #[.agg cs.toArray, .string S] w fun e w' => (∃ ds, e = .returned (.agg ds.toArray) ∧ VIs w' w.heap.size w'.heap.size (listV (onlyL v s)) ds) ∧ Below w.heap.size w w' := by
  obtain ⟨vk, vn, vt, vl, vks⟩ := v
  have hx : ∀ x ∈ vl, x.kind = 4 → x = wordV x.text := hx
  have hl : vl.length ≤ 100000 := hl
  obtain ⟨hroom, A, c, A', c', rfl, h1, h2⟩ := hv.out
  obtain ⟨R, hRr⟩ : ∃ R, w.heap.size = R := ⟨_, rfl⟩
  obtain ⟨T, hT⟩ : ∃ T : ByteArray, (⟨vt.toArray⟩ : ByteArray) = T := ⟨_, rfl⟩
  obtain ⟨n, hn⟩ : ∃ n, vl.length = n := ⟨_, rfl⟩
  obtain ⟨m, hm⟩ : ∃ m, vks.length = m := ⟨_, rfl⟩
  rw [hT, hn, hm]
  have hn5 : n ≤ 100000 := by omega
  by_cases h5 : vk = 5
  · subst h5
    obtain ⟨i0, hi, hz0, hz1, hz2⟩ := info_parts Tryd.infoValR
    obtain ⟨W2, hW2⟩ : ∃ W2, W2 = (w.alloc (.cells #[.int .i64 5, .int .i64 vn, .string T, .slice A n c, .slice A' m c'] 25)).alloc (.cells #[.int .i64 0, .int .i64 0, .string ⟨#[]⟩, .slice none 0 0, .slice none 0 0] 25) := ⟨_, rfl⟩
    obtain ⟨P, hP⟩ : ∃ P, w.heap.size + 1 + 1 = P := ⟨_, rfl⟩
    have hp1 : R + 2 ≤ P := by omega
    have hp2 : P ≤ R + 2 := by omega
    have z2 : W2.heap.size = P := by rw [hW2]; simp [hRr]; omega
    have b2 : Below R w W2 := by rw [hW2, ← hRr]; exact ((Below.refl _ _).alloc (Nat.le_refl _) _).alloc (by simp) _
    have gst := LSt.start W2
    rw [z2] at gst
    have HX := Lib.hid hx; have H2 := Lib.hid h2; have HW2 := Lib.hid hW2; have HRR := Lib.hid hRr; have HP := Lib.hid hP; have B2 := Lib.hid b2; have HNN := Lib.hid hn; have HSS := Lib.hid hS; have G := Lib.hid gst
    clear hx h1 h2 hroom hv gst hW2 b2 hS hT hm z2
    rw [hRr] at hN
    clear hRr hn hP
    go_enter Tryd.func48, Tryd.ntmps48
    go_wp2_with fail
    rw [← HW2.out, HP.out, HRR.out]
    go_loopw [16] (fun i wr => ∃ (k : Nat) (lv : Value) (xs : List Value), k ≤ n ∧ i = .int .i64 k ∧ LSt P W2 wr lv (begL (vl.take k) s) xs) (fun i _ => n - (intOf i).toNat)
    case atStart => exact ⟨0, _, [], Nat.zero_le _, rfl, G.out⟩
    case round =>
      obtain ⟨k, lv, xs, hkn, rfl, gst⟩ := hrel
      obtain ⟨LA, lc, rfl⟩ := own_form gst.rowL
      have hbw : Below R w wr := B2.out.trans (gst.low.mono (by omega))
      have hsz := gst.size
      have hbl := begL_len vl s k
      by_cases hlt : k < n
      · have hkl : k < vl.length := by rw [HNN.out]; exact hlt
        have hxk := HX.out vl[k] (List.getElem_mem hkl)
        have hbt := begL_take vl s k vl[k] (List.getElem?_eq_getElem hkl)
        obtain ⟨q, r, rfl, _, hqN, ys, hx5, hxv⟩ := VIs.item H2.out k hkl
        generalize vl[k] = x at *
        have hx5' := hx5.keep hqN fun z hz => (hbw.mono (by omega)).cell hz
        obtain ⟨XA, xc, XA', xc', rfl⟩ := hxv.form
        obtain ⟨y0, y1, y2, y3, y4, hye, m0, m1, m2, m3, m4⟩ := hx5'
        simp only [List.cons.injEq, and_true] at hye
        obtain ⟨rfl, rfl, rfl, rfl, rfl⟩ := hye
        obtain ⟨TX, hTX⟩ : ∃ z : ByteArray, (⟨x.text.toArray⟩ : ByteArray) = z := ⟨_, rfl⟩
        obtain ⟨xk, hxkk⟩ : ∃ z, x.kind = z := ⟨_, rfl⟩
        have hxt : x.text.length ≤ 9223372036854775807 := by
          obtain ⟨a1, a2, a3, l, ks⟩ := x
          exact hxv.out.1.2.2.1
        rw [hTX] at m2
        rw [hxkk] at m0 hbt hxk
        have hpre : ∀ W, Calls Tryd.prog 62 #[.string TX, .string S] W fun e w' => e = .returned (.bool (decide (x.text.take s.length = s))) ∧ w' = W := fun W => by
          have := Tryd.strings_HasPrefix TX S W
          rw [← hTX, HSS.out, pre_take] at this
          rw [← hTX, HSS.out]
          simpa using this
        have hk0 : (0 : Int) ≤ k := by omega
        have hk1 : (k : Int) < n := by omega
        obtain ⟨t, ht⟩ : ∃ t, (begL (vl.take k) s).length = t := ⟨_, rfl⟩
        rw [ht] at gst
        have HPR := Lib.hid hpre; have HXT := Lib.hid hxt; have GS := Lib.hid gst; have HTX := Lib.hid hTX; have HXK := Lib.hid hxkk; have HBL := Lib.hid hbl
        have c3 : wr.cell? ⟨P, 3, none⟩ = some (.slice LA t lc) := cell_here gst.var
        have HT := Lib.hid ht
        clear hpre hxt gst hTX hxkk hx5 hxv hbl ht
        by_cases h4 : xk = 4
        · subst h4
          have HXW := Lib.hid (hxk rfl)
          by_cases hp : x.text.take s.length = s
          · rw [if_pos (by simp [hp])] at hbt
            have HBT := Lib.hid hbt
            rw [decide_eq_true hp] at HPR
            clear hbt hp hxk
            go_upto_region 8 with (go_at_call 62; (with_reducible refine (HPR.out _).mono ?_); rintro e1 w1 ⟨rfl, rfl⟩; dsimp only)
            obtain ⟨W1, hW1⟩ : ∃ W1, W1 = wr.alloc (.cells #[.int .i64 4, .int .i64 x.num, .string TX, .slice XA x.list.length xc, .slice XA' x.keys.length xc'] 25) := ⟨_, rfl⟩
            have b1 : Below wr.heap.size wr W1 := by rw [hW1]; exact (Below.refl _ _).alloc (Nat.le_refl _) _
            have z1 : W1.heap.size = wr.heap.size + 1 := by rw [hW1]; simp
            have q1 : W1.heap[wr.heap.size]? = some (.cells #[.int .i64 4, .int .i64 x.num, .string TX, .slice XA x.list.length xc, .slice XA' x.keys.length xc'] 25 (0, 0)) := by rw [hW1]; exact heap_alloc_last wr _
            rw [← hW1]
            have g1 := GS.out.later b1
            have st : ∀ W, Below W1.heap.size W1 W → W.cell? ⟨P, 3, none⟩ = some (.slice LA t lc) ∧ W.cell? ⟨wr.heap.size, 2, none⟩ = some (.string TX) := fun W hb =>
              ⟨cell_here (o := 3) (g1.later hb).var, by rw [cell_here (blk_below q1 hb)]; rfl⟩
            have rl : ∀ W, Below W1.heap.size W1 W → W.ownsRow (P + 1) 25 5 (.slice LA t lc) t xs := fun W hb => by have := (g1.later hb).rowL; rw [HT.out] at this; exact this
            have RL := Lib.hid rl
            have htk : t ≤ 100000 := by have := HBL.out; have := HT.out; omega
            clear rl
            obtain ⟨c3', c2'⟩ := st W1 (Below.refl _ _)
            have htv := fun W => textValue_any TX W
            have STH := Lib.hid st; have G1 := Lib.hid g1; have Z1 := Lib.hid z1; have HTV := Lib.hid htv
            clear st g1 z1 htv hW1 b1 c3 m0 m1 m2 m3 m4 q1
            go_region_law (first
              | (refine step_append_opt rfl (.tmp 30) (.tmp 34) 22 rfl (P + 1) 25 i0 _ 5 80 Tryd.underlying22 hi hz0 hz1 hz2 rfl (by decide) _ _ xs rfl (RL.out _ (hb1'.alloc hb1'.size _)) (some ⟨w1.heap.size, 0, none⟩) 1 1 [.int .i64 4, .int .i64 0, .string TX, .slice none 0 0, .slice none 0 0] rfl rfl (.inr ⟨_, rfl, new_cells _ #[_, _, _, _, _] _⟩) (by intro u hu; simp at hu; rcases hu with rfl | rfl | rfl | rfl | rfl <;> rfl) ?_ ?_ ?_ ?_; (· unfold maxLen; omega); (· omega); (· have := hb1'.size; have := Z1.out; simp; omega); intro v5 w5 hown hgrow hat; obtain ⟨A5, c5, rfl⟩ := own_form hown; obtain ⟨⟨e0, e1, e2, e3, e4⟩, f0, f1, f2, f3, f4⟩ := box_of ((G1.out.later (hb1'.alloc hb1'.size _)).varL hgrow))
              | (go_simp; go_at_call 43; (with_reducible refine (HTV.out _).mono ?_); rintro e1 w1 ⟨rfl, hb1⟩; have hb1' := (below_drew2 _ _ hb1); obtain ⟨k3, k2⟩ := STH.out w1 hb1'; obtain ⟨l3, l2⟩ := STH.out _ (hb1'.alloc hb1'.size (.cells #[.int .i64 4, .int .i64 0, .string TX, .slice none 0 0, .slice none 0 0] 25)); dsimp only))
            all_goals
              have hz1 := hb1'.size
              have zk := Z1.out
              have hl1 := G1.out.rowL.lt
              have g6 := (G1.out.later (hb1'.alloc hb1'.size (.cells #[.int .i64 4, .int .i64 0, .string TX, .slice none 0 0, .slice none 0 0] 25))).item (lv' := .slice A5 (t + 1) c5) (L0 := w1.heap.size) (N0 := w1.heap.size) (wordV x.text) (word_is _ _ _ x.text HXT.out TX HTX.out.symm) (by omega) (by simp) (fun g hg hh => by omega) (by rw [HT.out]; exact hown) hgrow hat
              rw [← HXW.out, ← HBT.out] at g6
              have G6 := Lib.hid g6
              clear g6 hown hgrow hat e0 e1 e2 e3 e4 f0 f1 f2 f3 f4 k3 k2 l3 l2 hb1 hb1' hz1 zk hl1
              go_wp2
              go_roundw
              case rel => exact ⟨k + 1, _, _, by omega, by go_num, G6.out⟩
              case measure => simp [intOf]; omega
          · rw [if_neg (by simp [hp]), List.append_nil] at hbt
            have HBT := Lib.hid hbt
            rw [decide_eq_false hp] at HPR
            clear hbt hp hxk
            go_wp2_with (go_at_call 62; (with_reducible refine (HPR.out _).mono ?_); rintro e1 w1 ⟨rfl, rfl⟩; dsimp only)
            have g2 := GS.out.later (w1 := wr.alloc (.cells #[.int .i64 4, .int .i64 x.num, .string TX, .slice XA x.list.length xc, .slice XA' x.keys.length xc'] 25)) ((Below.refl _ _).alloc (Nat.le_refl _) _)
            rw [← HBT.out] at g2
            go_roundw
            case rel => exact ⟨k + 1, _, _, by omega, by go_num, g2⟩
            case measure => simp [intOf]; omega
        · rw [if_neg (by simp [h4]), List.append_nil] at hbt
          have t4 : (xk == 4) = false := by simpa using h4
          have HBT := Lib.hid hbt
          clear hbt hxk
          go_wp2
          have g2 := GS.out.later (w1 := wr.alloc (.cells #[.int .i64 xk, .int .i64 x.num, .string TX, .slice XA x.list.length xc, .slice XA' x.keys.length xc'] 25)) ((Below.refl _ _).alloc (Nat.le_refl _) _)
          rw [← HBT.out] at g2
          go_roundw
          case rel => exact ⟨k + 1, _, _, by omega, by go_num, g2⟩
          case measure => simp [intOf]; omega
      · obtain rfl : k = n := by omega
        have hgd := gst.done (by omega)
        have hall : vl.take k = vl := by rw [← HNN.out, List.take_length]
        obtain ⟨⟨e0, e1, e2, e3, e4⟩, -⟩ := box_of gst.var
        have hres : wr.heap[R + 1]? = some (.cells #[.int .i64 0, .int .i64 0, .string ⟨#[]⟩, .slice none 0 0, .slice none 0 0] 25 (0, 0)) :=
          (gst.low.block (R + 1) (by omega)).trans (by rw [HW2.out]; exact fresh_at _ (by simp [HRR.out]))
        obtain ⟨⟨d0, d1, d2, d3, d4⟩, f0, f1, f2, f3, f4⟩ := box_of hres
        obtain ⟨t, ht⟩ : ∃ t, (begL (vl.take k) s).length = t := ⟨_, rfl⟩
        rw [ht] at hgd e3
        have hol : onlyL (.mk 5 vn vt vl vks) s = begL (vl.take k) s := by rw [hall]; exact if_pos rfl
        have HGD := Lib.hid hgd; have HOL := Lib.hid hol; have HBW := Lib.hid hbw; have HRS := Lib.hid hres
        clear hgd hol gst hall hbl
        go_wp2
        obtain ⟨wf, hwf⟩ : ∃ wf, wf = set5 wr (R + 1) 0 (.int .i64 5) (.int .i64 0) (.string ⟨#[]⟩) (.slice LA t lc) (.slice none 0 0) := ⟨_, rfl⟩
        change bodyPost _ _ _ _ _ (set5 wr (R + 1) 0 (.int .i64 5) (.int .i64 0) (.string ⟨#[]⟩) (.slice LA t lc) (.slice none 0 0))
        rw [← hwf]
        have hx : wf.heap[R + 1]? = some (.cells #[.int .i64 5, .int .i64 0, .string ⟨#[]⟩, .slice LA t lc, .slice none 0 0] 25 (0, 0)) := by rw [hwf]; exact set5_here HRS.out
        have hvf : VIs wf w.heap.size wf.heap.size (listV (begL (vl.take k) s)) [.int .i64 5, .int .i64 0, .string ⟨#[]⟩, .slice LA t lc, .slice none 0 0] := by
          rw [hwf, set5_size]
          exact (HGD.out.keep2 fun q h1 h2 => World.cell?_of_block (w := wr) (set5_there (by omega))).more (by have := HRR.out; omega) (Nat.le_refl _)
        have hbf : Below w.heap.size w wf := by
          rw [hwf, HRR.out]; exact HBW.out.trans (set5_below (by omega))
        obtain ⟨⟨x0, x1, x2, x3, x4⟩, -⟩ := box_of hx
        have HVF := Lib.hid hvf; have HBF := Lib.hid hbf
        clear hvf hbf hwf hx e0 e1 e2 e3 e4 d0 d1 d2 d3 d4 f0 f1 f2 f3 f4
        refine bodyPost_ret (v := .agg #[.int .i64 5, .int .i64 0, .string ⟨#[]⟩, .slice LA t lc, .slice none 0 0]) (by simp [results, Tryd.results48, go_sem, x0, x1, x2, x3, x4]) rfl ?_
        exact ⟨⟨[_, _, _, _, _], rfl, by rw [HOL.out]; exact HVF.out⟩, HBF.out⟩
  · have hne : onlyL (.mk vk vn vt vl vks) s = [] := if_neg h5
    have t1 : (vk != 5) = true := by simpa using h5
    rw [hne]
    clear hx h1 h2 hroom hv hRr
    go_enter Tryd.func48, Tryd.ntmps48
    go_wp2
    refine bodyPost_ret (v := .agg #[.int .i64 5, .int .i64 0, .string ⟨#[]⟩, .slice none 0 0, .slice none 0 0]) (by simp [results, Tryd.results48, go_sem]) rfl ?_
    refine ⟨⟨[_, _, _, _, _], rfl, ?_⟩, ?_⟩
    · exact VIs.mk (k := 5) (n := 0) (t := []) (l := []) (ks := []) (A := none) (A' := none) (c := 0) (c' := 0) ⟨by simp, by simp, by simp, by simp⟩ (.inl rfl) (.inl rfl)
    · exact (((Below.refl w.heap.size w).alloc (Nat.le_refl _) _).alloc (by rw [World.size_alloc]; exact Nat.le_succ _) _).alloc (by rw [World.size_alloc, World.size_alloc]; exact Nat.le_trans (Nat.le_succ _) (Nat.le_succ _)) _
end Go.Proofs.YtobicmpgfiddhaaDoor
