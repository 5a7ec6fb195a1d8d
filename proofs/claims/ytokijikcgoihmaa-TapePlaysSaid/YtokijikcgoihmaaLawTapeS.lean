/- Layer 10's law TapeSure, out of what the code's tape does. -/
import Derived.Test.YtokijikcgoihmaaTapeTwo
namespace Go.Proofs.Ytokijikcgoihmaa
open Go.RowKit
set_option linter.unusedVariables false
set_option linter.unusedSimpArgs false

/-- one tape, apart from all that lay there -/
def One (CT : World → (Nat → Prop) → Nat → TP → Prop) (w0 w : World) (p : Nat) (t : TP) : Prop :=
  ∃ S : Nat → Prop, CT w S p t ∧ (∀ b, S b → w0.heap.size ≤ b) ∧ Below w0.heap.size w0 w
theorem One.low {CT : World → (Nat → Prop) → Nat → TP → Prop} {w0 w : World} {p : Nat} {t : TP} (h : One CT w0 w p t) : Below w0.heap.size w0 w := by obtain ⟨_, _, _, h⟩ := h; exact h
theorem One.later {CT : World → (Nat → Prop) → Nat → TP → Prop} (K : Kept CT) {w0 w w' : World} {p : Nat} {t : TP} (h : One CT w0 w p t) (hb : Below w.heap.size w w') : One CT w0 w' p t := by
  obtain ⟨S, h1, h2, h3⟩ := h
  exact ⟨S, K.keep h1 hb.size fun b hs => hb.block b (K.lt h1 b hs), h2, h3.trans (hb.mono h3.size)⟩
theorem One.step {P : Program} {CT : World → (Nat → Prop) → Nat → TP → Prop} (K : Kept CT) {w0 w : World} {p : Nat} {t t' : TP} {f : FuncId} {args : Array Value} {E : Ending} (h : One CT w0 w p t)
    (op : ∀ S, CT w S p t → (∀ b, S b → w0.heap.size ≤ b) → Calls P f args w fun e w' => e = E ∧ (∃ S' : Nat → Prop, CT w' S' p t' ∧ ∀ b, S' b → S b ∨ w.heap.size ≤ b) ∧ Only S w w') :
    Calls P f args w fun e w' => e = E ∧ One CT w0 w' p t' := by
  obtain ⟨S, h1, h2, h3⟩ := h
  refine (op S h1 h2).mono fun e w' ⟨he, ⟨S', c, hs⟩, ho⟩ => ⟨he, S', c, fun b hb => ?_, h3.trans (ho.below h3.size h2)⟩
  rcases hs b hb with h | h
  · exact h2 b h
  · exact Nat.le_trans h3.size h
theorem s_write (a : List UInt8) : TP.new.write a = (⟨a, 0, -1, false⟩, 0) := by
  have e : TP.new.left a.length = a.length := by unfold TP.left TP.new; simp
  unfold TP.write
  rw [e]
  simp [TP.use, TP.new]
theorem s_sync (a : List UInt8) : (TP.mk a 0 (-1) false).sync = (⟨a, a.length, -1, false⟩, 0) := by
  have e : (TP.mk a 0 (-1) false).left 1 = 1 := by unfold TP.left; simp
  unfold TP.sync
  rw [e]
  simp [TP.use]
theorem s_last (a b : List UInt8) (f : Nat) (keep : Int) : ∃ k, k ≤ b.length ∧ (((TP.mk a a.length f false).write b).1.crash keep).b = a ++ b.take k ∧ (((TP.mk a a.length f false).write b).1.crash keep).sure = a.length + k := by
  obtain ⟨m, hm⟩ : ∃ m, (TP.mk a a.length f false).left b.length = m := ⟨_, rfl⟩
  have hmb : m ≤ b.length := by rw [← hm]; exact TP.left_le _ _
  have hb := TP.use_b ⟨a ++ b.take m, a.length, f, false⟩ m b.length
  have hw : (TP.mk a a.length f false).write b = TP.use ⟨a ++ b.take m, a.length, f, false⟩ m b.length := by unfold TP.write; rw [hm]
  rw [hw]
  obtain ⟨t, ht⟩ : ∃ t, (TP.use ⟨a ++ b.take m, a.length, f, false⟩ m b.length).1 = t := ⟨_, rfl⟩
  rw [ht] at hb ⊢
  have hkl : t.kept keep ≤ (a ++ b.take m).length - a.length := by
    have := t.kept_le keep
    rw [hb.1, hb.2] at this; exact this
  have hkm : t.kept keep ≤ m := by
    have : (a ++ b.take m).length = a.length + m := by rw [List.length_append, List.length_take]; omega
    rw [this] at hkl; omega
  refine ⟨t.kept keep, by omega, ?_, ?_⟩
  · show t.b.take (t.sure + t.kept keep) = _
    rw [hb.1, hb.2]
    show (a ++ b.take m).take (a.length + t.kept keep) = _
    rw [List.take_append, List.take_of_length_le (by omega)]
    congr 1
    rw [show a.length + t.kept keep - a.length = t.kept keep by omega, List.take_take, Nat.min_eq_left hkm]
  · show t.sure + t.kept keep = _
    rw [hb.2]
theorem RdAt.dropB {w : World} {g o c : Nat} {l : List UInt8} (h : RdAt w (.slice (some ⟨g, o, none⟩) l.length c) l) (n : Nat) (hn : n ≤ l.length) : RdAt w (.slice (some ⟨g, o + n, none⟩) (l.length - n) (c - n)) (l.drop n) := by
  obtain ⟨A', c', e, h1, h2, h3⟩ := h
  cases e
  refine ⟨_, _, by rw [List.length_drop], by rw [List.length_drop]; omega, by omega, .inr ⟨g, o + n, rfl, ?_, fun j u hu => ?_⟩⟩
  · rcases h3 with ⟨h, _⟩ | ⟨g', o', e, hg, _⟩
    · cases h
    · cases e; exact hg
  · rcases h3 with ⟨h, _⟩ | ⟨g', o', e, hg, h3⟩
    · cases h
    · cases e
      have hu2 : (cells l)[n + j]? = some u := by
        unfold cells at hu ⊢
        rw [List.getElem?_map, List.getElem?_drop] at hu
        rw [List.getElem?_map]; exact hu
      have := h3 _ _ hu2
      rw [Addr.add_lit] at this ⊢
      rw [show o + n + j = o + (n + j) by omega]; exact this
set_option maxRecDepth 100000 in
set_option maxHeartbeats 8000000 in
theorem tapeSure_at {CT : World → (Nat → Prop) → Nat → TP → Prop} (H : CodeTape CT) (av bv : Value) (a b : List UInt8) (keep x : Int) (hk : (Lit.int .i64 keep).wf = true) (hx : (Lit.int .u8 x).wf = true) (w : World) (ha : RdAt w av a) (hb : RdAt w bv b) :
    Calls Try.prog 4 #[av, bv, .int .i64 keep, .int .u8 x] w fun e w' => e = .returned (.bool true) ∧ Below w.heap.size w w' := by
  have h8 := Lib.hid (fun W => answers10_any H W)
  have K := H.kept
  obtain ⟨f0, rfl⟩ := byte_ex hx
  have hra := fun W (hbw : Below w.heap.size w W) => ha.below hbw
  have hrb := fun W (hbw : Below w.heap.size w W) => hb.below hbw
  have howa : ∀ g, av.ownBlock = some g → g < w.heap.size := fun g hg => ha.lt hg
  have howb : ∀ g, bv.ownBlock = some g → g < w.heap.size := fun g hg => hb.lt hg
  obtain ⟨A, ca, hav, hca, -⟩ := ha
  obtain ⟨B, cb0, hbv, hcb, -⟩ := hb
  obtain ⟨n, hn⟩ : ∃ n, a.length = n := ⟨_, rfl⟩
  obtain ⟨m, hm⟩ : ∃ m, b.length = m := ⟨_, rfl⟩
  rw [hn] at hav hca
  rw [hm] at hbv hcb
  by_cases h0 : 500 < n
  · have d1 : decide ((500 : Int) < n) = true := by simp; omega
    subst hav hbv
    clear hra hrb howa howb hn hm h0 H K hx hk hca hcb
    go_enter Try.func4, Try.ntmps4
    go_wp2_with fail
    refine (h8.out _).mono ?_
    rintro e w1 ⟨rfl, hb1⟩
    have B1 := Lib.hid hb1; clear hb1
    dsimp only
    go_wp2
    go_ret
    exact ⟨rfl, B1.out⟩
  have d1 : decide ((500 : Int) < n) = false := by simp; omega
  by_cases h2 : 500 < m
  · have d2 : decide ((500 : Int) < m) = true := by simp; omega
    subst hav hbv
    clear hra hrb howa howb hn hm h0 h2 H K hx hk hca hcb
    go_enter Try.func4, Try.ntmps4
    go_wp2_with fail
    refine (h8.out _).mono ?_
    rintro e w1 ⟨rfl, hb1⟩
    have B1 := Lib.hid hb1; clear hb1
    dsimp only
    go_wp2
    go_ret
    exact ⟨rfl, B1.out⟩
  have d2 : decide ((500 : Int) < m) = false := by simp; omega
  obtain ⟨k, hkm, hcrb, hcrs⟩ := s_last a b f0.toNat keep
  have hfl := f0.toNat_lt
  have okN : ∀ z : Int, -1 ≤ z → z ≤ 100000 → (TP.mk a a.length z false).Ok := fun z u v => ⟨Nat.le_refl _, by show (-1 : Int) ≤ z; omega, by show z ≤ 9223372036854775807; omega⟩
  have cw1 := fun (W : World) (p : Nat) (tw : One CT w W p TP.new) => tw.step K (t' := (TP.new.write a).1) (fun S h hB => H.write W S p TP.new av a h TP.new_ok (by show ([] : List UInt8).length ≤ _; simp) (hra W tw.low) (by omega) (fun g hg hs => by have := howa g hg; have := hB g hs; omega))
  have cy := fun (W : World) (p : Nat) (tw : One CT w W p ⟨a, 0, -1, false⟩) => tw.step K (t' := (TP.mk a 0 (-1) false).sync.1) (fun S h hB => H.sync W S p _ h ⟨Nat.zero_le _, by show (-1 : Int) ≤ -1; decide, by show (-1 : Int) ≤ _; decide⟩ (by show a.length ≤ _; omega))
  have cf := fun (W : World) (p : Nat) (tw : One CT w W p ⟨a, a.length, -1, false⟩) => tw.step K (t' := (TP.mk a a.length (-1) false).setFuse (f0.toNat : Int)) (fun S h hB => H.fuse W S p _ (f0.toNat : Int) h (by simp [Lit.wf, IntKind.min, IntKind.max, IntKind.signed, IntKind.bits]; omega))
  have cw2 := fun (W : World) (p : Nat) (tw : One CT w W p ⟨a, a.length, (f0.toNat : Int), false⟩) => tw.step K (t' := ((TP.mk a a.length (f0.toNat : Int) false).write b).1) (fun S h hB => H.write W S p _ bv b h (okN _ (by omega) (by omega)) (by show a.length ≤ _; omega) (hrb W tw.low) (by omega) (fun g hg hs => by have := howb g hg; have := hB g hs; omega))
  have hwok := TP.write_ok (okN (f0.toNat : Int) (by omega) (by omega)) b
  have cc := fun (W : World) (p : Nat) (tw : One CT w W p ((TP.mk a a.length (f0.toNat : Int) false).write b).1) => tw.step K (t' := ((TP.mk a a.length (f0.toNat : Int) false).write b).1.crash keep) (fun S h hB => H.crash W S p _ keep h hwok.1 (by have := hwok.2; have e : (TP.mk a a.length (f0.toNat : Int) false).b.length = n := hn; omega) hk)
  rw [s_write] at cw1
  rw [s_sync] at cy
  have hsf : (TP.mk a a.length (-1) false).setFuse (f0.toNat : Int) = ⟨a, a.length, (f0.toNat : Int), false⟩ := by unfold TP.setFuse; rw [if_neg (by omega)]
  rw [hsf] at cf
  obtain ⟨u2, hu2⟩ : ∃ u, ((TP.mk a a.length (f0.toNat : Int) false).write b) = u := ⟨_, rfl⟩
  rw [hu2] at cw2 cc hcrb hcrs
  obtain ⟨t3, ht3⟩ : ∃ t, u2.1.crash keep = t := ⟨_, rfl⟩
  rw [ht3] at cc hcrb hcrs
  have cb := fun (W : World) (p : Nat) (tw : One CT w W p t3) => show Calls Try.prog 19 #[.pointer (some ⟨p, 0, none⟩)] W fun e w' => (∃ A c, e = .returned (.slice A (n + k) c) ∧ RdAt w' (.slice A (n + k) c) (a ++ b.take k)) ∧ One CT w w' p t3 by
    obtain ⟨S, a1, a2, a3⟩ := tw
    refine (H.bytes W S p t3 a1 (by rw [hcrb, List.length_append, List.length_take]; omega)).mono fun e w' ⟨⟨A, c, he, hr, _⟩, hbw⟩ => ⟨?_, One.later K ⟨S, a1, a2, a3⟩ hbw⟩
    rw [hcrb] at he hr
    have hl : (a ++ b.take k).length = n + k := by rw [List.length_append, List.length_take]; omega
    rw [hl] at he hr
    exact ⟨A, c, he, hr⟩
  have cs := fun (W : World) (p : Nat) (tw : One CT w W p t3) => show Calls Try.prog 20 #[.pointer (some ⟨p, 0, none⟩)] W fun e w' => e = .returned (.int .i64 ((n + k : Nat) : Int)) ∧ Below W.heap.size W w' by
    obtain ⟨S, a1, a2, a3⟩ := tw
    refine (H.sure W S p t3 a1).mono fun e w' ⟨he, hbw⟩ => ⟨?_, hbw⟩
    rw [he, hcrs, hn]
  obtain ⟨L, hL⟩ : ∃ L, n + k = L := ⟨_, rfl⟩
  rw [hL] at cb cs
  have hkm2 : k ≤ m := by omega
  have hta := fun W (hbw : Below w.heap.size w W) => (hra W hbw).text
  have htb := fun W (hbw : Below w.heap.size w W) => (show RdAt W (.slice B k cb0) (b.take k) from by
    have h := hrb W hbw
    rw [hbv, ← hm] at h
    exact h.take k (by omega)).text
  have HCW1 := Lib.hid cw1; have HCY := Lib.hid cy; have HCF := Lib.hid cf; have HCW2 := Lib.hid cw2; have HCC := Lib.hid cc; have HCB := Lib.hid cb; have HCS := Lib.hid cs; have HTA := Lib.hid hta; have HTB := Lib.hid htb; have HLk := Lib.hid hL; have HN := Lib.hid hn; have HM := Lib.hid hm
  have HKK := Lib.hid K; have HNEW := Lib.hid H.new
  rw [hn] at HCY HCF HCW2
  have hn5 : n ≤ 500 := by omega
  have hm5 : m ≤ 500 := by omega
  clear cw1 cy cf cw2 cc cb cs hta htb hra hrb howa howb hu2 ht3 hcrb hcrs hsf hwok okN hfl hkm hL hn hm h0 h2 hx hk K H
  subst hav hbv
  have hw1 : IntKind.i64.wrap (f0.toNat : Int) = (f0.toNat : Int) := by have := f0.toNat_lt; rw [IntKind.wrap_i64]; omega
  go_enter Try.func4, Try.ntmps4
  go_wp2_with fail
  refine (HNEW.out _).mono ?_
  rintro e x1 ⟨⟨p, S, rfl, ct1, hS1⟩, hb1⟩
  have tw0 := Lib.hid (show One CT w x1 p TP.new from ⟨S, ct1, hS1, hb1⟩)
  clear ct1 hS1 hb1
  dsimp only
  go_wp2_with fail
  have c1 := HCW1.out _ _ tw0.out
  have C1 := Lib.hid c1; clear c1
  with_reducible refine C1.out.mono ?_
  rintro e y1 ⟨rfl, t1⟩
  have tw1 := Lib.hid t1; clear t1 C1
  dsimp only
  go_wp2_with fail
  have c2 := HCY.out _ _ tw1.out
  have C2 := Lib.hid c2; clear c2
  with_reducible refine C2.out.mono ?_
  rintro e y2 ⟨rfl, t2⟩
  have tw2 := Lib.hid t2; clear t2 C2
  dsimp only
  go_wp2_with fail
  have c3 := HCF.out _ _ tw2.out
  have C3 := Lib.hid c3; clear c3
  with_reducible refine C3.out.mono ?_
  rintro e y3 ⟨rfl, t3⟩
  have tw3 := Lib.hid t3; clear t3 C3
  dsimp only
  go_wp2_with fail
  have c4 := HCW2.out _ _ tw3.out
  have C4 := Lib.hid c4; clear c4
  with_reducible refine C4.out.mono ?_
  rintro e y4 ⟨rfl, t4⟩
  have tw4 := Lib.hid t4; clear t4 C4
  dsimp only
  go_wp2_with fail
  have c5 := HCC.out _ _ tw4.out
  have C5 := Lib.hid c5; clear c5
  with_reducible refine C5.out.mono ?_
  rintro e y5 ⟨rfl, t5⟩
  have tw5 := Lib.hid t5; clear t5 C5
  dsimp only
  go_wp2_with fail
  refine (HCB.out _ _ tw5.out).mono ?_
  rintro e w7 ⟨⟨C, cc, rfl, hrc⟩, t6⟩
  have tw6 := Lib.hid t6; clear t6
  have hrcW := fun W (hbw : Below w7.heap.size w7 W) => hrc.below hbw
  obtain ⟨X1, hX1⟩ : ∃ D : ByteArray, (⟨a.toArray⟩ : ByteArray) = D := ⟨_, rfl⟩
  obtain ⟨X2, hX2⟩ : ∃ D : ByteArray, (⟨(b.take k).toArray⟩ : ByteArray) = D := ⟨_, rfl⟩
  have hlen : (a ++ b.take k).length = L := by have h1 := HLk.out; have h2 := HN.out; have h3 := HM.out; rw [List.length_append, List.length_take]; omega
  have hta1 : ∀ W, Below w7.heap.size w7 W → (convert 28 9 (.slice C n cc)).run Try.prog W = .ok (.string X1) W := fun W hbw => by
    have h := hrcW W hbw
    rw [← hlen] at h
    have := (h.take n (by rw [List.length_append]; have := HN.out; omega)).text
    rw [List.take_append_of_le_length (by have := HN.out; omega), List.take_of_length_le (by have := HN.out; omega), hX1] at this
    exact this
  have hta2 : ∀ W, Below w7.heap.size w7 W → (convert 28 9 (.slice A n ca)).run Try.prog W = .ok (.string X1) W := fun W hbw => by
    have h := HTA.out W (tw6.out.low.trans (hbw.mono tw6.out.low.size))
    rw [hX1] at h; exact h
  have hta3 : ∀ W, Below w7.heap.size w7 W → (convert 28 9 (.slice B k cb0)).run Try.prog W = .ok (.string X2) W := fun W hbw => by
    have h := HTB.out W (tw6.out.low.trans (hbw.mono tw6.out.low.size))
    rw [hX2] at h; exact h
  have hcL : L ≤ cc := by
    obtain ⟨_, _, e, h1, _⟩ := hrc
    rw [hlen] at e h1
    cases e; exact h1
  have e1 : (X1.toList == X1.toList) = true := by simp
  have e2 : (X2.toList == X2.toList) = true := by simp
  obtain ⟨M, hM⟩ : ∃ M, n + m = M := ⟨_, rfl⟩
  have hLk := HLk.out
  have g1 : decide ((n : Int) ≤ L) = true := by simp; omega
  have g2 : decide ((L : Int) ≤ M) = true := by simp; omega
  have g1n : decide (n ≤ L) = true := by simp; omega
  have g2n : decide (L ≤ M) = true := by simp; omega
  have wM : IntKind.i64.wrap ((n : Int) + m) = (M : Int) := by have := HN.out; rw [IntKind.wrap_i64]; omega
  have wk : IntKind.i64.wrap ((L : Int) - n) = (k : Int) := by rw [IntKind.wrap_i64]; omega
  have q1 : (0 : Int) ≤ n := by omega
  have q2 : (n : Int) ≤ cc := by omega
  have q3 : (n : Int) ≤ L := by omega
  have q4 : (0 : Int) ≤ k := by omega
  have q5 : (k : Int) ≤ cb0 := by omega
  have hLn : L - n = k := by omega
  have H1 := Lib.hid hta1; have H2 := Lib.hid hta2; have H3 := Lib.hid hta3
  clear hta1 hta2 hta3 hLk hM hX1
  by_cases hcn : cc = n
  · have hk0 : k = 0 := by omega
    have hcn' : n = cc := hcn.symm
    subst hcn'
    have hta4 : ∀ W, Below w7.heap.size w7 W → (convert 28 9 (.slice C 0 0)).run Try.prog W = .ok (.string X2) W := fun W hbw => by
      rw [← hX2, hk0]
      rcases C with _ | ad
      · exact (RdAt.nil W).text
      · have hnil : RdAt W (.slice (some ad) 0 0) [] := by
          obtain ⟨_, _, e, h1, h2, h3⟩ := hrcW W hbw
          rw [hlen] at e h1 h3
          have hLz : L = n := by omega
          cases e
          rcases h3 with ⟨h, _⟩ | ⟨g, o, h, hg, _⟩
          · cases h
          · exact ⟨_, _, rfl, Nat.le_refl _, by decide, .inr ⟨g, o, h, hg, fun j u hu => by simp [cells] at hu⟩⟩
        exact hnil.text
    have H4 := Lib.hid hta4
    have HLn := Lib.hid (show L - n = 0 by omega)
    have HK0 := Lib.hid hk0
    clear hta4 hX2 hlen hrcW hrc hcL hLn HLk hcn hk0
    dsimp only
    go_upto_region 10 with fail
    have HSW : Hid (∀ W, Below w7.heap.size w7 W → ((convert 28 9 (.slice C n n)).run Try.prog W = .ok (.string X1) W ∧ (convert 28 9 (.slice A n ca)).run Try.prog W = .ok (.string X1) W ∧ (convert 28 9 (.slice C (L - n) 0)).run Try.prog W = .ok (.string X2) W ∧ (convert 28 9 (.slice B k cb0)).run Try.prog W = .ok (.string X2) W)) := Lib.hid fun W hb => ⟨H1.out W hb, H2.out W hb, by rw [HLn.out]; exact H4.out W hb, H3.out W hb⟩
    go_region_held3 (fun W => (convert 28 9 (.slice C n n)).run Try.prog W = .ok (.string X1) W ∧ (convert 28 9 (.slice A n ca)).run Try.prog W = .ok (.string X1) W ∧ (convert 28 9 (.slice C (L - n) 0)).run Try.prog W = .ok (.string X2) W ∧ (convert 28 9 (.slice B k cb0)).run Try.prog W = .ok (.string X2) W) (first | exact HSW.out _ (Below.refl _ _) | exact HSW.out _ (Below.refl _ _).drew | exact HSW.out _ (below_drew2 _ _ (by assumption)) | exact HSW.out _ ((below_drew2 _ _ hb8).chain (by assumption))) (first | (go_at_call 7; with_reducible refine (h8.out _).mono ?_; rintro e w8 ⟨rfl, hb8⟩; have tw7 := Lib.hid (One.later HKK.out tw6.out (below_drew2 _ _ hb8))) | (go_at_call 20; with_reducible refine (HCS.out _ _ tw7.out).mono ?_; rintro e w9 ⟨rfl, hb9⟩))
    all_goals
      have hfin := tw7.out.low.trans (hb9.mono tw7.out.low.size)
      have HFIN := Lib.hid hfin; clear hfin
      go_wp2
      go_ret
      exact ⟨rfl, HFIN.out⟩
  · obtain ⟨g, o, rfl⟩ : ∃ g o, C = some ⟨g, o, none⟩ := by
      obtain ⟨_, _, e, h1, h2, h3⟩ := hrc
      cases e
      rcases h3 with ⟨_, _, h⟩ | ⟨g, o, h, _⟩
      · omega
      · exact ⟨g, o, h⟩
    have hta4 : ∀ W, Below w7.heap.size w7 W → (convert 28 9 (.slice (some ⟨g, o + n, none⟩) k (cc - n))).run Try.prog W = .ok (.string X2) W := fun W hbw => by
      have h := hrcW W hbw
      rw [← hlen] at h
      have := (h.dropB n (by rw [hlen]; omega)).text
      rw [hlen, hLn, List.drop_append_of_le_length (by have := HN.out; omega), List.drop_of_length_le (by have := HN.out; omega), List.nil_append, hX2] at this
      exact this
    have H4 := Lib.hid hta4
    have hcn2 : (cc == n) = false := by simp [hcn]
    have HLn := Lib.hid hLn
    clear hta4 hX2 hlen hrcW hrc hcL hLn HLk
    dsimp only
    go_upto_region 10 with fail
    have HSW : Hid (∀ W, Below w7.heap.size w7 W → ((convert 28 9 (.slice (some ⟨g, o, none⟩) n cc)).run Try.prog W = .ok (.string X1) W ∧ (convert 28 9 (.slice A n ca)).run Try.prog W = .ok (.string X1) W ∧ (convert 28 9 (.slice (some ⟨g, o + n, none⟩) (L - n) (cc - n))).run Try.prog W = .ok (.string X2) W ∧ (convert 28 9 (.slice B k cb0)).run Try.prog W = .ok (.string X2) W)) := Lib.hid fun W hb => ⟨H1.out W hb, H2.out W hb, by rw [HLn.out]; exact H4.out W hb, H3.out W hb⟩
    go_region_held3 (fun W => (convert 28 9 (.slice (some ⟨g, o, none⟩) n cc)).run Try.prog W = .ok (.string X1) W ∧ (convert 28 9 (.slice A n ca)).run Try.prog W = .ok (.string X1) W ∧ (convert 28 9 (.slice (some ⟨g, o + n, none⟩) (L - n) (cc - n))).run Try.prog W = .ok (.string X2) W ∧ (convert 28 9 (.slice B k cb0)).run Try.prog W = .ok (.string X2) W) (first | exact HSW.out _ (Below.refl _ _) | exact HSW.out _ (Below.refl _ _).drew | exact HSW.out _ (below_drew2 _ _ (by assumption)) | exact HSW.out _ ((below_drew2 _ _ hb8).chain (by assumption))) (first | (go_at_call 7; with_reducible refine (h8.out _).mono ?_; rintro e w8 ⟨rfl, hb8⟩; have tw7 := Lib.hid (One.later HKK.out tw6.out (below_drew2 _ _ hb8))) | (go_at_call 20; with_reducible refine (HCS.out _ _ tw7.out).mono ?_; rintro e w9 ⟨rfl, hb9⟩))
    all_goals
      have hfin := tw7.out.low.trans (hb9.mono tw7.out.low.size)
      have HFIN := Lib.hid hfin; clear hfin
      go_wp2
      go_ret
      exact ⟨rfl, HFIN.out⟩
end Go.Proofs.Ytokijikcgoihmaa
