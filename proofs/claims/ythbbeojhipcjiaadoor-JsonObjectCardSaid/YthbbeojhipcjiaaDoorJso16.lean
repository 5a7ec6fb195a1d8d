/- Texts merged by program, in build order: JsonWriteV, JsonPrint, JsonAnswers, LawJsonObject2, LaidJson. -/
import Derived.Test.YthbbeojhipcjiaaDoorJso15
import Derived.Test.YthbbeojhipcjiaaDoorJso08
import Derived.Test.YthbbeojhipcjiaaDoorJso10
import Derived.Test.YthbbeojhipcjiaaDoorJso12
import Derived.Test.YthbbeojhipcjiaaDoorJso03
import Derived.Lib.LaidTab
import Derived.LaidMore
import Derived.LaidSub
import Derived.OpenShut
import Derived.ProofKit
import Derived.Stop.Joined
import Derived.Stop.LaidErr
namespace Go.Proofs.YthbbeojhipcjiaaDoor
open Go.RowKit

theorem formatBool_t : Lib.formatBool true = trueT := by decide +kernel
theorem formatBool_f : Lib.formatBool false = falseT := by decide +kernel
theorem wsL (B b : Nat) (l t : List UInt8) (w : World) (h : Bld w B b l) (hlen : l.length + t.length ≤ 140737488355328) (hBw : B ≤ w.heap.size) :
    Calls Tryd.prog 58 #[.pointer (some ⟨b, 0, none⟩), .string ⟨t.toArray⟩] w fun e w' => (∃ v, e = .returned v) ∧ Bld w' B b (l ++ t) ∧ Below B w w' :=
  (writeString_any B b l ⟨t.toArray⟩ w h (by show l.length + t.toArray.size ≤ _; simpa using hlen) hBw).mono fun _ _ ⟨h1, h2, h3, _⟩ => ⟨⟨_, h1⟩, h2, h3⟩
set_option maxRecDepth 100000 in
set_option maxHeartbeats 2000000 in
theorem write_at (m : Nat) : ∀ v : V, v.size ≤ m → WriteSays v := by
  induction m with
  | zero => intro v hm; exact absurd (size_pos v) (by omega)
  | succ m ih =>
  intro v hm w B b acc L N p o cs hg hlen h hBw h5 hpN hv hN hk
  obtain ⟨k, n, t, l, ks⟩ := v
  have HD := good_head hg
  have h5' := h5
  obtain ⟨⟨ml, mk, -, -⟩, A, c, A', c', rfl, h1, h2⟩ := hv.out
  obtain ⟨c0, c1, c2, c3, c4, e, m0, m1, m2, m3, m4⟩ := h5
  injection e with e0 e; injection e with e1 e; injection e with e2 e; injection e with e3 e; injection e with e4 e
  subst e0; subst e1; subst e2; subst e3; subst e4
  have hk6 : k = 1 ∨ k = 2 ∨ k = 3 ∨ k = 4 ∨ k = 5 ∨ k = 6 := by have := HD.kind; omega
  have HB := Lib.hid h; have HK := Lib.hid hk
  have ihs := fun i (hi : i < l.length) => ih l[i] (by have := size_get (k := k) (n := n) (t := t) (ks := ks) i hi; omega)
  clear h hk h1 h2 ih
  rcases hk6 with rfl | rfl | rfl | rfl | rfl | rfl
  · rw [show_one] at hlen ⊢
    have hc := wsL B b acc nullT w HB.out hlen hBw
    have HC := Lib.hid hc; clear hc ihs hv h5' hg HD hlen hm
    go_enter Tryd.func43, Tryd.ntmps43
    go_wp2_with fail
    refine HC.out.mono ?_
    rintro e1 w1 ⟨⟨v, rfl⟩, hb1, hw1⟩
    dsimp only
    go_wp2
    go_end0
    exact ⟨rfl, hb1, hw1⟩
  · rw [show_two] at hlen ⊢
    have hn01 := HD.bool rfl
    have hfb := Tryd.strconv_FormatBool
    have HFB := Lib.hid hfb; clear hfb ihs hv h5' hg HD hm
    rcases hn01 with rfl | rfl
    · rw [if_neg (by decide)] at hlen ⊢
      have hc := wsL B b acc falseT w HB.out hlen hBw
      have HC := Lib.hid hc; clear hc hlen
      go_enter Tryd.func43, Tryd.ntmps43
      go_wp2_with (go_at_call 59; refine (HFB.out false _).mono ?_; rintro e1 w1 ⟨rfl, rfl⟩; rw [formatBool_f])
      refine HC.out.mono ?_
      rintro e1 w1 ⟨⟨v, rfl⟩, hb1, hw1⟩
      dsimp only
      go_wp2
      go_end0
      exact ⟨rfl, hb1, hw1⟩
    · rw [if_pos rfl] at hlen ⊢
      have hc := wsL B b acc trueT w HB.out hlen hBw
      have HC := Lib.hid hc; clear hc hlen
      go_enter Tryd.func43, Tryd.ntmps43
      go_wp2_with (go_at_call 59; refine (HFB.out true _).mono ?_; rintro e1 w1 ⟨rfl, rfl⟩; rw [formatBool_t])
      refine HC.out.mono ?_
      rintro e1 w1 ⟨⟨v, rfl⟩, hb1, hw1⟩
      dsimp only
      go_wp2
      go_end0
      exact ⟨rfl, hb1, hw1⟩
  · rw [show_three] at hlen ⊢
    have hn := HD.num rfl
    have hfi := formatInt_any n (by omega) (by omega) w B HK.out
    have hc := fun w1 (hb : Below w.heap.size w w1) => wsL B b acc (decI n) w1 (HB.out.below hb) hlen (Nat.le_trans hBw hb.size)
    have HC := Lib.hid hc; have HFI := Lib.hid hfi; clear hc hfi ihs hv h5' hg HD hlen hm
    go_enter Tryd.func43, Tryd.ntmps43
    go_wp2_with (go_at_call 60; refine (HFI.out).mono ?_; rintro e1 w1 ⟨rfl, hb1⟩)
    refine (HC.out _ hb1).mono ?_
    rintro e2 w2 ⟨⟨v, rfl⟩, hb2, hw2⟩
    dsimp only
    go_wp2
    go_end0
    exact ⟨rfl, hb2, (hb1.mono hBw).trans hw2⟩
  · rw [show_four] at hlen ⊢
    have hc := quote_any B b acc t w hlen HB.out hBw
    have HC := Lib.hid hc; clear hc ihs hv h5' hg HD hlen hm
    go_enter Tryd.func43, Tryd.ntmps43
    go_wp2_with (go_at_call 61; refine (HC.out).mono ?_; rintro e1 w1 ⟨rfl, hb1, hw1⟩)
    go_end0
    exact ⟨rfl, hb1, hw1⟩
  · rw [show_list] at hlen ⊢
    simp only [List.length_cons, List.length_append, List.length_nil] at hlen
    have hc1 := wbI B b acc 91 91 rfl w HB.out (by omega) hBw
    have hc2 := fun w1 (hw : Below B w w1) hb => writeList n t l ks ihs w1 B b (acc ++ [91]) L N p o _ hg (by simp; omega) hb (Nat.le_trans hBw hw.size) (h5'.keep hpN (fun s hs => hw.cell (Nat.lt_of_lt_of_le hs hN))) hpN (hv.below (hw.mono hN)) hN (HK.out.below hw)
    have hc3 := fun w1 (hw : Below B w w1) hb => wbI B b ((acc ++ [91]) ++ V.items l) 93 93 rfl w1 hb (by simp; omega) (Nat.le_trans hBw hw.size)
    have C1 := Lib.hid hc1; have C2 := Lib.hid hc2; have C3 := Lib.hid hc3; clear hc1 hc2 hc3 ihs hv h5' hg HD hlen hm
    go_enter Tryd.func43, Tryd.ntmps43
    go_wp2_with fail
    refine C1.out.mono ?_
    rintro e1 w1 ⟨rfl, hb1, hw1⟩
    dsimp only
    go_wp2_with (go_at_call 63; refine (C2.out _ hw1 hb1).mono ?_; rintro e2 w2 ⟨rfl, hb2, hw2⟩)
    refine (C3.out _ (hw1.trans hw2) hb2).mono ?_
    rintro e3 w3 ⟨rfl, hb3, hw3⟩
    dsimp only
    go_wp2
    go_end0
    exact ⟨rfl, by simpa using hb3, (hw1.trans hw2).trans hw3⟩
  · rw [show_object] at hlen ⊢
    simp only [List.length_cons, List.length_append, List.length_nil] at hlen
    have hc1 := wbI B b acc 123 123 rfl w HB.out (by omega) hBw
    have hc2 := fun w1 (hw : Below B w w1) hb => writePairs n t l ks ihs w1 B b (acc ++ [123]) L N p o _ hg (by simp; omega) hb (Nat.le_trans hBw hw.size) (h5'.keep hpN (fun s hs => hw.cell (Nat.lt_of_lt_of_le hs hN))) hpN (hv.below (hw.mono hN)) hN (HK.out.below hw)
    have hc3 := fun w1 (hw : Below B w w1) hb => wbI B b ((acc ++ [123]) ++ V.pairs l ks) 125 125 rfl w1 hb (by simp; omega) (Nat.le_trans hBw hw.size)
    have C1 := Lib.hid hc1; have C2 := Lib.hid hc2; have C3 := Lib.hid hc3; clear hc1 hc2 hc3 ihs hv h5' hg HD hlen hm
    go_enter Tryd.func43, Tryd.ntmps43
    go_wp2_with fail
    refine C1.out.mono ?_
    rintro e1 w1 ⟨rfl, hb1, hw1⟩
    dsimp only
    go_wp2_with (go_at_call 63; refine (C2.out _ hw1 hb1).mono ?_; rintro e2 w2 ⟨rfl, hb2, hw2⟩)
    refine (C3.out _ (hw1.trans hw2) hb2).mono ?_
    rintro e3 w3 ⟨rfl, hb3, hw3⟩
    dsimp only
    go_wp2
    go_end0
    exact ⟨rfl, by simpa using hb3, (hw1.trans hw2).trans hw3⟩
end Go.Proofs.YthbbeojhipcjiaaDoor
namespace Go.Proofs.YthbbeojhipcjiaaDoor
open Go.RowKit

/-- what Print answers -/
def printV (v : V) : List UInt8 := if v.fits 8 then v.show else []
theorem write_any (v : V) : WriteSays v := write_at v.size v (Nat.le_refl _)
set_option maxRecDepth 100000 in
set_option maxHeartbeats 1000000 in
theorem printT_any (v : V) (w : World) (L N : Nat) (cs : List Value) (hlen : v.fits 8 = true → v.show.length ≤ 140737488355328) (hv : VIs w L N v cs) (hN : N ≤ w.heap.size) (hk : TabIn w.heap.size w) :
    Calls Tryd.prog 20 #[.agg cs.toArray] w fun e w' => e = .returned (.string ⟨(printV v).toArray⟩) ∧ Below w.heap.size w w' := by
  have hb0 := (Below.refl w.heap.size w).alloc (Nat.le_refl _) (.cells cs.toArray 28)
  have hs : (w.alloc (.cells cs.toArray 28)).heap.size = w.heap.size + 1 := by simp
  have h5 := five_new hv 28
  have hv1 := (hv.below (hb0.mono hN)).more (Nat.zero_le L) (show N ≤ w.heap.size + 1 by omega)
  have hgood := good_any v (w.alloc (.cells cs.toArray 28)) 0 (w.heap.size + 1) cs (hv1.more (Nat.le_refl _) (Nat.le_refl _)) (by omega)
  have hk1 := hk.below hb0
  obtain ⟨A, c, A', c', rfl⟩ := hv.form
  have hx := Box.new w (.int .i64 v.kind) (.int .i64 v.num) (.string ⟨v.text.toArray⟩) (.slice A v.list.length c) (.slice A' v.keys.length c') 28
  rw [hs] at hgood
  have HG := Lib.hid hgood
  cases hf : v.fits 8 with
  | false =>
    have hp : printV v = [] := by unfold printV; rw [hf]; rfl
    rw [hp]
    rw [hf] at HG
    have HB0 := Lib.hid hb0
    clear hgood hv hv1 h5 hb0 hs hk hk1 hlen hp hx
    go_enter Tryd.func20, Tryd.ntmps20
    go_wp2_with (go_at_call 21; with_reducible refine (HG.out).mono ?_; rintro e1 w1 ⟨rfl, hb1⟩)
    go_ret
    exact ⟨rfl, HB0.out.trans (hb1.mono (by omega))⟩
  | true =>
    have hp : printV v = v.show := by unfold printV; rw [hf]; rfl
    rw [hp]
    rw [hf] at HG
    have hl := hlen hf
    have hwr := fun w1 (hb1 : Below (w.heap.size + 1) (w.alloc (.cells #[.int .i64 v.kind, .int .i64 v.num, .string ⟨v.text.toArray⟩, .slice A v.list.length c, .slice A' v.keys.length c'] 28)) w1) (hs1 : w.heap.size + 1 ≤ w1.heap.size) =>
      write_any v (w1.alloc (.cells #[.pointer none, .slice none 0 0] 79)) w1.heap.size w1.heap.size [] 0 (w.heap.size + 1) w.heap.size 0 _ (fits_isgood hf) (by simpa using hl) (Bld.new w1) (by simp)
        ((h5.keep (N := w.heap.size + 1) (by omega) (fun p hp => hb1.cell hp)).keep (N := w1.heap.size) (by omega) (fun p hp => ((Below.refl _ _).alloc (Nat.le_refl _) _).cell hp)) (by omega)
        ((hv1.below hb1).below (((Below.refl w1.heap.size w1).alloc (Nat.le_refl _) _).mono hs1)) hs1 (((hk1.more (B' := w.heap.size + 1) (by omega)).below hb1).more hs1 |>.below ((Below.refl w1.heap.size w1).alloc (Nat.le_refl _) _))
    have HW := Lib.hid hwr; have HB0 := Lib.hid hb0
    clear hgood hv hv1 h5 hb0 hs hk hk1 hlen hp hwr hx
    go_enter Tryd.func20, Tryd.ntmps20
    go_wp2_with (go_at_call 21; with_reducible refine (HG.out).mono ?_; rintro e1 w1 ⟨rfl, hb1⟩; have hs1 := hb1.size; (try rw [show (w.alloc (.cells #[.int .i64 v.kind, .int .i64 v.num, .string ⟨v.text.toArray⟩, .slice A v.list.length c, .slice A' v.keys.length c'] 28)).heap.size = w.heap.size + 1 by simp] at hs1))
    have hb1' : Below (w.heap.size + 1) (w.alloc (.cells #[.int .i64 v.kind, .int .i64 v.num, .string ⟨v.text.toArray⟩, .slice A v.list.length c, .slice A' v.keys.length c'] 28)) w1 := by
      exact hb1
    refine (HW.out _ hb1' hs1).mono ?_
    rintro e2 w2 ⟨rfl, hb2, hw2⟩
    dsimp only
    have hst := bldString_any w1.heap.size w1.heap.size ([] ++ v.show) w2 hb2 (Nat.le_trans (by simp) hw2.size)
    have HST := Lib.hid hst; clear hst
    go_wp2_with (go_at_call 44; with_reducible refine (HST.out).mono ?_; rintro e3 w3 ⟨rfl, hb3⟩)
    go_ret
    refine ⟨rfl, ?_⟩
    have b1 : Below w.heap.size w w1 := HB0.out.trans (hb1'.mono (by omega))
    have b2 : Below w.heap.size w1 w2 := ((Below.refl w1.heap.size w1).alloc (Nat.le_refl _) _ |>.trans hw2).mono (by omega)
    exact (b1.trans b2).trans (hb3.mono (by omega))
theorem print_any (v : V) (w : World) (L N : Nat) (cs : List Value) (hlen : v.fits 8 = true → v.show.length ≤ 140737488355328) (hv : VIs w L N v cs) (hN : N ≤ w.heap.size) (hk : KitIn w.heap.size w) :
    Calls Tryd.prog 20 #[.agg cs.toArray] w fun e w' => e = .returned (.string ⟨(printV v).toArray⟩) ∧ Below w.heap.size w w' := printT_any v w L N cs hlen hv hN hk.toTab
end Go.Proofs.YthbbeojhipcjiaaDoor
namespace Go.Proofs.YthbbeojhipcjiaaDoor
open Go.RowKit

def ansT : List UInt8 := [123, 34, 97, 34, 58, 91, 49, 44, 116, 114, 117, 101, 93, 125]
def ansX : V := .mk 5 0 [] [.mk 3 1 [] [] [], .mk 2 1 [] [] []] []
def ansV : V := .mk 6 0 [] [ansX] [[97]]
theorem ans_fits : ansV.fits 8 = true := by kernel_rfl
theorem ans_show : ansV.show = ansT := by kernel_rfl
theorem ans_parse : parseV ansT = (ansV, 0) := by
  unfold parseV
  rw [if_neg (by decide), readV_of (s := ansT) (v := ansV) ⟨⟨_, ans_fits⟩, ans_show⟩ (by decide)]
  simp only [ans_fits, if_true]
theorem ans_print : printV ansV = ansT := by kernel_rfl
theorem ans_field : fieldV [97] ansV = some ansX := by kernel_rfl
theorem ans_slim : ansV.slim 1000000 := by
  simp [ansV, ansX, V.slim, V.slims]
set_option maxRecDepth 100000 in
set_option maxHeartbeats 20000000 in
theorem answers_any (w : World) (hk : KitIn w.heap.size w) : Calls Tryd.prog 7 #[] w fun e w' => e = .returned (.bool true) ∧ Below w.heap.size w w' := by
  have hp := parse_any ansT (by decide) w hk
  rw [ans_parse] at hp
  have hp2 : Calls Tryd.prog 18 #[.string ⟨#[123, 34, 97, 34, 58, 91, 49, 44, 116, 114, 117, 101, 93, 125]⟩] w fun e w' => (∃ cs, e = .returned (.tuple #[.agg cs.toArray, .int .i64 0]) ∧ VIs w' w.heap.size w'.heap.size ansV cs) ∧ Below w.heap.size w w' := hp
  have HP := Lib.hid hp2; have HK := Lib.hid hk
  clear hp hp2 hk
  go_enter Tryd.func7, Tryd.ntmps7
  go_wp2_with fail
  refine (HP.out).mono ?_
  rintro e2 w2 ⟨⟨cs, rfl, hv⟩, hb2⟩
  dsimp only
  obtain ⟨A, c, A', c', rfl⟩ := hv.form
  have hcs : [Value.int .i64 ansV.kind, .int .i64 ansV.num, .string ⟨ansV.text.toArray⟩, .slice A ansV.list.length c, .slice A' ansV.keys.length c'] = [.int .i64 6, .int .i64 0, .string ⟨#[]⟩, .slice A 1 c, .slice A' 1 c'] := rfl
  rw [hcs] at hv ⊢
  have hv3 := hv.below ((Below.refl w2.heap.size w2).alloc (Nat.le_refl _) (.cells #[.int .i64 6, .int .i64 0, .string ⟨#[]⟩, .slice A 1 c, .slice A' 1 c'] 28))
  have hb3 := hb2.alloc hb2.size (.cells #[.int .i64 6, .int .i64 0, .string ⟨#[]⟩, .slice A 1 c, .slice A' 1 c'] 28)
  have r3 : (w2.alloc (.cells #[.int .i64 6, .int .i64 0, .string ⟨#[]⟩, .slice A 1 c, .slice A' 1 c'] 28)).heap[w2.heap.size]? = _ := heap_alloc_last w2 (.cells #[.int .i64 6, .int .i64 0, .string ⟨#[]⟩, .slice A 1 c, .slice A' 1 c'] 28)
  have hf := field_any ansV [97] _ _ _ _ ans_slim (by decide) hv3 (by simp)
  rw [ans_field] at hf
  have HB2 := Lib.hid hb2; have HB3 := Lib.hid hb3; have HF := Lib.hid hf; have R3 := Lib.hid r3; have HV3 := Lib.hid hv3
  clear hv hv3 hb2 hb3 r3 hf hcs
  go_wp2_with fail
  refine (HF.out).mono ?_
  rintro e4 w4 ⟨⟨ds, rfl, hx, -⟩, hb4⟩
  dsimp only
  obtain ⟨D, d, D', d', rfl⟩ := hx.form
  have hds : [Value.int .i64 ((some ansX).getD V.zero).kind, .int .i64 ((some ansX).getD V.zero).num, .string ⟨((some ansX).getD V.zero).text.toArray⟩, .slice D ((some ansX).getD V.zero).list.length d, .slice D' ((some ansX).getD V.zero).keys.length d'] = [.int .i64 5, .int .i64 0, .string ⟨#[]⟩, .slice D 2 d, .slice D' 0 d'] := rfl
  rw [hds] at hx ⊢
  have hsm : (some ansX).isSome = true := rfl
  rw [hsm]
  have hw5 := hb4.alloc hb4.size (.cells #[.int .i64 5, .int .i64 0, .string ⟨#[]⟩, .slice D 2 d, .slice D' 0 d'] 28)
  have r5 := (hw5.block w2.heap.size (by simp)).trans R3.out
  have x5 : (w4.alloc (.cells #[.int .i64 5, .int .i64 0, .string ⟨#[]⟩, .slice D 2 d, .slice D' 0 d'] 28)).heap[w4.heap.size]? = _ := heap_alloc_last w4 (.cells #[.int .i64 5, .int .i64 0, .string ⟨#[]⟩, .slice D 2 d, .slice D' 0 d'] 28)
  have hv5 := HV3.out.below (hw5.mono (by simp))
  have hsz4 := hb4.size
  simp only [World.size_alloc] at hsz4
  have hb5 : Below w.heap.size w (w4.alloc (.cells #[.int .i64 5, .int .i64 0, .string ⟨#[]⟩, .slice D 2 d, .slice D' 0 d'] 28)) := HB3.out.trans (hw5.mono (by have := HB2.out.size; simp; omega))
  obtain ⟨⟨e0, e1, e2, e3, e4⟩, -⟩ := box_of r5
  obtain ⟨⟨x0, x1, x2, x3, x4⟩, -⟩ := box_of x5
  have hpr := fun wq (hb : Below (w4.heap.size + 1) (w4.alloc (.cells #[.int .i64 5, .int .i64 0, .string ⟨#[]⟩, .slice D 2 d, .slice D' 0 d'] 28)) wq) => print_any ansV wq w.heap.size w2.heap.size [.int .i64 6, .int .i64 0, .string ⟨#[]⟩, .slice A 1 c, .slice A' 1 c'] (fun _ => by rw [ans_show]; decide) (hv5.below (hb.mono (by omega))) (by have := hb.size; simp at this; omega) ((HK.out.below (hb5.trans (hb.mono (by have := HB2.out.size; omega)))).more (by have := hb.size; have := HB2.out.size; simp at *; omega))
  rw [ans_print] at hpr
  have hgd := fun wq (hb : Below (w4.heap.size + 1) (w4.alloc (.cells #[.int .i64 5, .int .i64 0, .string ⟨#[]⟩, .slice D 2 d, .slice D' 0 d'] 28)) wq) => good_any ansV wq w.heap.size w2.heap.size [.int .i64 6, .int .i64 0, .string ⟨#[]⟩, .slice A 1 c, .slice A' 1 c'] (hv5.below (hb.mono (by omega))) (by have := hb.size; simp at this; omega)
  rw [ans_fits] at hgd
  have HPR := Lib.hid hpr; have HGD := Lib.hid hgd; have HB5 := Lib.hid hb5; have R5 := Lib.hid r5; have HSZ4 := Lib.hid hsz4
  clear hx hv5 hw5 hb4 hpr hgd hb5 r5 x5 hds hsm hsz4
  go_wp2_with fail
  have hpr := HPR.out _ (Below.refl _ _)
  refine hpr.mono ?_
  rintro e6 w6 ⟨rfl, hb6⟩
  dsimp only
  have hz6 := hb6.size
  simp only [World.size_alloc] at hz6
  have r6 := (hb6.block w2.heap.size (by have := HSZ4.out; simp; omega)).trans R5.out
  have hgd := HGD.out w6 (hb6.mono (by simp))
  have hb6w : Below w.heap.size w w6 := HB5.out.trans (hb6.mono (by have := HSZ4.out; have := HB2.out.size; simp; omega))
  clear hpr e0 e1 e2 e3 e4 x0 x1 x2 x3 x4
  obtain ⟨⟨e0, e1, e2, e3, e4⟩, -⟩ := box_of r6
  have HGD6 := Lib.hid hgd; have HB6 := Lib.hid hb6w; have HZ6 := Lib.hid hz6
  clear hgd hb6w hb6 hz6 r6
  have hq : (⟨ansT.toArray⟩ : ByteArray) = ⟨#[123, 34, 97, 34, 58, 91, 49, 44, 116, 114, 117, 101, 93, 125]⟩ := rfl
  rw [hq]
  clear hq
  go_wp2_with fail
  refine (HGD6.out).mono ?_
  rintro e8 w8 ⟨rfl, hb8⟩
  dsimp only
  have hb9 : Below w.heap.size w w8 := HB6.out.trans (hb8.mono (by have := HSZ4.out; have := HB2.out.size; have := HZ6.out; omega))
  have HB9 := Lib.hid hb9
  clear hb9 hb8
  go_wp2_with fail
  go_ret
  exact ⟨rfl, HB9.out⟩
end Go.Proofs.YthbbeojhipcjiaaDoor
namespace Go.Proofs.YthbbeojhipcjiaaDoor
open Go.RowKit

theorem jsonObject_law (A : Option Addr) (c : Nat) (l : PL) {w : World} (h : Prs w w.heap.size A l ∧ l.length ≤ reachBytes ∧ ∀ p ∈ l, p.1.length ≤ reachBytes ∧ p.2.length ≤ reachBytes) (hk : KitIn w.heap.size w) :
    Calls Tryd.prog 3 #[.slice A l.length c] w fun e w' => e = .returned (.bool true) ∧ Below w.heap.size w w' :=
  jsonObject_at refPut_new (fun w hk => answers_any w hk) A c l h.2.1 h.2.2 w h.1 hk
end Go.Proofs.YthbbeojhipcjiaaDoor
namespace Go.Proofs.YthbbeojhipcjiaaDoor
open Go.ChangeShapes Go.WideShapes Go.ChangeAt Go.RowKit

/-- what the rows list -/
def listed : List (String × DataW Unit) := [("math/bits.deBruijn32tab", Rows.laid_math_bits_deBruijn32tab), ("math/bits.deBruijn64tab", Rows.laid_math_bits_deBruijn64tab), ("internal/strconv.uint64pow10", Rows.laid_internal_strconv_uint64pow10), ("strconv.ErrRange", Rows.laid_strconv_ErrRange), ("strconv.ErrSyntax", Rows.laid_strconv_ErrSyntax)]
theorem listed_plain : (listed.all fun x => x.2.handleName?.isNone) = true := by kernel_rfl
theorem pow_data : (Rows.laid_internal_strconv_uint64pow10 : DataW Unit) = Lib.tabData .u64 Lib.pow10Tab := by kernel_rfl
theorem gSyn : Tryd.prog.globalNamed "strconv.ErrSyntax" = some 5 := by kernel_rfl
theorem gRng : Tryd.prog.globalNamed "strconv.ErrRange" = some 6 := by kernel_rfl
theorem tPow : (Tryd.prog.globals[2]?).map (·.type) = some 140 := by kernel_rfl
theorem tSyn : (Tryd.prog.globals[5]?).map (·.type) = some 96 := by kernel_rfl
theorem tRng : (Tryd.prog.globals[6]?).map (·.type) = some 96 := by kernel_rfl
theorem cellsU64 : Tryd.prog.cellsOf 88 = 1 := by kernel_rfl
theorem cellsPow : Tryd.prog.cellsOf 140 = 20 := by kernel_rfl
/-- what reads as a value of an interface is one cell that holds one -/
theorem iface_cell {H : Type} {enc : TypeId × Value → H} {P : Program} {w : World} {base : Nat} {sp : Nat → Bool} {fuel : Nat} {ti : TypeId} {ms : Array (String × TypeId)} {cs : List Value} {nm : String} {d : DataW H} {p : List MemPlace}
    (hi : P.underlying ti = some (.interface ms)) (h : DataW.trod enc P w base sp false fuel ti cs = some (.iface nm d, p)) : ∃ u v, cs = [.iface u v] := by
  cases fuel with
  | zero => simp [DataW.trod] at h
  | succ fuel =>
    unfold DataW.trod at h
    rw [hi] at h
    match cs, h with
    | [.iface u v], _ => exact ⟨u, v, rfl⟩
    | [.nilIface], h => simp at h
theorem sent_cell {n nm : String} {g : Nat} {d : DataW Unit} {ti : TypeId} {ms : Array (String × TypeId)} {r : List (String × DataW Unit)} {W : World} (h : laidMet Tryd.prog ((n, .iface nm d) :: r) W) (hg : Tryd.prog.globalNamed n = some g)
    (hty : (Tryd.prog.globals[g]?).map (·.type) = some ti) (hi : Tryd.prog.underlying ti = some (.interface ms)) : ∃ u v, W.cell? ⟨g, 0, none⟩ = some (.iface u v) := by
  obtain ⟨ps, ⟨g', t', cs, fuel, p, q, hg', ht', hvar, hd, _, _⟩, _⟩ := h
  obtain rfl := Option.some.inj (hg.symm.trans hg')
  obtain rfl := Option.some.inj (hty.symm.trans ht')
  obtain ⟨u, v, e⟩ := iface_cell hi hd
  refine ⟨u, v, ?_⟩
  have := World.var?_cell hg hvar 0
  rw [this, ← Array.getElem?_toList, e]; rfl
theorem lt_of_cell {W : World} {g o : Nat} {v : Value} (h : W.cell? ⟨g, o, none⟩ = some v) : g < W.heap.size := by
  refine Nat.lt_of_not_le fun hle => ?_
  have : W.cell? ⟨g, o, none⟩ = none := by simp [World.cell?, Array.getElem?_eq_none hle]
  rw [this] at h; cases h
theorem kitIn_of_laid {W : World} (h : laidMetH Tryd.prog listed W) : KitIn W.heap.size W := by
  rw [MakeChecks.laidMetH_plain _ _ _ listed_plain] at h
  have h3 := h.tail.tail
  have h4 := h3.tail
  have h5 := h4.tail
  have h3' : laidMet Tryd.prog (("internal/strconv.uint64pow10", Lib.tabData .u64 Lib.pow10Tab) :: [("strconv.ErrRange", Rows.laid_strconv_ErrRange), ("strconv.ErrSyntax", Rows.laid_strconv_ErrSyntax)]) W := by rw [← pow_data]; exact h3
  have hT := Lib.tabIs_of_head gPow tPow Tryd.underlying140 Tryd.underlying88 cellsU64 cellsPow h3'
  obtain ⟨u, v, e4⟩ := sent_cell h4 gRng tRng Tryd.underlying96
  obtain ⟨u', v', e5⟩ := sent_cell h5 gSyn tSyn Tryd.underlying96
  exact ⟨hT, ⟨_, e5, .inr ⟨_, _, rfl⟩⟩, ⟨_, e4, .inr ⟨_, _, rfl⟩⟩, lt_of_cell (hT.cell gPow 0 (by decide)), lt_of_cell e5, lt_of_cell e4⟩
theorem door_met (os : Os) (args : Array Value) : laidMetH Tryd.prog listed ((World.doorLaid Tryd.prog 400 os).forCall (fun _ _ => 0) ⟨#[], args, []⟩).memory :=
  laidMetH_of_parts3 (fuel := 8) (laidMet_of_run' 8 (by kernel_rfl) (by kernel_rfl)) (by kernel_rfl) (by kernel_rfl)
end Go.Proofs.YthbbeojhipcjiaaDoor
