/- The reference's tape: what is written, made sure, set anew, lost. -/
import Derived.Test.YtokijikcgoihmaaTapeRef
import Derived.Deep.RegionLaw
import Derived.Deep.RegionWith
import Derived.Deep.Cut
namespace Go.Proofs.Ytokijikcgoihmaa
open Go.RowKit
set_option linter.unusedVariables false
set_option linter.unusedSimpArgs false

set_option maxRecDepth 100000 in
theorem refNew_any (w : World) : Calls Try.prog 9 #[] w fun e w' => (∃ p, e = .returned (.pointer (some ⟨p, 0, none⟩)) ∧ w.heap.size ≤ p ∧ RT w' p (.slice none 0 0) TP.new) ∧ Below w.heap.size w w' := by
  go_enter Try.func9, Try.ntmps9
  go_wp2
  go_ret
  exact ⟨⟨_, rfl, Nat.le_refl _, heap_alloc_last w _, RdAt.nil _, fun h => by cases h⟩, (Below.refl _ _).alloc (Nat.le_refl _) _⟩
set_option maxRecDepth 100000 in
set_option maxHeartbeats 4000000 in
theorem refWrite_any (p : Nat) (v : Value) (t : TP) (bv : Value) (l : List UInt8) (hl : l.length ≤ 1000000000) (htl : t.b.length ≤ 1000000000) (w : World) (h : RT w p v t) (hf : -1 ≤ t.fuse ∧ t.fuse ≤ 9223372036854775807) (hb : RdW w bv l) :
    Calls Try.prog 11 #[.pointer (some ⟨p, 0, none⟩), bv] w fun e w' => e = .returned (.int .i64 (t.write l).2) ∧ (∃ v', RT w' p v' (t.write l).1 ∧ ∀ g, v'.ownBlock = some g → w.heap.size ≤ g) ∧ Only (fun b => b = p) w w' := by
  obtain ⟨i0, hi, hz0, hz1, hz2⟩ := info_parts Try.infoByte
  have hle := t.left_le l.length
  have hlf := refLeft_any p v t l.length (by omega) w h hf
  have hb0 := hb
  obtain ⟨m, hm⟩ : ∃ m, t.left l.length = m := ⟨_, rfl⟩
  obtain ⟨n, hn⟩ : ∃ n, l.length = n := ⟨_, rfl⟩
  obtain ⟨q, hq⟩ : ∃ q, t.b.length = q := ⟨_, rfl⟩
  have hltk : (l.take m).length = m := by rw [List.length_take]; omega
  obtain ⟨A, c, rfl, hc, -, -⟩ := hb
  have hA := (hb0.take m (by omega)).news
  obtain ⟨A1, c1, e1, hA1⟩ := hA
  obtain ⟨B, d, rfl, hB⟩ := h.rd.news
  rw [hltk] at e1 hA1
  cases e1
  have hAW : ∀ W, Below w.heap.size w W → (A = none ∧ m = 0 ∧ c = 0) ∨ ∃ ad, A = some ad ∧ ∀ j u, (cells (l.take m))[j]? = some u → W.cell? (ad.add j) = some u := fun W hbw => by
    have := ((hb0.take m (by omega)).below hbw).news
    obtain ⟨A1, c1, e1, hA1⟩ := this
    rw [hltk] at e1 hA1
    cases e1
    exact hA1
  have hBW : ∀ W, Below w.heap.size w W → (B = none ∧ q = 0 ∧ d = 0) ∨ ∃ ad, B = some ad ∧ ∀ j u, (cells t.b)[j]? = some u → W.cell? (ad.add j) = some u := fun W hbw => by
    have := (h.rd.below hbw).news
    obtain ⟨A1, c1, e1, hA1⟩ := this
    rw [hq] at e1 hA1
    cases e1
    exact hA1
  have hPW : ∀ W, Below w.heap.size w W → W.cell? ⟨p, 0, none⟩ = some (.slice B q d) ∧ W.frozen? ⟨p, 0, none⟩ = false := fun W hbw => by
    have := box4_of ((hbw.block p h.lt).trans h.box)
    rw [hq] at this
    exact ⟨this.1.1, this.2.1⟩
  have hlb : (cells t.b).length = q * 1 := by rw [Nat.mul_one, ← hq]; simp [cells]
  have hll : (cells (l.take m)).length = m * 1 := by rw [Nat.mul_one, ← hltk]; simp [cells]
  have hmc : (m : Int) ≤ c := by omega
  have hm0 : (0 : Int) ≤ m := by omega
  rw [hm, hn] at hlf hle
  have huse := fun (v' : Value) (W : World) (hr : RT W p v' ⟨t.b ++ l.take m, t.sure, t.fuse, t.down⟩) => refUse_any p v' ⟨t.b ++ l.take m, t.sure, t.fuse, t.down⟩ m n (by omega) (by omega) W hr hf
  unfold TP.write
  rw [hm, hn]
  have c0 : w.cell? ⟨p, 0, none⟩ = _ := (hPW _ (Below.refl w.heap.size w)).1
  have c1 := (hPW _ ((Below.refl w.heap.size w).alloc (Nat.le_refl _) (.cells #[] 5))).1
  have HL := Lib.hid hlf; have HA := Lib.hid hAW; have HB := Lib.hid hBW; have HP := Lib.hid hPW; have HU := Lib.hid huse; have HLB := Lib.hid hlb; have HLL := Lib.hid hll; have HT := Lib.hid h
  have hmn : m ≤ 1000000000 := by omega
  have hqn : q ≤ 1000000000 := by omega
  clear hlf hAW hBW hPW huse hlb hll h hb0 hA1 hB hltk hn hm hq hl htl hf
  go_enter Try.func11, Try.ntmps11
  go_wp2_with fail
  refine HL.out.mono ?_
  rintro e _ ⟨rfl, rfl⟩
  dsimp only
  go_upto_region 2 with fail
  go_region_law (first
    | (refine step_append_opt rfl (.tmp 11) (.tmp 15) 28 rfl w.heap.size 5 i0 _ 1 1 Try.underlying28 hi hz0 hz1 hz2 rfl (by decide) (.slice (some ⟨w.heap.size, 0, none⟩) 0 0) 0 [] rfl (by refine own_newH w _ _ _ _ _ ?_ rfl (Nat.le_refl _); rfl) B q d (cells t.b) rfl HLB.out (by refine HB.out _ ?_; refine bel_new w _ (.cells #[] 5) ?_ ?_ ?_ ?_ <;> rfl) (cells_one _) ?_ ?_ ?_ ?_; (· unfold maxLen; omega); (· omega); (· show _ ≤ (w.alloc (.cells #[] 5)).heap.size; simp); intro v1 w1 hown1 hgrow1 hat1; have b1 : Below w.heap.size w w1 := (Below.grown (by refine bel_new w _ (.cells #[] 5) ?_ ?_ ?_ ?_ <;> rfl) hgrow1 (by show _ ≤ (w.alloc (.cells #[] 5)).heap.size; simp) (fun k hk => by have hk2 : some w.heap.size = some k := hk; injection hk2 with hk2; omega)); simp only [Nat.zero_add, List.nil_append] at hown1; obtain ⟨A5, c5, rfl⟩ := own_form hown1; have c2 := (HP.out _ b1).1)
    | (refine step_append_opt rfl (.tmp 16) (.tmp 19) 28 rfl w.heap.size 5 i0 _ 1 1 Try.underlying28 hi hz0 hz1 hz2 rfl (by decide) _ _ _ rfl hown1 A m c (cells (l.take m)) rfl HLL.out (HA.out _ b1) (cells_one _) ?_ ?_ ?_ ?_; (· unfold maxLen; omega); (· omega); (· exact b1.size); intro v2 w2 hown2 hgrow2 hat2; have b2 := b1.grown hgrow2 b1.size (fun k hk => (hown1.lt k hk).1); obtain ⟨A6, c6, rfl⟩ := own_form hown2; obtain ⟨c3, c4⟩ := HP.out _ b2))
  all_goals
    have hrow : Buf w2 w.heap.size (.slice A6 (q + m) c6) (t.b ++ l.take m) := Buf.cut hown2 (by have h1 := HLB.out; have h2 := HLL.out; simp only [cells, List.length_map, Nat.mul_one] at h1 h2; rw [List.length_append, h1, h2]) (cells_app _ _).symm
    have hlt2 := hown2.lt
    have hpl := HT.out.lt
    have hrt : RT (w2.setCell ⟨p, 0, none⟩ (.slice A6 (q + m) c6)) p (.slice A6 (q + m) c6) ⟨t.b ++ l.take m, t.sure, t.fuse, t.down⟩ := by
      refine ⟨?_, hrow.rd.keep (by rw [set_size]; exact Nat.le_refl _) fun g hg => set_there _ (by have := (hlt2 g hg).1; omega), fun e => by have := (hlt2 _ e).1; omega⟩
      have := set_here (o := 0) ((b2.block p hpl).trans HT.out.box) (.slice A6 (q + m) c6)
      simpa using this
    have ho : Only (fun b => b = p) w (w2.setCell ⟨p, 0, none⟩ (.slice A6 (q + m) c6)) := (Only.of_below (S := fun b => b = p) b2).set (b := p) rfl _
    obtain ⟨wz, hwz⟩ : ∃ wz, wz = w2.setCell ⟨p, 0, none⟩ (.slice A6 (q + m) c6) := ⟨_, rfl⟩
    have hge : ∀ g, (Value.slice A6 (q + m) c6).ownBlock = some g → w.heap.size ≤ g := fun g hg => (hlt2 g hg).1
    change Exit.then _ _ _ _ (w2.setCell ⟨p, 0, none⟩ (.slice A6 (q + m) c6))
    rw [← hwz] at hrt ho ⊢
    have HRT := Lib.hid hrt; have HO := Lib.hid ho; have HGE := Lib.hid hge
    clear hrt ho hge hwz hlt2 hrow hown1 hown2 hgrow1 hgrow2 hat1 hat2 b1 b2 c0 c1 c2 c3 c4 hpl
    go_wp2_with fail
    refine (HU.out _ _ HRT.out).mono ?_
    rintro e w3 ⟨rfl, hr3, ho3⟩
    have HR3 := Lib.hid hr3; have HO3 := Lib.hid (HO.out.trans ho3); clear hr3 ho3
    dsimp only
    go_wp2
    go_ret
    exact ⟨rfl, ⟨_, HR3.out, HGE.out⟩, HO3.out⟩
end Go.Proofs.Ytokijikcgoihmaa
