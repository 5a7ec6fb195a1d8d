/- Texts merged by program, in build order: JwkObject, JwkList, JsonWrite, JsonWriteP, JsonWriteV, JsonPrint, JwkPrint, KeyRow. -/
import Derived.Test.YtjgjajnpbcghmaaDoorM06
import Derived.Test.YtjgjajnpbcghmaaDoorM08
import Derived.Test.YtjgjajnpbcghmaaDoorM04
import Derived.Test.YtjgjajnpbcghmaaDoorM03
import Derived.Lib.AppendIntMem
import Derived.Test.YtjgjajnpbcghmaaDoorM07
import Derived.Deep.RegionLaw
namespace Go.Proofs.YtjgjajnpbcghmaaDoor
open Go.RowKit
set_option linter.unusedVariables false
set_option linter.unusedSimpArgs false

/-- a block that holds the cells of pairs reads as the pairs -/
theorem prs_of {w : World} {g : Nat} {l : PL} {cs : Array Value} {t : TypeId} {fr : Nat × Nat} (h : w.heap[g]? = some (.cells cs t fr)) (hc : cs.toList = pcells l) : Prs w w.heap.size (some ⟨g, 0, none⟩) l := fun k hk => by
  refine ⟨_, rfl, (Array.getElem?_eq_some_iff.1 h).1, ?_, ?_⟩
  · rw [Addr.add_lit, cell_here h, ← Array.getElem?_toList, hc, Nat.zero_add]; exact pcells_key l k hk
  · rw [Addr.add_lit, cell_here h, ← Array.getElem?_toList, hc, Nat.zero_add]; exact pcells_val l k hk
/-- the pairs of a key's object -/
def keyP (p : List UInt8 × List UInt8) : PL := [(wKty, wOct), (wAlg, wHs), (wKid, p.1), (wK, enc p.2)]
theorem keyP_obj (p : List UInt8 × List UInt8) : objS [] (keyP p) = keyP p := by
  have h1 : ¬ wKty = wAlg := by decide
  have h2 : ¬ wKty = wKid := by decide
  have h3 : ¬ wKty = wK := by decide
  have h4 : ¬ wAlg = wKid := by decide
  have h5 : ¬ wAlg = wK := by decide
  have h6 : ¬ wKid = wK := by decide
  simp [keyP, objS, h1, h2, h3, h4, h5, h6]
theorem keyP_val (p : List UInt8 × List UInt8) : objV (keyP p) = keyV p := rfl
set_option maxRecDepth 100000 in
set_option maxHeartbeats 4000000 in
theorem keyObject_any (p : List UInt8 × List UInt8) (h1 : p.1.length ≤ 1000000000) (h2 : p.2.length ≤ 1000000000) (w : World) :
    Calls Tryd.prog 11 #[.agg #[.string ⟨p.1.toArray⟩, .string ⟨p.2.toArray⟩]] w fun e w' => ∃ B b B' b', (e = .returned (.agg #[.int .i64 6, .int .i64 0, .string ⟨#[]⟩, .slice B 4 b, .slice B' 4 b'])) ∧
      VIs w' w.heap.size w'.heap.size (keyV p) [.int .i64 6, .int .i64 0, .string ⟨#[]⟩, .slice B 4 b, .slice B' 4 b'] ∧ Below w.heap.size w w' := by
  obtain ⟨R, hR⟩ : ∃ R, w.heap.size = R := ⟨_, rfl⟩
  obtain ⟨ID, hID⟩ : ∃ ID : ByteArray, (⟨p.1.toArray⟩ : ByteArray) = ID := ⟨_, rfl⟩
  obtain ⟨SEC, hSEC⟩ : ∃ SEC : ByteArray, (⟨p.2.toArray⟩ : ByteArray) = SEC := ⟨_, rfl⟩
  obtain ⟨EN, hEN⟩ : ∃ EN : ByteArray, (⟨(enc p.2).toArray⟩ : ByteArray) = EN := ⟨_, rfl⟩
  have he := fun W => encode_any SEC (by rw [← hSEC]; show p.2.toArray.size ≤ _; simp; omega) W
  rw [← hSEC] at he
  have he' : ∀ W, Calls Tryd.prog 22 #[.string SEC] W fun e w' => e = .returned (.string EN) ∧ Below W.heap.size W w' := fun W => by
    have := he W
    rw [hSEC] at this
    refine this.mono fun e w' ⟨q1, q2⟩ => ⟨?_, q2⟩
    rw [q1, ← hSEC, ← hEN]
  have hel : (enc p.2).length ≤ 2000000000 := by have := enc_len p.2; omega
  have ho : ∀ (W : World) (g : Nat), W.heap[g]? = some (.cells #[.string ⟨#[107, 116, 121]⟩, .string ⟨#[111, 99, 116]⟩, .string ⟨#[97, 108, 103]⟩, .string ⟨#[72, 83, 50, 53, 54]⟩, .string ⟨#[107, 105, 100]⟩, .string ID, .string ⟨#[107]⟩, .string EN] 52 (0, 0)) →
      Calls Tryd.prog 21 #[.slice (some ⟨g, 0, none⟩) 4 4] W fun e w' => (∃ B b B' b', e = .returned (.agg #[.int .i64 6, .int .i64 0, .string ⟨#[]⟩, .slice B 4 b, .slice B' 4 b']) ∧
        VIs w' W.heap.size w'.heap.size (keyV p) [.int .i64 6, .int .i64 0, .string ⟨#[]⟩, .slice B 4 b, .slice B' 4 b']) ∧ Below W.heap.size W w' := fun W g hg => by
    have := object_any (some ⟨g, 0, none⟩) 4 (keyP p) (by simp [keyP]) (by
      intro q hq
      simp only [keyP, List.mem_cons, List.not_mem_nil, or_false] at hq
      unfold maxLen
      rcases hq with rfl | rfl | rfl | rfl
      · exact ⟨by decide, by decide⟩
      · exact ⟨by decide, by decide⟩
      · exact ⟨show wKid.length ≤ _ by decide, by show p.1.length ≤ _; omega⟩
      · exact ⟨show wK.length ≤ _ by decide, by show (enc p.2).length ≤ _; omega⟩) W (prs_of hg (by rw [← hID, ← hEN]; rfl))
    rw [keyP_obj, keyP_val] at this
    exact this
  obtain ⟨W2, hW2⟩ : ∃ W2, W2 = (w.alloc (.cells #[.string ID, .string SEC] 25)).alloc (.cells #[.int .i64 0, .int .i64 0, .string ⟨#[]⟩, .slice none 0 0, .slice none 0 0] 34) := ⟨_, rfl⟩
  have b2 : Below R w W2 := by rw [hW2, ← hR]; exact ((Below.refl _ _).alloc (Nat.le_refl _) _).alloc (by simp) _
  have k0 : W2.heap[R]? = some (.cells #[.string ID, .string SEC] 25 (0, 0)) := by rw [hW2, ← hR]; exact (Below.heap_alloc _ _ _ (by simp)).trans (heap_alloc_last w _)
  have k1 : W2.heap[R + 1]? = some (.cells #[.int .i64 0, .int .i64 0, .string ⟨#[]⟩, .slice none 0 0, .slice none 0 0] 34 (0, 0)) := by
    have := heap_alloc_last (w.alloc (.cells #[.string ID, .string SEC] 25)) (.cells #[.int .i64 0, .int .i64 0, .string ⟨#[]⟩, .slice none 0 0, .slice none 0 0] 34)
    rw [hW2, ← hR]; simpa using this
  have z2 : W2.heap.size = R + 2 := by rw [hW2]; simp [hR]
  have c0 : W2.cell? ⟨R, 0, none⟩ = some (.string ID) := cell_here k0
  have c1 : W2.cell? ⟨R, 1, none⟩ = some (.string SEC) := cell_here k0
  have ST : ∀ W, Below W2.heap.size W2 W → W.cell? ⟨R, 0, none⟩ = some (.string ID) ∧ W.heap[R + 1]? = some (.cells #[.int .i64 0, .int .i64 0, .string ⟨#[]⟩, .slice none 0 0, .slice none 0 0] 34 (0, 0)) := fun W hb =>
    ⟨(hb.cell (p := ⟨R, 0, none⟩) (by show R < _; omega)).trans c0, (hb.block (R + 1) (by omega)).trans k1⟩
  have STH := Lib.hid ST; have HE := Lib.hid he'; have HO := Lib.hid ho; have HB2 := Lib.hid b2; have HW := Lib.hid hW2; have HRR := Lib.hid hR; have HZ := Lib.hid z2
  rw [hID, hSEC]
  clear ST he he' ho b2 hW2 hR z2 hID hSEC hEN hel k0 k1
  go_enter Tryd.func11, Tryd.ntmps11
  go_wp2_with fail
  rw [← HW.out, HRR.out]
  go_region_with (first | (go_at_call 22; (with_reducible refine (HE.out _).mono ?_); rintro e1 w1 ⟨rfl, hb1⟩; have hb1' := (below_drew2 _ _ hb1); have c0' := (STH.out w1 hb1').1) | (go_at_call 21; (with_reducible refine (HO.out _ _ (heap_alloc_last _ _)).mono ?_); rintro e2 w2 ⟨⟨B, b, B', b', rfl, hv⟩, hb2⟩; have hb2' := (hb1'.alloc hb1'.size _).chain hb2; obtain ⟨⟨e0, e1, e2, e3, e4⟩, f0, f1, f2, f3, f4⟩ := box_of (STH.out w2 hb2').2))
  all_goals
    obtain ⟨wf, hwf⟩ : ∃ wf, wf = set5 w2 (R + 1) 0 (.int .i64 6) (.int .i64 0) (.string ⟨#[]⟩) (.slice B 4 b) (.slice B' 4 b') := ⟨_, rfl⟩
    have hk2 := (STH.out w2 hb2').2
    have hx : wf.heap[R + 1]? = some (.cells #[.int .i64 6, .int .i64 0, .string ⟨#[]⟩, .slice B 4 b, .slice B' 4 b'] 34 (0, 0)) := by rw [hwf]; exact set5_here hk2
    have hsf : wf.heap.size = w2.heap.size := by rw [hwf, set5_size]
    have hz := HZ.out
    have hz1 := hb1'.size
    have hvf : VIs wf R wf.heap.size (keyV p) [.int .i64 6, .int .i64 0, .string ⟨#[]⟩, .slice B 4 b, .slice B' 4 b'] := by
      rw [hsf]
      simp only [World.size_alloc] at hv
      refine (hv.keep2 fun q q1 q2 => ?_).more (by omega) (Nat.le_refl _)
      have hne : q.block ≠ R + 1 := by omega
      exact World.cell?_of_block (w := w2) (by rw [hwf]; exact set5_there hne)
    have hbf : Below R w wf := by
      rw [hwf]; exact (HB2.out.trans (hb2'.mono (by omega))).trans (set5_below (by omega))
    obtain ⟨⟨x0, x1, x2, x3, x4⟩, -⟩ := box_of hx
    have HVF := Lib.hid hvf; have HBF := Lib.hid hbf; have HWF := Lib.hid hwf
    clear hvf hbf hwf hx e0 e1 e2 e3 e4 f0 f1 f2 f3 f4 hv hb1 hb2 hb1' hb2' hk2 hsf hz hz1 c0 c1 c0'
    go_wp2
    change bodyPost _ _ _ _ _ (set5 w2 (R + 1) 0 (.int .i64 6) (.int .i64 0) (.string ⟨#[]⟩) (.slice B 4 b) (.slice B' 4 b'))
    rw [← HWF.out]
    refine bodyPost_ret (v := .agg #[.int .i64 6, .int .i64 0, .string ⟨#[]⟩, .slice B 4 b, .slice B' 4 b']) (by simp [results, Tryd.results11, go_sem, x0, x1, x2, x3, x4]) rfl ?_
    exact ⟨_, _, _, _, rfl, by rw [HRR.out]; exact HVF.out, by rw [HRR.out]; exact HBF.out⟩
end Go.Proofs.YtjgjajnpbcghmaaDoor
namespace Go.Proofs.YtjgjajnpbcghmaaDoor
open Go.RowKit
set_option linter.unusedVariables false
set_option linter.unusedSimpArgs false

/-- what holds of the list's memory behind so many items -/
structure LSt (R : Nat) (w wr : World) (lv : Value) (l : List V) (xs : List Value) : Prop where
  var : wr.heap[R]? = some (.cells #[.int .i64 5, .int .i64 0, .string ⟨#[]⟩, lv, .slice none 0 0] 34 (0, 0))
  rowL : wr.ownsRow (R + 1) 34 5 lv l.length xs
  elem : ∀ i (h : i < l.length), ∃ c0 c1 c2 c3 c4 L N, xs[i * 5]? = some c0 ∧ xs[i * 5 + 1]? = some c1 ∧ xs[i * 5 + 2]? = some c2 ∧ xs[i * 5 + 3]? = some c3 ∧ xs[i * 5 + 4]? = some c4 ∧
    VIs wr L N l[i] [c0, c1, c2, c3, c4] ∧ R + 1 ≤ L ∧ N ≤ wr.heap.size ∧ ∀ g, lv.ownBlock = some g → ¬ (L ≤ g ∧ g < N)
  low : Below R w wr
  size : R + 1 ≤ wr.heap.size
theorem LSt.later {R : Nat} {w wr w1 : World} {lv : Value} {l : List V} {xs : List Value} (h : LSt R w wr lv l xs) (hb : Below wr.heap.size wr w1) : LSt R w w1 lv l xs := by
  obtain ⟨h1, h3, h5, h6, h7⟩ := h
  refine ⟨(hb.block _ (by omega)).trans h1, own_below h3 hb, fun i hi => ?_, h6.trans (hb.mono (by omega)), Nat.le_trans h7 hb.size⟩
  obtain ⟨c0, c1, c2, c3, c4, L, N, e0, e1, e2, e3, e4, hv, hL, hN, hg⟩ := h5 i hi
  exact ⟨c0, c1, c2, c3, c4, L, N, e0, e1, e2, e3, e4, hv.below (hb.mono hN), hL, Nat.le_trans hN hb.size, hg⟩
/-- an item more: behind the append, and the store of the row -/
theorem LSt.item {R : Nat} {w wr w2 : World} {lv lv' : Value} {l : List V} {xs : List Value} {c0 c1 c2 c3 c4 : Value} {L0 N0 : Nat} (h : LSt R w wr lv l xs) (x : V)
    (hx : VIs wr L0 N0 x [c0, c1, c2, c3, c4]) (hx1 : R + 1 ≤ L0) (hx2 : N0 ≤ wr.heap.size) (hx3 : ∀ g, lv.ownBlock = some g → ¬ (L0 ≤ g ∧ g < N0))
    (hown : w2.ownsRow (R + 1) 34 5 lv' (l.length + 1) (xs ++ [c0, c1, c2, c3, c4])) (hg : wr.grownBy w2 lv.ownBlock) (hat : lv'.ownBlock = lv.ownBlock ∨ lv'.ownBlock = some wr.heap.size) :
    LSt R w (w2.setCell ⟨R, 3, none⟩ lv') lv' (l ++ [x]) (xs ++ [c0, c1, c2, c3, c4]) := by
  obtain ⟨h1, h3, h5, h6, h7⟩ := h
  have hlt := h3.lt
  have hsz := hg.size
  have hxl := h3.1
  have hblk : ∀ k, k < wr.heap.size → lv.ownBlock ≠ some k → k ≠ R → (w2.setCell ⟨R, 3, none⟩ lv').heap[k]? = wr.heap[k]? := fun k hk hne hk1 => (set_there _ hk1).trans (hg.block k hk (fun e => hne e.symm))
  have hR1 : w2.heap[R]? = wr.heap[R]? := hg.block _ (by omega) (fun e => by have := (hlt _ e.symm).1; omega)
  have hnew : ∀ {L N : Nat}, N ≤ wr.heap.size → (∀ g, lv.ownBlock = some g → ¬ (L ≤ g ∧ g < N)) → ∀ g, lv'.ownBlock = some g → ¬ (L ≤ g ∧ g < N) := fun hN hgg g e => by
    rcases hat with ha | ha
    · exact hgg g (by rw [← ha]; exact e)
    · rw [ha] at e; injection e with e; omega
  refine ⟨set_here (hR1.trans h1) _, ?_, fun i hi => ?_, ?_, by rw [set_size]; omega⟩
  · rw [List.length_append, List.length_singleton]
    exact own_kept hown (fun g hgk => set_there _ (by have := (hown.lt g hgk).1; omega))
  · rcases Nat.lt_or_ge i l.length with hil | hil
    · obtain ⟨d0, d1, d2, d3, d4, L, N, e0, e1, e2, e3, e4, hv, hL, hN, hgg⟩ := h5 i hil
      have hgl : (l ++ [x])[i] = l[i] := List.getElem_append_left hil
      rw [hgl]
      refine ⟨d0, d1, d2, d3, d4, L, N, ?_, ?_, ?_, ?_, ?_, hv.keep2 fun p hp1 hp2 => ?_, hL, by rw [set_size]; omega, hnew hN hgg⟩
      · rw [List.getElem?_append_left (by omega)]; exact e0
      · rw [List.getElem?_append_left (by omega)]; exact e1
      · rw [List.getElem?_append_left (by omega)]; exact e2
      · rw [List.getElem?_append_left (by omega)]; exact e3
      · rw [List.getElem?_append_left (by omega)]; exact e4
      · exact World.cell?_of_block (w := wr) (hblk p.block (by omega) (fun e => hgg _ e ⟨hp1, hp2⟩) (by omega))
    · have hie : i = l.length := by simp at hi; omega
      subst hie
      have hgl : (l ++ [x])[l.length] = x := by simp
      rw [hgl]
      refine ⟨c0, c1, c2, c3, c4, L0, N0, app_at hxl _ _ _ _ _ (k := 0) (by decide), app_at hxl _ _ _ _ _ (k := 1) (by decide), app_at hxl _ _ _ _ _ (k := 2) (by decide), app_at hxl _ _ _ _ _ (k := 3) (by decide), app_at hxl _ _ _ _ _ (k := 4) (by decide), hx.keep2 fun p hp1 hp2 => ?_, hx1, by rw [set_size]; omega, hnew hx2 hx3⟩
      exact World.cell?_of_block (w := wr) (hblk p.block (by omega) (fun e => hx3 _ e ⟨hp1, hp2⟩) (by omega))
  · exact (h6.trans ((Below.refl R wr).grown hg (by omega) (fun k hk => by have := (hlt k hk).1; omega))).setCell (p := ⟨R, 3, none⟩) (by show R ≤ R; omega) _
/-- the list, read -/
theorem LSt.done {R : Nat} {w wr : World} {lv : Value} {l : List V} {xs : List Value} (h : LSt R w wr lv l xs) (hl : l.length ≤ 9223372036854775807) :
    VIs wr (R + 1) wr.heap.size (.mk 5 0 [] l []) [.int .i64 5, .int .i64 0, .string ⟨#[]⟩, lv, .slice none 0 0] := by
  obtain ⟨h1, h3, h5, h6, h7⟩ := h
  obtain ⟨A, c, rfl, hA⟩ : ∃ A c, lv = .slice A l.length c ∧ (l = [] ∨ ∃ b o, A = some ⟨b, o, none⟩ ∧ LIs wr (R + 1) wr.heap.size l b o) := by
    have hc := fun g => World.ownsRow.cells (g := g) h3
    rcases h3.2 with ⟨hv, h0⟩ | ⟨g, cap, cur, hv, hB, hg, _⟩
    · exact ⟨none, 0, by rw [hv, h0], .inl (List.length_eq_zero_iff.1 h0)⟩
    · refine ⟨_, _, hv, .inr ⟨g, 0, rfl, LIs.of (by omega) (Array.getElem?_eq_some_iff.1 hg).1 fun i hi => ?_⟩⟩
      obtain ⟨c0, c1, c2, c3, c4, L, N, e0, e1, e2, e3, e4, hv', hL, hN, hgg⟩ := h5 i hi
      have hcc : ∀ j u, xs[j]? = some u → wr.cell? ⟨g, 0 + j, none⟩ = some u := fun j u hu => by
        have := hc g (by rw [hv]; rfl) j u hu
        rwa [Addr.add_lit] at this
      refine ⟨[c0, c1, c2, c3, c4], ⟨c0, c1, c2, c3, c4, rfl, hcc _ _ e0, hcc _ _ e1, hcc _ _ e2, hcc _ _ e3, hcc _ _ e4⟩, ?_⟩
      exact hv'.more (by omega) (by omega)
  exact VIs.mk (t := []) (ks := []) ⟨hl, by simp, by simp, by simp⟩ (.inl rfl) hA
theorem LSt.varL {R : Nat} {w wr w2 : World} {lv : Value} {l : List V} {xs : List Value} (h : LSt R w wr lv l xs) (hg : wr.grownBy w2 lv.ownBlock) :
    w2.heap[R]? = some (.cells #[.int .i64 5, .int .i64 0, .string ⟨#[]⟩, lv, .slice none 0 0] 34 (0, 0)) :=
  (hg.block _ (by have := h.size; omega) (fun e => by have := (h.rowL.lt _ e.symm).1; omega)).trans h.var
end Go.Proofs.YtjgjajnpbcghmaaDoor
namespace Go.Proofs.YtjgjajnpbcghmaaDoor
open Go.RowKit

theorem formatInt_any (n : Int) (h0 : -9223372036854775808 ≤ n) (h1 : n ≤ 9223372036854775807) (w : World) (B : Nat) (hk : TabIn B w) :
    Calls Tryd.prog 39 #[.int .i64 n, .int .i64 10] w fun e w' => e = .returned (.string ⟨(decI n).toArray⟩) ∧ Below w.heap.size w w' :=
  (Tryd.strconv_FormatInt_10 n h0 h1 w hk.tab).mono fun e w' ⟨he, k, os, hw⟩ => ⟨by rw [he, itoa_dec], by rw [hw]; exact Lib.below_grow _ _ (Nat.le_refl _) _ _⟩
/-- what write does of v -/
def WriteSays (v : V) : Prop := ∀ (w : World) (B b : Nat) (acc : List UInt8) (L N p o : Nat) (cs : List Value), v.good = true → acc.length + v.show.length ≤ 140737488355328 → Bld w B b acc → B ≤ w.heap.size → Five w p o cs → p < N → VIs w L N v cs → N ≤ B → TabIn B w →
  Calls Tryd.prog 24 #[.pointer (some ⟨b, 0, none⟩), .pointer (some ⟨p, o, none⟩)] w fun e w' => e = .returned (.tuple #[]) ∧ Bld w' B b (acc ++ v.show) ∧ Below B w w'
theorem wbI (B b : Nat) (l : List UInt8) (c : UInt8) (x : Int) (hx : x = c.toNat) (w : World) (h : Bld w B b l) (hlen : l.length + 1 ≤ 140737488355328) (hBw : B ≤ w.heap.size) :
    Calls Tryd.prog 41 #[.pointer (some ⟨b, 0, none⟩), .int .u8 x] w fun e w' => e = .returned .nilIface ∧ Bld w' B b (l ++ [c]) ∧ Below B w w' :=
  (writeByteI B b l c x hx w h hlen hBw).mono fun _ _ ⟨h1, h2, h3, _⟩ => ⟨h1, h2, h3⟩
set_option maxRecDepth 100000 in
set_option maxHeartbeats 2000000 in
/-- the items of a list -/
theorem writeList (n : Int) (t : List UInt8) (l : List V) (ks : List (List UInt8)) (ih : ∀ i (h : i < l.length), WriteSays l[i]) (w : World) (B b : Nat) (acc : List UInt8) (L N p o : Nat) (cs : List Value)
    (hg : (V.mk 5 n t l ks).good = true) (hlen : acc.length + (V.items l).length ≤ 140737488355328) (h : Bld w B b acc) (hBw : B ≤ w.heap.size) (h5 : Five w p o cs) (hpN : p < N) (hv : VIs w L N (.mk 5 n t l ks) cs) (hN : N ≤ B) (hk : TabIn B w) :
    Calls Tryd.prog 42 #[.pointer (some ⟨b, 0, none⟩), .pointer (some ⟨p, o, none⟩)] w fun e w' => e = .returned (.tuple #[]) ∧ Bld w' B b (acc ++ V.items l) ∧ Below B w w' := by
  obtain ⟨⟨ml, -, -, -⟩, A, c, A', c', rfl, h1, h2⟩ := hv.out
  obtain ⟨c0, c1, c2, c3, c4, e, m0, m1, m2, m3, m4⟩ := h5
  injection e with e0 e; injection e with e1 e; injection e with e2 e; injection e with e3 e; injection e with e4 e
  subst e0; subst e1; subst e2; subst e3; subst e4
  have hpr := items_len l
  have hgi := fun i hi => good_item hg i hi
  obtain ⟨nl, hnl⟩ : ∃ nl, l.length = nl := ⟨_, rfl⟩
  have hall : V.items (l.take nl) = V.items l := by rw [← hnl, List.take_length]
  rw [hnl] at ml m3
  have NL := Lib.hid hnl; have H2 := Lib.hid h2; have PR := Lib.hid hpr; have GI := Lib.hid hgi; have IH := Lib.hid ih; have KI := Lib.hid hk; have ALL := Lib.hid hall
  obtain ⟨T, hT⟩ : ∃ T, (V.items l).length = T := ⟨_, rfl⟩
  rw [hT] at hlen PR
  have hz := items_zero l
  have HB := Lib.hid h; have HZ := Lib.hid hz
  clear hnl hv h1 h2 hpr hgi hg ih hk hall hT h hz m1 m2 m4
  go_enter Tryd.func42, Tryd.ntmps42
  go_wp2
  go_loopw [10] (fun i wr => ∃ j : Nat, j ≤ nl ∧ i = .int .i64 j ∧ Bld wr B b (acc ++ V.items (l.take j)) ∧ Below B w wr) (fun i _ => nl - (intOf i).toNat)
  case atStart => exact ⟨0, Nat.zero_le _, rfl, by rw [HZ.out, List.append_nil]; exact HB.out, Below.refl _ _⟩
  case round =>
    obtain ⟨j, hj, rfl, hb, hw⟩ := hrel
    have hs : B ≤ wr.heap.size := Nat.le_trans hBw hw.size
    have m3' := (hw.cell (p := ⟨p, o + 3, none⟩) (by show p < _; omega)).trans m3
    have m0' := (hw.cell (p := ⟨p, o, none⟩) (by show p < _; omega)).trans m0
    have BL := Lib.hid hb; clear hb
    by_cases hlt : j < nl
    · have hjl : j < l.length := by have := NL.out; omega
      obtain ⟨q, r, rfl, _, hqN, xs, hx5, hxv⟩ := VIs.item H2.out j hjl
      have hj1 := PR.out (j + 1)
      have hc := fun (ac : List UInt8) wq (hwq : Below B w wq) => IH.out j hjl wq B b ac L N q (r + j * 5) xs (GI.out j hjl)
      have hc := fun (ac : List UInt8) wq (hwq : Below B w wq) h1 h2 => hc ac wq hwq h1 h2 (Nat.le_trans hBw hwq.size) (hx5.keep hqN (fun s hs => hwq.cell (Nat.lt_of_lt_of_le hs hN))) hqN (hxv.below (hwq.mono hN)) hN (KI.out.below hwq)
      have hn0 := items_one l; have hn1 := items_next l j hjl
      have HC := Lib.hid hc; have HW := Lib.hid hw
      clear hc hx5 hxv
      by_cases h0 : 0 < j
      · have hn := hn1 h0
        have t0 : decide ((0 : Int) < j) = true := by simp; omega
        rw [hn, List.length_append, List.length_cons] at hj1
        have HN := Lib.hid hn
        clear hn hn0 hn1
        generalize l[j] = x at *
        generalize V.items (l.take j) = it at *
        have ha1 : (acc ++ it).length + 1 ≤ 140737488355328 := by rw [List.length_append]; omega
        have ha2 : ((acc ++ it) ++ [44]).length + x.show.length ≤ 140737488355328 := by rw [List.length_append, List.length_append]; simp; omega
        have A1 := Lib.hid ha1; have A2 := Lib.hid ha2; clear ha1 ha2
        go_wp2_with (first
          | (go_at_call 41; with_reducible refine (wbI B b (acc ++ it) 44 44 rfl _ BL.out A1.out hs).mono ?_; rintro e1 w1 ⟨rfl, hb1, hw1⟩; have n3 := (hw1.cell (p := ⟨p, o + 3, none⟩) (by show p < _; omega)).trans m3'; have n0 := (hw1.cell (p := ⟨p, o, none⟩) (by show p < _; omega)).trans m0')
          | (go_at_call 24; with_reducible refine (HC.out ((acc ++ it) ++ [44]) _ (HW.out.trans hw1) A2.out hb1).mono ?_; rintro e2 w2 ⟨rfl, hb2, hw2⟩))
        go_roundw
        case rel => exact ⟨j + 1, by omega, by go_num, by rw [HN.out]; simpa using hb2, (HW.out.trans hw1).trans hw2⟩
        case measure => simp [intOf]; omega
      · obtain rfl : j = 0 := by omega
        have hn := hn0 hjl
        have HN := Lib.hid hn
        rw [hn] at hj1
        rw [HZ.out, List.append_nil] at BL
        clear hn hn0 hn1
        generalize l[0] = x at *
        simp only [Nat.zero_mul, Nat.add_zero] at HC
        go_wp2_with (go_at_call 24; with_reducible refine (HC.out acc _ HW.out (by omega) BL.out).mono ?_; rintro e2 w2 ⟨rfl, hb2, hw2⟩)
        go_roundw
        case rel => exact ⟨0 + 1, by omega, by go_num, by rw [HN.out]; exact hb2, HW.out.trans hw2⟩
        case measure => simp [intOf]; omega
    · obtain rfl : nl = j := by omega
      rw [ALL.out] at BL
      go_wp2
      go_end0
      exact ⟨rfl, BL.out, hw⟩
end Go.Proofs.YtjgjajnpbcghmaaDoor
namespace Go.Proofs.YtjgjajnpbcghmaaDoor
open Go.RowKit

set_option maxRecDepth 100000 in
set_option maxHeartbeats 2000000 in
/-- the items of an object -/
theorem writePairs (n : Int) (t : List UInt8) (l : List V) (ks : List (List UInt8)) (ih : ∀ i (h : i < l.length), WriteSays l[i]) (w : World) (B b : Nat) (acc : List UInt8) (L N p o : Nat) (cs : List Value)
    (hg : (V.mk 6 n t l ks).good = true) (hlen : acc.length + (V.pairs l ks).length ≤ 140737488355328) (h : Bld w B b acc) (hBw : B ≤ w.heap.size) (h5 : Five w p o cs) (hpN : p < N) (hv : VIs w L N (.mk 6 n t l ks) cs) (hN : N ≤ B) (hk : TabIn B w) :
    Calls Tryd.prog 42 #[.pointer (some ⟨b, 0, none⟩), .pointer (some ⟨p, o, none⟩)] w fun e w' => e = .returned (.tuple #[]) ∧ Bld w' B b (acc ++ V.pairs l ks) ∧ Below B w w' := by
  obtain ⟨⟨ml, -, -, -⟩, A, c, A', c', rfl, h1, h2⟩ := hv.out
  have hkl := (good_head hg).keys rfl
  obtain ⟨c0, c1, c2, c3, c4, e, m0, m1, m2, m3, m4⟩ := h5
  injection e with e0 e; injection e with e1 e; injection e with e2 e; injection e with e3 e; injection e with e4 e
  subst e0; subst e1; subst e2; subst e3; subst e4
  have hpr := pairs_len l ks
  have hgi := fun i hi => good_item hg i hi
  obtain ⟨nl, hnl⟩ : ∃ nl, l.length = nl := ⟨_, rfl⟩
  have hall : V.pairs (l.take nl) ks = V.pairs l ks := by rw [← hnl, List.take_length]
  rw [hnl] at ml m3 hkl
  rw [hkl] at m4
  have KL := Lib.hid hkl; have H1 := Lib.hid h1
  have NL := Lib.hid hnl; have H2 := Lib.hid h2; have PR := Lib.hid hpr; have GI := Lib.hid hgi; have IH := Lib.hid ih; have KI := Lib.hid hk; have ALL := Lib.hid hall
  obtain ⟨T, hT⟩ : ∃ T, (V.pairs l ks).length = T := ⟨_, rfl⟩
  rw [hT] at hlen PR
  have hz := pairs_zero l ks
  have HB := Lib.hid h; have HZ := Lib.hid hz
  clear hnl hkl hv h1 h2 hpr hgi hg ih hk hall hT h hz m1 m2
  go_enter Tryd.func42, Tryd.ntmps42
  go_wp2
  go_loopw [10] (fun i wr => ∃ j : Nat, j ≤ nl ∧ i = .int .i64 j ∧ Bld wr B b (acc ++ V.pairs (l.take j) ks) ∧ Below B w wr) (fun i _ => nl - (intOf i).toNat)
  case atStart => exact ⟨0, Nat.zero_le _, rfl, by rw [HZ.out, List.append_nil]; exact HB.out, Below.refl _ _⟩
  case round =>
    obtain ⟨j, hj, rfl, hb, hw⟩ := hrel
    have hs : B ≤ wr.heap.size := Nat.le_trans hBw hw.size
    have m3' := (hw.cell (p := ⟨p, o + 3, none⟩) (by show p < _; omega)).trans m3
    have m4' := (hw.cell (p := ⟨p, o + 4, none⟩) (by show p < _; omega)).trans m4
    have m0' := (hw.cell (p := ⟨p, o, none⟩) (by show p < _; omega)).trans m0
    have BL := Lib.hid hb; clear hb
    by_cases hlt : j < nl
    · have hjl : j < l.length := by have := NL.out; omega
      obtain ⟨q, r, rfl, _, hqN, xs, hx5, hxv⟩ := VIs.item H2.out j hjl
      have hjk : j < ks.length := by have := KL.out; omega
      obtain ⟨kb, ko, rfl, _, hkN, hkc⟩ := VIs.key H1.out j hjk
      have hkw := (hw.cell (p := ⟨kb, ko + j, none⟩) (by show kb < _; omega)).trans hkc
      have hj1 := PR.out (j + 1)
      have hc := fun (ac : List UInt8) wq (hwq : Below B w wq) => IH.out j hjl wq B b ac L N q (r + j * 5) xs (GI.out j hjl)
      have hc := fun (ac : List UInt8) wq (hwq : Below B w wq) h1 h2 => hc ac wq hwq h1 h2 (Nat.le_trans hBw hwq.size) (hx5.keep hqN (fun s hs => hwq.cell (Nat.lt_of_lt_of_le hs hN))) hqN (hxv.below (hwq.mono hN)) hN (KI.out.below hwq)
      have hn0 := pairs_one l ks; have hn1 := pairs_next l ks j hjl hjk
      have HC := Lib.hid hc; have HW := Lib.hid hw
      clear hc hx5 hxv
      by_cases h0 : 0 < j
      · have hn := hn1 h0
        have t0 : decide ((0 : Int) < j) = true := by simp; omega
        rw [hn] at hj1
        have HN := Lib.hid hn
        clear hn hn0 hn1
        generalize l[j] = x at *
        generalize ks[j] = key at *
        generalize V.pairs (l.take j) ks = it at *
        simp only [List.length_append, List.length_cons] at hj1
        have ha1 : (acc ++ it).length + 1 ≤ 140737488355328 := by rw [List.length_append]; omega
        have ha2 : ((acc ++ it) ++ [44]).length + (quoteJ key).length ≤ 140737488355328 := by simp only [List.length_append, List.length_cons, List.length_nil]; omega
        have ha3 : (((acc ++ it) ++ [44]) ++ quoteJ key).length + 1 ≤ 140737488355328 := by simp only [List.length_append, List.length_cons, List.length_nil]; omega
        have ha4 : ((((acc ++ it) ++ [44]) ++ quoteJ key) ++ [58]).length + x.show.length ≤ 140737488355328 := by simp only [List.length_append, List.length_cons, List.length_nil]; omega
        have A1 := Lib.hid ha1; have A2 := Lib.hid ha2; have A3 := Lib.hid ha3; have A4 := Lib.hid ha4; clear ha1 ha2 ha3 ha4
        go_wp2_with fail
        refine (wbI B b (acc ++ it) 44 44 rfl _ BL.out A1.out hs).mono ?_
        rintro e1 w1 ⟨rfl, hb1, hw1⟩
        have n3 := (hw1.cell (p := ⟨p, o + 3, none⟩) (by show p < _; omega)).trans m3'
        have n0 := (hw1.cell (p := ⟨p, o, none⟩) (by show p < _; omega)).trans m0'
        have n4 := (hw1.cell (p := ⟨p, o + 4, none⟩) (by show p < _; omega)).trans m4'
        have nk := (hw1.cell (p := ⟨kb, ko + j, none⟩) (by show kb < _; omega)).trans hkw
        dsimp only
        go_wp2_with (first
          | (go_at_call 40; with_reducible refine (quote_any B b ((acc ++ it) ++ [44]) key _ A2.out hb1 (Nat.le_trans hs hw1.size)).mono ?_; rintro e2 w2 ⟨rfl, hb2, hw2⟩; have p3 := (hw2.cell (p := ⟨p, o + 3, none⟩) (by show p < _; omega)).trans n3)
          | (go_at_call 41; with_reducible refine (wbI B b (((acc ++ it) ++ [44]) ++ quoteJ key) 58 58 rfl _ hb2 A3.out (Nat.le_trans hs (Nat.le_trans hw1.size hw2.size))).mono ?_; rintro e3 w3 ⟨rfl, hb3, hw3⟩; have q3 := (hw3.cell (p := ⟨p, o + 3, none⟩) (by show p < _; omega)).trans p3)
          | (go_at_call 24; with_reducible refine (HC.out ((((acc ++ it) ++ [44]) ++ quoteJ key) ++ [58]) _ (((HW.out.trans hw1).trans hw2).trans hw3) A4.out hb3).mono ?_; rintro e4 w4 ⟨rfl, hb4, hw4⟩))
        go_roundw
        case rel => exact ⟨j + 1, by omega, by go_num, by rw [HN.out]; simpa using hb4, (((HW.out.trans hw1).trans hw2).trans hw3).trans hw4⟩
        case measure => simp [intOf]; omega
      · obtain rfl : j = 0 := by omega
        have hn := hn0 hjl hjk
        have HN := Lib.hid hn
        rw [hn] at hj1
        rw [HZ.out, List.append_nil] at BL
        clear hn hn0 hn1
        generalize l[0] = x at *
        generalize ks[0] = key at *
        simp only [Nat.zero_mul, Nat.add_zero] at HC hkw
        simp only [List.length_append, List.length_cons] at hj1
        have ha2 : acc.length + (quoteJ key).length ≤ 140737488355328 := by omega
        have ha3 : (acc ++ quoteJ key).length + 1 ≤ 140737488355328 := by simp only [List.length_append]; omega
        have ha4 : ((acc ++ quoteJ key) ++ [58]).length + x.show.length ≤ 140737488355328 := by simp only [List.length_append, List.length_cons, List.length_nil]; omega
        have A2 := Lib.hid ha2; have A3 := Lib.hid ha3; have A4 := Lib.hid ha4; clear ha2 ha3 ha4
        go_wp2_with (first
          | (go_at_call 40; with_reducible refine (quote_any B b acc key _ A2.out BL.out hs).mono ?_; rintro e2 w2 ⟨rfl, hb2, hw2⟩; have p3 := (hw2.cell (p := ⟨p, o + 3, none⟩) (by show p < _; omega)).trans m3')
          | (go_at_call 41; with_reducible refine (wbI B b (acc ++ quoteJ key) 58 58 rfl _ hb2 A3.out (Nat.le_trans hs hw2.size)).mono ?_; rintro e3 w3 ⟨rfl, hb3, hw3⟩; have q3 := (hw3.cell (p := ⟨p, o + 3, none⟩) (by show p < _; omega)).trans p3)
          | (go_at_call 24; with_reducible refine (HC.out ((acc ++ quoteJ key) ++ [58]) _ ((HW.out.trans hw2).trans hw3) A4.out hb3).mono ?_; rintro e4 w4 ⟨rfl, hb4, hw4⟩))
        go_roundw
        case rel => exact ⟨0 + 1, by omega, by go_num, by rw [HN.out]; simpa using hb4, ((HW.out.trans hw2).trans hw3).trans hw4⟩
        case measure => simp [intOf]; omega
    · obtain rfl : nl = j := by omega
      rw [ALL.out] at BL
      go_wp2
      go_end0
      exact ⟨rfl, BL.out, hw⟩
end Go.Proofs.YtjgjajnpbcghmaaDoor
namespace Go.Proofs.YtjgjajnpbcghmaaDoor
open Go.RowKit

theorem formatBool_t : Lib.formatBool true = trueT := by decide +kernel
theorem formatBool_f : Lib.formatBool false = falseT := by decide +kernel
theorem wsL (B b : Nat) (l t : List UInt8) (w : World) (h : Bld w B b l) (hlen : l.length + t.length ≤ 140737488355328) (hBw : B ≤ w.heap.size) :
    Calls Tryd.prog 37 #[.pointer (some ⟨b, 0, none⟩), .string ⟨t.toArray⟩] w fun e w' => (∃ v, e = .returned v) ∧ Bld w' B b (l ++ t) ∧ Below B w w' :=
  (writeString_any B b l ⟨t.toArray⟩ w h (by show l.length + t.toArray.size ≤ _; simpa using hlen) hBw).mono fun _ _ ⟨h1, h2, h3, _⟩ => ⟨⟨_, h1⟩, h2, h3⟩
set_option maxRecDepth 100000 in
set_option maxHeartbeats 2000000 in
theorem write_at (m : Nat) : ∀ v : V, v.size ≤ m → WriteSays v := by
  induction m with
  | zero => intro v hm; exact absurd (size_pos v) (by omega)
  | succ m ih =>
  intro v hm w B b acc L N p o cs hg hlen h hBw h5 hpN hv hN hk
  obtain ⟨k, n, t, l, ks⟩ := v
  have HD := good_head hg
  have h5' := h5
  obtain ⟨⟨ml, mk, -, -⟩, A, c, A', c', rfl, h1, h2⟩ := hv.out
  obtain ⟨c0, c1, c2, c3, c4, e, m0, m1, m2, m3, m4⟩ := h5
  injection e with e0 e; injection e with e1 e; injection e with e2 e; injection e with e3 e; injection e with e4 e
  subst e0; subst e1; subst e2; subst e3; subst e4
  have hk6 : k = 1 ∨ k = 2 ∨ k = 3 ∨ k = 4 ∨ k = 5 ∨ k = 6 := by have := HD.kind; omega
  have HB := Lib.hid h; have HK := Lib.hid hk
  have ihs := fun i (hi : i < l.length) => ih l[i] (by have := size_get (k := k) (n := n) (t := t) (ks := ks) i hi; omega)
  clear h hk h1 h2 ih
  rcases hk6 with rfl | rfl | rfl | rfl | rfl | rfl
  · rw [show_one] at hlen ⊢
    have hc := wsL B b acc nullT w HB.out hlen hBw
    have HC := Lib.hid hc; clear hc ihs hv h5' hg HD hlen hm
    go_enter Tryd.func24, Tryd.ntmps24
    go_wp2_with fail
    refine HC.out.mono ?_
    rintro e1 w1 ⟨⟨v, rfl⟩, hb1, hw1⟩
    dsimp only
    go_wp2
    go_end0
    exact ⟨rfl, hb1, hw1⟩
  · rw [show_two] at hlen ⊢
    have hn01 := HD.bool rfl
    have hfb := Tryd.strconv_FormatBool
    have HFB := Lib.hid hfb; clear hfb ihs hv h5' hg HD hm
    rcases hn01 with rfl | rfl
    · rw [if_neg (by decide)] at hlen ⊢
      have hc := wsL B b acc falseT w HB.out hlen hBw
      have HC := Lib.hid hc; clear hc hlen
      go_enter Tryd.func24, Tryd.ntmps24
      go_wp2_with (go_at_call 38; refine (HFB.out false _).mono ?_; rintro e1 w1 ⟨rfl, rfl⟩; rw [formatBool_f])
      refine HC.out.mono ?_
      rintro e1 w1 ⟨⟨v, rfl⟩, hb1, hw1⟩
      dsimp only
      go_wp2
      go_end0
      exact ⟨rfl, hb1, hw1⟩
    · rw [if_pos rfl] at hlen ⊢
      have hc := wsL B b acc trueT w HB.out hlen hBw
      have HC := Lib.hid hc; clear hc hlen
      go_enter Tryd.func24, Tryd.ntmps24
      go_wp2_with (go_at_call 38; refine (HFB.out true _).mono ?_; rintro e1 w1 ⟨rfl, rfl⟩; rw [formatBool_t])
      refine HC.out.mono ?_
      rintro e1 w1 ⟨⟨v, rfl⟩, hb1, hw1⟩
      dsimp only
      go_wp2
      go_end0
      exact ⟨rfl, hb1, hw1⟩
  · rw [show_three] at hlen ⊢
    have hn := HD.num rfl
    have hfi := formatInt_any n (by omega) (by omega) w B HK.out
    have hc := fun w1 (hb : Below w.heap.size w w1) => wsL B b acc (decI n) w1 (HB.out.below hb) hlen (Nat.le_trans hBw hb.size)
    have HC := Lib.hid hc; have HFI := Lib.hid hfi; clear hc hfi ihs hv h5' hg HD hlen hm
    go_enter Tryd.func24, Tryd.ntmps24
    go_wp2_with (go_at_call 39; refine (HFI.out).mono ?_; rintro e1 w1 ⟨rfl, hb1⟩)
    refine (HC.out _ hb1).mono ?_
    rintro e2 w2 ⟨⟨v, rfl⟩, hb2, hw2⟩
    dsimp only
    go_wp2
    go_end0
    exact ⟨rfl, hb2, (hb1.mono hBw).trans hw2⟩
  · rw [show_four] at hlen ⊢
    have hc := quote_any B b acc t w hlen HB.out hBw
    have HC := Lib.hid hc; clear hc ihs hv h5' hg HD hlen hm
    go_enter Tryd.func24, Tryd.ntmps24
    go_wp2_with (go_at_call 40; refine (HC.out).mono ?_; rintro e1 w1 ⟨rfl, hb1, hw1⟩)
    go_end0
    exact ⟨rfl, hb1, hw1⟩
  · rw [show_list] at hlen ⊢
    simp only [List.length_cons, List.length_append, List.length_nil] at hlen
    have hc1 := wbI B b acc 91 91 rfl w HB.out (by omega) hBw
    have hc2 := fun w1 (hw : Below B w w1) hb => writeList n t l ks ihs w1 B b (acc ++ [91]) L N p o _ hg (by simp; omega) hb (Nat.le_trans hBw hw.size) (h5'.keep hpN (fun s hs => hw.cell (Nat.lt_of_lt_of_le hs hN))) hpN (hv.below (hw.mono hN)) hN (HK.out.below hw)
    have hc3 := fun w1 (hw : Below B w w1) hb => wbI B b ((acc ++ [91]) ++ V.items l) 93 93 rfl w1 hb (by simp; omega) (Nat.le_trans hBw hw.size)
    have C1 := Lib.hid hc1; have C2 := Lib.hid hc2; have C3 := Lib.hid hc3; clear hc1 hc2 hc3 ihs hv h5' hg HD hlen hm
    go_enter Tryd.func24, Tryd.ntmps24
    go_wp2_with fail
    refine C1.out.mono ?_
    rintro e1 w1 ⟨rfl, hb1, hw1⟩
    dsimp only
    go_wp2_with (go_at_call 42; refine (C2.out _ hw1 hb1).mono ?_; rintro e2 w2 ⟨rfl, hb2, hw2⟩)
    refine (C3.out _ (hw1.trans hw2) hb2).mono ?_
    rintro e3 w3 ⟨rfl, hb3, hw3⟩
    dsimp only
    go_wp2
    go_end0
    exact ⟨rfl, by simpa using hb3, (hw1.trans hw2).trans hw3⟩
  · rw [show_object] at hlen ⊢
    simp only [List.length_cons, List.length_append, List.length_nil] at hlen
    have hc1 := wbI B b acc 123 123 rfl w HB.out (by omega) hBw
    have hc2 := fun w1 (hw : Below B w w1) hb => writePairs n t l ks ihs w1 B b (acc ++ [123]) L N p o _ hg (by simp; omega) hb (Nat.le_trans hBw hw.size) (h5'.keep hpN (fun s hs => hw.cell (Nat.lt_of_lt_of_le hs hN))) hpN (hv.below (hw.mono hN)) hN (HK.out.below hw)
    have hc3 := fun w1 (hw : Below B w w1) hb => wbI B b ((acc ++ [123]) ++ V.pairs l ks) 125 125 rfl w1 hb (by simp; omega) (Nat.le_trans hBw hw.size)
    have C1 := Lib.hid hc1; have C2 := Lib.hid hc2; have C3 := Lib.hid hc3; clear hc1 hc2 hc3 ihs hv h5' hg HD hlen hm
    go_enter Tryd.func24, Tryd.ntmps24
    go_wp2_with fail
    refine C1.out.mono ?_
    rintro e1 w1 ⟨rfl, hb1, hw1⟩
    dsimp only
    go_wp2_with (go_at_call 42; refine (C2.out _ hw1 hb1).mono ?_; rintro e2 w2 ⟨rfl, hb2, hw2⟩)
    refine (C3.out _ (hw1.trans hw2) hb2).mono ?_
    rintro e3 w3 ⟨rfl, hb3, hw3⟩
    dsimp only
    go_wp2
    go_end0
    exact ⟨rfl, by simpa using hb3, (hw1.trans hw2).trans hw3⟩
end Go.Proofs.YtjgjajnpbcghmaaDoor
namespace Go.Proofs.YtjgjajnpbcghmaaDoor
open Go.RowKit

/-- what Print answers -/
def printV (v : V) : List UInt8 := if v.fits 8 then v.show else []
theorem write_any (v : V) : WriteSays v := write_at v.size v (Nat.le_refl _)
set_option maxRecDepth 100000 in
set_option maxHeartbeats 1000000 in
theorem printT_any (v : V) (w : World) (L N : Nat) (cs : List Value) (hlen : v.fits 8 = true → v.show.length ≤ 140737488355328) (hv : VIs w L N v cs) (hN : N ≤ w.heap.size) (hk : TabIn w.heap.size w) :
    Calls Tryd.prog 12 #[.agg cs.toArray] w fun e w' => e = .returned (.string ⟨(printV v).toArray⟩) ∧ Below w.heap.size w w' := by
  have hb0 := (Below.refl w.heap.size w).alloc (Nat.le_refl _) (.cells cs.toArray 34)
  have hs : (w.alloc (.cells cs.toArray 34)).heap.size = w.heap.size + 1 := by simp
  have h5 := five_new hv 34
  have hv1 := (hv.below (hb0.mono hN)).more (Nat.zero_le L) (show N ≤ w.heap.size + 1 by omega)
  have hgood := good_any v (w.alloc (.cells cs.toArray 34)) 0 (w.heap.size + 1) cs (hv1.more (Nat.le_refl _) (Nat.le_refl _)) (by omega)
  have hk1 := hk.below hb0
  obtain ⟨A, c, A', c', rfl⟩ := hv.form
  have hx := Box.new w (.int .i64 v.kind) (.int .i64 v.num) (.string ⟨v.text.toArray⟩) (.slice A v.list.length c) (.slice A' v.keys.length c') 34
  rw [hs] at hgood
  have HG := Lib.hid hgood
  cases hf : v.fits 8 with
  | false =>
    have hp : printV v = [] := by unfold printV; rw [hf]; rfl
    rw [hp]
    rw [hf] at HG
    have HB0 := Lib.hid hb0
    clear hgood hv hv1 h5 hb0 hs hk hk1 hlen hp hx
    go_enter Tryd.func12, Tryd.ntmps12
    go_wp2_with (go_at_call 23; with_reducible refine (HG.out).mono ?_; rintro e1 w1 ⟨rfl, hb1⟩)
    go_ret
    exact ⟨rfl, HB0.out.trans (hb1.mono (by omega))⟩
  | true =>
    have hp : printV v = v.show := by unfold printV; rw [hf]; rfl
    rw [hp]
    rw [hf] at HG
    have hl := hlen hf
    have hwr := fun w1 (hb1 : Below (w.heap.size + 1) (w.alloc (.cells #[.int .i64 v.kind, .int .i64 v.num, .string ⟨v.text.toArray⟩, .slice A v.list.length c, .slice A' v.keys.length c'] 34)) w1) (hs1 : w.heap.size + 1 ≤ w1.heap.size) =>
      write_any v (w1.alloc (.cells #[.pointer none, .slice none 0 0] 56)) w1.heap.size w1.heap.size [] 0 (w.heap.size + 1) w.heap.size 0 _ (fits_isgood hf) (by simpa using hl) (Bld.new w1) (by simp)
        ((h5.keep (N := w.heap.size + 1) (by omega) (fun p hp => hb1.cell hp)).keep (N := w1.heap.size) (by omega) (fun p hp => ((Below.refl _ _).alloc (Nat.le_refl _) _).cell hp)) (by omega)
        ((hv1.below hb1).below (((Below.refl w1.heap.size w1).alloc (Nat.le_refl _) _).mono hs1)) hs1 (((hk1.more (B' := w.heap.size + 1) (by omega)).below hb1).more hs1 |>.below ((Below.refl w1.heap.size w1).alloc (Nat.le_refl _) _))
    have HW := Lib.hid hwr; have HB0 := Lib.hid hb0
    clear hgood hv hv1 h5 hb0 hs hk hk1 hlen hp hwr hx
    go_enter Tryd.func12, Tryd.ntmps12
    go_wp2_with (go_at_call 23; with_reducible refine (HG.out).mono ?_; rintro e1 w1 ⟨rfl, hb1⟩; have hs1 := hb1.size; (try rw [show (w.alloc (.cells #[.int .i64 v.kind, .int .i64 v.num, .string ⟨v.text.toArray⟩, .slice A v.list.length c, .slice A' v.keys.length c'] 34)).heap.size = w.heap.size + 1 by simp] at hs1))
    have hb1' : Below (w.heap.size + 1) (w.alloc (.cells #[.int .i64 v.kind, .int .i64 v.num, .string ⟨v.text.toArray⟩, .slice A v.list.length c, .slice A' v.keys.length c'] 34)) w1 := by
      exact hb1
    refine (HW.out _ hb1' hs1).mono ?_
    rintro e2 w2 ⟨rfl, hb2, hw2⟩
    dsimp only
    have hst := bldString_any w1.heap.size w1.heap.size ([] ++ v.show) w2 hb2 (Nat.le_trans (by simp) hw2.size)
    have HST := Lib.hid hst; clear hst
    go_wp2_with (go_at_call 25; with_reducible refine (HST.out).mono ?_; rintro e3 w3 ⟨rfl, hb3⟩)
    go_ret
    refine ⟨rfl, ?_⟩
    have b1 : Below w.heap.size w w1 := HB0.out.trans (hb1'.mono (by omega))
    have b2 : Below w.heap.size w1 w2 := ((Below.refl w1.heap.size w1).alloc (Nat.le_refl _) _ |>.trans hw2).mono (by omega)
    exact (b1.trans b2).trans (hb3.mono (by omega))
theorem print_any (v : V) (w : World) (L N : Nat) (cs : List Value) (hlen : v.fits 8 = true → v.show.length ≤ 140737488355328) (hv : VIs w L N v cs) (hN : N ≤ w.heap.size) (hk : KitIn w.heap.size w) :
    Calls Tryd.prog 12 #[.agg cs.toArray] w fun e w' => e = .returned (.string ⟨(printV v).toArray⟩) ∧ Below w.heap.size w w' := printT_any v w L N cs hlen hv hN hk.toTab
end Go.Proofs.YtjgjajnpbcghmaaDoor
namespace Go.Proofs.YtjgjajnpbcghmaaDoor
open Go.RowKit
set_option linter.unusedVariables false
set_option linter.unusedSimpArgs false

theorem Tryd.infoValJ : (Tryd.prog.info? 34).map (fun i => (i.zero, i.size, i.bytes)) = some (some (.agg #[.int .i64 0, .int .i64 0, .string ⟨#[]⟩, .slice none 0 0, .slice none 0 0]), 5, 80) := by kernel_rfl
theorem setV_print (l : PL) : printV (setV (l.take 64)) = setT l := by
  unfold printV
  rw [if_pos (setV_fits _ (by rw [List.length_take]; omega) 4)]; rfl
/-- the set's object, of the list, in two blocks more -/
theorem setV_mem {w : World} {L N : Nat} {q : PL} {c0 c1 c2 c3 c4 : Value} (h : VIs w L N (listV q) [c0, c1, c2, c3, c4]) (hN : N ≤ w.heap.size) :
    VIs ((w.alloc (.cells #[.string ⟨#[107, 101, 121, 115]⟩] 9)).alloc (.cells #[c0, c1, c2, c3, c4] 34)) 0 ((w.alloc (.cells #[.string ⟨#[107, 101, 121, 115]⟩] 9)).alloc (.cells #[c0, c1, c2, c3, c4] 34)).heap.size
      (setV q) [.int .i64 6, .int .i64 0, .string ⟨#[]⟩, .slice (some ⟨w.heap.size + 1, 0, none⟩) 1 1, .slice (some ⟨w.heap.size, 0, none⟩) 1 1] := by
  obtain ⟨W1, hW1⟩ : ∃ W1, W1 = w.alloc (.cells #[.string ⟨#[107, 101, 121, 115]⟩] 9) := ⟨_, rfl⟩
  have z1 : W1.heap.size = w.heap.size + 1 := by rw [hW1]; simp
  have k1 : W1.heap[w.heap.size]? = some (.cells #[.string ⟨#[107, 101, 121, 115]⟩] 9 (0, 0)) := by rw [hW1]; exact heap_alloc_last w _
  have b1 : Below w.heap.size w W1 := by rw [hW1]; exact (Below.refl _ _).alloc (Nat.le_refl _) _
  rw [← hW1]
  obtain ⟨W2, hW2⟩ : ∃ W2, W2 = W1.alloc (.cells #[c0, c1, c2, c3, c4] 34) := ⟨_, rfl⟩
  have z2 : W2.heap.size = w.heap.size + 2 := by rw [hW2]; simp [z1]
  have k2 : W2.heap[w.heap.size + 1]? = some (.cells #[c0, c1, c2, c3, c4] 34 (0, 0)) := by rw [hW2, ← z1]; exact heap_alloc_last W1 _
  have k3 : W2.heap[w.heap.size]? = some (.cells #[.string ⟨#[107, 101, 121, 115]⟩] 9 (0, 0)) := by rw [hW2]; exact alloc_block k1
  have b2 : Below w.heap.size w W2 := by rw [hW2]; exact b1.trans (((Below.refl W1.heap.size W1).alloc (Nat.le_refl _) _).mono (by omega))
  rw [← hW2]
  refine VIs.mk (t := []) (l := [listV q]) (ks := [wKeys]) ⟨by simp, by simp, by simp, ?_⟩ (.inr ⟨_, _, rfl, KIs.of (by omega) (by omega) fun i hi => ?_⟩) (.inr ⟨_, _, rfl, LIs.of (by omega) (by omega) fun i hi => ?_⟩)
  · intro x hx; simp at hx; subst hx; decide
  · obtain rfl : i = 0 := by simp at hi; omega
    rw [cell_here k3]; rfl
  · obtain rfl : i = 0 := by simp at hi; omega
    refine ⟨_, ⟨c0, c1, c2, c3, c4, rfl, cell_here k2, cell_here k2, cell_here k2, cell_here k2, cell_here k2⟩, ?_⟩
    exact (h.below (b2.mono hN)).more (Nat.zero_le _) (by omega)
set_option maxRecDepth 100000 in
set_option maxHeartbeats 8000000 in
theorem printKeys_any (A : Option Addr) (c : Nat) (l : PL) (hc : l.length ≤ c) (hl : l.length ≤ maxLen) (hz : ∀ p ∈ l.take 64, p.1.length ≤ 1000000000 ∧ p.2.length ≤ 1000000000) (w : World) (hp : Prs w w.heap.size A l) (hk : TabIn w.heap.size w) :
    Calls Tryd.prog 7 #[.slice A l.length c] w fun e w' => e = .returned (.string ⟨(setT l).toArray⟩) ∧ Below w.heap.size w w' := by
  obtain ⟨i0, hi, hz0, hz1, hz2⟩ := info_parts Tryd.infoValJ
  obtain ⟨R, hR⟩ : ∃ R, w.heap.size = R := ⟨_, rfl⟩
  obtain ⟨W1, hW1⟩ : ∃ W1, W1 = w.alloc (.cells #[.int .i64 5, .int .i64 0, .string ⟨#[]⟩, .slice none 0 0, .slice none 0 0] 34) := ⟨_, rfl⟩
  have gst : LSt R w W1 (.slice none 0 0) (((l.take 64).take 0).map keyV) [] := by
    refine ⟨?_, ⟨rfl, .inl ⟨rfl, rfl⟩⟩, fun i hi => absurd hi (Nat.not_lt_zero _), ?_, ?_⟩
    · rw [hW1, ← hR]; exact heap_alloc_last w _
    · rw [hW1, ← hR]; exact (Below.refl _ _).alloc (Nat.le_refl _) _
    · rw [hW1, ← hR]; simp
  unfold maxLen at hl
  obtain ⟨n, hn⟩ : ∃ n, l.length = n := ⟨_, rfl⟩
  obtain ⟨m, hm⟩ : ∃ m, (l.take 64).length = m := ⟨_, rfl⟩
  have hmn : m = min n 64 := by rw [← hm, ← hn, List.length_take]; omega
  have hmin : min (n : Int) 64 = (m : Int) := by omega
  have hpr : ∀ (W : World) (L N : Nat) (cs : List Value), VIs W L N (setV (l.take 64)) cs → N ≤ W.heap.size → TabIn W.heap.size W → Calls Tryd.prog 12 #[.agg cs.toArray] W fun e w' => e = .returned (.string ⟨(setT l).toArray⟩) ∧ Below W.heap.size W w' := fun W L N cs h1 h2 h3 => by
    have := printT_any (setV (l.take 64)) W L N cs (fun _ => by
      have hM : ∀ p ∈ l.take 64, (jkT p).length ≤ 9000000000 := fun p hp => by
        have := jkT_le p; have := hz p hp; omega
      have h4 := setT_le (l := l.take 64) hM
      rw [setT_take] at h4
      show (setT l).length ≤ _
      omega) h1 h2 h3
    rwa [setV_print] at this
  obtain ⟨q, hq⟩ : ∃ q, l.take 64 = q := ⟨_, rfl⟩
  have hobj : ∀ p, p ∈ q → ∀ (W : World), Calls Tryd.prog 11 #[.agg #[.string ⟨p.1.toArray⟩, .string ⟨p.2.toArray⟩]] W fun e w' => ∃ B b B' b', (e = .returned (.agg #[.int .i64 6, .int .i64 0, .string ⟨#[]⟩, .slice B 4 b, .slice B' 4 b'])) ∧
      VIs w' W.heap.size w'.heap.size (keyV p) [.int .i64 6, .int .i64 0, .string ⟨#[]⟩, .slice B 4 b, .slice B' 4 b'] ∧ Below W.heap.size W w' := fun p hp W =>
    keyObject_any _ (hz _ (by rw [hq]; exact hp)).1 (hz _ (by rw [hq]; exact hp)).2 W
  have hpt : ∀ (k : Nat) (hk : k < m) (W : World), Below w.heap.size w W → ∃ a p, A = some a ∧ a.block < w.heap.size ∧ q[k]? = some p ∧ W.cell? (a.add (k * 2)) = some (.string ⟨p.1.toArray⟩) ∧ W.cell? ⟨(a.add (k * 2)).block, (a.add (k * 2)).off + 1, none⟩ = some (.string ⟨p.2.toArray⟩) := fun k hk W hb => by
    obtain ⟨a, ha, hab, q1, q2⟩ := (hp.below hb) k (by omega)
    exact ⟨a, l[k]'(by omega), ha, hab, by rw [← hq, List.getElem?_take_of_lt (by omega)]; exact List.getElem?_eq_getElem _, q1, q2⟩
  have htk : q.take m = q := by rw [← hq, ← hm, List.take_length]
  have hm64 : m ≤ 64 := by omega
  rw [hq] at hpr gst
  rw [hn] at hl hc ⊢
  have HR := Lib.hid hR; have HW1 := Lib.hid hW1; have GST := Lib.hid gst; have HPR := Lib.hid hpr; have HO := Lib.hid hobj; have HP := Lib.hid hpt; have HK := Lib.hid hk; have HT := Lib.hid htk
  have hcc : (m : Int) ≤ c := by omega
  have hm0 : (0 : Int) ≤ m := by omega
  clear hm hR hW1 gst hpr hobj hpt hn hz hp hk htk hq
  go_enter Tryd.func7, Tryd.ntmps7
  go_wp2_with fail
  rw [← HW1.out, HR.out, ← hmn]
  have hmle : m ≤ n := by omega
  clear hmn hmin
  go_loopw [13] (fun i wr => ∃ (k : Nat) (lv : Value) (xs : List Value), k ≤ m ∧ i = .int .i64 k ∧ LSt R w wr lv ((q.take k).map keyV) xs) (fun i _ => m - (intOf i).toNat)
  case atStart => exact ⟨0, _, [], Nat.zero_le _, rfl, GST.out⟩
  case round =>
    obtain ⟨k, lv, xs, hkm, rfl, gst⟩ := hrel
    obtain ⟨LA, lc, rfl⟩ := own_form gst.rowL
    have hbw := gst.low
    have hsz := gst.size
    have hR := HR.out
    rw [hR] at HP
    by_cases hlt : k < m
    · obtain ⟨a, p, rfl, hab, hqk, h1, h2⟩ := HP.out k hlt wr hbw
      have hpq : p ∈ q := List.mem_of_getElem? hqk
      have hob := HO.out p hpq
      have hkl : ((q.take k).map keyV).length = k := by
        have := (List.getElem?_eq_some_iff.1 hqk).1
        rw [List.length_map, List.length_take]; omega
      have htn : (q.take k).map keyV ++ [keyV p] = (q.take (k + 1)).map keyV := by
        rw [List.take_add_one, hqk, List.map_append]; rfl
      obtain ⟨ID, hID⟩ : ∃ ID : ByteArray, (⟨p.1.toArray⟩ : ByteArray) = ID := ⟨_, rfl⟩
      obtain ⟨SEC, hSEC⟩ : ∃ SEC : ByteArray, (⟨p.2.toArray⟩ : ByteArray) = SEC := ⟨_, rfl⟩
      rw [hID, hSEC] at hob
      rw [hID] at h1
      rw [hSEC] at h2
      obtain ⟨T, hT⟩ : ∃ T, (q.take k).map keyV = T := ⟨_, rfl⟩
      rw [hT] at gst hkl htn
      have c3 : wr.cell? ⟨R, 3, none⟩ = some (.slice LA T.length lc) := cell_here gst.var
      rw [hkl] at c3 gst
      have hk0 : (0 : Int) ≤ k := by omega
      have hk1 : (k : Int) < m := by omega
      have G0 := Lib.hid gst
      have ST : ∀ W, Below wr.heap.size wr W → W.cell? ⟨R, 3, none⟩ = some (.slice LA k lc) := fun W hb => (hb.cell (p := ⟨R, 3, none⟩) (by show R < _; omega)).trans c3
      have STH := Lib.hid ST; have HOB := Lib.hid hob; have HTN := Lib.hid htn; have HKL := Lib.hid hkl
      clear gst hob htn hkl hqk hpq ST hID hSEC hR hT
      go_wp2_with fail
      obtain ⟨KB, hKB⟩ : ∃ KB, KB = Obj.cells #[.string ID, .string SEC] 25 := ⟨_, rfl⟩
      have bK : Below wr.heap.size wr (wr.alloc (.cells #[.string ID, .string SEC] 25)) := (Below.refl _ _).alloc (Nat.le_refl _) _
      have zK : (wr.alloc (.cells #[.string ID, .string SEC] 25)).heap.size = wr.heap.size + 1 := by simp
      have cK := STH.out _ bK
      have BK := Lib.hid bK; have ZK := Lib.hid zK
      clear hKB bK zK h1 h2 c3
      go_region_law (first
        | (refine step_append_opt rfl (.tmp 18) (.tmp 21) 31 rfl (R + 1) 34 i0 _ 5 80 Tryd.underlying31 hi hz0 hz1 hz2 rfl (by decide) _ _ xs rfl (G0.out.later ((BK.out.chain hb1').alloc (BK.out.chain hb1').size _)).rowL (some ⟨w1.heap.size, 0, none⟩) 1 1 [.int .i64 6, .int .i64 0, .string ⟨#[]⟩, .slice B 4 b, .slice B' 4 b'] rfl rfl (.inr ⟨_, rfl, new_cells _ #[_, _, _, _, _] _⟩) (by intro u hu; simp at hu; rcases hu with rfl | rfl | rfl | rfl | rfl <;> rfl) ?_ ?_ ?_ ?_; (· rw [HKL.out]; unfold maxLen; omega); (· rw [HKL.out]; omega); (· have := (BK.out.chain hb1').size; simp; omega); intro v5 w5 hown hgrow hat; obtain ⟨A5, c5, rfl⟩ := own_form hown; obtain ⟨⟨e0, e1, e2, e3, e4⟩, f0, f1, f2, f3, f4⟩ := box_of ((G0.out.later ((BK.out.chain hb1').alloc (BK.out.chain hb1').size _)).varL hgrow))
        | (go_simp; go_at_call 11; (with_reducible refine (HOB.out _).mono ?_); rintro e1 w1 ⟨B, b, B', b', rfl, hv1, hb1⟩; have hb1' := (below_drew2 _ _ hb1); have c3' := STH.out w1 (BK.out.chain hb1'); have c3'' := STH.out _ ((BK.out.chain hb1').alloc (BK.out.chain hb1').size (.cells #[.int .i64 6, .int .i64 0, .string ⟨#[]⟩, .slice B 4 b, .slice B' 4 b'] 34)); dsimp only))
      all_goals
        have hz1 := (BK.out.chain hb1').size
        have zk := ZK.out
        have hl1 := G0.out.rowL.lt
        have g6 := (G0.out.later ((BK.out.chain hb1').alloc (BK.out.chain hb1').size (.cells #[.int .i64 6, .int .i64 0, .string ⟨#[]⟩, .slice B 4 b, .slice B' 4 b'] 34))).item (keyV p) (hv1.below ((Below.refl _ _).alloc (Nat.le_refl _) _)) (by show R + 1 ≤ (wr.alloc _).heap.size; omega) (by simp) (fun g hg hh => by have := (hl1 g hg).2; have h1 : (wr.alloc (.cells #[.string ID, .string SEC] 25)).heap.size ≤ g := hh.1; omega) hown hgrow hat
        rw [HTN.out] at g6
        have G6 := Lib.hid g6
        clear g6 hown hgrow hat e0 e1 e2 e3 e4 f0 f1 f2 f3 f4 c3' c3'' hb1 hb1' hv1 hz1 zk hl1
        go_wp2
        go_roundw
        case rel => exact ⟨k + 1, _, _, by omega, by go_num, G6.out⟩
        case measure => simp [intOf]; omega
    · obtain rfl : k = m := by omega
      rw [HT.out] at gst
      have hlv : (q.map keyV).length ≤ 9223372036854775807 := by rw [← HT.out, List.length_map, List.length_take]; omega
      have hd : VIs wr (R + 1) wr.heap.size (listV q) _ := gst.done hlv
      obtain ⟨t, ht⟩ : ∃ t, (q.map keyV).length = t := ⟨_, rfl⟩
      rw [ht] at hd
      have gv := gst.var
      rw [ht] at gv
      have hv3 := setV_mem hd (Nat.le_refl _)
      obtain ⟨⟨e0, e1, e2, e3, e4⟩, -⟩ := box_of (alloc_block (x := .cells #[.string ⟨#[107, 101, 121, 115]⟩] 9) gv)
      obtain ⟨W3, hW3⟩ : ∃ W3, W3 = ((wr.alloc (.cells #[.string ⟨#[107, 101, 121, 115]⟩] 9)).alloc (.cells #[.int .i64 5, .int .i64 0, .string ⟨#[]⟩, .slice LA t lc, .slice none 0 0] 34)) := ⟨_, rfl⟩
      have b3 : Below R w W3 := by rw [hW3]; exact (hbw.alloc (by omega) _).alloc (by simp; omega) _
      have b3w : Below w.heap.size w W3 := by rw [hR]; exact b3
      have hk3 : TabIn W3.heap.size W3 := (HK.out.below b3w).more b3w.size
      rw [← hW3] at hv3
      have HPR3 := Lib.hid (HPR.out W3 _ _ _ hv3 (Nat.le_refl _) hk3)
      have HB3 := Lib.hid b3; have HW3 := Lib.hid hW3
      clear hv3 hd gst gv hlv ht b3 b3w hk3 hW3 hbw hR
      go_wp2_with fail
      rw [← HW3.out]
      refine HPR3.out.mono ?_
      rintro e w4 ⟨rfl, hb4⟩
      have HB4 := Lib.hid (HB3.out.trans (hb4.mono (by rw [← HR.out]; exact HB3.out.size))); clear hb4
      dsimp only
      go_wp2
      go_ret
      exact ⟨rfl, by rw [HR.out]; exact HB4.out⟩
end Go.Proofs.YtjgjajnpbcghmaaDoor
namespace Go.Proofs.YtjgjajnpbcghmaaDoor
open Go.RowKit
set_option linter.unusedVariables false
set_option linter.unusedSimpArgs false

theorem prs_one {w : World} {g : Nat} {id sec : List UInt8} {t : TypeId} (h : w.heap[g]? = some (.cells #[.string ⟨id.toArray⟩, .string ⟨sec.toArray⟩] t (0, 0))) : Prs w w.heap.size (some ⟨g, 0, none⟩) [(id, sec)] := fun k hk => by
  obtain rfl : k = 0 := by simp at hk; omega
  refine ⟨_, rfl, (Array.getElem?_eq_some_iff.1 h).1, ?_, ?_⟩
  · rw [Addr.add_lit, cell_here h]; rfl
  · rw [Addr.add_lit, cell_here h]; rfl
/-- append onto a row of the call's own, of a slice that may be nil -/
theorem wpList_append_opt {P : Program} {w : World} {ops : Array Oper} {rest : List Oper} {o : Oper} {a : Act} {Q : Exit → Act → World → Prop} (hgd : o.guard = none) (s x : Operand) (t : TypeId)
    (ho : o.op = .call { callee := .builtin .append, args := #[s, x], argTypes := #[t, t] })
    (base : Nat) (e : TypeId) (i : TypeInfo) (z : Value) (size bytes : Nat) (ht : P.underlying t = some (.slice e)) (hi : P.info? e = some i) (hz : i.zero = some z)
    (hsize : i.size = size) (hby : i.bytes = bytes) (hzs : z.cells.size = size) (hsz : 0 < size)
    (v : Value) (n : Nat) (xs : List Value) (hs : a.eval s = v) (hown : w.ownsRow base e size v n xs)
    (A : Option Addr) (m c : Nat) (news : List Value) (hx : a.eval x = .slice A m c) (hl : news.length = m * size)
    (hnews : (A = none ∧ m = 0 ∧ c = 0) ∨ ∃ ad, A = some ad ∧ ∀ j u, news[j]? = some u → w.cell? (ad.add j) = some u) (h1 : ∀ u ∈ news, u.oneCell' = true)
    (h63 : n + m ≤ maxLen) (hbytes : (n + m) * bytes ≤ 140737488355328) (hbase : base ≤ w.heap.size)
    (h : ∀ v' w', w'.ownsRow base e size v' (n + m) (xs ++ news) → w.grownBy w' v.ownBlock → (v'.ownBlock = v.ownBlock ∨ v'.ownBlock = some w.heap.size) → wpList P ops Q rest (a.put o.dst v') w') : wpList P ops Q (o :: rest) a w :=
  wpList_step fun _ hK => step_append_opt hgd s x t ho base e i z size bytes ht hi hz hsize hby hzs hsz v n xs hs hown A m c news hx hl hnews h1 h63 hbytes hbase fun v' w' h2 h3 h4 => hK _ _ (h v' w' h2 h3 h4)
theorem own_reads {w : World} {B : Nat} {e : TypeId} {v : Value} {l : PL} (h : w.ownsRow B e 2 v l.length (pcells l)) : ∃ A c, v = .slice A l.length c ∧ Prs w w.heap.size A l := by
  rcases h.2 with ⟨rfl, h0⟩ | ⟨g, cap, cur, rfl, hB, hg, _⟩
  · obtain rfl : l = [] := List.length_eq_zero_iff.1 h0
    exact ⟨none, 0, rfl, Prs.nil _ _ _⟩
  · refine ⟨_, _, rfl, fun k hk => ⟨_, rfl, (Array.getElem?_eq_some_iff.1 hg).1, ?_, ?_⟩⟩
    · exact World.ownsRow.cells (g := g) h rfl _ _ (pcells_key l k hk)
    · rw [add_next]
      exact World.ownsRow.cells (g := g) h rfl _ _ (pcells_val l k hk)
theorem prs_cells {w : World} {B : Nat} {ad : Addr} {l : PL} (h : Prs w B (some ad) l) : ∀ j u, (pcells l)[j]? = some u → w.cell? (ad.add j) = some u := by
  intro j u hj
  have hjl : j < (pcells l).length := (List.getElem?_eq_some_iff.1 hj).1
  rw [pcells_len] at hjl
  rcases (show j = (j / 2) * 2 ∨ j = (j / 2) * 2 + 1 by omega) with e | e
  · have hk : j / 2 < l.length := by omega
    obtain ⟨a, ha, _, h1, _⟩ := h (j / 2) hk
    cases ha
    rw [e] at hj ⊢
    rw [pcells_key l _ hk] at hj
    cases hj; exact h1
  · have hk : j / 2 < l.length := by omega
    obtain ⟨a, ha, _, _, h2⟩ := h (j / 2) hk
    cases ha
    rw [e] at hj ⊢
    rw [pcells_val l _ hk] at hj
    rw [add_next] at h2
    cases hj; exact h2
theorem pcells_ones (l : PL) : ∀ u ∈ pcells l, u.oneCell' = true := by
  induction l with
  | nil => intro u hu; cases hu
  | cons p l ih =>
    intro u hu
    simp only [pcells, List.mem_cons] at hu
    rcases hu with rfl | rfl | hu
    · rfl
    · rfl
    · exact ih u hu
theorem own_one {w : World} {g : Nat} {e : TypeId} {a b : Value} (h : w.heap[g]? = some (.cells #[a, b] e (0, 0))) (B : Nat) (hB : B ≤ g) : w.ownsRow B e 2 (.slice (some ⟨g, 0, none⟩) 1 1) 1 [a, b] :=
  ⟨rfl, .inr ⟨g, 1, #[a, b], rfl, hB, h, Nat.le_refl _, by unfold maxLen; decide, rfl, rfl⟩⟩
end Go.Proofs.YtjgjajnpbcghmaaDoor
