/- pairs.Parse by its loop over the iterator. -/
import Derived.Test.YthinbheplcameaaPrs
import Derived.Test.YthinbheplcameaaIter
import Derived.RangeFuncBox
import Derived.Maps.AppendAt
namespace Go.Proofs.Ythinbheplcameaa
open Go.RowKit Go.Shelf

attribute [local go_sem] Oper.semAt_some
/-- the pairs of the parts that have come -/
def gotL {m : Nat} (pre : List (Part m)) : PL := (pairsL (vals pre)).getD []
theorem gotL_snoc {m : Nat} {pre : List (Part m)} {p : Part m} {x : List UInt8 × List UInt8} (h : pairsL (vals pre) = some (gotL pre)) (hp : pairL p.1 = some x) :
    pairsL (vals (pre ++ [p])) = some (gotL pre ++ [x]) := by rw [vals_snoc]; exact pairsL_snoc h hp
theorem gotL_next {m : Nat} {pre : List (Part m)} {p : Part m} {x : List UInt8 × List UInt8} (h : pairsL (vals pre) = some (gotL pre)) (hp : pairL p.1 = some x) : gotL (pre ++ [p]) = gotL pre ++ [x] := by
  have := gotL_snoc h hp
  unfold gotL at this ⊢; rw [this]; rfl
theorem gotL_bad {m : Nat} {pre : List (Part m)} {p : Part m} (hp : pairL p.1 = none) : pairsL (vals (pre ++ [p])) = none := by rw [vals_snoc]; exact pairsL_bad hp
theorem gotL_len {m : Nat} {pre : List (Part m)} (h : pairsL (vals pre) = some (gotL pre)) : (gotL pre).length = pre.length := by rw [pairsL_len h, vals_len]
theorem below_keeps {w w' : World} (h : Below w.heap.size w w') : KeepsOthers w w' := KeepsOthers.of_grownBy (row := none) ⟨h.os, h.tape, h.output, h.size, fun k hk _ => h.block k hk⟩ (fun j o e _ => by cases e)

theorem own_below {w w' : World} {B sz n : Nat} {e : TypeId} {v : Value} {xs : List Value} (h : w.ownsRow B e sz v n xs) (hb : Below w.heap.size w w') : w'.ownsRow B e sz v n xs :=
  World.ownsRow.kept (row := none) h ⟨hb.os, hb.tape, hb.output, hb.size, fun k hk _ => hb.block k hk⟩ (by
    rcases h.2 with ⟨rfl, _⟩ | ⟨g, cap, cur, rfl, _⟩
    · exact .inl rfl
    · exact .inr (by simp [Value.ownBlock]))
theorem new_cells1 (w : World) (o : Obj) (cs : Array Value) (e : TypeId) : ∀ j u, cs.toList[j]? = some u → ((w.alloc o).alloc (.cells cs e)).cell? ((⟨w.heap.size + 1, 0, none⟩ : Addr).add j) = some u := by
  intro j u h
  have := new_cells (w.alloc o) cs e j u h
  rwa [World.size_alloc] at this
theorem boxed_below {W W' : World} {B : Nat} {t : TypeId} {v : Value} (h : Boxed W B t v) (hb : Below W.heap.size W W') : Boxed W' B t v := (hb.block B h.lt).trans h
theorem boxed_appended {W W1 w1 : World} {o1 o2 : Obj} {n₀ B sz n : Nat} {t e : TypeId} {u v : Value} {xs : List Value} (hb : Boxed W B t u) (hW : Below W.heap.size W W1) (hte : t ≠ e) (hrow : W1.ownsRow n₀ e sz v n xs)
    (hg : ((W1.alloc o1).alloc o2).grownBy w1 v.ownBlock) : Boxed w1 B t u := (((boxed_below hb hW).alloc o1).alloc o2).kept hg ((boxed_below hb hW).not_row hte hrow)
/-- the two results' boxes, stored into -/
theorem two_set {W : World} {b0 b1 : Nat} {t0 t1 : TypeId} {u0 u1 : Value} (hb0 : Boxed W b0 t0 u0) (hb1 : Boxed W b1 t1 u1) (hne : b0 ≠ b1) (v0 v1 : Value) :
    Boxed ((W.setCell ⟨b0, 0, none⟩ v0).setCell ⟨b1, 0, none⟩ v1) b0 t0 v0 ∧ Boxed ((W.setCell ⟨b0, 0, none⟩ v0).setCell ⟨b1, 0, none⟩ v1) b1 t1 v1 ∧ KeepsOthers W ((W.setCell ⟨b0, 0, none⟩ v0).setCell ⟨b1, 0, none⟩ v1) :=
  ⟨(hb0.set v0).other hne v1, (hb1.other hne.symm v0).set v1, (KeepsOthers.setCell _ _ _).trans (KeepsOthers.setCell _ _ _)⟩
theorem box_put {W : World} {D b : Nat} {t : TypeId} {u : Value} (hb : Boxed W b t u) (hK : W.heap[D]? = some (.deferred (some []))) : (W.putObj D (.deferred none)).cell? ⟨b, 0, none⟩ = some u :=
  cell_kept hb.cell (grownBy_putObj' _ D (.deferred none)) (fun r e => by cases e; exact ⟨_, hK, rfl⟩)

set_option maxRecDepth 100000 in
set_option maxHeartbeats 1000000 in
theorem parse_in (n : Nat) (hn : 4 ≤ n) (s : ByteArray) (w : World) :
    CallsIn Fence.wide n Try.prog 25 #[.string s] w fun e w' => ∃ v, e = .returned (.tuple #[v, .int .i64 (parseE s.data.toList)]) ∧ PRow w' w.heap.size v (parseP s.data.toList) ∧ Below w.heap.size w w' := by
  have h1 : 1 ≤ n := by omega
  obtain ⟨i0, hi, hz0, hz1, hz2⟩ := info_parts Try.infoPair
  have hsz : s.data.toList.length = s.size := rfl
  by_cases hs : 4096 < s.size
  · have hp := @parse_large s.data.toList
    rw [hsz] at hp
    have HP := Lib.hid (hp hs); clear hp
    refine callsIn_of_wp_marks Try.func25 rfl trivial ?_ rfl
    simp only [Try.ntmps25, List.size_toArray, List.length_cons, List.length_nil, Nat.reduceAdd, Nat.reduceSub, Array.replicate_succ, Array.replicate_zero, List.push_toArray, List.append_toArray, List.nil_append, List.cons_append]
    gi_wp2
    refine ⟨.tuple #[.slice none 0 0, .int .i64 3], ?_, _, by rw [HP.out.1], by rw [HP.out.2]; exact PRow.nil _ _, ?_⟩
    · simp [results, Try.results25, go_sem]
    · exact ((Below.refl _ w).alloc (Nat.le_refl _) _).alloc (by simp) _
  · have hP0 := @parse_none s.data.toList
    have hPm := @parse_many s.data.toList
    have hPs := @parse_some s.data.toList
    unfold formL at hP0 hPm hPs
    rw [hsz] at hP0 hPm hPs
    have hs' : s.size ≤ 4096 := by omega
    have P0 := Lib.hid (hP0 hs'); have P1 := Lib.hid (fun ps => @hPm ps hs'); have P2 := Lib.hid (fun ps => @hPs ps hs'); clear hP0 hPm hPs
    have hplen := partsL_len s.data.toList
    rw [hsz] at hplen
    have HSZ := Lib.hid hsz; clear hsz
    refine callsIn_of_wp_marks Try.func25 rfl trivial ?_ rfl
    simp only [Try.ntmps25, List.size_toArray, List.length_cons, List.length_nil, Nat.reduceAdd, Nat.reduceSub, Array.replicate_succ, Array.replicate_zero, List.push_toArray, List.append_toArray, List.nil_append, List.cons_append]
    gi_wp2_with (refine ⟨trivial, ?_⟩; gi_at_call 41; refine (parts_in _ _ _).mono ?_; rintro e w' ⟨rfl, rfl⟩)
    have b0 := Boxed.new w 33 (.slice none 0 0)
    have b1 := Boxed.new (w.alloc (.cells #[.slice none 0 0] 33)) 24 (.int .i64 0)
    have b2 := Boxed.new ((w.alloc (.cells #[.slice none 0 0] 33)).alloc (.cells #[.int .i64 0] 24)) 33 (.slice none 0 0)
    have b3 := Boxed.new (((w.alloc (.cells #[.slice none 0 0] 33)).alloc (.cells #[.int .i64 0] 24)).alloc (.cells #[.slice none 0 0] 33)) 9 (.string s)
    have hB0 : Below w.heap.size w ((((w.alloc (.cells #[.slice none 0 0] 33)).alloc (.cells #[.int .i64 0] 24)).alloc (.cells #[.slice none 0 0] 33)).alloc (.cells #[.string s] 9)) :=
      ((((Below.refl _ w).alloc (Nat.le_refl _) _).alloc (by simp) _).alloc (by simp; omega) _).alloc (by simp; omega) _
    simp only [World.size_alloc] at b1 b2 b3

    refine wpIn_rangeFunc_ownG rfl h1 (gf := 51) (lb := #[.pointer (some ⟨w.heap.size + 1 + 1 + 1, 0, none⟩)]) rfl trivial (enters_of Try.func51 (by kernel_rfl) rfl)
      (parts_stops (n - 1) (by omega) (w.heap.size + 1 + 1 + 1) w.heap.size s.data.toList 4096 (by rw [HSZ.out]; omega) (by omega) _ (by simp) (by rw [← str_eta]; exact b3.cell)) belowK_t (belowK_b (by simp; omega)) (Below.refl _ _) (fun _ => rfl)
      (fun pre W => ((∃ v, Boxed W (w.heap.size + 1 + 1) 33 v ∧ W.ownsRow w.heap.size 38 2 v (gotL pre).length (pcells (gotL pre)) ∧ pairsL (vals pre) = some (gotL pre)) ∧ Boxed W w.heap.size 33 (.slice none 0 0) ∧ Boxed W (w.heap.size + 1) 24 (.int .i64 0)) ∧ Below w.heap.size w W)
      (fun c pre W => ((c = .ret ∧ pairsL (vals pre) = none) ∧ Boxed W w.heap.size 33 (.slice none 0 0) ∧ Boxed W (w.heap.size + 1) 24 (.int .i64 2)) ∧ Below w.heap.size w W)
      (OwnFrom.and (OwnFrom.and (Own.from (holdsRow_own w.heap.size (w.heap.size + 1 + 1) 33 38 2 (fun pre => (gotL pre).length) (fun pre => pcells (gotL pre)) (fun pre _ => pairsL (vals pre) = some (gotL pre))) _) (OwnFrom.and (Own.from (boxed_own _ _ _) _) (Own.from (boxed_own _ _ _) _))) (ownFrom_below (Nat.le_refl _) (by simp; omega)))
      (fun c => OwnFrom.and (OwnFrom.and (ownFrom_pure _ _) (OwnFrom.and (Own.from (boxed_own _ _ _) _) (Own.from (boxed_own _ _ _) _))) (ownFrom_below (Nat.le_refl _) (by simp; omega)))
      ⟨⟨⟨_, b2.alloc _, PRow.nil _ _, rfl⟩, ((b0.alloc _).alloc _).alloc _, (b1.alloc _).alloc _⟩, hB0⟩
      (fun x => { tmps := #[.string s, undef, .pointer (some ⟨w.heap.size, 0, none⟩), .pointer (some ⟨w.heap.size + 1, 0, none⟩), .pointer (some ⟨w.heap.size + 1 + 1, 0, none⟩), .string ⟨x.1.toArray⟩, undef, undef, .string s, .int .i64 s.size, .bool (decide (4096 < (s.size : Int))), .string s, .func (.func 51) #[] #[.pointer (some ⟨w.heap.size + 1 + 1 + 1, 0, none⟩)], .string ⟨x.1.toArray⟩, undef, undef, undef, undef, undef, undef, undef, undef, undef, undef, undef, undef, undef, undef, undef, undef], defers := [] }) ?assign ?body ?done ?stop
    case assign =>
      intro l x W K hK
      gi_wp2
      exact hK
    case body =>
      rintro l pre x W ⟨⟨⟨v, hv, hrow, hgot⟩, hb0, hb1⟩, hB⟩ hlt
      have hxl := x.2
      have hgl := gotL_len hgot
      have hgl' : (gotL pre).length ≤ 4097 := by omega
      have HG := Lib.hid hgot; clear hgot hgl
      cases hp : pairL x.1 with
      | none =>
        have hc := pair_bad (str x.1) hp (by rw [str_size]; omega)
        have HX := Lib.hid (gotL_bad (pre := pre) hp); clear hp
        gi_wp2_with (refine ⟨trivial, fun _ => (by omega), ?_⟩; gi_at_call 42; refine (CallsIn.inRound l (callsIn_wide.2 (hc _))).mono ?_; rintro e W1 ⟨rfl, hW1⟩; have hb0' := boxed_below hb0 hW1; have hb1' := boxed_below hb1 hW1; have c0 := hb0'.cell; have f0 := hb0'.frozen; have c1 := hb1'.cell; have f1 := hb1'.frozen; have z0 := hb0'.lt; have z1 := hb1'.lt)
        exact ⟨((((below_keeps hW1).trans (KeepsOthers.setCell _ _ _)).trans (KeepsOthers.setCell _ _ _)).trans (KeepsOthers.alloc _ _)).from _,
          ⟨⟨rfl, HX.out⟩, (((hb0'.set _).other (B' := w.heap.size + 1) (by omega) _).alloc _), (((hb1'.other (B' := w.heap.size) (by omega) _).set _).alloc _)⟩,
          (((hB.chain hW1).setCell (p := ⟨w.heap.size, 0, none⟩) (Nat.le_refl _) _).setCell (p := ⟨w.heap.size + 1, 0, none⟩) (by simp) _).alloc (by simp; omega) _⟩
      | some y =>
        have hc := pair_good (str x.1) y hp (by rw [str_size]; omega)
        have HX := Lib.hid (gotL_snoc HG.out hp); have HN := Lib.hid (gotL_next HG.out hp); clear hp
        obtain ⟨ya, yb⟩ := y
        dsimp only at hc
        gi_wp2_with (first
          | (refine ⟨trivial, fun _ => (by omega), ?_⟩; gi_at_call 42; refine (CallsIn.inRound l (callsIn_wide.2 (hc _))).mono ?_; rintro e W1 ⟨rfl, hW1⟩; have hv' := boxed_below hv hW1; have hrow' := own_below hrow hW1; have c2 := hv'.cell; have f2 := hv'.frozen; have z2 := hv'.lt)
          | (gi_at_builtin
             refine wpListIn_append_own _ rfl (.tmp 22) (.tmp 24) 33 rfl w.heap.size 38 i0 _ 2 32 Try.underlying33 hi hz0 hz1 hz2 rfl (by decide) _ _ _ rfl ((hrow'.alloc _).alloc _) ⟨W1.heap.size + 1, 0, none⟩ 1 1 [.string ⟨ya.toArray⟩, .string ⟨yb.toArray⟩] rfl rfl (new_cells1 W1 _ #[_, _] _) (pair_cells _ _) (by unfold maxLen; omega) (by omega) (by have := hB.size; have := hW1.size; simp; omega) ?_
             intro v' w1 hown' hgrow _
             obtain ⟨g', cap', rfl⟩ := ownsRow_succ hown'
             obtain ⟨hv1, hv2, hr2, hk2, hb2⟩ := (hv'.alloc _).appended (by decide) (hrow'.alloc _) (by have := hB.size; have := hW1.size; simp; omega) (by omega) hown' hgrow
             have hc1 := hv1.cell; have hf1 := hv1.frozen))
        have k0 := boxed_appended hb0 hW1 (by decide) hrow' hgrow
        have k1 := boxed_appended hb1 hW1 (by decide) hrow' hgrow
        have hKp := ((hW1.mono hB.size).alloc (by have := hB.size; have := hW1.size; omega) _).trans hb2
        exact ⟨((below_keeps hW1).trans ((KeepsOthers.alloc _ _).trans hk2)).from _, hKp,
          ⟨⟨_, hv2, by rw [HN.out, List.length_append, pcells_snoc]; exact hr2, by rw [HX.out, HN.out]⟩, k0.other (B' := w.heap.size + 1 + 1) (by omega) _, k1.other (B' := w.heap.size + 1 + 1) (by omega) _⟩, hB.trans hKp⟩
    case done =>
      rintro D ys W hD hys ⟨⟨⟨v, hv, hrow, hgot⟩, hb0, hb1⟩, hB⟩ hK
      rw [hys] at hgot
      obtain ⟨A, cp, rfl⟩ : ∃ A cp, v = .slice A (gotL ys).length cp := by
        rcases hrow.2 with ⟨rfl, h0⟩ | ⟨g, cap, cur, rfl, _⟩
        · exact ⟨none, 0, by rw [h0]⟩
        · exact ⟨_, _, rfl⟩
      have c0 := hb0.cell; have f0 := hb0.frozen; have z0 := hb0.lt; have c1 := hb1.cell; have f1 := hb1.frozen; have z1 := hb1.lt; have c2 := hv.cell
      by_cases h64 : 64 < (gotL ys).length
      · have HR := Lib.hid (P1.out _ hgot h64); clear hgot
        obtain ⟨s0, s1, sk⟩ := two_set hb0 hb1 (by omega) (.slice none 0 0) (.int .i64 3)
        have hK' := sk.same D _ hK rfl
        have r0 := box_put s0 hK'
        have r1 := box_put s1 hK'
        gi_wp2
        refine ⟨by simp, .inl ⟨_, _, rfl, run_takeDeferred hK', ?_⟩⟩
        refine ⟨.tuple #[.slice none 0 0, .int .i64 3], ?_, .slice none 0 0, by rw [HR.out.1], by rw [HR.out.2]; exact PRow.nil _ _, ?_⟩
        · simp [results, Try.results25, go_sem, r0, r1]
        · exact ((hB.setCell (p := ⟨w.heap.size, 0, none⟩) (Nat.le_refl _) _).setCell (p := ⟨w.heap.size + 1, 0, none⟩) (by simp) _).trans (belowK_b (w := w) (Nat.le_refl _) _ D _ _ (by simp at hD; omega) hK' rfl rfl)
      · have HR := Lib.hid (P2.out _ hgot (by omega)); clear hgot
        obtain ⟨s0, s1, sk⟩ := two_set hb0 hb1 (by omega) (.slice A (gotL ys).length cp) (.int .i64 0)
        have hK' := sk.same D _ hK rfl
        have r0 := box_put s0 hK'
        have r1 := box_put s1 hK'
        gi_wp2
        refine ⟨by simp, .inl ⟨_, _, rfl, run_takeDeferred hK', ?_⟩⟩
        refine ⟨.tuple #[.slice A (gotL ys).length cp, .int .i64 0], ?_, .slice A (gotL ys).length cp, by rw [HR.out.1], ?_, ?_⟩
        · simp [results, Try.results25, go_sem, r0, r1]
        · rw [HR.out.2]
          have q0 := hrow.kept (grownBy_setCell' W w.heap.size (.slice A (gotL ys).length cp)) (.inr (hb0.not_row (by decide) hrow).symm)
          have q1 := q0.kept (grownBy_setCell' _ (w.heap.size + 1) (.int .i64 0)) (.inr ((hb1.other (B' := w.heap.size) (by omega) _).not_row (by decide) q0).symm)
          exact ownsRow_putObj q1 _ hK' rfl
        · exact ((hB.setCell (p := ⟨w.heap.size, 0, none⟩) (Nat.le_refl _) _).setCell (p := ⟨w.heap.size + 1, 0, none⟩) (by simp) _).trans (belowK_b (w := w) (Nat.le_refl _) _ D _ _ (by simp at hD; omega) hK' rfl rfl)
    case stop =>
      rintro D c pre W hD hpre ⟨⟨⟨rfl, hbad⟩, hb0, hb1⟩, hB⟩ hK
      have hnone : pairsL (partsL s.data.toList) = none := by
        obtain ⟨r, hr⟩ := hpre
        rw [← hr]; exact pairsL_app_none hbad r
      have HR := Lib.hid (P0.out hnone); clear hnone hbad
      have r0 := box_put hb0 hK
      have r1 := box_put hb1 hK
      gi_wp2
      refine ⟨by simp, .inl ⟨_, _, rfl, run_takeDeferred hK, ?_⟩⟩
      refine ⟨.tuple #[.slice none 0 0, .int .i64 2], ?_, .slice none 0 0, by rw [HR.out.1], by rw [HR.out.2]; exact PRow.nil _ _, ?_⟩
      · simp [results, Try.results25, go_sem, r0, r1]
      · exact hB.trans (belowK_b (w := w) (Nat.le_refl _) W D _ _ (by simp at hD; omega) hK rfl rfl)

theorem parse_any (s : ByteArray) (w : World) :
    Calls Try.prog 25 #[.string s] w fun e w' => ∃ v, e = .returned (.tuple #[v, .int .i64 (parseE s.data.toList)]) ∧ PRow w' w.heap.size v (parseP s.data.toList) ∧ Below w.heap.size w w' :=
  (callsIn_wide (n := 4)).1 (parse_in 4 (by omega) s w)
end Go.Proofs.Ythinbheplcameaa
