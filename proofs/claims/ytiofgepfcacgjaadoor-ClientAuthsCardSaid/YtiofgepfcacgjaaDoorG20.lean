/- Texts merged by program, in build order: CliIs, LaidCli. -/
import Derived.Test.YtiofgepfcacgjaaDoorG16
import Derived.Test.YtiofgepfcacgjaaDoorG19
import Derived.Test.YtiofgepfcacgjaaDoorG12
set_option linter.unusedVariables false
set_option linter.unusedSimpArgs false
namespace Go.Proofs.YtiofgepfcacgjaaDoor
open Go.RowKit Go.Shelf
set_option linter.unusedVariables false
set_option linter.unusedSimpArgs false

def bsT (l : List (List UInt8)) : List ByteArray := l.map fun t => ⟨t.toArray⟩
theorem bsT_len (l : List (List UInt8)) : (bsT l).length = l.length := by simp [bsT]
theorem bsT_getD (l : List (List UInt8)) (j : Nat) (h : j < l.length) : (bsT l).getD j ByteArray.empty = ⟨l[j].toArray⟩ := by
  unfold bsT List.getD
  rw [List.getElem?_map, List.getElem?_eq_getElem h]; rfl
theorem own_lower {w : World} {B B' size n : Nat} {e : TypeId} {v : Value} {xs : List Value} (h : w.ownsRow B e size v n xs) (hB : B' ≤ B) : w.ownsRow B' e size v n xs := by
  refine ⟨h.1, ?_⟩
  rcases h.2 with h' | ⟨g, cap, cur, hv, hg, r⟩
  · exact .inl h'
  · exact .inr ⟨g, cap, cur, hv, Nat.le_trans hB hg, r⟩
theorem zero_texts {w : World} {A : Option Addr} {c : Nat} {l : List (List UInt8)} (h : RdT w (.slice A l.length c) l) : l = [] ∨ ∃ b o, A = some ⟨b, o, none⟩ ∧ b < w.heap.size ∧ ∀ k (hk : k < l.length), w.cell? ⟨b, o + k, none⟩ = some (tv l[k]) := by
  cases l with
  | nil => exact .inl rfl
  | cons x r =>
    obtain ⟨b, o, rfl, hb, _⟩ := h.at 0 (by simp)
    refine .inr ⟨b, o, rfl, hb, fun k hk => ?_⟩
    obtain ⟨b', o', e, _, hc⟩ := h.at k hk
    injection e with e; injection e with e1 e2
    subst e1; subst e2
    exact hc
theorem cloneT_any (A : Option Addr) (c : Nat) (l : List (List UInt8)) (w : World) (hl : l.length * 16 ≤ 140737488355328) (h : RdT w (.slice A l.length c) l) :
    Calls Tryd.prog 35 #[.slice A l.length c] w fun e w' => (∃ u, e = .returned u ∧ TRow w' w.heap.size u l ∧ (A = none → u = .slice none 0 0)) ∧ Below w.heap.size w w' := by
  rcases zero_texts h with rfl | ⟨b, o, rfl, hb, hc⟩
  · cases A with
    | none => exact (Tryd.slices_Clone_string_nil 0 c w).mono fun e w' ⟨he, hw⟩ => by subst hw; exact ⟨⟨_, he, ⟨by simp [tcells], .inl ⟨rfl, rfl⟩⟩, fun _ => rfl⟩, Below.refl _ _⟩
    | some a =>
      refine (Tryd.slices_Clone_string_zero a c w).mono fun e w' ⟨v', he, hr, hn, hb⟩ => ?_
      exact ⟨⟨v', he, hr, fun h => by cases h⟩, hb⟩
  · refine (Tryd.slices_Clone_string b o l.length c (bsT l) w (by rw [bsT_len]; exact Nat.le_refl _) (by omega) (fun j hj => ?_)).mono fun e w' ⟨v', he, hr, hn, hb⟩ => ?_
    · rw [bsT_len] at hj
      rw [bsT_getD l j hj]
      exact hc j hj
    · refine ⟨⟨v', he, ?_, fun h => by cases h⟩, hb⟩
      have : ((bsT l).take l.length).map Value.string = tcells l := by
        rw [List.take_of_length_le (by rw [bsT_len]; exact Nat.le_refl _)]
        unfold bsT tcells tv
        rw [List.map_map]; rfl
      unfold TRow
      rw [← this]; exact hr
theorem hasT_any (A : Option Addr) (c : Nat) (l : List (List UInt8)) (s : List UInt8) (w : World) (hl : l.length * 16 ≤ 140737488355328) (h : RdT w (.slice A l.length c) l) :
    Calls Tryd.prog 38 #[.slice A l.length c, .string ⟨s.toArray⟩] w fun e w' => e = .returned (.bool (l.any (fun y => decide (y = s)))) ∧ Below w.heap.size w w' := by
  obtain ⟨S, hS⟩ : ∃ B : ByteArray, (⟨s.toArray⟩ : ByteArray) = B := ⟨_, rfl⟩
  have hi : Calls Tryd.prog 59 #[.slice A l.length c, .string S] w fun e w' => (∃ i, e = .returned (.int .i64 i) ∧ decide (0 ≤ i) = l.any (fun y => decide (y = s))) ∧ w = w' := by
    have hidx : decide (0 ≤ Lib.idxOfS ((bsT l).take l.length) S) = l.any (fun y => decide (y = s)) := by
      rw [List.take_of_length_le (by rw [bsT_len]; exact Nat.le_refl _), Bool.eq_iff_iff, decide_eq_true_eq, Lib.idxOfS_nonneg_iff, List.any_eq_true]
      unfold bsT
      rw [List.mem_map, ← hS]
      constructor
      · rintro ⟨x, hx, e⟩
        exact ⟨x, hx, by injection e with e; simpa using e⟩
      · rintro ⟨x, hx, e⟩
        exact ⟨x, hx, by rw [of_decide_eq_true e]⟩
    rcases zero_texts h with rfl | ⟨b, o, rfl, hb, hc⟩
    · exact (Tryd.slices_Index_string_empty A c S w).mono fun e w' ⟨he, hw⟩ => ⟨⟨_, he, hidx⟩, hw.symm⟩
    · refine (Tryd.slices_Index_string b o l.length c (bsT l) S w (by rw [bsT_len]; exact Nat.le_refl _) (by omega) (fun j hj => ?_)).mono fun e w' ⟨he, hw⟩ => ⟨⟨_, he, hidx⟩, hw.symm⟩
      rw [bsT_len] at hj
      rw [bsT_getD l j hj]
      exact hc j hj
  rw [hS]
  obtain ⟨R, hR⟩ : ∃ R, l.any (fun y => decide (y = s)) = R := ⟨_, rfl⟩
  rw [hR] at hi ⊢
  have HI := Lib.hid hi
  clear hi hR hS h hl
  generalize l.length = n at *
  go_enter Tryd.func38, Tryd.ntmps38
  go_wp2_with fail
  refine HI.out.mono ?_
  rintro e w1 ⟨⟨i, rfl, hd⟩, rfl⟩
  have HD := Lib.hid hd
  clear hd
  dsimp only
  go_wp2
  go_ret
  exact ⟨by rw [← HD.out]; rfl, Below.refl _ _⟩
set_option maxRecDepth 100000 in
theorem codeRedir (w0 : World) : CodeRedir w0 := fun w hb r A n c s hn hf h => by
  subst hn
  have hh := fun W (hb : Below w.heap.size w W) => hasT_any A c r.cReds s W hf.2.2.1 (h.below hb)
  unfold redirP
  obtain ⟨R, hR⟩ : ∃ R, r.cReds.any (fun y => decide (y = s)) = R := ⟨_, rfl⟩
  obtain ⟨n, hn⟩ : ∃ n, r.cReds.length = n := ⟨_, rfl⟩
  simp only [hR, hn] at hh
  rw [hR, hn]
  have HH := Lib.hid hh
  clear hh hR h hb hf hn
  unfold tv
  have b1 : Below w.heap.size w (w.alloc (.cells #[.string ⟨r.cID.toArray⟩, .string ⟨r.cSecret.toArray⟩, .slice A n c] 32)) := (Below.refl _ _).alloc (Nat.le_refl _) _
  have B1 := Lib.hid b1
  clear b1
  go_enter Tryd.func18, Tryd.ntmps18
  go_wp2_with fail
  refine (HH.out _ B1.out).mono ?_
  rintro e w1 ⟨rfl, hb1⟩
  have B2 := Lib.hid (B1.out.chain hb1)
  clear hb1
  dsimp only
  go_wp2
  go_ret
  exact ⟨rfl, B2.out⟩
set_option maxRecDepth 100000 in
set_option maxHeartbeats 4000000 in
theorem codeConn (w0 : World) : CodeConn w0 := fun w hb0 x A n c A' n' c' id h hf h20 => by
  obtain ⟨hn, hn', hc, hcn⟩ := h
  subst hn'
  have hfi := fun W (hb : Below w.heap.size w W) => connFirst_any A' c' x.gConns id (by omega) w W hb hcn
  obtain ⟨IS, hIS⟩ : ∃ z : ByteArray, (⟨x.gIssuer.toArray⟩ : ByteArray) = z := ⟨_, rfl⟩
  obtain ⟨KI, hKI⟩ : ∃ z : ByteArray, (⟨x.gKeyID.toArray⟩ : ByteArray) = z := ⟨_, rfl⟩
  obtain ⟨KS, hKS⟩ : ∃ z : ByteArray, (⟨x.gKeySecret.toArray⟩ : ByteArray) = z := ⟨_, rfl⟩
  obtain ⟨b, hb⟩ : ∃ b, w.heap.size = b := ⟨_, rfl⟩
  obtain ⟨m, hm⟩ : ∃ m, x.gConns.length = m := ⟨_, rfl⟩
  have hv : x.val A n c A' x.gConns.length c' = .agg #[.string IS, .string KI, .string KS, .slice A n c, .slice A' m c'] := by unfold CfgP.val tv; rw [hIS, hKI, hKS, hm]
  rw [hv]
  unfold tv
  obtain ⟨W2, hW2⟩ : ∃ W2, W2 = (w.alloc (.cells #[.string IS, .string KI, .string KS, .slice A n c, .slice A' m c'] 27)).alloc (.cells #[.string ⟨#[]⟩, .string ⟨#[]⟩, .string ⟨#[]⟩, .string ⟨#[]⟩, .string ⟨#[]⟩, .bool false, .string ⟨#[]⟩] 36) := ⟨_, rfl⟩
  have b2 : Below w.heap.size w W2 := by rw [hW2]; exact ((Below.refl _ _).alloc (Nat.le_refl _) _).alloc (by simp) _
  have x1 : W2.heap[b]? = some (.cells #[.string IS, .string KI, .string KS, .slice A n c, .slice A' m c'] 27 (0, 0)) := by rw [hW2, ← hb]; exact alloc_block (heap_alloc_last w _)
  have x2 : W2.heap[b + 1]? = some (.cells #[.string ⟨#[]⟩, .string ⟨#[]⟩, .string ⟨#[]⟩, .string ⟨#[]⟩, .string ⟨#[]⟩, .bool false, .string ⟨#[]⟩] 36 (0, 0)) := by rw [hW2]; exact fresh_at _ (by simp [hb])
  obtain ⟨⟨e0, e1, e2, e3, e4⟩, -⟩ := cellsK5_of x1
  have hf2 := (hfi W2 b2).mono (fun e w' (h : FirstN w x.gConns id e ∧ _) => show (∃ V0 V1 V2 V3 V4 bb V6 boo, e = .returned (.tuple #[.agg #[.string V0, .string V1, .string V2, .string V3, .string V4, .bool bb, .string V6], .bool boo]) ∧ CnnOwn x.gConns id e) ∧ Below W2.heap.size W2 w' from by
    obtain ⟨h, hb⟩ := h
    refine ⟨?_, hb⟩
    rcases h with ⟨r, h1, _, rfl⟩ | ⟨h1, rfl⟩
    · exact ⟨_, _, _, _, _, _, _, _, rfl, by unfold CnnOwn; rw [h1]⟩
    · exact ⟨_, _, _, _, _, _, _, _, rfl, by unfold CnnOwn; rw [h1]⟩)
  rw [hm] at hf2
  have HF := Lib.hid hf2; have HW := Lib.hid hW2; have B2 := Lib.hid b2; have X2 := Lib.hid x2; have HB := Lib.hid hb
  clear hf2 hW2 b2 x1 x2 hfi hc hcn hIS hKI hKS hv hb0 hf h20 hm hn
  go_enter Tryd.func14, Tryd.ntmps14
  go_upto_region 1 with fail
  rw [← HW.out]
  go_wp2_with fail
  refine HF.out.mono ?_
  rintro e w1 ⟨⟨V0, V1, V2, V3, V4, bb, V6, boo, rfl, hs⟩, hb1⟩
  have HS := Lib.hid hs
  have k2 := blk_below X2.out hb1
  have K2 := Lib.hid k2; have HB1 := Lib.hid hb1
  obtain ⟨⟨p0, p1, p2, p3, p4, p5, p6⟩, ⟨q0, q1, q2, q3, q4, q5, q6⟩⟩ := cellsK7_of k2
  clear hb1 k2 hs e0 e1 e2 e3 e4
  dsimp only
  go_wp2_with fail
  obtain ⟨wf, hwf⟩ : ∃ wf, wf = setK7 w1 (b + 1) (.string V0) (.string V1) (.string V2) (.string V3) (.string V4) (.bool bb) (.string V6) := ⟨_, rfl⟩
  change bodyPost _ _ _ _ _ (setK7 w1 (b + 1) (.string V0) (.string V1) (.string V2) (.string V3) (.string V4) (.bool bb) (.string V6))
  rw [← hwf]
  have hy : wf.heap[b + 1]? = some (.cells #[.string V0, .string V1, .string V2, .string V3, .string V4, .bool bb, .string V6] 36 (0, 0)) := by rw [hwf]; exact setK7_here K2.out
  have hbf : Below w.heap.size W2 wf := by rw [hwf]; exact setK7_below (HB1.out.mono B2.out.size) (by have := HB.out; omega) _ _ _ _ _ _ _
  obtain ⟨⟨y0, y1, y2, y3, y4, y5, y6⟩, -⟩ := cellsK7_of hy
  have HBF := Lib.hid (B2.out.trans hbf)
  clear hwf hy hbf p0 p1 p2 p3 p4 p5 p6 q0 q1 q2 q3 q4 q5 q6
  refine bodyPost_ret (v := .tuple #[.agg #[.string V0, .string V1, .string V2, .string V3, .string V4, .bool bb, .string V6], .bool boo]) (by simp [results, Tryd.results14, go_sem, y0, y1, y2, y3, y4, y5, y6]) rfl ⟨?_, HBF.out⟩
  exact HS.out
set_option maxRecDepth 100000 in
set_option maxHeartbeats 4000000 in
theorem codeClient (w0 : World) : CodeClient w0 := fun w hb0 x A n c A' n' c' id h hf h20 => by
  obtain ⟨hn, hn', hc, hcn⟩ := h
  subst hn
  have hfi := fun W (hb : Below w.heap.size w W) => clientFirst_any A c x.gClients id (by omega) w W hb hc
  obtain ⟨IS, hIS⟩ : ∃ z : ByteArray, (⟨x.gIssuer.toArray⟩ : ByteArray) = z := ⟨_, rfl⟩
  obtain ⟨KI, hKI⟩ : ∃ z : ByteArray, (⟨x.gKeyID.toArray⟩ : ByteArray) = z := ⟨_, rfl⟩
  obtain ⟨KS, hKS⟩ : ∃ z : ByteArray, (⟨x.gKeySecret.toArray⟩ : ByteArray) = z := ⟨_, rfl⟩
  obtain ⟨b, hb⟩ : ∃ b, w.heap.size = b := ⟨_, rfl⟩
  obtain ⟨m, hm⟩ : ∃ m, x.gClients.length = m := ⟨_, rfl⟩
  have hv : x.val A x.gClients.length c A' n' c' = .agg #[.string IS, .string KI, .string KS, .slice A m c, .slice A' n' c'] := by unfold CfgP.val tv; rw [hIS, hKI, hKS, hm]
  rw [hv]
  unfold tv
  obtain ⟨W2, hW2⟩ : ∃ W2, W2 = (w.alloc (.cells #[.string IS, .string KI, .string KS, .slice A m c, .slice A' n' c'] 27)).alloc (.cells #[.string ⟨#[]⟩, .string ⟨#[]⟩, .slice none 0 0] 32) := ⟨_, rfl⟩
  have b2 : Below w.heap.size w W2 := by rw [hW2]; exact ((Below.refl _ _).alloc (Nat.le_refl _) _).alloc (by simp) _
  have z2 : W2.heap.size = b + 2 := by rw [hW2]; simp [hb]
  have x1 : W2.heap[b]? = some (.cells #[.string IS, .string KI, .string KS, .slice A m c, .slice A' n' c'] 27 (0, 0)) := by rw [hW2, ← hb]; exact alloc_block (heap_alloc_last w _)
  have x2 : W2.heap[b + 1]? = some (.cells #[.string ⟨#[]⟩, .string ⟨#[]⟩, .slice none 0 0] 32 (0, 0)) := by rw [hW2]; exact fresh_at _ (by simp [hb])
  obtain ⟨⟨e0, e1, e2, e3, e4⟩, -⟩ := cellsK5_of x1
  have hf2 := (hfi W2 b2).mono (fun e w' (h : FirstC w x.gClients id e ∧ _) => show (∃ V0 V1 UA un uc boo reds, e = .returned (.tuple #[.agg #[.string V0, .string V1, .slice UA un uc], .bool boo]) ∧ (un = reds.length ∧ reds.length * 16 ≤ 140737488355328 ∧ RdT w (.slice UA un uc) reds ∧ ∀ (W : World) (v : Value), TRow W w.heap.size v reds → (UA = none → v = .slice none 0 0) → CliOwn w.heap.size x.gClients id (.returned (.tuple #[.agg #[.string V0, .string V1, v], .bool boo])) W)) ∧ Below W2.heap.size W2 w' from by
    obtain ⟨h, hb⟩ := h
    refine ⟨?_, hb⟩
    rcases h with ⟨r, u, h1, hrm, rfl, hu⟩ | ⟨h1, rfl⟩
    · obtain ⟨UA, uc, rfl⟩ := rdt_form hu
      refine ⟨_, _, _, _, _, _, r.cReds, rfl, rfl, (hf.2.2.2.2.1 r hrm).2.2.1, hu, fun W v hv _ => ?_⟩
      unfold CliOwn
      rw [h1]
      exact ⟨_, rfl, hv⟩
    · refine ⟨_, _, _, _, _, _, [], rfl, rfl, by simp, ⟨none, 0, rfl, Nat.le_refl _, fun k x hk => by cases hk⟩, fun W v hv e => ?_⟩
      unfold CliOwn
      rw [h1, e rfl])
  rw [hm] at hf2
  have HF := Lib.hid hf2; have HW := Lib.hid hW2; have B2 := Lib.hid b2; have X2 := Lib.hid x2; have HB := Lib.hid hb; have Z2 := Lib.hid z2
  clear hf2 hW2 b2 x1 x2 hfi hc hcn hIS hKI hKS hv hb0 hf h20 hm hn' z2
  go_enter Tryd.func12, Tryd.ntmps12
  go_upto_region 1 with fail
  rw [← HW.out]
  go_wp2_with fail
  refine HF.out.mono ?_
  rintro e w1 ⟨⟨V0, V1, UA, un, uc, boo, reds, rfl, hul, hu16, hu, hs⟩, hb1⟩
  have HS := Lib.hid hs; have HUL := Lib.hid hul; have HU16 := Lib.hid hu16
  have z1 : b + 2 ≤ w1.heap.size := by have := hb1.size; have := Z2.out; omega
  have hu1 : Hid (RdT w1 (.slice UA un uc) reds) := Lib.hid (hu.below (B2.out.trans (hb1.mono B2.out.size)))
  have K2 := Lib.hid (blk_below X2.out hb1); have HB1 := Lib.hid hb1
  clear hb1 hs hul hu16 hu e0 e1 e2 e3 e4
  obtain ⟨W3, hW3⟩ : ∃ W3, W3 = w1.alloc (.cells #[.string V0, .string V1, .slice UA un uc] 32) := ⟨_, rfl⟩
  have x3 : W3.heap[w1.heap.size]? = some (.cells #[.string V0, .string V1, .slice UA un uc] 32 (0, 0)) := by rw [hW3]; exact heap_alloc_last w1 _
  have b3 : Below w1.heap.size w1 W3 := by rw [hW3]; exact (Below.refl _ _).alloc (Nat.le_refl _) _
  have z3 : W3.heap.size = w1.heap.size + 1 := by rw [hW3]; simp
  have k23 := blk_below K2.out b3
  have hcl := cloneT_any UA uc reds W3 HU16.out (by have := hu1.out.below b3; rwa [HUL.out] at this)
  rw [← HUL.out] at hcl
  have HCL := Lib.hid hcl; have HW3 := Lib.hid hW3; have X3 := Lib.hid x3; have B3 := Lib.hid b3; have K23 := Lib.hid k23; have Z3 := Lib.hid z3
  clear hcl hW3 b3 k23 z3
  dsimp only
  go_upto_region 2 with fail
  rw [← HW3.out]
  obtain ⟨⟨e0, e1, e2⟩, -⟩ := cellsK3_of x3
  go_wp2_with fail
  refine HCL.out.mono ?_
  rintro e w4 ⟨⟨v, rfl, hv, hvn⟩, hb4⟩
  obtain ⟨RA, rc, rfl⟩ := own_formR hv
  have HVN := Lib.hid hvn
  clear hvn
  have k4 := blk_below X3.out hb4
  have k24 := blk_below K23.out hb4
  have z4 := hb4.size
  have z33 := Z3.out
  clear e0 e1 e2 x3
  obtain ⟨⟨e0, e1, e2⟩, ⟨f0, f1, f2⟩⟩ := cellsK3_of k4
  obtain ⟨w5, hw5⟩ : ∃ w5, w5 = w4.setCell ⟨w1.heap.size, 2, none⟩ (.slice RA reds.length rc) := ⟨_, rfl⟩
  have k5 : w5.heap[w1.heap.size]? = some (.cells #[.string V0, .string V1, .slice RA reds.length rc] 32 (0, 0)) := by rw [hw5]; have := set_here (o := 2) k4 (.slice RA reds.length rc); simpa using this
  have k25 : w5.heap[b + 1]? = some (.cells #[.string ⟨#[]⟩, .string ⟨#[]⟩, .slice none 0 0] 32 (0, 0)) := by rw [hw5]; exact (set_there _ (by omega)).trans k24
  have b5 : Below w.heap.size w w5 := by rw [hw5]; exact (((B2.out.trans (HB1.out.mono B2.out.size)).trans (B3.out.mono (by have := HB.out; omega))).trans (hb4.mono (by have := HB.out; omega))).setCell (p := ⟨w1.heap.size, 2, none⟩) (by show w.heap.size ≤ w1.heap.size; have := HB.out; omega) _
  have hv5 : w5.ownsRow w.heap.size 9 1 (.slice RA reds.length rc) reds.length (tcells reds) := own_lower (own_kept hv fun g hg => by rw [hw5]; exact set_there _ (by have := (hv.lt g hg).1; omega)) (by have := HB.out; omega)
  have hvb : ∀ g, (Value.slice RA reds.length rc).ownBlock = some g → W3.heap.size ≤ g := fun g hg => (hv.lt g hg).1
  have HV5 := Lib.hid hv5; have HVB := Lib.hid hvb; have B5 := Lib.hid b5; have K25 := Lib.hid k25; have K5 := Lib.hid k5; have HW5 := Lib.hid hw5
  obtain ⟨nr, hnr⟩ : ∃ z, reds.length = z := ⟨_, rfl⟩
  have HNR := Lib.hid hnr
  clear k4 k24 k25 b5 hv5 hvb hb4 hv
  dsimp only
  rw [hnr]
  rw [hnr] at hw5 k5
  go_upto_region 3 with fail
  try rw [← hw5]
  have HW6 := Lib.hid hw5
  clear hw5
  clear e0 e1 e2 f0 f1 f2
  obtain ⟨⟨e0, e1, e2⟩, ⟨f0, f1, f2⟩⟩ := cellsK3_of k5
  obtain ⟨⟨p0, p1, p2⟩, ⟨q0, q1, q2⟩⟩ := cellsK3_of K25.out
  clear k5
  go_wp2_with fail
  obtain ⟨wf, hwf⟩ : ∃ wf, wf = setK3 w5 (b + 1) (.string V0) (.string V1) (.slice RA nr rc) := ⟨_, rfl⟩
  change bodyPost _ _ _ _ _ (setK3 w5 (b + 1) (.string V0) (.string V1) (.slice RA nr rc))
  rw [← hwf]
  have hy : wf.heap[b + 1]? = some (.cells #[.string V0, .string V1, .slice RA nr rc] 32 (0, 0)) := by rw [hwf]; exact setK3_here K25.out
  have hbf : Below w.heap.size w wf := by rw [hwf]; exact setK3_below B5.out (by have := HB.out; omega) _ _ _
  have hvf : TRow wf w.heap.size (.slice RA nr rc) reds := by
    unfold TRow
    rw [← HNR.out]
    refine own_kept HV5.out fun g hg => ?_
    have hg1 := HVB.out g hg
    rw [hwf]
    unfold setK3
    exact (set_there _ (by omega)).trans ((set_there _ (by omega)).trans (set_there _ (by omega)))
  obtain ⟨⟨y0, y1, y2⟩, -⟩ := cellsK3_of hy
  have HBF := Lib.hid hbf; have HVF := Lib.hid hvf
  clear hwf hy hbf hvf p0 p1 p2 q0 q1 q2 e0 e1 e2 f0 f1 f2
  refine bodyPost_ret (v := .tuple #[.agg #[.string V0, .string V1, .slice RA nr rc], .bool boo]) (by simp [results, Tryd.results12, go_sem, y0, y1, y2]) rfl ⟨?_, HBF.out⟩
  exact HS.out wf _ HVF.out (fun e => by have := HVN.out e; rwa [HNR.out] at this)
set_option maxRecDepth 100000 in
set_option maxHeartbeats 4000000 in
theorem cliAuth (w : World) (x : CfgP) (A : Option Addr) (n c : Nat) (A' : Option Addr) (n' c' : Nat) (id sec : List UInt8) (h : CfgIs w x A n c A' n' c') (hf : x.fit) (h20 : x.gClients.length ≤ 20) (hsec : sec.length ≤ 100000000000000000) :
    Calls Tryd.prog 16 #[x.val A n c A' n' c', tv id, tv sec] w fun e w' => e = .returned (.bool (authP x id sec)) ∧ Below w.heap.size w w' := by
  obtain ⟨hn, hn', hc, hcn⟩ := h
  subst hn
  have hfi := fun W (hb : Below w.heap.size w W) => clientFirst_any A c x.gClients id (by omega) w W hb hc
  obtain ⟨IS, hIS⟩ : ∃ z : ByteArray, (⟨x.gIssuer.toArray⟩ : ByteArray) = z := ⟨_, rfl⟩
  obtain ⟨KI, hKI⟩ : ∃ z : ByteArray, (⟨x.gKeyID.toArray⟩ : ByteArray) = z := ⟨_, rfl⟩
  obtain ⟨KS, hKS⟩ : ∃ z : ByteArray, (⟨x.gKeySecret.toArray⟩ : ByteArray) = z := ⟨_, rfl⟩
  obtain ⟨SB, hSB⟩ : ∃ z : ByteArray, (⟨sec.toArray⟩ : ByteArray) = z := ⟨_, rfl⟩
  have hSs : SB.size ≤ maxLen := by rw [← hSB, ba_size]; unfold maxLen; omega
  obtain ⟨b, hb⟩ : ∃ b, w.heap.size = b := ⟨_, rfl⟩
  obtain ⟨m, hm⟩ : ∃ m, x.gClients.length = m := ⟨_, rfl⟩
  have hv : x.val A x.gClients.length c A' n' c' = .agg #[.string IS, .string KI, .string KS, .slice A m c, .slice A' n' c'] := by unfold CfgP.val tv; rw [hIS, hKI, hKS, hm]
  rw [hv]
  unfold tv
  rw [hSB]
  obtain ⟨W2, hW2⟩ : ∃ W2, W2 = w.alloc (.cells #[.string IS, .string KI, .string KS, .slice A m c, .slice A' n' c'] 27) := ⟨_, rfl⟩
  have b2 : Below w.heap.size w W2 := by rw [hW2]; exact (Below.refl _ _).alloc (Nat.le_refl _) _
  have x1 : W2.heap[b]? = some (.cells #[.string IS, .string KI, .string KS, .slice A m c, .slice A' n' c'] 27 (0, 0)) := by rw [hW2, ← hb]; exact heap_alloc_last w _
  obtain ⟨⟨e0, e1, e2, e3, e4⟩, -⟩ := cellsK5_of x1
  obtain ⟨R, hR⟩ : ∃ R, authP x id sec = R := ⟨_, rfl⟩
  rw [hR]
  have hf2 := (hfi W2 b2).mono (fun e w' (h : FirstC w x.gClients id e ∧ _) => show (∃ V0 V1 UA un uc boo, e = .returned (.tuple #[.agg #[.string V0, .string V1, .slice UA un uc], .bool boo]) ∧ V1.size ≤ maxLen ∧ (boo = false → R = false) ∧ (boo = true → V1 = ⟨#[]⟩ → R = false) ∧ (boo = true → V1 ≠ ⟨#[]⟩ → R = eqB SB V1)) ∧ Below W2.heap.size W2 w' from by
    obtain ⟨h, hb⟩ := h
    refine ⟨?_, hb⟩
    unfold authP at hR
    rcases h with ⟨r, u, h1, hrm, rfl, hu⟩ | ⟨h1, rfl⟩
    · obtain ⟨UA, uc, rfl⟩ := rdt_form hu
      rw [h1] at hR
      dsimp only at hR
      refine ⟨_, _, _, _, _, _, rfl, ?_, (fun e => by cases e), (fun _ e => ?_), fun _ e => ?_⟩
      · rw [ba_size]; have := (hf.2.2.2.2.1 r hrm).2.1; exact Nat.le_trans this (by decide)
      · have e2 : r.cSecret = [] := by simpa using congrArg (fun z : ByteArray => z.data.toList) e
        rw [← hR, e2]; simp
      · have e2 : r.cSecret ≠ [] := fun e3 => e (by rw [e3])
        rw [← hR, ← hSB]
        unfold eqB
        rw [Bool.eq_iff_iff]
        simp [e2, eq_comm]
    · rw [h1] at hR
      exact ⟨_, _, _, _, _, _, rfl, (by unfold maxLen; decide), (fun _ => hR.symm), (fun e => by cases e), (fun e => by cases e)⟩)
  rw [hm] at hf2
  have HF := Lib.hid hf2; have HW := Lib.hid hW2; have B2 := Lib.hid b2; have HB := Lib.hid hb; have HSS := Lib.hid hSs
  clear hf2 hW2 b2 x1 hfi hc hcn hIS hKI hKS hv hf h20 hm hn' hR hSs hSB
  go_enter Tryd.func16, Tryd.ntmps16
  go_upto_region 1 with fail
  rw [← HW.out]
  go_wp2_with fail
  refine HF.out.mono ?_
  rintro e w1 ⟨⟨V0, V1, UA, un, uc, boo, rfl, hz, g0, g1, g2⟩, hb1⟩
  have HZ := Lib.hid hz; have G0 := Lib.hid g0; have G1 := Lib.hid g1; have G2 := Lib.hid g2; have HB1 := Lib.hid (B2.out.chain hb1)
  clear hz g0 g1 g2 hb1 e0 e1 e2 e3 e4
  dsimp only
  cases boo with
  | false =>
    have h0 := G0.out rfl
    subst h0
    go_wp2
    go_ret
    exact ⟨rfl, by rw [← HB.out]; exact HB1.out.alloc HB1.out.size _⟩
  | true =>
    have x3 : (w1.alloc (.cells #[.string V0, .string V1, .slice UA un uc] 32)).heap[w1.heap.size]? = some (.cells #[.string V0, .string V1, .slice UA un uc] 32 (0, 0)) := heap_alloc_last w1 _
    obtain ⟨W3, hW3⟩ : ∃ W3, W3 = w1.alloc (.cells #[.string V0, .string V1, .slice UA un uc] 32) := ⟨_, rfl⟩
    rw [← hW3] at x3
    have HW3 := Lib.hid hW3
    have B3 : Hid (Below w.heap.size w W3) := Lib.hid (by rw [hW3]; exact HB1.out.alloc HB1.out.size _)
    clear hW3
    obtain ⟨⟨e0, e1, e2⟩, -⟩ := cellsK3_of x3
    clear x3
    by_cases hV : V1 = ⟨#[]⟩
    · have h0 := G1.out rfl hV
      subst h0
      subst hV
      go_upto_region 2 with fail
      rw [← HW3.out]
      go_wp2_with fail
      go_ret
      exact ⟨rfl, by rw [← HB.out]; exact B3.out⟩
    · have h0 := G2.out rfl hV
      have hne : ¬ V1.toList = [] := by
        intro e
        apply hV
        rw [ByteArray.toList_eq] at e
        obtain ⟨⟨d⟩⟩ := V1
        simp at e
        rw [e]
      have heq := equal_any SB V1 HSS.out HZ.out W3
      rw [← h0] at heq
      have HEQ := Lib.hid heq; have H0 := Lib.hid h0; have HVV := Lib.hid hV
      clear heq h0 hV
      go_upto_region 2 with fail
      rw [← HW3.out]
      go_wp2_with fail
      refine HEQ.out.mono ?_
      rintro e w4 ⟨rfl, rfl⟩
      have hne2 : V1.toList.isEmpty = false := by simpa using hne
      have HN2 := Lib.hid hne2
      clear hne hne2
      dsimp only
      go_wp2
      go_ret
      refine ⟨?_, B3.out⟩
      show Ending.returned (.bool (!V1.toList.isEmpty && R)) = _
      rw [HN2.out]; rfl
/-- whether all of a list are good -/
def atB {α : Type} (f : α → Bool) (l : List α) (k : Nat) : Bool := if h : k < l.length then f l[k] else false
theorem atB_at {α : Type} (f : α → Bool) (l : List α) (k : Nat) (h : k < l.length) : atB f l k = f l[k] := by unfold atB; rw [dif_pos h]
theorem upto_iff {α : Type} {good : α → Prop} {f : α → Bool} (hf : ∀ x, f x = true ↔ good x) (key : α → List UInt8) (l : List α) (tw : Nat → Bool) (ht : hitB l.length tw = false ↔ ∀ j (hj : j < l.length), ∀ k (hk : k < l.length), k < j → key l[k] ≠ key l[j]) :
    upto good key l l.length ↔ (!hitB l.length tw) = true ∧ allB l.length (atB f l) = true := by
  rw [Bool.not_eq_true', ht, allB_iff]
  constructor
  · intro h
    exact ⟨fun j hj k hk hkj => (h j hj hj).2 k hk hkj, fun k hk => by rw [atB_at f l k hk]; exact (hf _).2 (h k hk hk).1⟩
  · rintro ⟨h1, h2⟩ j hj _
    exact ⟨(hf _).1 (by have := h2 j hj; rwa [atB_at f l j hj] at this), fun k hk hkj => h1 j hj k hk hkj⟩
theorem goodC_iff (x : CfgP) : GoodC x ↔ x.gClients.length ≤ 8 ∧ x.gConns.length ≤ 8 ∧ issuerP x.gIssuer = true ∧ [x.gKeyID, x.gKeySecret].all shortP = true ∧ (!hitB x.gClients.length (clientTwin x.gClients)) = true ∧ allB x.gClients.length (atB cliB x.gClients) = true ∧ (!hitB x.gConns.length (connTwin x.gConns)) = true ∧ allB x.gConns.length (atB cnB x.gConns) = true := by
  unfold GoodC headP
  rw [upto_iff cliB_iff CliP.cID _ _ (clientTwin_iff _), upto_iff cnB_iff ConnP.fID _ _ (connTwin_iff _), issuer_iff _ (.inr trivial)]
  simp only [List.all_cons, List.all_nil, Bool.and_eq_true]
  constructor
  · rintro ⟨⟨h1, h2, h3, h4, h5, h6, h7, h8⟩, ⟨h9, h10⟩, h11, h12⟩
    exact ⟨h7, h8, ⟨h1, h2, h3, h4⟩, ⟨h5, h6, trivial⟩, h9, h10, h11, h12⟩
  · rintro ⟨h7, h8, ⟨h1, h2, h3, h4⟩, ⟨h5, h6, _⟩, h9, h10, h11, h12⟩
    exact ⟨⟨h1, h2, h3, h4, h5, h6, h7, h8⟩, ⟨h9, h10⟩, h11, h12⟩
set_option maxRecDepth 100000 in
set_option maxHeartbeats 8000000 in
theorem cliGood (w : World) (hv : Var0 w) (x : CfgP) (A : Option Addr) (n c : Nat) (A' : Option Addr) (n' c' : Nat) (h : CfgIs w x A n c A' n' c') (hf : x.fitS) :
    Calls Tryd.prog 10 #[x.val A n c A' n' c'] w fun e w' => GoodCfg x e ∧ Below w.heap.size w w' := by
  obtain ⟨hn, hn', hc, hcn⟩ := h
  subst hn
  subst hn'
  obtain ⟨⟨f1, f2, f3, f4, f5, f6, f7⟩, g1, g2, g3, g4, g5⟩ := hf
  have his := fun W (hv : Var0 W) => isIssuer_any x.gIssuer f1 W hv
  have hful := fun W A (h : RdT W (.slice A 2 2) [x.gKeyID, x.gKeySecret]) => full_any A 2 [x.gKeyID, x.gKeySecret] (by simp) (fun s hs => by simp at hs; rcases hs with rfl | rfl <;> assumption) W h
  have hu1 := fun W (hb : Below w.heap.size w W) => clientUnlike_any A c x.gClients (by omega) (fun r hr => (f5 r hr).1) W (hc.below hb)
  have hu2 := fun W (hb : Below w.heap.size w W) => connUnlike_any A' c' x.gConns (by omega) (fun r hr => (f7 r hr).1) W (hcn.below hb)
  have ha1 := fun W (hb : Below w.heap.size w W) => clientAll_any A c x.gClients (by omega) 25 (enters_of Tryd.func25 (by kernel_rfl) rfl) (atB cliB x.gClients) W (hc.below hb) (fun k hk W2 u hb2 hu => by
    rw [atB_at cliB x.gClients k hk]
    exact goodClient_any x.gClients[k] (f5 _ (List.getElem_mem hk)) u W2 ((hv.var.below hb).below hb2) hu)
  have ha2 := fun W (hb : Below w.heap.size w W) => connAll_any A' c' x.gConns (by omega) 29 (enters_of Tryd.func29 (by kernel_rfl) rfl) (atB cnB x.gConns) W (hcn.below hb) (fun k hk W2 hb2 => by
    rw [atB_at cnB x.gConns k hk]
    exact goodConn_any x.gConns[k] (f7 _ (List.getElem_mem hk)) (g5 k hk) W2 ((hv.var.below hb).below hb2))
  have hG := goodC_iff x
  obtain ⟨b, hb⟩ : ∃ b, w.heap.size = b := ⟨_, rfl⟩
  unfold CfgP.val tv
  obtain ⟨IS, hIS⟩ : ∃ z : ByteArray, (⟨x.gIssuer.toArray⟩ : ByteArray) = z := ⟨_, rfl⟩
  obtain ⟨KI, hKI⟩ : ∃ z : ByteArray, (⟨x.gKeyID.toArray⟩ : ByteArray) = z := ⟨_, rfl⟩
  obtain ⟨KS, hKS⟩ : ∃ z : ByteArray, (⟨x.gKeySecret.toArray⟩ : ByteArray) = z := ⟨_, rfl⟩
  have hC : tcells [x.gKeyID, x.gKeySecret] = [.string KI, .string KS] := by rw [← hKI, ← hKS]; rfl
  rw [hIS] at his ⊢
  rw [hKI, hKS]
  obtain ⟨W1, hW1⟩ : ∃ W1, W1 = w.alloc (.cells #[.string IS, .string KI, .string KS, .slice A x.gClients.length c, .slice A' x.gConns.length c'] 27) := ⟨_, rfl⟩
  have b1 : Below w.heap.size w W1 := by rw [hW1]; exact (Below.refl _ _).alloc (Nat.le_refl _) _
  have x1 : W1.heap[b]? = some (.cells #[.string IS, .string KI, .string KS, .slice A x.gClients.length c, .slice A' x.gConns.length c'] 27 (0, 0)) := by rw [hW1, ← hb]; exact heap_alloc_last w _
  obtain ⟨B1, h1⟩ : ∃ b, issuerP x.gIssuer = b := ⟨_, rfl⟩
  obtain ⟨B2, h2⟩ : ∃ b, [x.gKeyID, x.gKeySecret].all shortP = b := ⟨_, rfl⟩
  obtain ⟨B3, h3⟩ : ∃ b, (!hitB x.gClients.length (clientTwin x.gClients)) = b := ⟨_, rfl⟩
  obtain ⟨B4, h4⟩ : ∃ b, allB x.gClients.length (atB cliB x.gClients) = b := ⟨_, rfl⟩
  obtain ⟨B5, h5⟩ : ∃ b, (!hitB x.gConns.length (connTwin x.gConns)) = b := ⟨_, rfl⟩
  obtain ⟨B6, h6⟩ : ∃ b, allB x.gConns.length (atB cnB x.gConns) = b := ⟨_, rfl⟩
  rw [h1, h2, h3, h4, h5, h6] at hG
  rw [h1] at his
  rw [h2] at hful
  simp only [h3] at hu1
  simp only [h4] at ha1
  simp only [h5] at hu2
  simp only [h6] at ha2
  obtain ⟨n, hn⟩ : ∃ n, x.gClients.length = n := ⟨_, rfl⟩
  obtain ⟨m, hm⟩ : ∃ m, x.gConns.length = m := ⟨_, rfl⟩
  rw [hn, hm] at hG hW1 x1
  rw [hn] at f4 g2 ⊢
  rw [hm] at f6 g3 ⊢
  simp only [hn] at hu1 ha1
  simp only [hm] at hu2 ha2
  have v1 := hv.var.below b1
  have hcl : ∀ W, Below W1.heap.size W1 W → Var0 W ∧ Below w.heap.size w W ∧ W.heap[b]? = some (.cells #[.string IS, .string KI, .string KS, .slice A n c, .slice A' m c'] 27 (0, 0)) := fun W hb => ⟨VarIn.below v1 hb, b1.chain hb, blk_below x1 hb⟩
  obtain ⟨⟨e0, e1, e2, e3, e4⟩, -⟩ := cellsK5_of x1
  have HIS := Lib.hid his; have HF := Lib.hid hful; have HU1 := Lib.hid hu1; have HU2 := Lib.hid hu2; have HA1 := Lib.hid ha1; have HA2 := Lib.hid ha2; have HG := Lib.hid hG; have HC := Lib.hid hC; have HW := Lib.hid hW1; have HCL := Lib.hid hcl; have HB := Lib.hid hb
  clear his hful hu1 hu2 ha1 ha2 hG hC hW1 hcl b1 x1 v1 hv hc hcn h1 h2 h3 h4 h5 h6 f1 f2 f3 f5 f7 g1 g4 g5 hIS hKI hKS hn hm
  by_cases g1 : n ≤ 8
  rotate_left
  · have t1 : decide (8 < (n : Int)) = true := by simp; omega
    go_enter Tryd.func10, Tryd.ntmps10
    go_upto_region 1 with fail
    rw [← HW.out]
    go_wp2
    go_ret
    refine ⟨?_, (HCL.out _ (Below.refl W1.heap.size W1)).2.1⟩
    exact goodCfg_no (fun h => by have := HG.out.1 h; omega)
  have t1 : decide (8 < (n : Int)) = false := by simp; omega
  by_cases g2 : m ≤ 8
  rotate_left
  · have t2 : decide (8 < (m : Int)) = true := by simp; omega
    go_enter Tryd.func10, Tryd.ntmps10
    go_upto_region 1 with fail
    rw [← HW.out]
    go_wp2
    go_ret
    refine ⟨?_, (HCL.out _ (Below.refl W1.heap.size W1)).2.1⟩
    exact goodCfg_no (fun h => by have := HG.out.1 h; omega)
  have t2 : decide (8 < (m : Int)) = false := by simp; omega
  cases B1 with
  | false =>
    go_enter Tryd.func10, Tryd.ntmps10
    go_upto_region 1 with fail
    rw [← HW.out]
    go_wp2_with fail
    refine (HIS.out _ (HCL.out W1 (Below.refl W1.heap.size W1)).1).mono ?_
    rintro e w2 ⟨rfl, hb2⟩
    have Q2 := Lib.hid ((Below.refl W1.heap.size W1).chain hb2)
    clear hb2 e0 e1 e2 e3 e4
    obtain ⟨⟨e0, e1, e2, e3, e4⟩, -⟩ := cellsK5_of (HCL.out w2 Q2.out).2.2
    dsimp only
    go_wp2
    go_ret
    refine ⟨?_, (HCL.out _ (Q2.out)).2.1⟩
    exact goodCfg_no (fun h => by have := HG.out.1 h; simp at this)
  | true =>
    cases B2 with
    | false =>
      go_enter Tryd.func10, Tryd.ntmps10
      go_upto_region 1 with fail
      rw [← HW.out]
      go_wp2_with fail
      refine (HIS.out _ (HCL.out W1 (Below.refl W1.heap.size W1)).1).mono ?_
      rintro e w2 ⟨rfl, hb2⟩
      have Q2 := Lib.hid ((Below.refl W1.heap.size W1).chain hb2)
      clear hb2 e0 e1 e2 e3 e4
      obtain ⟨⟨e0, e1, e2, e3, e4⟩, -⟩ := cellsK5_of (HCL.out w2 Q2.out).2.2
      dsimp only
      go_wp2_with fail
      refine (HF.out _ _ (rdt_new (heap_alloc_last w2 _) (by rw [HC.out]))).mono ?_
      rintro e w3 ⟨rfl, hb3⟩
      have Q3 := Lib.hid (((Q2.out).alloc (Q2.out).size _).chain hb3)
      clear hb3 e0 e1 e2 e3 e4
      obtain ⟨⟨e0, e1, e2, e3, e4⟩, -⟩ := cellsK5_of (HCL.out w3 Q3.out).2.2
      dsimp only
      go_wp2
      go_ret
      refine ⟨?_, (HCL.out _ (Q3.out)).2.1⟩
      exact goodCfg_no (fun h => by have := HG.out.1 h; simp at this)
    | true =>
      cases B3 with
      | false =>
        go_enter Tryd.func10, Tryd.ntmps10
        go_upto_region 1 with fail
        rw [← HW.out]
        go_wp2_with fail
        refine (HIS.out _ (HCL.out W1 (Below.refl W1.heap.size W1)).1).mono ?_
        rintro e w2 ⟨rfl, hb2⟩
        have Q2 := Lib.hid ((Below.refl W1.heap.size W1).chain hb2)
        clear hb2 e0 e1 e2 e3 e4
        obtain ⟨⟨e0, e1, e2, e3, e4⟩, -⟩ := cellsK5_of (HCL.out w2 Q2.out).2.2
        dsimp only
        go_wp2_with fail
        refine (HF.out _ _ (rdt_new (heap_alloc_last w2 _) (by rw [HC.out]))).mono ?_
        rintro e w3 ⟨rfl, hb3⟩
        have Q3 := Lib.hid (((Q2.out).alloc (Q2.out).size _).chain hb3)
        clear hb3 e0 e1 e2 e3 e4
        obtain ⟨⟨e0, e1, e2, e3, e4⟩, -⟩ := cellsK5_of (HCL.out w3 Q3.out).2.2
        dsimp only
        go_wp2_with fail
        refine (HU1.out _ (HCL.out w3 (Q3.out)).2.1).mono ?_
        rintro e w4 ⟨rfl, hb4⟩
        have Q4 := Lib.hid ((Q3.out).chain hb4)
        clear hb4 e0 e1 e2 e3 e4
        obtain ⟨⟨e0, e1, e2, e3, e4⟩, -⟩ := cellsK5_of (HCL.out w4 Q4.out).2.2
        dsimp only
        go_wp2
        go_ret
        refine ⟨?_, (HCL.out _ (Q4.out)).2.1⟩
        exact goodCfg_no (fun h => by have := HG.out.1 h; simp at this)
      | true =>
        cases B4 with
        | false =>
          go_enter Tryd.func10, Tryd.ntmps10
          go_upto_region 1 with fail
          rw [← HW.out]
          go_wp2_with fail
          refine (HIS.out _ (HCL.out W1 (Below.refl W1.heap.size W1)).1).mono ?_
          rintro e w2 ⟨rfl, hb2⟩
          have Q2 := Lib.hid ((Below.refl W1.heap.size W1).chain hb2)
          clear hb2 e0 e1 e2 e3 e4
          obtain ⟨⟨e0, e1, e2, e3, e4⟩, -⟩ := cellsK5_of (HCL.out w2 Q2.out).2.2
          dsimp only
          go_wp2_with fail
          refine (HF.out _ _ (rdt_new (heap_alloc_last w2 _) (by rw [HC.out]))).mono ?_
          rintro e w3 ⟨rfl, hb3⟩
          have Q3 := Lib.hid (((Q2.out).alloc (Q2.out).size _).chain hb3)
          clear hb3 e0 e1 e2 e3 e4
          obtain ⟨⟨e0, e1, e2, e3, e4⟩, -⟩ := cellsK5_of (HCL.out w3 Q3.out).2.2
          dsimp only
          go_wp2_with fail
          refine (HU1.out _ (HCL.out w3 (Q3.out)).2.1).mono ?_
          rintro e w4 ⟨rfl, hb4⟩
          have Q4 := Lib.hid ((Q3.out).chain hb4)
          clear hb4 e0 e1 e2 e3 e4
          obtain ⟨⟨e0, e1, e2, e3, e4⟩, -⟩ := cellsK5_of (HCL.out w4 Q4.out).2.2
          dsimp only
          go_wp2_with fail
          refine (HA1.out _ (HCL.out w4 (Q4.out)).2.1).mono ?_
          rintro e w5 ⟨rfl, hb5⟩
          have Q5 := Lib.hid ((Q4.out).chain hb5)
          clear hb5 e0 e1 e2 e3 e4
          obtain ⟨⟨e0, e1, e2, e3, e4⟩, -⟩ := cellsK5_of (HCL.out w5 Q5.out).2.2
          dsimp only
          go_wp2
          go_ret
          refine ⟨?_, (HCL.out _ (Q5.out)).2.1⟩
          exact goodCfg_no (fun h => by have := HG.out.1 h; simp at this)
        | true =>
          cases B5 with
          | false =>
            go_enter Tryd.func10, Tryd.ntmps10
            go_upto_region 1 with fail
            rw [← HW.out]
            go_wp2_with fail
            refine (HIS.out _ (HCL.out W1 (Below.refl W1.heap.size W1)).1).mono ?_
            rintro e w2 ⟨rfl, hb2⟩
            have Q2 := Lib.hid ((Below.refl W1.heap.size W1).chain hb2)
            clear hb2 e0 e1 e2 e3 e4
            obtain ⟨⟨e0, e1, e2, e3, e4⟩, -⟩ := cellsK5_of (HCL.out w2 Q2.out).2.2
            dsimp only
            go_wp2_with fail
            refine (HF.out _ _ (rdt_new (heap_alloc_last w2 _) (by rw [HC.out]))).mono ?_
            rintro e w3 ⟨rfl, hb3⟩
            have Q3 := Lib.hid (((Q2.out).alloc (Q2.out).size _).chain hb3)
            clear hb3 e0 e1 e2 e3 e4
            obtain ⟨⟨e0, e1, e2, e3, e4⟩, -⟩ := cellsK5_of (HCL.out w3 Q3.out).2.2
            dsimp only
            go_wp2_with fail
            refine (HU1.out _ (HCL.out w3 (Q3.out)).2.1).mono ?_
            rintro e w4 ⟨rfl, hb4⟩
            have Q4 := Lib.hid ((Q3.out).chain hb4)
            clear hb4 e0 e1 e2 e3 e4
            obtain ⟨⟨e0, e1, e2, e3, e4⟩, -⟩ := cellsK5_of (HCL.out w4 Q4.out).2.2
            dsimp only
            go_wp2_with fail
            refine (HA1.out _ (HCL.out w4 (Q4.out)).2.1).mono ?_
            rintro e w5 ⟨rfl, hb5⟩
            have Q5 := Lib.hid ((Q4.out).chain hb5)
            clear hb5 e0 e1 e2 e3 e4
            obtain ⟨⟨e0, e1, e2, e3, e4⟩, -⟩ := cellsK5_of (HCL.out w5 Q5.out).2.2
            dsimp only
            go_wp2_with fail
            refine (HU2.out _ (HCL.out w5 (Q5.out)).2.1).mono ?_
            rintro e w6 ⟨rfl, hb6⟩
            have Q6 := Lib.hid ((Q5.out).chain hb6)
            clear hb6 e0 e1 e2 e3 e4
            obtain ⟨⟨e0, e1, e2, e3, e4⟩, -⟩ := cellsK5_of (HCL.out w6 Q6.out).2.2
            dsimp only
            go_wp2
            go_ret
            refine ⟨?_, (HCL.out _ (Q6.out)).2.1⟩
            exact goodCfg_no (fun h => by have := HG.out.1 h; simp at this)
          | true =>
            go_enter Tryd.func10, Tryd.ntmps10
            go_upto_region 1 with fail
            rw [← HW.out]
            go_wp2_with fail
            refine (HIS.out _ (HCL.out W1 (Below.refl W1.heap.size W1)).1).mono ?_
            rintro e w2 ⟨rfl, hb2⟩
            have Q2 := Lib.hid ((Below.refl W1.heap.size W1).chain hb2)
            clear hb2 e0 e1 e2 e3 e4
            obtain ⟨⟨e0, e1, e2, e3, e4⟩, -⟩ := cellsK5_of (HCL.out w2 Q2.out).2.2
            dsimp only
            go_wp2_with fail
            refine (HF.out _ _ (rdt_new (heap_alloc_last w2 _) (by rw [HC.out]))).mono ?_
            rintro e w3 ⟨rfl, hb3⟩
            have Q3 := Lib.hid (((Q2.out).alloc (Q2.out).size _).chain hb3)
            clear hb3 e0 e1 e2 e3 e4
            obtain ⟨⟨e0, e1, e2, e3, e4⟩, -⟩ := cellsK5_of (HCL.out w3 Q3.out).2.2
            dsimp only
            go_wp2_with fail
            refine (HU1.out _ (HCL.out w3 (Q3.out)).2.1).mono ?_
            rintro e w4 ⟨rfl, hb4⟩
            have Q4 := Lib.hid ((Q3.out).chain hb4)
            clear hb4 e0 e1 e2 e3 e4
            obtain ⟨⟨e0, e1, e2, e3, e4⟩, -⟩ := cellsK5_of (HCL.out w4 Q4.out).2.2
            dsimp only
            go_wp2_with fail
            refine (HA1.out _ (HCL.out w4 (Q4.out)).2.1).mono ?_
            rintro e w5 ⟨rfl, hb5⟩
            have Q5 := Lib.hid ((Q4.out).chain hb5)
            clear hb5 e0 e1 e2 e3 e4
            obtain ⟨⟨e0, e1, e2, e3, e4⟩, -⟩ := cellsK5_of (HCL.out w5 Q5.out).2.2
            dsimp only
            go_wp2_with fail
            refine (HU2.out _ (HCL.out w5 (Q5.out)).2.1).mono ?_
            rintro e w6 ⟨rfl, hb6⟩
            have Q6 := Lib.hid ((Q5.out).chain hb6)
            clear hb6 e0 e1 e2 e3 e4
            obtain ⟨⟨e0, e1, e2, e3, e4⟩, -⟩ := cellsK5_of (HCL.out w6 Q6.out).2.2
            dsimp only
            go_wp2_with fail
            refine (HA2.out _ (HCL.out w6 (Q6.out)).2.1).mono ?_
            rintro e w7 ⟨rfl, hb7⟩
            have Q7 := Lib.hid ((Q6.out).chain hb7)
            clear hb7 e0 e1 e2 e3 e4
            obtain ⟨⟨e0, e1, e2, e3, e4⟩, -⟩ := cellsK5_of (HCL.out w7 Q7.out).2.2
            dsimp only
            go_wp2
            go_ret
            refine ⟨?_, (HCL.out _ (Q7.out)).2.1⟩
            exact ⟨B6, rfl, by rw [HG.out]; simp [g1, g2]⟩
/-- all that the landed clients are to do -/
theorem cliIn {w : World} (h : Var0 w) : CliIn w where
  cli := ⟨fun W hb x A n c A' n' c' hc hf => cliGood W (h.var.below hb) x A n c A' n' c' hc hf, fun W hb x A n c A' n' c' id sec hc hf h20 hs => cliAuth W x A n c A' n' c' id sec hc hf h20 hs⟩
  client := codeClient w
  conn := codeConn w
  redir := codeRedir w
end Go.Proofs.YtiofgepfcacgjaaDoor
namespace Go.Proofs.YtiofgepfcacgjaaDoor
open Go.ChangeShapes Go.WideShapes Go.ChangeAt Go.RowKit

theorem var0_of_shaped {w : World} (h : w.ShapedOpen Tryd.prog) : Var0 w :=
  cell_of_shapedOpen_int (P := Tryd.prog) (g := 0) (t := 3) (zero := #[.int .i64 0]) h (of_decide_eq_true (by kernel_rfl)) (by kernel_rfl) rfl (by kernel_rfl) (by kernel_rfl) Tryd.underlying3
theorem cliIn_of_laid {W : World} (_ : laidMetH Tryd.prog listedP W) (hs : W.ShapedOpen Tryd.prog) : CliIn W := cliIn (var0_of_shaped hs)
end Go.Proofs.YtiofgepfcacgjaaDoor
