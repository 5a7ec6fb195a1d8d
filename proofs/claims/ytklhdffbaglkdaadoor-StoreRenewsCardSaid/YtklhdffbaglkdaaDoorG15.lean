/- Texts merged by program, in build order: TapeRefS, StoreRef. -/
import Derived.Test.YtklhdffbaglkdaaDoorG14
import Derived.BigQuiet
import Derived.Test.YtklhdffbaglkdaaDoorG13
namespace Go.Proofs.YtklhdffbaglkdaaDoor
open Go.RowKit
set_option linter.unusedVariables false
set_option linter.unusedSimpArgs false

set_option maxRecDepth 100000 in
set_option maxHeartbeats 4000000 in
theorem refSync_any (p : Nat) (v : Value) (t : TP) (htl : t.b.length ≤ 1000000000) (w : World) (h : RT w p v t) (hf : -1 ≤ t.fuse ∧ t.fuse ≤ 9223372036854775807) :
    Calls Tryd.prog 43 #[.pointer (some ⟨p, 0, none⟩)] w fun e w' => e = .returned (.int .i64 t.sync.2) ∧ RT w' p v t.sync.1 ∧ Only (fun b => b = p) w w' := by
  have hl := refLeft_any p v t 1 (by decide) w h hf
  have hle := t.left_le 1
  have hu := refUse_any p v t (t.left 1) 1 (by omega) (by decide) w h hf
  have hb := TP.use_b t (t.left 1) 1
  have he := TP.use_err t (t.left 1) 1
  unfold TP.sync
  obtain ⟨m, hm⟩ : ∃ m, t.left 1 = m := ⟨_, rfl⟩
  rw [hm] at hl hu hb he ⊢
  obtain ⟨t', ht'⟩ : ∃ t', t.use m 1 = t' := ⟨_, rfl⟩
  rw [ht'] at hu hb he ⊢
  obtain ⟨t', E⟩ := t'
  simp only at hu hb he ⊢
  have HL := Lib.hid hl; have HU := Lib.hid hu
  have hlen : t'.b.length ≤ 1000000000 := by rw [hb.1]; exact htl
  have HPl := Lib.hid h.lt
  clear hl hu hb hm ht' hle hf h htl
  rcases he with rfl | rfl
  · rw [if_pos rfl]
    go_enter Tryd.func43, Tryd.ntmps43
    go_wp2_with fail
    refine HL.out.mono ?_
    rintro e _ ⟨rfl, rfl⟩
    dsimp only
    go_wp2_with fail
    refine HU.out.mono ?_
    rintro e w1 ⟨rfl, hr, ho⟩
    obtain ⟨B, d, rfl, hB⟩ := hr.rd.news
    obtain ⟨⟨e0, e1, e2, e3⟩, f0, f1, f2, f3⟩ := box4_of hr.box
    have HR := Lib.hid hr; have HO := Lib.hid ho; clear hr ho hB
    dsimp only
    go_wp2
    go_ret
    refine ⟨rfl, ⟨?_, ?_, HR.out.far⟩, HO.out.set (b := p) rfl _⟩
    · have := set_here (o := 1) HR.out.box (.int .i64 t'.b.length)
      simpa using this
    · exact HR.out.rd.keep (by rw [set_size]; exact Nat.le_refl _) fun g hg => by
        have : g ≠ p := fun e => HR.out.far (by rw [hg, e])
        rw [set_there _ this]
  · rw [if_neg (by decide)]
    go_enter Tryd.func43, Tryd.ntmps43
    go_wp2_with fail
    refine HL.out.mono ?_
    rintro e _ ⟨rfl, rfl⟩
    dsimp only
    go_wp2_with fail
    refine HU.out.mono ?_
    rintro e w1 ⟨rfl, hr, ho⟩
    obtain ⟨B, d, rfl, hB⟩ := hr.rd.news
    obtain ⟨⟨e0, e1, e2, e3⟩, f0, f1, f2, f3⟩ := box4_of hr.box
    have HR := Lib.hid hr; have HO := Lib.hid ho; clear hr ho hB
    dsimp only
    go_wp2
    go_ret
    exact ⟨rfl, HR.out, HO.out⟩
set_option maxRecDepth 100000 in
set_option maxHeartbeats 4000000 in
theorem refSwap_any (p : Nat) (v : Value) (t : TP) (bv : Value) (l : List UInt8) (hl : l.length ≤ 1000000000) (w : World) (h : RT w p v t) (hf : -1 ≤ t.fuse ∧ t.fuse ≤ 9223372036854775807) (hb : RdW w bv l) (hfar : rdBlock bv ≠ some p) :
    Calls Tryd.prog 25 #[.pointer (some ⟨p, 0, none⟩), bv] w fun e w' => e = .returned (.int .i64 (t.swap l).2) ∧ (∃ v', RT w' p v' (t.swap l).1 ∧ ((v' = v ∧ (t.swap l).2 ≠ 0) ∨ ∀ g, v'.ownBlock = some g → w.heap.size ≤ g)) ∧ Only (fun b => b = p) w w' := by
  obtain ⟨i0, hi, hz0, hz1, hz2⟩ := info_parts Tryd.infoByte
  have hlf := refLeft_any p v t (l.length + 1) (by omega) w h hf
  have hle := t.left_le (l.length + 1)
  have hu := refUse_any p v t (t.left (l.length + 1)) (l.length + 1) (by omega) (by omega) w h hf
  have he := TP.use_err t (t.left (l.length + 1)) (l.length + 1)
  unfold TP.swap
  obtain ⟨m, hm⟩ : ∃ m, t.left (l.length + 1) = m := ⟨_, rfl⟩
  rw [hm] at hlf hu he ⊢
  obtain ⟨t', ht'⟩ : ∃ t', t.use m (l.length + 1) = t' := ⟨_, rfl⟩
  rw [ht'] at hu he ⊢
  obtain ⟨t', E⟩ := t'
  simp only at hu he ⊢
  obtain ⟨A, c, rfl, hA⟩ := hb.news
  have hAW : ∀ W, Only (fun b => b = p) w W → (A = none ∧ l.length = 0 ∧ c = 0) ∨ ∃ ad, A = some ad ∧ ∀ j u, (cells l)[j]? = some u → W.cell? (ad.add j) = some u := fun W ho => by
    have := (hb.only ho (fun g hg e => hfar (by rw [hg, e]))).news
    obtain ⟨A1, c1, e1, hA1⟩ := this
    cases e1
    exact hA1
  have hll : (cells l).length = l.length * 1 := by rw [Nat.mul_one]; simp [cells]
  obtain ⟨n, hn⟩ : ∃ n, l.length = n := ⟨_, rfl⟩
  rw [hn] at hlf hu hl hAW hll ⊢
  have hcast : ((n + 1 : Nat) : Int) = (n : Int) + 1 := by omega
  rw [hcast] at hlf hu
  have HL := Lib.hid hlf; have HU := Lib.hid hu; have HA := Lib.hid hAW; have HLL := Lib.hid hll; have HPl := Lib.hid h.lt
  clear hlf hu hAW hm ht' hle hf h hb hA hn hll hcast hfar
  rcases he with rfl | rfl
  · rw [if_pos rfl]
    go_enter Tryd.func25, Tryd.ntmps25
    go_wp2_with fail
    refine HL.out.mono ?_
    rintro e _ ⟨rfl, rfl⟩
    dsimp only
    go_wp2_with fail
    refine HU.out.mono ?_
    rintro e w1 ⟨rfl, hr, ho⟩
    obtain ⟨⟨e0, e1, e2, e3⟩, f0, f1, f2, f3⟩ := box4_of hr.box
    have HR := Lib.hid hr; have HO := Lib.hid ho; clear hr ho
    dsimp only
    have hsz := HO.out.size
    have HSZ := Lib.hid hsz; clear hsz e0 e1 e2 e3 f0 f1 f2 f3
    go_wp2_with (at_builtin; (refine wpList_append_opt rfl (.tmp 20) (.tmp 21) 40 rfl w1.heap.size 5 i0 _ 1 1 Tryd.underlying40 hi hz0 hz1 hz2 rfl (by decide) (.slice (some ⟨w1.heap.size, 0, none⟩) 0 0) 0 [] rfl (by refine own_newH w1 _ _ _ _ _ ?_ rfl (Nat.le_refl _); rfl) A n c (cells l) rfl HLL.out (by refine HA.out _ (HO.out.alloc _)) (cells_one _) (by unfold maxLen; omega) (by omega) (by show _ ≤ (w1.alloc (.cells #[] 5)).heap.size; simp) ?_; intro v2 w2 hown hgrow hat; simp only [Nat.zero_add, List.nil_append] at hown; obtain ⟨A5, c5, rfl⟩ := own_form hown; have b2 : Below w1.heap.size w1 w2 := (Below.grown (by refine bel_new w1 _ (.cells #[] 5) ?_ ?_ ?_ ?_ <;> rfl) hgrow (by show _ ≤ (w1.alloc (.cells #[] 5)).heap.size; simp) (fun k hk => by have hk2 : some w1.heap.size = some k := hk; injection hk2 with hk2; omega)); obtain ⟨⟨p0, p1, p2, p3⟩, q0, q1, q2, q3⟩ := box4_of ((b2.block p HR.out.lt).trans HR.out.box)))
    have hrow : Buf w2 w1.heap.size (.slice A5 n c5) l := Buf.cut hown (by have := HLL.out; simp only [cells, List.length_map, Nat.mul_one] at this; exact this.symm) rfl
    have hlt2 := hown.lt
    have hpl := HR.out.lt
    have HRW := Lib.hid hrow; have HB2 := Lib.hid b2; have HLT := Lib.hid hlt2
    clear hrow hown hgrow hat b2 hlt2 p0 p1 p2 p3 q0 q1 q2 q3
    go_ret
    refine ⟨rfl, ⟨.slice A5 n c5, ⟨?_, ?_, ?_⟩, .inr ?_⟩, ((HO.out.trans (Only.of_below HB2.out)).set (b := p) rfl _).set (b := p) rfl _⟩
    · have := set_here (o := 1) (set_here (o := 0) ((HB2.out.block p hpl).trans HR.out.box) (.slice A5 n c5)) (.int .i64 n)
      simpa using this
    · exact HRW.out.rd.keep (by rw [set_size, set_size]; exact Nat.le_refl _) fun g hg => by
        have : g ≠ p := by have := (HLT.out g hg).1; omega
        rw [set_there _ this, set_there _ this]
    · exact fun e => by have := (HLT.out _ e).1; omega
    · exact fun g hg => Nat.le_trans HSZ.out (HLT.out g hg).1
  · rw [if_neg (by decide)]
    go_enter Tryd.func25, Tryd.ntmps25
    go_wp2_with fail
    refine HL.out.mono ?_
    rintro e _ ⟨rfl, rfl⟩
    dsimp only
    go_wp2_with fail
    refine HU.out.mono ?_
    rintro e w1 ⟨rfl, hr, ho⟩
    obtain ⟨⟨e0, e1, e2, e3⟩, f0, f1, f2, f3⟩ := box4_of hr.box
    have HR := Lib.hid hr; have HO := Lib.hid ho; clear hr ho
    dsimp only
    go_wp2
    go_ret
    exact ⟨rfl, ⟨_, HR.out, .inl ⟨rfl, by decide⟩⟩, HO.out⟩
set_option maxRecDepth 100000 in
set_option maxHeartbeats 4000000 in
theorem refCrash_any (p : Nat) (v : Value) (t : TP) (htl : t.b.length ≤ 1000000000) (hs : t.sure ≤ t.b.length) (keep : Int) (hk : (Lit.int .i64 keep).wf = true) (w : World) (h : RT w p v t) :
    Calls Tryd.prog 16 #[.pointer (some ⟨p, 0, none⟩), .int .i64 keep] w fun e w' => e = .returned (.tuple #[]) ∧ (∃ v', RT w' p v' (t.crash keep) ∧ ∀ g, v'.ownBlock = some g → w.heap.size ≤ g) ∧ Only (fun b => b = p) w w' := by
  obtain ⟨i0, hi, hz0, hz1, hz2⟩ := info_parts Tryd.infoByte
  have hkl := t.kept_le keep
  unfold TP.crash
  have hcase : (keep < 0 ∧ t.kept keep = 0) ∨ (0 ≤ keep ∧ ((t.b.length - t.sure : Nat) : Int) < keep ∧ t.kept keep = t.b.length - t.sure) ∨ (0 ≤ keep ∧ keep ≤ ((t.b.length - t.sure : Nat) : Int) ∧ (t.kept keep : Int) = keep) := by
    unfold TP.kept
    by_cases h1 : keep < 0
    · exact .inl ⟨h1, by rw [if_pos h1]⟩
    · by_cases h2 : ((t.b.length - t.sure : Nat) : Int) < keep
      · exact .inr (.inl ⟨by omega, h2, by rw [if_neg h1, if_pos h2]⟩)
      · exact .inr (.inr ⟨by omega, by omega, by rw [if_neg h1, if_neg h2]; omega⟩)
  obtain ⟨r, hr⟩ : ∃ r, t.kept keep = r := ⟨_, rfl⟩
  rw [hr] at hcase hkl ⊢
  obtain ⟨S, hS⟩ : ∃ S, t.sure = S := ⟨_, rfl⟩
  obtain ⟨q, hq⟩ : ∃ q, t.b.length = q := ⟨_, rfl⟩
  rw [hS, hq] at hkl hcase
  rw [hS]
  obtain ⟨T, hT⟩ : ∃ T, S + r = T := ⟨_, rfl⟩
  obtain ⟨G, hG⟩ : ∃ G, q - S = G := ⟨_, rfl⟩
  rw [hG] at hcase hkl
  have hSq : S ≤ q := by omega
  obtain ⟨B, d, rfl, hB⟩ := h.rd.news
  have hBtk : ∀ W, Below w.heap.size w W → (B = none ∧ T = 0 ∧ d = 0) ∨ ∃ ad, B = some ad ∧ ∀ j u, (cells (t.b.take T))[j]? = some u → W.cell? (ad.add j) = some u := fun W hbw => by
    have hh := ((h.rd.below hbw).take T (by omega)).news
    have hl : (t.b.take T).length = T := by rw [List.length_take]; omega
    obtain ⟨A1, c1, e1, hA1⟩ := hh
    rw [hl] at e1 hA1
    cases e1
    exact hA1
  have hTd : (T : Int) ≤ d := by
    obtain ⟨_, _, e, h1, _⟩ := h.rd
    cases e; omega
  have hlt : (cells (t.b.take T)).length = T * 1 := by rw [Nat.mul_one]; simp only [cells, List.length_map, List.length_take]; omega
  have hPW : ∀ W, Below w.heap.size w W → W.heap[p]? = some (.cells #[.slice B q d, .int .i64 S, .int .i64 t.fuse, .bool t.down] 42 (0, 0)) := fun W hbw => by
    have := (hbw.block p h.lt).trans h.box
    rwa [hq, hS] at this
  have hw1 : IntKind.i64.wrap ((q : Int) - S) = (G : Int) := by rw [IntKind.wrap_i64]; omega
  have hw2 : IntKind.i64.wrap ((S : Int) + r) = (T : Int) := by rw [IntKind.wrap_i64]; omega
  have hw3 : IntKind.i64.wrap (S : Int) = (S : Int) := by rw [IntKind.wrap_i64]; omega
  have hT0 : (0 : Int) ≤ T := by omega
  have hTq : T ≤ 1000000000 := by omega
  have HB := Lib.hid hBtk; have HLT := Lib.hid hlt; have HP := Lib.hid hPW; have HPl := Lib.hid h.lt; have HT := Lib.hid hT; have HG := Lib.hid hG
  obtain ⟨tb, htb⟩ : ∃ x, t.b.take T = x := ⟨_, rfl⟩
  rw [htb] at HB HLT
  rw [hT, htb]
  clear hBtk hlt hPW hr hq hB hkl htl hs htb h
  rcases hcase with ⟨hk0, rfl⟩ | ⟨hk0, hk1, rfl⟩ | ⟨hk0, hk1, hk2⟩
  · have d1 : decide (keep < 0) = true := by simp [hk0]
    have d2 : decide ((G : Int) < 0) = false := by simp
    have d3 : ¬ ((G : Int) < 0) := by omega
    obtain rfl : S = T := by omega
    clear hw2 hk0 hT hG hS
    have e0 := cell_here (o := 0) (HP.out w (Below.refl _ _))
    have e1 := cell_here (o := 1) (HP.out w (Below.refl _ _))
    replace e0 : w.cell? ⟨p, 0, none⟩ = some (.slice B q d) := e0
    replace e1 : w.cell? ⟨p, 1, none⟩ = some (.int .i64 S) := e1
    go_enter Tryd.func16, Tryd.ntmps16
    go_upto_region 2 with fail
    go_quiet (fail)
    go_upto_region 4 with fail
    try simp only [World.drewN_drewN]
    generalize hW : w.drewN _ = W
    have hbw : Below w.heap.size w W := by rw [← hW]; exact belowDrewN (Below.refl _ _) _
    have hws : W.heap.size = w.heap.size := by rw [← hW]; rfl
    have hPb := HP.out W hbw
    have c0 : W.cell? ⟨p, 0, none⟩ = some (.slice B q d) := cell_here hPb
    have c1 : W.cell? ⟨p, 1, none⟩ = some (.int .i64 S) := cell_here hPb
    have hPa := alloc_block (x := .cells #[] 5) hPb
    have a0 : (W.alloc (.cells #[] 5)).cell? ⟨p, 0, none⟩ = some (.slice B q d) := cell_here hPa
    have a1 : (W.alloc (.cells #[] 5)).cell? ⟨p, 1, none⟩ = some (.int .i64 S) := cell_here hPa
    have HBW := Lib.hid hbw; have HWS := Lib.hid hws
    clear hW hbw hws hPb hPa e0 e1
    go_region_law (refine step_append_opt rfl (.tmp 29) (.tmp 40) 40 rfl W.heap.size 5 i0 _ 1 1 Tryd.underlying40 hi hz0 hz1 hz2 rfl (by decide) (.slice (some ⟨W.heap.size, 0, none⟩) 0 0) 0 [] rfl (by refine own_newH W _ _ _ _ _ ?_ rfl (Nat.le_refl _); rfl) B S d (cells tb) rfl HLT.out (by refine HB.out _ (HBW.out.trans ?_); rw [← HWS.out]; refine bel_new W _ (.cells #[] 5) ?_ ?_ ?_ ?_ <;> rfl) (cells_one _) ?_ ?_ ?_ ?_; (· unfold maxLen; omega); (· omega); (· show _ ≤ (W.alloc (.cells #[] 5)).heap.size; simp); intro v2 w2 hown hgrow hat; simp only [Nat.zero_add, List.nil_append] at hown; obtain ⟨A5, c5, rfl⟩ := own_form hown; have b2 : Below W.heap.size W w2 := (Below.grown (by refine bel_new W _ (.cells #[] 5) ?_ ?_ ?_ ?_ <;> rfl) hgrow (by show _ ≤ (W.alloc (.cells #[] 5)).heap.size; simp) (fun k hk => by have hk2 : some W.heap.size = some k := hk; injection hk2 with hk2; omega)); have b3 : Below w.heap.size w w2 := HBW.out.trans (b2.mono (by rw [HWS.out]; exact Nat.le_refl _)); obtain ⟨⟨p0, p1, p2, p3⟩, q0, q1, q2, q3⟩ := box4_of (HP.out w2 b3))
    all_goals
      have hpl := HPl.out
      have hlt2 := hown.lt
      obtain ⟨wx, hwx⟩ : ∃ wx, wx = w2.setCell ⟨p, 0, none⟩ (.slice A5 S c5) := ⟨_, rfl⟩
      change Exit.then _ _ _ _ (w2.setCell ⟨p, 0, none⟩ (.slice A5 S c5))
      rw [← hwx]
      have hbx : wx.heap[p]? = some (.cells #[.slice A5 S c5, .int .i64 S, .int .i64 t.fuse, .bool t.down] 42 (0, 0)) := by
        have := set_here (o := 0) (HP.out w2 b3) (.slice A5 S c5)
        rw [hwx]; simpa using this
      have hrow : Buf w2 W.heap.size (.slice A5 S c5) tb := Buf.cut hown (by have := HLT.out; simp only [cells, List.length_map, Nat.mul_one] at this; exact this.symm) rfl
      have hge : ∀ g, (Value.slice A5 S c5).ownBlock = some g → w.heap.size ≤ g := fun g hg => by have := (hlt2 g hg).1; rw [← HWS.out]; exact this
      have hrd : RdAt wx (.slice A5 S c5) tb := hrow.rd.keep (by rw [hwx, set_size]; exact Nat.le_refl _) fun g hg => by rw [hwx]; exact set_there _ (by have := hge g hg; omega)
      have hox : Only (fun b => b = p) w wx := by rw [hwx]; exact (Only.of_below (S := fun b => b = p) b3).set (b := p) rfl _
      have HRD := Lib.hid hrd; have HOX := Lib.hid hox; have HGE := Lib.hid hge; have HBX := Lib.hid hbx
      clear hrd hox hge hrow hwx hlt2 hown hgrow hat b2 b3 p0 p1 p2 p3 q0 q1 q2 q3 c0 c1 a0 a1
      obtain ⟨⟨p0, p1, p2, p3⟩, q0, q1, q2, q3⟩ := box4_of hbx
      clear hbx
      go_wp2
      refine bodyPost_end (v := .tuple #[]) (results_none rfl _ _ _) rfl ?_
      refine ⟨rfl, ⟨.slice A5 S c5, ⟨?_, ?_, ?_⟩, HGE.out⟩, ((HOX.out.set (b := p) rfl _).set (b := p) rfl _).set (b := p) rfl _⟩
      · have := set_here (o := 3) (set_here (o := 2) (set_here (o := 1) HBX.out (.int .i64 S)) (.int .i64 (-1))) (.bool false)
        simpa using this
      · exact HRD.out.keep (by rw [set_size, set_size, set_size]; exact Nat.le_refl _) fun g hg => by
          have : g ≠ p := by have := HGE.out g hg; omega
          rw [set_there _ this, set_there _ this, set_there _ this]
      · exact fun e => by have := HGE.out _ e; omega
  · have d1 : decide (keep < 0) = false := by simp; omega
    have d2 : decide ((r : Int) < keep) = true := by simp; omega
    clear hk0 hk1 hw3 hT hG hS
    have e0 := cell_here (o := 0) (HP.out w (Below.refl _ _))
    have e1 := cell_here (o := 1) (HP.out w (Below.refl _ _))
    replace e0 : w.cell? ⟨p, 0, none⟩ = some (.slice B q d) := e0
    replace e1 : w.cell? ⟨p, 1, none⟩ = some (.int .i64 S) := e1
    go_enter Tryd.func16, Tryd.ntmps16
    go_upto_region 2 with fail
    go_quiet (fail)
    go_upto_region 3 with fail
    go_quiet (fail)
    go_upto_region 4 with fail
    try simp only [World.drewN_drewN]
    generalize hW : w.drewN _ = W
    have hbw : Below w.heap.size w W := by rw [← hW]; exact belowDrewN (Below.refl _ _) _
    have hws : W.heap.size = w.heap.size := by rw [← hW]; rfl
    have hPb := HP.out W hbw
    have c0 : W.cell? ⟨p, 0, none⟩ = some (.slice B q d) := cell_here hPb
    have c1 : W.cell? ⟨p, 1, none⟩ = some (.int .i64 S) := cell_here hPb
    have hPa := alloc_block (x := .cells #[] 5) hPb
    have a0 : (W.alloc (.cells #[] 5)).cell? ⟨p, 0, none⟩ = some (.slice B q d) := cell_here hPa
    have a1 : (W.alloc (.cells #[] 5)).cell? ⟨p, 1, none⟩ = some (.int .i64 S) := cell_here hPa
    have HBW := Lib.hid hbw; have HWS := Lib.hid hws
    clear hW hbw hws hPb hPa e0 e1
    go_region_law (refine step_append_opt rfl (.tmp 29) (.tmp 40) 40 rfl W.heap.size 5 i0 _ 1 1 Tryd.underlying40 hi hz0 hz1 hz2 rfl (by decide) (.slice (some ⟨W.heap.size, 0, none⟩) 0 0) 0 [] rfl (by refine own_newH W _ _ _ _ _ ?_ rfl (Nat.le_refl _); rfl) B T d (cells tb) rfl HLT.out (by refine HB.out _ (HBW.out.trans ?_); rw [← HWS.out]; refine bel_new W _ (.cells #[] 5) ?_ ?_ ?_ ?_ <;> rfl) (cells_one _) ?_ ?_ ?_ ?_; (· unfold maxLen; omega); (· omega); (· show _ ≤ (W.alloc (.cells #[] 5)).heap.size; simp); intro v2 w2 hown hgrow hat; simp only [Nat.zero_add, List.nil_append] at hown; obtain ⟨A5, c5, rfl⟩ := own_form hown; have b2 : Below W.heap.size W w2 := (Below.grown (by refine bel_new W _ (.cells #[] 5) ?_ ?_ ?_ ?_ <;> rfl) hgrow (by show _ ≤ (W.alloc (.cells #[] 5)).heap.size; simp) (fun k hk => by have hk2 : some W.heap.size = some k := hk; injection hk2 with hk2; omega)); have b3 : Below w.heap.size w w2 := HBW.out.trans (b2.mono (by rw [HWS.out]; exact Nat.le_refl _)); obtain ⟨⟨p0, p1, p2, p3⟩, q0, q1, q2, q3⟩ := box4_of (HP.out w2 b3))
    all_goals
      have hpl := HPl.out
      have hlt2 := hown.lt
      obtain ⟨wx, hwx⟩ : ∃ wx, wx = w2.setCell ⟨p, 0, none⟩ (.slice A5 T c5) := ⟨_, rfl⟩
      change Exit.then _ _ _ _ (w2.setCell ⟨p, 0, none⟩ (.slice A5 T c5))
      rw [← hwx]
      have hbx : wx.heap[p]? = some (.cells #[.slice A5 T c5, .int .i64 S, .int .i64 t.fuse, .bool t.down] 42 (0, 0)) := by
        have := set_here (o := 0) (HP.out w2 b3) (.slice A5 T c5)
        rw [hwx]; simpa using this
      have hrow : Buf w2 W.heap.size (.slice A5 T c5) tb := Buf.cut hown (by have := HLT.out; simp only [cells, List.length_map, Nat.mul_one] at this; exact this.symm) rfl
      have hge : ∀ g, (Value.slice A5 T c5).ownBlock = some g → w.heap.size ≤ g := fun g hg => by have := (hlt2 g hg).1; rw [← HWS.out]; exact this
      have hrd : RdAt wx (.slice A5 T c5) tb := hrow.rd.keep (by rw [hwx, set_size]; exact Nat.le_refl _) fun g hg => by rw [hwx]; exact set_there _ (by have := hge g hg; omega)
      have hox : Only (fun b => b = p) w wx := by rw [hwx]; exact (Only.of_below (S := fun b => b = p) b3).set (b := p) rfl _
      have HRD := Lib.hid hrd; have HOX := Lib.hid hox; have HGE := Lib.hid hge; have HBX := Lib.hid hbx
      clear hrd hox hge hrow hwx hlt2 hown hgrow hat b2 b3 p0 p1 p2 p3 q0 q1 q2 q3 c0 c1 a0 a1
      obtain ⟨⟨p0, p1, p2, p3⟩, q0, q1, q2, q3⟩ := box4_of hbx
      clear hbx
      go_wp2
      refine bodyPost_end (v := .tuple #[]) (results_none rfl _ _ _) rfl ?_
      refine ⟨rfl, ⟨.slice A5 T c5, ⟨?_, ?_, ?_⟩, HGE.out⟩, ((HOX.out.set (b := p) rfl _).set (b := p) rfl _).set (b := p) rfl _⟩
      · have := set_here (o := 3) (set_here (o := 2) (set_here (o := 1) HBX.out (.int .i64 T)) (.int .i64 (-1))) (.bool false)
        simpa using this
      · exact HRD.out.keep (by rw [set_size, set_size, set_size]; exact Nat.le_refl _) fun g hg => by
          have : g ≠ p := by have := HGE.out g hg; omega
          rw [set_there _ this, set_there _ this, set_there _ this]
      · exact fun e => by have := HGE.out _ e; omega
  · obtain rfl : keep = (r : Int) := hk2.symm
    have d1 : decide ((r : Int) < 0) = false := by simp
    have d2 : decide (G < r) = false := by simp; omega
    clear hk0 hk1 hk2 hw3 hT hG hS
    have e0 := cell_here (o := 0) (HP.out w (Below.refl _ _))
    have e1 := cell_here (o := 1) (HP.out w (Below.refl _ _))
    replace e0 : w.cell? ⟨p, 0, none⟩ = some (.slice B q d) := e0
    replace e1 : w.cell? ⟨p, 1, none⟩ = some (.int .i64 S) := e1
    go_enter Tryd.func16, Tryd.ntmps16
    go_upto_region 2 with fail
    go_quiet (fail)
    go_upto_region 4 with fail
    try simp only [World.drewN_drewN]
    generalize hW : w.drewN _ = W
    have hbw : Below w.heap.size w W := by rw [← hW]; exact belowDrewN (Below.refl _ _) _
    have hws : W.heap.size = w.heap.size := by rw [← hW]; rfl
    have hPb := HP.out W hbw
    have c0 : W.cell? ⟨p, 0, none⟩ = some (.slice B q d) := cell_here hPb
    have c1 : W.cell? ⟨p, 1, none⟩ = some (.int .i64 S) := cell_here hPb
    have hPa := alloc_block (x := .cells #[] 5) hPb
    have a0 : (W.alloc (.cells #[] 5)).cell? ⟨p, 0, none⟩ = some (.slice B q d) := cell_here hPa
    have a1 : (W.alloc (.cells #[] 5)).cell? ⟨p, 1, none⟩ = some (.int .i64 S) := cell_here hPa
    have HBW := Lib.hid hbw; have HWS := Lib.hid hws
    clear hW hbw hws hPb hPa e0 e1
    go_region_law (refine step_append_opt rfl (.tmp 29) (.tmp 40) 40 rfl W.heap.size 5 i0 _ 1 1 Tryd.underlying40 hi hz0 hz1 hz2 rfl (by decide) (.slice (some ⟨W.heap.size, 0, none⟩) 0 0) 0 [] rfl (by refine own_newH W _ _ _ _ _ ?_ rfl (Nat.le_refl _); rfl) B T d (cells tb) rfl HLT.out (by refine HB.out _ (HBW.out.trans ?_); rw [← HWS.out]; refine bel_new W _ (.cells #[] 5) ?_ ?_ ?_ ?_ <;> rfl) (cells_one _) ?_ ?_ ?_ ?_; (· unfold maxLen; omega); (· omega); (· show _ ≤ (W.alloc (.cells #[] 5)).heap.size; simp); intro v2 w2 hown hgrow hat; simp only [Nat.zero_add, List.nil_append] at hown; obtain ⟨A5, c5, rfl⟩ := own_form hown; have b2 : Below W.heap.size W w2 := (Below.grown (by refine bel_new W _ (.cells #[] 5) ?_ ?_ ?_ ?_ <;> rfl) hgrow (by show _ ≤ (W.alloc (.cells #[] 5)).heap.size; simp) (fun k hk => by have hk2 : some W.heap.size = some k := hk; injection hk2 with hk2; omega)); have b3 : Below w.heap.size w w2 := HBW.out.trans (b2.mono (by rw [HWS.out]; exact Nat.le_refl _)); obtain ⟨⟨p0, p1, p2, p3⟩, q0, q1, q2, q3⟩ := box4_of (HP.out w2 b3))
    all_goals
      have hpl := HPl.out
      have hlt2 := hown.lt
      obtain ⟨wx, hwx⟩ : ∃ wx, wx = w2.setCell ⟨p, 0, none⟩ (.slice A5 T c5) := ⟨_, rfl⟩
      change Exit.then _ _ _ _ (w2.setCell ⟨p, 0, none⟩ (.slice A5 T c5))
      rw [← hwx]
      have hbx : wx.heap[p]? = some (.cells #[.slice A5 T c5, .int .i64 S, .int .i64 t.fuse, .bool t.down] 42 (0, 0)) := by
        have := set_here (o := 0) (HP.out w2 b3) (.slice A5 T c5)
        rw [hwx]; simpa using this
      have hrow : Buf w2 W.heap.size (.slice A5 T c5) tb := Buf.cut hown (by have := HLT.out; simp only [cells, List.length_map, Nat.mul_one] at this; exact this.symm) rfl
      have hge : ∀ g, (Value.slice A5 T c5).ownBlock = some g → w.heap.size ≤ g := fun g hg => by have := (hlt2 g hg).1; rw [← HWS.out]; exact this
      have hrd : RdAt wx (.slice A5 T c5) tb := hrow.rd.keep (by rw [hwx, set_size]; exact Nat.le_refl _) fun g hg => by rw [hwx]; exact set_there _ (by have := hge g hg; omega)
      have hox : Only (fun b => b = p) w wx := by rw [hwx]; exact (Only.of_below (S := fun b => b = p) b3).set (b := p) rfl _
      have HRD := Lib.hid hrd; have HOX := Lib.hid hox; have HGE := Lib.hid hge; have HBX := Lib.hid hbx
      clear hrd hox hge hrow hwx hlt2 hown hgrow hat b2 b3 p0 p1 p2 p3 q0 q1 q2 q3 c0 c1 a0 a1
      obtain ⟨⟨p0, p1, p2, p3⟩, q0, q1, q2, q3⟩ := box4_of hbx
      clear hbx
      go_wp2
      refine bodyPost_end (v := .tuple #[]) (results_none rfl _ _ _) rfl ?_
      refine ⟨rfl, ⟨.slice A5 T c5, ⟨?_, ?_, ?_⟩, HGE.out⟩, ((HOX.out.set (b := p) rfl _).set (b := p) rfl _).set (b := p) rfl _⟩
      · have := set_here (o := 3) (set_here (o := 2) (set_here (o := 1) HBX.out (.int .i64 T)) (.int .i64 (-1))) (.bool false)
        simpa using this
      · exact HRD.out.keep (by rw [set_size, set_size, set_size]; exact Nat.le_refl _) fun g hg => by
          have : g ≠ p := by have := HGE.out g hg; omega
          rw [set_there _ this, set_there _ this, set_there _ this]
      · exact fun e => by have := HGE.out _ e; omega
end Go.Proofs.YtklhdffbaglkdaaDoor
namespace Go.Proofs.YtklhdffbaglkdaaDoor
open Go.RowKit
set_option linter.unusedVariables false
set_option linter.unusedSimpArgs false

theorem RdR.only {S : Nat → Prop} {w w' : World} {v : Value} {l : RowL} (h : RdR w v l) (ho : Only S w w') (hb : ∀ g, v.ownBlock = some g → ¬ S g) : RdR w' v l := by
  obtain ⟨A, c, rfl, hc, hz, h⟩ := h
  refine ⟨A, c, rfl, hc, hz, fun k r hk => ?_⟩
  obtain ⟨g, o, rfl, hg, h1, h2⟩ := h k r hk
  have he := ho.block g hg (hb g rfl)
  exact ⟨g, o, rfl, Nat.lt_of_lt_of_le hg ho.size, (World.cell?_of_block he).trans h1, (World.cell?_of_block he).trans h2⟩
theorem rdr_form {w : World} {v : Value} {l : RowL} (h : RdR w v l) : ∃ A c, v = .slice A l.length c := by
  obtain ⟨A, c, rfl, _⟩ := h
  exact ⟨A, c, rfl⟩
/-- the reference's store at p, its tape at q -/
structure RStore (w : World) (p q : Nat) (v rv : Value) (t : TP) (rows : RowL) : Prop where
  box : w.heap[p]? = some (.cells #[.pointer (some ⟨q, 0, none⟩), rv] 49 (0, 0))
  tape : RT w q v t
  rd : RdR w rv rows
  pq : p ≠ q
  vp : v.ownBlock ≠ some p
  rp : rv.ownBlock ≠ some p
  rq : rv.ownBlock ≠ some q
theorem RStore.lt {w : World} {p q : Nat} {v rv : Value} {t : TP} {rows : RowL} (h : RStore w p q v rv t rows) : p < w.heap.size := (Array.getElem?_eq_some_iff.1 h.box).1
theorem RStore.below {w w' : World} {p q : Nat} {v rv : Value} {t : TP} {rows : RowL} (h : RStore w p q v rv t rows) (hb : Below w.heap.size w w') : RStore w' p q v rv t rows :=
  ⟨(hb.block p h.lt).trans h.box, h.tape.below hb, h.rd.below hb, h.pq, h.vp, h.rp, h.rq⟩
/-- the tape is another one -/
theorem RStore.turn {w w' : World} {p q : Nat} {v v' rv : Value} {t t' : TP} {rows : RowL} (h : RStore w p q v rv t rows) (h' : RT w' q v' t') (ho : Only (fun b => b = q) w w') (hv : v' = v ∨ ∀ g, v'.ownBlock = some g → w.heap.size ≤ g) : RStore w' p q v' rv t' rows :=
  ⟨(ho.block p h.lt h.pq).trans h.box, h', h.rd.only ho (fun g hg e => h.rq (by rw [hg, e])), h.pq, (by
    rcases hv with rfl | hv
    · exact h.vp
    · intro e; have := hv p e; have := h.lt; omega), h.rp, h.rq⟩
/-- the rows are others -/
theorem RStore.lay {w : World} {p q : Nat} {v rv rv' : Value} {t : TP} {rows rows' : RowL} (h : RStore w p q v rv t rows) (h' : RdR w rv' rows') (hp : rv'.ownBlock ≠ some p) (hq : rv'.ownBlock ≠ some q) : RStore (w.setCell ⟨p, 1, none⟩ rv') p q v rv' t rows' := by
  have hb := set_here (o := 1) h.box rv'
  refine ⟨by simpa using hb, h.tape.keep (by rw [set_size]; exact Nat.le_refl _) (set_there _ (Ne.symm h.pq)) (fun g hg => set_there _ (fun e => h.vp (by rw [hg, e]))), ?_, h.pq, h.vp, hp, hq⟩
  exact h'.only (S := fun b => b = p) (Only.set (S := fun b => b = p) (b := p) (Only.refl _ w) rfl _) (fun g hg e => hp (by rw [hg, e]))
theorem RStore.cells {w : World} {p q : Nat} {v rv : Value} {t : TP} {rows : RowL} (h : RStore w p q v rv t rows) : w.cell? ⟨p, 0, none⟩ = some (.pointer (some ⟨q, 0, none⟩)) ∧ w.cell? ⟨p, 1, none⟩ = some rv ∧ w.frozen? ⟨p, 1, none⟩ = false :=
  ⟨cell_here h.box, cell_here h.box, frozen_here h.box _⟩
end Go.Proofs.YtklhdffbaglkdaaDoor
