/- The landed rules: Run. -/
import Derived.Test.YtobicmpgfiddhaaDoorRuleMap
import Derived.Test.YtobicmpgfiddhaaDoorRuleDeeds2
import Derived.Test.YtobicmpgfiddhaaDoorRuleIs
import Derived.Test.YtobicmpgfiddhaaDoorJsonFits
namespace Go.Proofs.YtobicmpgfiddhaaDoor
open Go.RowKit Go.Shelf
set_option linter.unusedVariables false
set_option linter.unusedSimpArgs false

theorem two_of {α : Type} {l : List α} (h : l.length = 2) : ∃ a b, l = [a, b] := by
  match l, h with
  | [a, b], _ => exact ⟨a, b, rfl⟩
theorem three_of {α : Type} {l : List α} (h : l.length = 3) : ∃ a b c, l = [a, b, c] := by
  match l, h with
  | [a, b, c], _ => exact ⟨a, b, c, rfl⟩
/-- what Run answers -/
def CRunSays (w : World) (R : Option V) (e : Ending) (w' : World) : Prop :=
  (∃ k n t A a b A' a' b', e = .returned (.tuple #[.agg #[.int .i64 k, .int .i64 n, .string t, .slice A a b, .slice A' a' b'], .bool R.isSome]) ∧ VIs w' 0 w'.heap.size (R.getD V.zero) [.int .i64 k, .int .i64 n, .string t, .slice A a b, .slice A' a' b']) ∧ Below w.heap.size w w'
theorem crun_none {w W : World} (hb : Below w.heap.size w W) : CRunSays w none (.returned (.tuple #[.agg #[.int .i64 0, .int .i64 0, .string ⟨#[]⟩, .slice none 0 0, .slice none 0 0], .bool false])) W :=
  ⟨⟨_, _, _, _, _, _, _, _, _, rfl, zero_isP _ _ _⟩, hb⟩
theorem good_parts {r : RU} (h : r.good = true) : argsN r.op ≠ 0 ∧ r.args.length = argsN r.op := by
  unfold RU.good at h
  simp only [Bool.and_eq_true, decide_eq_true_eq] at h
  exact ⟨h.1.1.1, h.1.1.2⟩
theorem filter_snoc {rs : List RU} {k : Nat} {r : RU} (h : rs[k]? = some r) : (rs.take (k + 1)).filter RU.good = (rs.take k).filter RU.good ++ (if r.good = true then [r] else []) := by
  rw [List.take_add_one, h, List.filter_append]
  congr 1
  by_cases hc : r.good = true
  · rw [if_pos hc]; simp [hc]
  · rw [if_neg hc]; simp [hc]
theorem filter_all_none {v : V} {rs : List RU} {k : Nat} {out : V} (h : foldU v out ((rs.take (k + 1)).filter RU.good) = none) : foldU v out (rs.filter RU.good) = none := by
  have : rs.filter RU.good = (rs.take (k + 1)).filter RU.good ++ (rs.drop (k + 1)).filter RU.good := by rw [← List.filter_append, List.take_append_drop]
  rw [this]
  exact foldU_none v _ _ _ h
theorem fold_keys {v : V} {rs : List RU} {l : List V} {ks : List (List UInt8)} (hf : v.fits 8 = true) (h : foldU v emptyO (rs.filter RU.good) = some (.mk 6 0 [] l ks)) : ∀ y ∈ ks, y.length ≤ 9223372036854775807 := fun y hy => by
  have ho := fold_out hf (rs.filter RU.good) emptyO _ 0 outR_empty (fun r hr => by simpa using (List.mem_filter.1 hr).2) h
  obtain ⟨l', ks', e, _, _, _, _, h6⟩ := ho.form
  injection e with _ _ _ _ e5
  subst e5
  have := (h6 y hy).1
  unfold nameR at this
  simp only [Bool.and_eq_true, decide_eq_true_eq] at this
  omega
/-- the function of a rule, and what it does -/
theorem deed_call (r : RU) (hg : r.good = true) (hz : ∀ x ∈ r.args, x.length ≤ 1000000000) (C P : Nat) :
    ∃ g lb i, Instr.findNow .string (.string ⟨r.op.toArray⟩) (deedEs C P 5).toList 0 = some (some (i, .func (.func g) #[] lb)) ∧ (∀ args w, (callFunc g args).run Tryd.prog w = .ok (.enter g args) w) ∧
      ∀ (B p N : Nat) (w : World) (c : V) (cs : List Value) (lv kv : Value) (l : List V) (ks : List (List UInt8)) (xs : List Value) (A : Option Addr) (cp : Nat), DeedAt B p C P N w c cs lv kv l ks xs → c.fits 8 = true → (∀ x ∈ c.list, x.text.length ≤ 1000000) → ks.length ≤ 90000 →
        RdT w (.slice A r.args.length cp) r.args → Calls Tryd.prog g (#[.slice A r.args.length cp] ++ lb) w (DeedSays B p w c l ks r) := by
  obtain ⟨h0, hn⟩ := good_parts hg
  obtain ⟨op, args⟩ := r
  dsimp only at *
  by_cases h1 : op = opSet
  · subst h1
    obtain ⟨a0, a1, rfl⟩ := two_of (hn.trans (by decide))
    refine ⟨39, #[.pointer (some ⟨C, 0, none⟩), .pointer (some ⟨P, 0, none⟩)], 0, by rfl, enters_of Tryd.func39 (by kernel_rfl) rfl, fun B p N w c cs lv kv l ks xs A cp h hf hx hk ha => ?_⟩
    exact deedSet_any h (fits_slim 8 c hf) (Nat.le_trans (fits_depth hf) (by decide)) hk a0 a1 A cp ha
  by_cases h2 : op = opText
  · subst h2
    obtain ⟨a0, a1, rfl⟩ := two_of (hn.trans (by decide))
    refine ⟨42, #[.pointer (some ⟨P, 0, none⟩)], 1, by rfl, enters_of Tryd.func42 (by kernel_rfl) rfl, fun B p N w c cs lv kv l ks xs A cp h hf hx hk ha => ?_⟩
    exact deedText_any h hk a0 a1 (hz a1 (by simp)) A cp ha
  by_cases h3 : op = opJoin
  · subst h3
    obtain ⟨a0, a1, a2, rfl⟩ := three_of (hn.trans (by decide))
    refine ⟨44, #[.pointer (some ⟨C, 0, none⟩), .pointer (some ⟨P, 0, none⟩)], 2, by rfl, enters_of Tryd.func44 (by kernel_rfl) rfl, fun B p N w c cs lv kv l ks xs A cp h hf hx hk ha => ?_⟩
    exact deedJoin_any h hf hx hk a0 a1 a2 A cp ha
  by_cases h4 : op = opNeed
  · subst h4
    obtain ⟨a0, a1, rfl⟩ := two_of (hn.trans (by decide))
    refine ⟨45, #[.pointer (some ⟨C, 0, none⟩)], 3, by rfl, enters_of Tryd.func45 (by kernel_rfl) rfl, fun B p N w c cs lv kv l ks xs A cp h hf hx hk ha => ?_⟩
    exact deedNeed_any h hf hk a0 a1 A cp ha
  by_cases h5 : op = opOnly
  · subst h5
    obtain ⟨a0, a1, a2, rfl⟩ := three_of (hn.trans (by decide))
    refine ⟨47, #[.pointer (some ⟨C, 0, none⟩), .pointer (some ⟨P, 0, none⟩)], 4, by rfl, enters_of Tryd.func47 (by kernel_rfl) rfl, fun B p N w c cs lv kv l ks xs A cp h hf hx hk ha => ?_⟩
    exact deedOnly_any h hf hk a0 a1 a2 A cp ha
  · exact absurd (by unfold argsN; rw [if_neg (by simp [h1, h2, h4]), if_neg (by simp [h3, h5])]) h0
set_option maxRecDepth 100000 in
set_option maxHeartbeats 16000000 in
theorem run_any (A : Option Addr) (c : Nat) (rs : List RU) (hn : rs.length ≤ 80000) (hz : ∀ r ∈ rs, r.args.length ≤ 1000000 ∧ ∀ x ∈ r.args, x.length ≤ 1000000000) (v : V) (cs : List Value) (hx : ∀ x ∈ v.list, x.text.length ≤ 1000000) (w : World) (h : RdU w (.slice A rs.length c) rs) (hv : VIs w 0 w.heap.size v cs) :
    Calls Tryd.prog 10 #[.slice A rs.length c, .agg cs.toArray] w (CRunSays w (runU (rs.filter RU.good) v)) := by
  obtain ⟨R, hR⟩ : ∃ R, runU (rs.filter RU.good) v = R := ⟨_, rfl⟩
  obtain ⟨n, hnn⟩ : ∃ n, rs.length = n := ⟨_, rfl⟩
  have hgood := fun W (hb : Below w.heap.size w W) => good_any v W 0 w.heap.size cs (hv.below hb) hb.size
  obtain ⟨CA, cc, CA', cc', hcs⟩ := hv.form
  obtain ⟨ck, hck⟩ : ∃ z, v.kind = z := ⟨_, rfl⟩
  obtain ⟨cn, hcn⟩ : ∃ z, v.num = z := ⟨_, rfl⟩
  obtain ⟨ct, hct⟩ : ∃ z : ByteArray, (⟨v.text.toArray⟩ : ByteArray) = z := ⟨_, rfl⟩
  obtain ⟨cl, hcl⟩ : ∃ z, v.list.length = z := ⟨_, rfl⟩
  obtain ⟨cm, hcm⟩ : ∃ z, v.keys.length = z := ⟨_, rfl⟩
  rw [hck, hcn, hct, hcl, hcm] at hcs
  subst hcs
  have hRR : R = if ck = 6 ∧ v.fits 8 = true then foldU v emptyO (rs.filter RU.good) else none := by rw [← hR, ← hck]; rfl
  rw [hR, hnn]
  obtain ⟨F, hF⟩ : ∃ F, v.fits 8 = F := ⟨_, rfl⟩
  rw [hF] at hRR hgood
  obtain ⟨W2, hW2⟩ : ∃ W2, W2 = (w.alloc (.cells #[.int .i64 ck, .int .i64 cn, .string ct, .slice CA cl cc, .slice CA' cm cc'] 25)).alloc (.cells #[.int .i64 0, .int .i64 0, .string ⟨#[]⟩, .slice none 0 0, .slice none 0 0] 25) := ⟨_, rfl⟩
  have b2 : Below w.heap.size w W2 := by rw [hW2]; exact ((Below.refl _ _).alloc (Nat.le_refl _) _).alloc (by rw [World.size_alloc]; exact Nat.le_succ _) _
  have z2 : W2.heap.size = w.heap.size + 2 := by rw [hW2]; simp
  have q2 : W2.heap[w.heap.size]? = some (.cells #[.int .i64 ck, .int .i64 cn, .string ct, .slice CA cl cc, .slice CA' cm cc'] 25 (0, 0)) := by rw [hW2]; exact alloc_block (heap_alloc_last w _)
  have s2 : W2.heap[w.heap.size + 1]? = some (.cells #[.int .i64 0, .int .i64 0, .string ⟨#[]⟩, .slice none 0 0, .slice none 0 0] 25 (0, 0)) := by rw [hW2]; exact fresh_at _ (by simp)
  have hg2 := hgood W2 b2
  have hb3 := fun W (hW : Below W2.heap.size W2 W) => box_of (blk_below q2 hW)
  have hb4 := fun W (hW : Below W2.heap.size W2 W) => box_of (blk_below s2 hW)
  have HG := Lib.hid hg2; have HB3 := Lib.hid hb3; have HB4 := Lib.hid hb4; have HRR := Lib.hid hRR; have HW2 := Lib.hid hW2; have B2 := Lib.hid b2; have Z2 := Lib.hid z2; have H := Lib.hid h; have HV := Lib.hid hv; have HZ := Lib.hid hz; have HX := Lib.hid hx; have HN := Lib.hid hnn; have HF := Lib.hid hF; have S2 := Lib.hid s2
  clear hg2 hgood hb3 hb4 hRR hW2 b2 z2 q2 s2 h hv hz hx hR hF hck hcn hct hcl hcm
  by_cases h6 : ck = 6
  · subst h6
    have t1 : ((6 : Int) != 6) = false := rfl
    cases F with
    | false =>
      obtain rfl := HRR.out
      go_enter Tryd.func10, Tryd.ntmps10
      go_wp2_with (go_at_call 22; rw [← HW2.out]; (with_reducible refine HG.out.mono ?_); rintro e1 w1 ⟨rfl, hb1⟩; have HB1 := Lib.hid (B2.out.chain hb1); obtain ⟨⟨a0, a1, a2, a3, a4⟩, f0, f1, f2, f3, f4⟩ := HB4.out w1 hb1; have bb1 := Lib.hid hb1; clear hb1; dsimp only)
      obtain ⟨wf, hwf⟩ : ∃ wf, wf = set5 w1 (w.heap.size + 1) 0 (.int .i64 0) (.int .i64 0) (.string ⟨#[]⟩) (.slice none 0 0) (.slice none 0 0) := ⟨_, rfl⟩
      change bodyPost _ _ _ _ _ (set5 w1 (w.heap.size + 1) 0 (.int .i64 0) (.int .i64 0) (.string ⟨#[]⟩) (.slice none 0 0) (.slice none 0 0))
      rw [← hwf]
      have qf : wf.heap[w.heap.size + 1]? = some (.cells #[.int .i64 0, .int .i64 0, .string ⟨#[]⟩, .slice none 0 0, .slice none 0 0] 25 (0, 0)) := by rw [hwf]; exact set5_here (blk_below S2.out bb1.out)
      have hbf : Below w.heap.size w wf := by rw [hwf]; exact HB1.out.trans (set5_below (Nat.le_succ _))
      obtain ⟨⟨x0, x1, x2, x3, x4⟩, -⟩ := box_of qf
      have HBF := Lib.hid hbf
      clear hbf qf hwf a0 a1 a2 a3 a4 f0 f1 f2 f3 f4
      refine bodyPost_ret (v := .tuple #[.agg #[.int .i64 0, .int .i64 0, .string ⟨#[]⟩, .slice none 0 0, .slice none 0 0], .bool false]) (by simp [results, Tryd.results10, go_sem, x0, x1, x2, x3, x4]) rfl ?_
      exact crun_none HBF.out
    | true =>
      have hRf : R = foldU v emptyO (rs.filter RU.good) := by rw [HRR.out, if_pos ⟨rfl, rfl⟩]
      have HRF := Lib.hid hRf
      clear hRf
      go_enter Tryd.func10, Tryd.ntmps10
      go_upto_region 4 with (go_at_call 22; rw [← HW2.out]; (with_reducible refine HG.out.mono ?_); rintro e1 w1 ⟨rfl, hb1⟩; have HB1 := Lib.hid hb1; clear hb1; dsimp only)
      obtain ⟨O, hO⟩ : ∃ O, w1.heap.size = O := ⟨_, rfl⟩
      obtain ⟨V3, hV3⟩ : ∃ V3, V3 = w1.alloc (.cells #[.int .i64 6, .int .i64 0, .string ⟨#[]⟩, .slice none 0 0, .slice none 0 0] 25) := ⟨_, rfl⟩
      have bV : Below W2.heap.size W2 V3 := by rw [hV3]; exact HB1.out.chain ((Below.refl _ _).alloc (Nat.le_refl _) _)
      have zV : V3.heap.size = O + 1 := by rw [hV3, World.size_alloc, hO]
      have qV : V3.heap[O]? = some (.cells #[.int .i64 6, .int .i64 0, .string ⟨#[]⟩, .slice none 0 0, .slice none 0 0] 25 (0, 0)) := by rw [hV3, ← hO]; exact heap_alloc_last _ _
      have hRO : w.heap.size + 2 ≤ O := by rw [← hO, ← Z2.out]; exact HB1.out.size
      obtain ⟨⟨a0, a1, a2, a3, a4⟩, -⟩ := HB3.out V3 bV
      have hdd := deeds_any [.int .i64 6, .int .i64 cn, .string ct, .slice CA cl cc, .slice CA' cm cc'] O V3
      have HDD := Lib.hid hdd; have HOO := Lib.hid hO; have BV := Lib.hid bV; have ZV := Lib.hid zV; have QV := Lib.hid qV; have HV3 := Lib.hid hV3
      rw [← hV3, hO]
      clear hdd bV zV qV hV3 hO
      go_upto_region 5 with (go_at_call 23; (with_reducible refine HDD.out.mono ?_); rintro e2 w2 ⟨C, P, M, rfl, hC, hP, hM, hCM, hPM, qC, qP, qM, hb2⟩; dsimp only)
      obtain ⟨B, hB⟩ : ∃ B, w2.heap.size = B := ⟨_, rfl⟩
      have hCB : C < B := by rw [← hB]; exact (Array.getElem?_eq_some_iff.1 qC).1
      have hPB : P < B := by rw [← hB]; exact (Array.getElem?_eq_some_iff.1 qP).1
      have hMB : M < B := by rw [← hB]; exact (Array.getElem?_eq_some_iff.1 qM).1
      have zV := ZV.out
      have b3 : Below W2.heap.size W2 w2 := BV.out.chain hb2
      have b4 : Below w.heap.size w w2 := B2.out.chain b3
      have hVB : O + 1 ≤ B := by rw [← hB, ← zV]; exact hb2.size
      have da : DeedAt B O C P w.heap.size w2 v [.int .i64 6, .int .i64 cn, .string ct, .slice CA cl cc, .slice CA' cm cc'] (.slice none 0 0) (.slice none 0 0) [] [] [] :=
        ⟨ROut.start ((hb2.block O (by omega)).trans QV.out), qC, qP, HV.out.below b4, by omega, rfl⟩
      have s3 := blk_below S2.out b3
      have DA := Lib.hid da; have B4 := Lib.hid b4; have QM := Lib.hid qM; have S3 := Lib.hid s3; have HBB := Lib.hid hB
      have hlow : w.heap.size + 2 ≤ O ∧ O + 1 ≤ B ∧ M < B ∧ O + 1 ≤ M := by omega
      clear da b3 b4 qC qP qM s3 hb2 hC hP hM hCM hPM hCB hPB hMB hVB hRO zV hB
      go_wp2_with fail
      go_loopw [24] (fun i wr => ∃ (k : Nat) (lv kv : Value) (l : List V) (ks : List (List UInt8)) (xs : List Value), k ≤ n ∧ i = .int .i64 k ∧ Hid (foldU v emptyO ((rs.take k).filter RU.good) = some (.mk 6 0 [] l ks)) ∧ ks.length ≤ k ∧ DeedAt B O C P w.heap.size wr v [.int .i64 6, .int .i64 cn, .string ct, .slice CA cl cc, .slice CA' cm cc'] lv kv l ks xs ∧ ButO B O w2 wr) (fun i _ => n - (intOf i).toNat)
      case atStart => exact ⟨0, _, _, [], [], [], Nat.zero_le _, rfl, Lib.hid rfl, Nat.le_refl _, DA.out, ButO.refl _ _ _⟩
      case round =>
        obtain ⟨k, lv, kv, l, ks, xs, hkn, rfl, HFO, hkk, hda, hbo⟩ := hrel
        have hbw : Below w.heap.size w wr := B4.out.trans (hbo.low (by omega) (by omega))
        have s4 : wr.heap[w.heap.size + 1]? = some (.cells #[.int .i64 0, .int .i64 0, .string ⟨#[]⟩, .slice none 0 0, .slice none 0 0] 25 (0, 0)) := (hbo.block _ (by omega) (by omega)).trans S3.out
        have m4 : wr.heap[M]? = some (.map (deedEs C P 5) 5) := (hbo.block _ (by omega) (by omega)).trans QM.out
        by_cases hlt : k < n
        · have hkl : k < rs.length := by rw [HN.out]; exact hlt
          have hkr : rs[k]? = some rs[k] := List.getElem?_eq_getElem hkl
          obtain ⟨g, o, u, rfl, hg, c0, c1, hT⟩ := (H.out.below hbw).at k hkl
          obtain ⟨hz1, hz2⟩ := HZ.out rs[k] (List.getElem_mem hkl)
          generalize rs[k] = r at *
          obtain ⟨A2, c2, rfl⟩ := rdt_form hT
          obtain ⟨OP, hOP⟩ : ∃ OP : ByteArray, (⟨r.op.toArray⟩ : ByteArray) = OP := ⟨_, rfl⟩
          have htv : tv r.op = .string OP := by rw [← hOP]; rfl
          rw [htv] at c0
          obtain ⟨W3, hW3⟩ : ∃ W3, W3 = wr.alloc (.cells #[.string OP, .slice A2 r.args.length c2] 37) := ⟨_, rfl⟩
          have b3 : Below wr.heap.size wr W3 := by rw [hW3]; exact (Below.refl _ _).alloc (Nat.le_refl _) _
          have q3 : W3.heap[wr.heap.size]? = some (.cells #[.string OP, .slice A2 r.args.length c2] 37 (0, 0)) := by rw [hW3]; exact heap_alloc_last _ _
          have his := isRule_any r.op A2 c2 r.args hz1 (fun x hx => Nat.le_trans (hz2 x hx) (by decide)) W3 (hT.below b3)
          rw [htv] at his
          have hb9 : ∀ W, Below W3.heap.size W3 W → W.cell? ⟨wr.heap.size, 0, none⟩ = some (.string OP) ∧ W.cell? ⟨wr.heap.size, 1, none⟩ = some (.slice A2 r.args.length c2) := fun W hW => ⟨by rw [cell_here (blk_below q3 hW)]; rfl, by rw [cell_here (blk_below q3 hW)]; rfl⟩
          have hfs := filter_snoc hkr
          have hBw : B ≤ wr.heap.size := hda.low.2.1
          have hk0 : (0 : Int) ≤ k := by omega
          have hk1 : (k : Int) < n := by omega
          cases hG : r.good with
          | false =>
            have he : (⟨r.op, r.args⟩ : RU).good = false := hG
            rw [he] at his
            rw [if_neg (by rw [hG]; exact Bool.false_ne_true), List.append_nil] at hfs
            obtain ⟨m, hm⟩ : ∃ m, r.args.length = m := ⟨_, rfl⟩
            rw [hm] at his c1 hW3
            have HIS := Lib.hid his; have HW3 := Lib.hid hW3; have B3 := Lib.hid b3; have HDA := Lib.hid hda; have HBO := Lib.hid hbo; have HFS := Lib.hid hfs
            clear his hW3 b3 hda hbo hfs hb9 q3 hkr hbw s4 m4 hT hm he hG htv hOP hz1 hz2
            go_wp2_with (go_at_call 21; rw [← HW3.out]; (with_reducible refine HIS.out.mono ?_); rintro e4 w4 ⟨rfl, hb4⟩; have HB4 := Lib.hid (B3.out.chain hb4); clear hb4; dsimp only)
            go_roundw
            case rel => exact ⟨k + 1, lv, kv, l, ks, xs, by omega, by go_num, Lib.hid (by rw [HFS.out]; exact HFO.out), by omega, HDA.out.keep HB4.out, HBO.out.trans (ButO.of (HB4.out.mono hBw))⟩
            case measure => simp [intOf]; omega
          | true =>
            have he : (⟨r.op, r.args⟩ : RU).good = true := hG
            rw [he] at his
            rw [if_pos hG] at hfs
            obtain ⟨gf, lb, ix, hfind, eg, hcall⟩ := deed_call r hG hz2 C P
            rw [hOP] at hfind
            obtain ⟨et, ht⟩ := Tryd.underDeeds
            have hlk := fun (W : World) (hW : W.heap[M]? = some (.map (deedEs C P 5) 5)) => run_look (P := Tryd.prog) ht Tryd.underlying9 hW OP ix _ hfind
            have hcl := fun W (hW : Below wr.heap.size wr W) => hcall B O w.heap.size W v _ lv kv l ks xs A2 c2 (hda.keep hW) HF.out HX.out (by omega) (hT.below hW)
            have hm5 := fun W (hW : Below wr.heap.size wr W) => hlk W (blk_below m4 hW)
            obtain ⟨m, hm⟩ : ∃ m, r.args.length = m := ⟨_, rfl⟩
            rw [hm] at his c1 hW3 hcl hb9
            have hs5 := fun W (hW : ButO B O wr W) => box_of ((hW.block (w.heap.size + 1) (by omega) (by omega)).trans s4)
            have S5 := Lib.hid (fun W (hW : ButO B O wr W) => (hW.block (w.heap.size + 1) (by omega) (by omega)).trans s4)
            have HIS := Lib.hid his; have HW3 := Lib.hid hW3; have B3 := Lib.hid b3; have HDA := Lib.hid hda; have HBO := Lib.hid hbo; have HFS := Lib.hid hfs; have HB9 := Lib.hid hb9; have HM5 := Lib.hid hm5; have HS5 := Lib.hid hs5; have HBW := Lib.hid hbw; have HKR := Lib.hid hkr
            cases hS : stepR v (.mk 6 0 [] l ks) r with
            | none =>
              have hc2 : ∀ W, Below wr.heap.size wr W → Calls Tryd.prog gf (#[.slice A2 m c2] ++ lb) W fun e w' => e = .returned (.bool false) ∧ ButO B O W w' := fun W hW => (hcl W hW).mono (by
                rintro e w' ⟨h1, ⟨_, h3⟩ | ⟨_, _, _, _, _, h2, _⟩⟩
                · exact ⟨h3, h1⟩
                · rw [hS] at h2; cases h2)
              have hRn : R = none := by
                rw [HRF.out]
                refine filter_all_none (k := k) ?_
                rw [hfs, foldU_snoc, HFO.out]
                exact hS
              subst hRn
              have HC2 := Lib.hid hc2
              clear his hW3 b3 hda hbo hfs hb9 q3 hkr hbw s4 m4 hT hm he hG htv hOP hz1 hz2 hc2 hcl hm5 hs5 hS hlk hfind hcall ht
              go_wp2_with (first
                | (go_at_call 21; rw [← HW3.out]; (with_reducible refine HIS.out.mono ?_); rintro e4 w4 ⟨rfl, hb4⟩; have HB4 := Lib.hid (B3.out.chain hb4); obtain ⟨d0, d1⟩ := HB9.out w4 hb4; have hl5 := HM5.out w4 HB4.out; clear hb4; dsimp only)
                | (go_at_fn gf; (with_reducible refine (HC2.out _ HB4.out).mono ?_); rintro e5 w5 ⟨rfl, hb5⟩; have HB5 := Lib.hid ((ButO.of (HB4.out.mono hBw)).trans hb5); obtain ⟨⟨g0, g1, g2, g3, g4⟩, f0, f1, f2, f3, f4⟩ := HS5.out w5 HB5.out; clear hb5; dsimp only))
              obtain ⟨wf, hwf⟩ : ∃ wf, wf = set5 w5 (w.heap.size + 1) 0 (.int .i64 0) (.int .i64 0) (.string ⟨#[]⟩) (.slice none 0 0) (.slice none 0 0) := ⟨_, rfl⟩
              change bodyPost _ _ _ _ _ (set5 w5 (w.heap.size + 1) 0 (.int .i64 0) (.int .i64 0) (.string ⟨#[]⟩) (.slice none 0 0) (.slice none 0 0))
              rw [← hwf]
              have qf : wf.heap[w.heap.size + 1]? = some (.cells #[.int .i64 0, .int .i64 0, .string ⟨#[]⟩, .slice none 0 0, .slice none 0 0] 25 (0, 0)) := by rw [hwf]; exact set5_here (S5.out w5 HB5.out)
              have hbf : Below w.heap.size w wf := by rw [hwf]; exact (HBW.out.trans (HB5.out.low (by omega) (by omega))).trans (set5_below (Nat.le_succ _))
              obtain ⟨⟨x0, x1, x2, x3, x4⟩, -⟩ := box_of qf
              have HBF := Lib.hid hbf
              clear hbf qf hwf g0 g1 g2 g3 g4 f0 f1 f2 f3 f4 d0 d1 hl5
              refine bodyPost_ret (v := .tuple #[.agg #[.int .i64 0, .int .i64 0, .string ⟨#[]⟩, .slice none 0 0, .slice none 0 0], .bool false]) (by simp [results, Tryd.results10, go_sem, x0, x1, x2, x3, x4]) rfl ?_
              exact crun_none HBF.out
            | some ob =>
              have hc2 : ∀ W, Below wr.heap.size wr W → Calls Tryd.prog gf (#[.slice A2 m c2] ++ lb) W fun e w' => e = .returned (.bool true) ∧ ButO B O W w' ∧ ∃ lv' kv' l' ks' xs', ob = .mk 6 0 [] l' ks' ∧ l'.length = ks'.length ∧ ks'.length ≤ ks.length + 1 ∧ ROut B O w' lv' kv' l' ks' xs' := fun W hW => (hcl W hW).mono (by
                rintro e w' ⟨h1, ⟨h2, _⟩ | ⟨lv', kv', l', ks', xs', h2, h3, h4, h5, h6⟩⟩
                · rw [hS] at h2; cases h2
                · rw [hS] at h2; injection h2 with h2
                  exact ⟨h6, h1, lv', kv', l', ks', xs', h2, h3, h4, h5⟩)
              have hfo : foldU v emptyO ((rs.take (k + 1)).filter RU.good) = some ob := by
                rw [hfs, foldU_snoc, HFO.out]
                exact hS
              have HC2 := Lib.hid hc2; have HFN := Lib.hid hfo
              clear his hW3 b3 hda hbo hfs hb9 q3 hkr hbw s4 m4 hT hm he hG htv hOP hz1 hz2 hc2 hcl hm5 hs5 hS hlk hfind hcall ht hfo
              go_wp2_with (first
                | (go_at_call 21; rw [← HW3.out]; (with_reducible refine HIS.out.mono ?_); rintro e4 w4 ⟨rfl, hb4⟩; have HB4 := Lib.hid (B3.out.chain hb4); obtain ⟨d0, d1⟩ := HB9.out w4 hb4; have hl5 := HM5.out w4 HB4.out; clear hb4; dsimp only)
                | (go_at_fn gf; (with_reducible refine (HC2.out _ HB4.out).mono ?_); rintro e5 w5 ⟨rfl, hb5, lv', kv', l', ks', xs', hob, hn5, hk5, ho5⟩; have HB5 := Lib.hid hb5; have HOB := Lib.hid hob; have HO5 := Lib.hid ho5; clear hb5 hob ho5; dsimp only))
              go_roundw
              case rel => exact ⟨k + 1, lv', kv', l', ks', xs', by omega, by go_num, Lib.hid (by rw [HFN.out, HOB.out]), by omega, (HDA.out.keep HB4.out).put HB5.out HO5.out hn5, (HBO.out.trans (ButO.of (HB4.out.mono hBw))).trans HB5.out⟩
              case measure => simp [intOf]; omega
        · obtain rfl : k = n := by omega
          have hall : rs.take k = rs := by rw [← HN.out, List.take_length]
          have hkz : ∀ y ∈ ks, y.length ≤ 9223372036854775807 := by
            have h1 := HFO.out
            rw [hall] at h1
            exact fold_keys HF.out h1
          have HKZ := Lib.hid hkz
          clear hkz
          have hR2 : R = some (.mk 6 0 [] l ks) := by rw [HRF.out, ← HFO.out, hall]
          subst hR2
          obtain ⟨LA, lc, rfl⟩ := own_formR hda.obj.rowL
          obtain ⟨KA, kc, rfl⟩ := own_formR hda.obj.rowK
          obtain ⟨⟨b0, b1, b2, b3, b4⟩, -⟩ := box_of hda.obj.var
          obtain ⟨⟨g0, g1, g2, g3, g4⟩, f0, f1, f2, f3, f4⟩ := box_of s4
          have HDA := Lib.hid hda; have HBW := Lib.hid hbw; have S4 := Lib.hid s4
          obtain ⟨ll, hll⟩ : ∃ z, l.length = z := ⟨_, rfl⟩
          obtain ⟨lk, hlk⟩ : ∃ z, ks.length = z := ⟨_, rfl⟩
          rw [hll] at b3
          rw [hlk] at b4
          have HLL := Lib.hid hll; have HLK := Lib.hid hlk
          clear hda hbw s4 m4 hbo hall hll hlk
          go_wp2
          obtain ⟨wf, hwf⟩ : ∃ wf, wf = set5 wr (w.heap.size + 1) 0 (.int .i64 6) (.int .i64 0) (.string ⟨#[]⟩) (.slice LA ll lc) (.slice KA lk kc) := ⟨_, rfl⟩
          change bodyPost _ _ _ _ _ (set5 wr (w.heap.size + 1) 0 (.int .i64 6) (.int .i64 0) (.string ⟨#[]⟩) (.slice LA ll lc) (.slice KA lk kc))
          rw [← hwf]
          have qf : wf.heap[w.heap.size + 1]? = some (.cells #[.int .i64 6, .int .i64 0, .string ⟨#[]⟩, .slice LA ll lc, .slice KA lk kc] 25 (0, 0)) := by rw [hwf]; exact set5_here S4.out
          have hbf : Below w.heap.size w wf := by rw [hwf]; exact HBW.out.trans (set5_below (Nat.le_succ _))
          have hof : ROut B O wf (.slice LA l.length lc) (.slice KA ks.length kc) l ks xs := HDA.out.obj.other (q := w.heap.size + 1) (by omega) (by omega) (fun k hk => by rw [hwf]; exact set5_there hk) (by rw [hwf, set5_size]; exact Nat.le_refl _)
          have hvf := hof.is (by have := HDA.out.num; omega) (by omega) HKZ.out
          rw [HLL.out, HLK.out] at hvf
          obtain ⟨⟨x0, x1, x2, x3, x4⟩, -⟩ := box_of qf
          have HBF := Lib.hid hbf; have HVF := Lib.hid hvf
          clear hbf qf hwf hof hvf b0 b1 b2 b3 b4 g0 g1 g2 g3 g4 f0 f1 f2 f3 f4
          refine bodyPost_ret (v := .tuple #[.agg #[.int .i64 6, .int .i64 0, .string ⟨#[]⟩, .slice LA ll lc, .slice KA lk kc], .bool true]) (by simp [results, Tryd.results10, go_sem, x0, x1, x2, x3, x4]) rfl ?_
          exact ⟨⟨_, _, _, _, _, _, _, _, _, rfl, HVF.out⟩, HBF.out⟩
  · have t1 : (ck != 6) = true := by simpa using h6
    obtain rfl : R = none := by rw [HRR.out, if_neg (fun h => h6 h.1)]
    go_enter Tryd.func10, Tryd.ntmps10
    go_wp2
    refine bodyPost_ret (v := .tuple #[.agg #[.int .i64 0, .int .i64 0, .string ⟨#[]⟩, .slice none 0 0, .slice none 0 0], .bool false]) (by simp [results, Tryd.results10, go_sem]) rfl ?_
    exact crun_none (((Below.refl _ _).alloc (Nat.le_refl _) _).alloc (by rw [World.size_alloc]; exact Nat.le_succ _) _)
end Go.Proofs.YtobicmpgfiddhaaDoor
