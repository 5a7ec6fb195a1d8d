/- Layer 13: what the code's rows are to do; what the laws share. -/
import Derived.Test.YtefnkkjmcfpiaaaDoorRowVals
import Derived.Test.YtefnkkjmcfpiaaaDoorHeldMore
import Derived.Deep.RegionLaw
import Derived.Deep.RegionWith
import Derived.Deep.Cut
namespace Go.Proofs.YtefnkkjmcfpiaaaDoor
open Go.RowKit
set_option linter.unusedVariables false
set_option linter.unusedSimpArgs false

/-- what the code's rows do behind w0: M: how many bytes a row's text may have -/
structure CodeRow (w0 : World) (M : Nat) : Prop where
  texts : ∀ (w : World), Below w0.heap.size w0 w → ∀ (A : Option Addr) (c : Nat) (l : List (List UInt8)), (textsL l).length ≤ M → RdT w (.slice A l.length c) l → Calls Tryd.prog 12 #[.slice A l.length c] w fun e w' => e = .returned (tv (textsL l)) ∧ Below w.heap.size w w'
  split : ∀ (w : World), Below w0.heap.size w0 w → ∀ (s : ByteArray), s.size ≤ 1000000 → Calls Tryd.prog 13 #[.string s] w fun e w' => ((∃ l v, s.data.toList = textsL l ∧ e = .returned (.tuple #[v, .int .i64 0]) ∧ RdT w' v l) ∨ ((∀ l, s.data.toList ≠ textsL l) ∧ ∃ A c, e = .returned (.tuple #[.slice A 0 c, .int .i64 2]))) ∧ Below w.heap.size w w'
  session : ∀ (w : World), Below w0.heap.size w0 w → ∀ (x : Sess), x.ok → (textsL x.texts).length ≤ M → Calls Tryd.prog 17 #[x.val] w fun e w' => e = .returned (tv (textsL x.texts)) ∧ Below w.heap.size w w'
  readSession : ∀ (w : World), Below w0.heap.size w0 w → ∀ (s : ByteArray), s.size ≤ 1000000 → Calls Tryd.prog 18 #[.string s] w fun e w' => ((∃ x : Sess, x.ok ∧ s.data.toList = textsL x.texts ∧ e = .returned (.tuple #[x.val, .int .i64 0])) ∨ ((∀ x : Sess, x.ok → s.data.toList ≠ textsL x.texts) ∧ ∃ x : Sess, e = .returned (.tuple #[x.val, .int .i64 2]))) ∧ Below w.heap.size w w'
  code : ∀ (w : World), Below w0.heap.size w0 w → ∀ (x : Cod), x.ok → (textsL x.texts).length ≤ M → Calls Tryd.prog 20 #[x.val] w fun e w' => e = .returned (tv (textsL x.texts)) ∧ Below w.heap.size w w'
  readCode : ∀ (w : World), Below w0.heap.size w0 w → ∀ (s : ByteArray), s.size ≤ 1000000 → Calls Tryd.prog 21 #[.string s] w fun e w' => ((∃ x : Cod, x.ok ∧ s.data.toList = textsL x.texts ∧ e = .returned (.tuple #[x.val, .int .i64 0])) ∨ ((∀ x : Cod, x.ok → s.data.toList ≠ textsL x.texts) ∧ ∃ x : Cod, e = .returned (.tuple #[x.val, .int .i64 2]))) ∧ Below w.heap.size w w'
  family : ∀ (w : World), Below w0.heap.size w0 w → ∀ (x : Fam) (ov : Value), RdT w ov x.fOld → (textsL x.texts).length ≤ M → Calls Tryd.prog 23 #[x.val ov] w fun e w' => e = .returned (tv (textsL x.texts)) ∧ Below w.heap.size w w'
  readFamily : ∀ (w : World), Below w0.heap.size w0 w → ∀ (s : ByteArray), s.size ≤ 1000000 → Calls Tryd.prog 24 #[.string s] w fun e w' => ((∃ (x : Fam) (ov : Value), s.data.toList = textsL x.texts ∧ e = .returned (.tuple #[x.val ov, .int .i64 0]) ∧ RdT w' ov x.fOld) ∨ ((∀ x : Fam, s.data.toList ≠ textsL x.texts) ∧ ∃ (x : Fam) (A : Option Addr) (c : Nat), e = .returned (.tuple #[x.val (.slice A x.fOld.length c), .int .i64 2]))) ∧ Below w.heap.size w w'
theorem CodeRow.later {w0 w : World} {M : Nat} (H : CodeRow w0 M) (hb : Below w0.heap.size w0 w) : CodeRow w M :=
  ⟨fun W h => H.texts W (hb.chain h), fun W h => H.split W (hb.chain h), fun W h => H.session W (hb.chain h), fun W h => H.readSession W (hb.chain h), fun W h => H.code W (hb.chain h), fun W h => H.readCode W (hb.chain h), fun W h => H.family W (hb.chain h), fun W h => H.readFamily W (hb.chain h)⟩
set_option maxRecDepth 100000 in
set_option maxHeartbeats 4000000 in
theorem same13_any (v v' : Value) (la lb : List (List UInt8)) (ha : la.length ≤ 1000000) (hb : lb.length ≤ 1000000) (w : World) (h : RdT w v la) (h' : RdT w v' lb) :
    Calls Tryd.prog 15 #[v, v'] w fun e w' => e = .returned (.bool (decide (la = lb))) ∧ Below w.heap.size w w' := by
  obtain ⟨A, c, rfl⟩ := rdt_form h
  obtain ⟨A', c', rfl⟩ := rdt_form h'
  obtain ⟨n, hln⟩ : ∃ n, la.length = n := ⟨_, rfl⟩
  obtain ⟨m, hlm⟩ : ∃ n, lb.length = n := ⟨_, rfl⟩
  by_cases hn : n = m
  · subst hn
    obtain ⟨R, hR⟩ : ∃ R, decide (la = lb) = R := ⟨_, rfl⟩
    have hyes : la.take n = lb.take n → R = true := fun e => by
      rw [List.take_of_length_le (by omega), List.take_of_length_le (by omega)] at e
      rw [← hR, e]; simp
    have hno : ∀ k (h1 : k < la.length) (h2 : k < lb.length), la[k] ≠ lb[k] → R = false := fun k h1 h2 e => by
      rw [← hR]
      exact decide_eq_false fun e2 => e (by subst e2; rfl)
    have HA := Lib.hid h; have HA' := Lib.hid h'; have HY := Lib.hid hyes; have HN := Lib.hid hno; have HL := Lib.hid hln; have HL' := Lib.hid hlm
    rw [hR, hln, hlm]
    rw [hln] at ha
    clear h h' hyes hno hln hlm hR hb
    go_enter Tryd.func15, Tryd.ntmps15
    go_wp2
    go_loopw [5] (fun i W => ∃ k : Nat, k ≤ n ∧ i = .int .i64 k ∧ Hid (la.take k = lb.take k ∧ Below w.heap.size w W)) (fun i _ => n - (intOf i).toNat)
    case atStart => exact ⟨0, Nat.zero_le _, rfl, Lib.hid ⟨rfl, Below.refl _ _⟩⟩
    case round =>
      obtain ⟨k, hk, rfl, hT⟩ := hrel
      by_cases hlt : k < n
      · have hkr : decide ((k : Int) < n) = true := by simp; omega
        have hk0 : (0 : Int) ≤ k := by omega
        have hk1 : (k : Int) < n := by omega
        have hka : k < la.length := by rw [HL.out]; exact hlt
        have hkb : k < lb.length := by rw [HL'.out]; exact hlt
        obtain ⟨g, o, rfl, hg, c1⟩ := (HA.out.below hT.out.2).at k hka
        obtain ⟨g', o', rfl, hg', c2⟩ := (HA'.out.below hT.out.2).at k hkb
        obtain ⟨S1, hS1⟩ : ∃ S : ByteArray, S = ⟨la[k].toArray⟩ := ⟨_, rfl⟩
        obtain ⟨S2, hS2⟩ : ∃ S : ByteArray, S = ⟨lb[k].toArray⟩ := ⟨_, rfl⟩
        unfold tv at c1 c2
        rw [← hS1] at c1
        rw [← hS2] at c2
        have hne := str_neq S1 S2 la[k] lb[k] hS1 hS2
        by_cases heq : la[k] = lb[k]
        · have hx : (!S1.toList == S2.toList) = false := by rw [hne, decide_eq_true heq]; rfl
          have hmore := take_eq_step hT.out.1 hka hkb heq
          have HM := Lib.hid hmore
          clear hne hmore hS1 hS2 heq hka hkb hg hg'
          go_upto_region 6 with fail
          go_quiet (fail)
          go_wp2
          go_roundw
          case rel => exact ⟨k + 1, by omega, by go_num, Lib.hid ⟨HM.out, belowDrewN hT.out.2 _⟩⟩
          case measure => simp [intOf]; omega
        · have hx : (!S1.toList == S2.toList) = true := by rw [hne, decide_eq_false heq]; rfl
          have hfin := HN.out k hka hkb heq
          have HF := Lib.hid hfin
          clear hne hfin hS1 hS2 heq hka hkb hg hg'
          go_upto_region 6 with fail
          go_quiet (fail)
          go_wp2
          go_ret
          exact ⟨ret_bool HF.out.symm, belowDrewN hT.out.2 _⟩
      · obtain rfl : k = n := by omega
        have hkr : decide ((k : Int) < k) = false := by simp
        have hfin := HY.out hT.out.1
        have HF := Lib.hid hfin
        clear hfin
        go_wp2
        go_ret
        exact ⟨ret_bool HF.out.symm, hT.out.2⟩
  · have hne : decide (la = lb) = false := decide_eq_false fun e => hn (by rw [← hln, ← hlm, e])
    have HNE := Lib.hid hne
    rw [hln, hlm]
    have hd : (!(n : Int) == m) = true := by simp; omega
    clear hne h h' hln hlm
    go_enter Tryd.func15, Tryd.ntmps15
    go_wp2
    go_ret
    exact ⟨ret_bool HNE.out.symm, Below.refl _ _⟩
/-- how large texts are -/
def sumT (l : List (List UInt8)) : Nat := (l.map List.length).sum
theorem sumT_snoc (l : List (List UInt8)) (x : List UInt8) : sumT (l ++ [x]) = sumT l + x.length := by simp [sumT]
theorem sumT_take : ∀ (l : List (List UInt8)) (k : Nat), sumT (l.take k) ≤ sumT l
  | [], k => by simp
  | x :: l, 0 => Nat.zero_le _
  | x :: l, k + 1 => by
    have h := sumT_take l k
    unfold sumT at h ⊢
    rw [List.take_succ_cons, List.map_cons, List.map_cons, List.sum_cons, List.sum_cons]; omega
def fewB (l : List (List UInt8)) : Bool := decide (l.length + sumT l < 10000)
/-- few texts are not long as one -/
theorem few_len {l : List (List UInt8)} (h : fewB l = true) : (textsL l).length ≤ 60000 ∧ l.length ≤ 10000 := by
  have h := of_decide_eq_true h
  have k : ∀ l : List (List UInt8), sumT l < 10000 → (textsL l).length ≤ 6 * l.length + sumT l := fun l => by
    induction l with
    | nil => intro _; exact Nat.zero_le _
    | cons t l ih =>
      intro hs
      have e : sumT (t :: l) = t.length + sumT l := by simp [sumT]
      rw [e] at hs ⊢
      have h1 := ih (by omega)
      have h2 := decL_len t.length 5 (Nat.lt_of_lt_of_le (show t.length < 10000 by omega) (by decide)) (by decide)
      rw [textsL_cons, List.length_append, List.length_cons, List.length_append, List.length_cons]
      omega
  have h1 := k l (by omega)
  omega
set_option maxRecDepth 100000 in
set_option maxHeartbeats 4000000 in
theorem few13_any (A : Option Addr) (c : Nat) (l : List (List UInt8)) (hl : l.length ≤ 200000000000000) (hz : ∀ x ∈ l, x.length ≤ 200000000000000) (w : World) (h : RdT w (.slice A l.length c) l) :
    Calls Tryd.prog 10 #[.slice A l.length c] w fun e w' => e = .returned (.bool (fewB l)) ∧ Below w.heap.size w w' := by
  obtain ⟨n, hn⟩ : ∃ n, l.length = n := ⟨_, rfl⟩
  have hres : fewB l = decide (n + sumT l < 10000) := by unfold fewB; rw [hn]
  have hmono := sumT_take l
  have HRC := Lib.hid h; have HN := Lib.hid hn; have HZ := Lib.hid hz; have RES := Lib.hid hres; have MONO := Lib.hid hmono
  rw [hn] at hl ⊢
  clear h hn hz hres hmono
  go_enter Tryd.func10, Tryd.ntmps10
  go_wp2
  go_loopw [3, 4] (fun s i W => ∃ k sm : Nat, k ≤ n ∧ i = .int .i64 k ∧ s = .int .i64 sm ∧ Hid (sm = n + sumT (l.take k) ∧ Below w.heap.size w W)) (fun _ i _ => n - (intOf i).toNat)
  case atStart => exact ⟨0, n, Nat.zero_le _, rfl, rfl, Lib.hid ⟨by simp [sumT], Below.refl _ _⟩⟩
  case round =>
    obtain ⟨k, sm, hk, rfl, rfl, hT⟩ := hrel
    by_cases hlt : k < n
    · have hkr : decide ((k : Int) < n) = true := by simp; omega
      by_cases hs : sm < 10000
      · have ds : decide ((sm : Int) < 10000) = true := by simp; omega
        have hkl : k < l.length := by rw [HN.out]; exact hlt
        have hk0 : (0 : Int) ≤ k := by omega
        have hk1 : (k : Int) < n := by omega
        have hkn : k < n := hlt
        obtain ⟨g, o, rfl, hg, c1⟩ := (HRC.out.below hT.out.2).at k hkl
        obtain ⟨x, hx⟩ : ∃ x, l[k] = x := ⟨_, rfl⟩
        have hxz := HZ.out l[k] (List.getElem_mem hkl)
        have hst : sumT (l.take (k + 1)) = sumT (l.take k) + x.length := by
          rw [List.take_succ_eq_append_getElem hkl, hx, sumT_snoc]
        rw [hx] at c1 hxz
        unfold tv at c1
        obtain ⟨S1, hS1⟩ : ∃ S : ByteArray, S = ⟨x.toArray⟩ := ⟨_, rfl⟩
        have z1 : S1.size = x.length := by rw [hS1]; show x.toArray.size = _; simp
        rw [← hS1] at c1
        obtain ⟨a1, ha1⟩ : ∃ n, S1.size = n := ⟨_, rfl⟩
        have q1 : IntKind.i64.wrap ((sm : Int) + a1) = (sm : Int) + a1 := wraps_i64 _ (by omega) (by omega)
        have hnew : sm + a1 = n + sumT (l.take (k + 1)) := by have := hT.out.1; omega
        have NEW := Lib.hid hnew
        clear hnew hst hxz hS1 z1 hx hkl hg
        go_wp2
        go_roundw
        case rel => exact ⟨k + 1, sm + a1, by omega, by go_num, by go_num, Lib.hid ⟨NEW.out, hT.out.2⟩⟩
        case measure => simp [intOf]; omega
      · have ds : decide ((sm : Int) < 10000) = false := by simp; omega
        have hfin : fewB l = false := by
          rw [RES.out]
          have h1 := MONO.out k
          have h2 := hT.out.1
          exact decide_eq_false (by omega)
        have HF := Lib.hid hfin
        clear hfin
        go_wp2
        go_ret
        exact ⟨ret_bool HF.out.symm, hT.out.2⟩
    · obtain rfl : k = n := by omega
      have hkr : decide ((k : Int) < k) = false := by simp
      have htk : l.take k = l := List.take_of_length_le (by rw [HN.out]; exact Nat.le_refl _)
      have h1 := hT.out.1
      rw [htk] at h1
      have hfin : fewB l = decide (sm < 10000) := by rw [RES.out, ← h1]
      have HF := Lib.hid hfin
      clear hfin h1 htk
      by_cases hs : sm < 10000
      · have ds : decide ((sm : Int) < 10000) = true := by simp; omega
        have hf : fewB l = true := by rw [HF.out, decide_eq_true hs]
        have HG := Lib.hid hf
        clear hf
        go_wp2
        go_ret
        exact ⟨ret_bool HG.out.symm, hT.out.2⟩
      · have ds : decide ((sm : Int) < 10000) = false := by simp; omega
        have hf : fewB l = false := by rw [HF.out, decide_eq_false hs]
        have HG := Lib.hid hf
        clear hf
        go_wp2
        go_ret
        exact ⟨ret_bool HG.out.symm, hT.out.2⟩
end Go.Proofs.YtefnkkjmcfpiaaaDoor
