/- The landed rules: a part's words. -/
import Derived.Test.YtobicmpgfiddhaaDoorRuleIs
import Derived.Test.YtobicmpgfiddhaaDoorStrClone
import Derived.Test.YtobicmpgfiddhaaDoorParts
import Derived.Lib.Split
import Derived.Lib.IndexBytes
namespace Go.Proofs.YtobicmpgfiddhaaDoor
open Go.RowKit
set_option linter.unusedVariables false
set_option linter.unusedSimpArgs false

/-- cut at the first k bytes c -/
def cutK (c : UInt8) : Nat → List UInt8 → List (List UInt8)
  | 0, s => [s]
  | k + 1, s => if atL c s < s.length then s.take (atL c s) :: cutK c k (s.drop (atL c s + 1)) else [s]
theorem cutK_ne (c : UInt8) : ∀ (k : Nat) (s : List UInt8), cutK c k s ≠ []
  | 0, s => by simp [cutK]
  | k + 1, s => by unfold cutK; split <;> simp
theorem cutK_len (c : UInt8) : ∀ (k : Nat) (s : List UInt8), (cutK c k s).length ≤ k + 1
  | 0, s => by simp [cutK]
  | k + 1, s => by
    unfold cutK; split
    · have := cutK_len c k (s.drop (atL c s + 1)); simp; omega
    · simp
theorem cutK_each (c : UInt8) : ∀ (k : Nat) (s : List UInt8), ∀ x ∈ cutK c k s, x.length ≤ s.length
  | 0, s => fun x hx => by simp [cutK] at hx; subst hx; exact Nat.le_refl _
  | k + 1, s => by
    unfold cutK
    intro x hx
    split at hx
    · rcases List.mem_cons.1 hx with rfl | hx
      · rw [List.length_take]; omega
      · have := cutK_each c k _ x hx
        rw [List.length_drop] at this; omega
    · simp at hx; subst hx; exact Nat.le_refl _
theorem splitK_cut (c : UInt8) : ∀ (k : Nat) (l : List UInt8), Lib.splitK [c] 0 k l = cutK c k l
  | 0, l => rfl
  | k + 1, l => by
    unfold Lib.splitK cutK
    by_cases hk : atL c l < l.length
    · have hi : Lib.index l [c] = (atL c l : Int) := by rw [Lib.index_one, atL_index, if_pos hk]
      rw [if_neg (fun e => by rw [hi] at e; have := beq_iff_eq.1 e; omega), if_pos hk, hi]
      simp only [Int.toNat_natCast, Nat.add_zero, List.length_singleton]
      rw [splitK_cut c k]
    · have hi : Lib.index l [c] = -1 := by rw [Lib.index_one, atL_index, if_neg hk]
      rw [if_pos (by rw [hi]; rfl), if_neg hk]
theorem splitB_cut (s : List UInt8) (c : UInt8) (k : Nat) : (Lib.splitB ⟨#[c]⟩ 0 k ⟨s.toArray⟩).map Value.string = (cutK c k s).map tv := by
  have h := Lib.splitB_data ⟨#[c]⟩ 0 k ⟨s.toArray⟩
  have e : (⟨s.toArray⟩ : ByteArray).data.toList = s := by simp
  have e2 : (⟨#[c]⟩ : ByteArray).data.toList = [c] := rfl
  rw [e, e2, splitK_cut] at h
  rw [← h, List.map_map]
  refine List.map_congr_left fun x _ => ?_
  show Value.string x = Value.string ⟨x.data.toList.toArray⟩
  congr 1
/-- a part's words, as a rule -/
def wordsR (s : List UInt8) : List (List UInt8) := cutK 32 (min 5 (s.length + 1) - 1) s
def ruleR (s : List UInt8) : RU := ⟨(wordsR s).headD [], (wordsR s).tail⟩
/-- a package's variable of the library, wherever it is -/
def Var0 (w : World) : Prop := ∃ m, w.cell? ⟨0, 0, none⟩ = some (.int .i64 m)
theorem Var0.lt {w : World} (h : Var0 w) : 0 < w.heap.size := by
  obtain ⟨m, h⟩ := h
  rcases Nat.lt_or_ge 0 w.heap.size with h1 | h1
  · exact h1
  · have : w.heap[0]? = none := Array.getElem?_eq_none (by omega)
    unfold World.cell? at h
    simp only [this] at h
    cases h
theorem Var0.below {w w' : World} (h : Var0 w) (hb : Below w.heap.size w w') : Var0 w' := by
  obtain ⟨m, hm⟩ := h
  exact ⟨m, (hb.cell (p := ⟨0, 0, none⟩) (Var0.lt ⟨m, hm⟩)).trans hm⟩
/-- a slice of texts in a block of its own, from block L on -/
def RdS (L : Nat) (w : World) (u : Value) (l : List (List UInt8)) : Prop :=
  ∃ A c, u = .slice A l.length c ∧ l.length ≤ c ∧ ∀ k x, l[k]? = some x → ∃ g o C, A = some ⟨g, o, none⟩ ∧ L ≤ g ∧ w.heap[g]? = some (.cells C 9 (0, 0)) ∧ C[o + k]? = some (tv x)
theorem RdS.rdt {L : Nat} {w : World} {u : Value} {l : List (List UInt8)} (h : RdS L w u l) : RdT w u l := by
  obtain ⟨A, c, rfl, hc, h⟩ := h
  refine ⟨A, c, rfl, hc, fun k x hk => ?_⟩
  obtain ⟨g, o, C, rfl, _, hg, h1⟩ := h k x hk
  exact ⟨g, o, rfl, (Array.getElem?_eq_some_iff.1 hg).1, by rw [cell_here hg]; exact h1⟩
theorem RdS.keep {L : Nat} {w w' : World} {u : Value} {l : List (List UInt8)} (h : RdS L w u l) (hk : ∀ g C, L ≤ g → w.heap[g]? = some (.cells C 9 (0, 0)) → w'.heap[g]? = w.heap[g]?) : RdS L w' u l := by
  obtain ⟨A, c, rfl, hc, h⟩ := h
  refine ⟨A, c, rfl, hc, fun k x hx => ?_⟩
  obtain ⟨g, o, C, rfl, hL, hg, h1⟩ := h k x hx
  exact ⟨g, o, C, rfl, hL, (hk g C hL hg).trans hg, h1⟩
theorem RdS.more {L L' : Nat} {w : World} {u : Value} {l : List (List UInt8)} (h : RdS L w u l) (hL : L' ≤ L) : RdS L' w u l := by
  obtain ⟨A, c, rfl, hc, h⟩ := h
  refine ⟨A, c, rfl, hc, fun k x hx => ?_⟩
  obtain ⟨g, o, C, rfl, h0, hg, h1⟩ := h k x hx
  exact ⟨g, o, C, rfl, Nat.le_trans hL h0, hg, h1⟩
theorem splitN_any (s : List UInt8) (hs : s.length ≤ 1000000000) (w : World) (hj : Var0 w) :
    Calls Tryd.prog 31 #[.string ⟨s.toArray⟩, .string ⟨#[32]⟩, .int .i64 5] w fun e w' => ∃ (N : Nat) (C : Array Value), e = .returned (.slice (some ⟨w.heap.size, 0, none⟩) (wordsR s).length N) ∧ (wordsR s).length ≤ N ∧ N ≤ 5 ∧ C.size = N ∧ (∀ (k : Nat) x, (wordsR s)[k]? = some x → C[k]? = some (tv x)) ∧ w' = w.alloc (.cells C 9) := by
  obtain ⟨m, hm⟩ := hj
  have h := Tryd.strings_SplitN ⟨s.toArray⟩ ⟨#[32]⟩ 5 m w (by show s.toArray.size < _; simp; omega) hm (by decide) (by decide) (by decide)
  have hsz : (⟨s.toArray⟩ : ByteArray).size = s.length := by show s.toArray.size = _; simp
  rw [hsz] at h
  have he : (Lib.splitB ⟨#[32]⟩ 0 (min 5 (s.length + 1) - 1) ⟨s.toArray⟩).map Value.string = (wordsR s).map tv := splitB_cut s 32 _
  have hl : (Lib.splitB ⟨#[32]⟩ 0 (min 5 (s.length + 1) - 1) ⟨s.toArray⟩).length = (wordsR s).length := by
    have := congrArg List.length he; simpa using this
  have hle : (wordsR s).length ≤ min 5 (s.length + 1) := by
    have := cutK_len 32 (min 5 (s.length + 1) - 1) s
    show (cutK 32 (min 5 (s.length + 1) - 1) s).length ≤ _
    omega
  refine h.mono ?_
  rintro e w' ⟨rfl, rfl⟩
  refine ⟨_, _, by rw [hl], hle, by omega, Lib.cellsOf_size (by rw [hl]; exact hle), fun k x hk => ?_, rfl⟩
  unfold Lib.cellsOf
  rw [he, List.getElem?_toArray, List.getElem?_append_left (by rw [List.length_map]; exact (List.getElem?_eq_some_iff.1 hk).1), List.getElem?_map, hk]
  rfl
set_option maxRecDepth 100000 in
set_option maxHeartbeats 8000000 in
theorem split_any14 (s : List UInt8) (hs : s.length ≤ 1000000000) (w : World) (hj : Var0 w) :
    Calls Tryd.prog 20 #[.string ⟨s.toArray⟩] w fun e w' => ∃ A n c, e = .returned (.agg #[tv (ruleR s).op, .slice A n c]) ∧ RdS w.heap.size w' (.slice A n c) (ruleR s).args ∧ Below w.heap.size w w' := by
  obtain ⟨P, hP⟩ : ∃ P, wordsR s = P := ⟨_, rfl⟩
  have hne : P ≠ [] := by rw [← hP]; exact cutK_ne _ _ _
  have hz : ∀ x ∈ P, x.length ≤ s.length := by rw [← hP]; exact cutK_each _ _ _
  have hop : (ruleR s).op = P.headD [] := by rw [← hP]; rfl
  have har : (ruleR s).args = P.tail := by rw [← hP]; rfl
  obtain ⟨n, hn⟩ : ∃ n, P.length = n := ⟨_, rfl⟩
  have hn1 : 1 ≤ n := by
    cases P with
    | nil => exact absurd rfl hne
    | cons a b => rw [← hn]; simp
  have hsp := fun W (hW : Below w.heap.size w W) => splitN_any s hs W (hj.below hW)
  rw [hP, hn] at hsp
  rw [hop, har]
  obtain ⟨S, hS⟩ : ∃ S : ByteArray, (⟨s.toArray⟩ : ByteArray) = S := ⟨_, rfl⟩
  rw [hS] at hsp ⊢
  have hcl := fun (x : List UInt8) (hx : x ∈ P) W => sclone_any ⟨x.toArray⟩ (by have := hz x hx; show x.toArray.size ≤ _; simp; omega) W
  obtain ⟨W1, hW1⟩ : ∃ W1, W1 = w.alloc (.cells #[.string ⟨#[]⟩, .slice none 0 0] 37) := ⟨_, rfl⟩
  have b1 : Below w.heap.size w W1 := by rw [hW1]; exact (Below.refl _ _).alloc (Nat.le_refl _) _
  have z1 : W1.heap.size = w.heap.size + 1 := by rw [hW1]; simp
  have q1 : W1.heap[w.heap.size]? = some (.cells #[.string ⟨#[]⟩, .slice none 0 0] 37 (0, 0)) := by rw [hW1]; exact heap_alloc_last w _
  have HSP := Lib.hid (hsp W1 b1); have HCL := Lib.hid hcl; have HW1 := Lib.hid hW1; have B1 := Lib.hid b1; have Z1 := Lib.hid z1; have Q1 := Lib.hid q1; have HN := Lib.hid hn; have HNE := Lib.hid hne
  clear hsp hcl hW1 b1 z1 q1 hS hop har hP hz hn hne hj
  go_enter Tryd.func20, Tryd.ntmps20
  go_upto_region 2 with (go_at_call 31; rw [← HW1.out]; (with_reducible refine HSP.out.mono ?_); rintro e1 w1 ⟨N, C, rfl, hnN, hN5, hCs, hC, rfl⟩; dsimp only)
  obtain ⟨R, hR⟩ : ∃ R, W1.heap.size = R := ⟨_, rfl⟩
  have zR : R = w.heap.size + 1 := by rw [← hR]; exact Z1.out
  have q2 : (W1.alloc (.cells C 9)).heap[R]? = some (.cells C 9 (0, 0)) := by rw [← hR]; exact heap_alloc_last _ _
  have b2 : Below R W1 (W1.alloc (.cells C 9)) := by rw [← hR]; exact (Below.refl _ _).alloc (Nat.le_refl _) _
  have Q2 := Lib.hid q2; have B2 := Lib.hid b2; have HC := Lib.hid hC; have HR := Lib.hid hR; have HCS := Lib.hid hCs; have ZR := Lib.hid zR
  clear q2 b2 hC hCs zR
  rw [HR.out]
  clear hR
  go_wp2_with fail
  go_loopw [9] (fun i wr => ∃ k : Nat, k ≤ n ∧ i = .int .i64 k ∧ wr.heap[R]? = some (.cells C 9 (0, 0)) ∧ Below R W1 wr) (fun i _ => n - (intOf i).toNat)
  case atStart => exact ⟨0, Nat.zero_le _, rfl, Q2.out, B2.out⟩
  case round =>
    obtain ⟨k, hkn, rfl, hq, hb⟩ := hrel
    have hRs := (Array.getElem?_eq_some_iff.1 hq).1
    by_cases hlt : k < n
    · have hkl : k < P.length := by rw [HN.out]; exact hlt
      have hck := HC.out k P[k] (List.getElem?_eq_getElem hkl)
      have hcl := HCL.out P[k] (List.getElem_mem hkl) wr
      obtain ⟨X, hX⟩ : ∃ X : ByteArray, (⟨P[k].toArray⟩ : ByteArray) = X := ⟨_, rfl⟩
      unfold tv at hck
      rw [hX] at hck hcl
      have c1 : wr.cell? ⟨R, k, none⟩ = some (.string X) := by rw [cell_here hq]; exact hck
      have hst : ∀ W, Below wr.heap.size wr W → W.cell? ⟨R, k, none⟩ = some (.string X) ∧ W.frozen? ⟨R, k, none⟩ = false ∧ W.heap[R]? = some (.cells C 9 (0, 0)) := fun W hW =>
        ⟨by rw [cell_here (blk_below hq hW)]; exact hck, frozen_here (blk_below hq hW) _, blk_below hq hW⟩
      have hk0 : (0 : Int) ≤ k := by omega
      have hk1 : (k : Int) < n := by omega
      have HCC := Lib.hid hcl; have HB := Lib.hid hb; have HST := Lib.hid hst; have HCK := Lib.hid hck
      clear hcl hX hst hb hck hq
      go_wp2_with (go_at_call 32; (with_reducible refine HCC.out.mono ?_); rintro e1 w1 ⟨rfl, hb1⟩; obtain ⟨d1, d2, d3⟩ := HST.out w1 hb1; have D3 := Lib.hid d3; have HB1 := Lib.hid (HB.out.trans (hb1.mono (Nat.le_of_lt hRs))); clear hb1 d3; dsimp only)
      go_roundw
      case rel =>
        refine ⟨k + 1, by omega, by go_num, ?_, HB1.out.setCell (p := ⟨R, k, none⟩) (Nat.le_refl _) _⟩
        have hs := set_here (o := k) D3.out (.string X)
        have hcc : C.setIfInBounds k (.string X) = C := by
          apply Array.ext
          · simp
          · intro j h1 h2
            rw [Array.getElem_setIfInBounds (by simpa using h2)]
            split
            · rename_i e; subst e
              have := HCK.out
              rw [Array.getElem?_eq_getElem h2] at this
              injection this with this; exact this.symm
            · rfl
        rw [hcc] at hs
        exact hs
      case measure => simp [intOf]; omega
    · obtain rfl : k = n := by omega
      have hp0 : 0 < P.length := by rw [HN.out]; omega
      have hc0 := HC.out 0 P[0] (List.getElem?_eq_getElem hp0)
      have hh : P.headD [] = P[0] := by rw [List.headD_eq_head?_getD, List.head?_eq_getElem?, List.getElem?_eq_getElem hp0]; rfl
      obtain ⟨X, hX⟩ : ∃ X : ByteArray, (⟨P[0].toArray⟩ : ByteArray) = X := ⟨_, rfl⟩
      have htv : tv (P.headD []) = .string X := by rw [hh, ← hX]; rfl
      unfold tv at hc0
      rw [hX] at hc0
      have c1 : wr.cell? ⟨R, 0, none⟩ = some (.string X) := by rw [cell_here hq]; exact hc0
      have q1 : wr.heap[w.heap.size]? = some (.cells #[.string ⟨#[]⟩, .slice none 0 0] 37 (0, 0)) := (hb.block _ (by have := ZR.out; omega)).trans Q1.out
      have e0 : wr.cell? ⟨w.heap.size, 0, none⟩ = some (.string ⟨#[]⟩) := by rw [cell_here q1]; rfl
      have e1 : wr.cell? ⟨w.heap.size, 1, none⟩ = some (.slice none 0 0) := by rw [cell_here q1]; rfl
      have f0 := frozen_here q1 0
      have f1 := frozen_here q1 1
      have hn0 : (0 : Int) < k := by omega
      have hn2 : (1 : Int) ≤ k := by omega
      have htv2 : tv (P.head?.getD []) = .string X := by rw [← htv, List.headD_eq_head?_getD]
      have HTV := Lib.hid htv2; have HQ := Lib.hid hq; have HB := Lib.hid hb; have QQ1 := Lib.hid q1
      clear hq hb hc0 hh hX htv htv2 q1
      go_upto_region 7 with fail
      go_region
      obtain ⟨SA, hSA⟩ : ∃ SA : Option Addr, (if N = 1 then some (⟨R, 0, none⟩ : Addr) else some ⟨R, 1, none⟩) = SA := ⟨_, rfl⟩
      rw [hSA]
      have HSA := Lib.hid hSA
      clear hSA
      go_wp2
      obtain ⟨wf, hwf⟩ : ∃ wf, wf = ((wr.setCell ⟨w.heap.size, 0, none⟩ (.string X)).setCell ⟨w.heap.size, 1, none⟩ (.slice SA (k - 1) (N - 1))).drew := ⟨_, rfl⟩
      rw [← hwf]
      have qf : wf.heap[w.heap.size]? = some (.cells #[.string X, .slice SA (k - 1) (N - 1)] 37 (0, 0)) := by
        rw [hwf]
        have := set_here (o := 1) (set_here (o := 0) QQ1.out (.string X)) (.slice SA (k - 1) (N - 1))
        show ((wr.setCell ⟨w.heap.size, 0, none⟩ (.string X)).setCell ⟨w.heap.size, 1, none⟩ (.slice SA (k - 1) (N - 1))).heap[w.heap.size]? = _
        simpa using this
      have qr : wf.heap[R]? = some (.cells C 9 (0, 0)) := by
        rw [hwf]
        show ((wr.setCell ⟨w.heap.size, 0, none⟩ (.string X)).setCell ⟨w.heap.size, 1, none⟩ (.slice SA (k - 1) (N - 1))).heap[R]? = _
        rw [set_there _ (by have := ZR.out; omega), set_there _ (by have := ZR.out; omega)]
        exact HQ.out
      have hbf : Below w.heap.size w wf := by
        rw [hwf]
        exact (((B1.out.trans (HB.out.mono (by have := ZR.out; omega))).setCell (p := ⟨w.heap.size, 0, none⟩) (Nat.le_refl _) _).setCell (p := ⟨w.heap.size, 1, none⟩) (Nat.le_refl _) _).drew
      have ht : P.tail.length = k - 1 := by rw [List.length_tail, HN.out]
      have hrd : RdS w.heap.size wf (.slice SA (k - 1) (N - 1)) P.tail := by
        refine ⟨SA, N - 1, by rw [ht], by rw [ht]; omega, fun j x hj => ?_⟩
        have hjl := (List.getElem?_eq_some_iff.1 hj).1
        rw [ht] at hjl
        refine ⟨R, 1, C, by rw [← HSA.out, if_neg (by omega)], by have := ZR.out; omega, qr, ?_⟩
        refine HC.out (1 + j) x ?_
        rw [List.getElem?_tail] at hj
        rw [Nat.add_comm]; exact hj
      have x0 : wf.cell? ⟨w.heap.size, 0, none⟩ = some (.string X) := by rw [cell_here qf]; rfl
      have x1 : wf.cell? ⟨w.heap.size, 1, none⟩ = some (.slice SA (k - 1) (N - 1)) := by rw [cell_here qf]; rfl
      have HRD := Lib.hid hrd; have HBF := Lib.hid hbf
      clear hrd hbf qf qr hwf e0 e1 f0 f1 c1
      refine bodyPost_ret (v := .agg #[.string X, .slice SA (k - 1) (N - 1)]) (by simp [results, Tryd.results20, go_sem, x0, x1]) rfl ?_
      exact ⟨SA, k - 1, N - 1, by first | rw [HTV.out] | rw [List.headD_eq_head?_getD, HTV.out], HRD.out, HBF.out⟩
end Go.Proofs.YtobicmpgfiddhaaDoor
