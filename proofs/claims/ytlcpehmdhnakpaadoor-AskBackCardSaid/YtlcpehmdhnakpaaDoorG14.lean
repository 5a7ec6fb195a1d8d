/- Texts merged by program, in build order: LawAskW. -/
import Derived.Test.YtlcpehmdhnakpaaDoorG13
import Derived.Test.YtlcpehmdhnakpaaDoorG07
import Derived.Test.YtlcpehmdhnakpaaDoorG06
set_option linter.unusedVariables false
set_option linter.unusedSimpArgs false
namespace Go.Proofs.YtlcpehmdhnakpaaDoor
open Go.RowKit
set_option linter.unusedVariables false
set_option linter.unusedSimpArgs false

theorem pcells_drop : ∀ (k : Nat) (l : PL), pcells (l.drop k) = (pcells l).drop (k * 2)
  | 0, l => by simp
  | k + 1, [] => by simp [pcells]
  | k + 1, p :: l => by
    rw [List.drop_succ_cons, pcells_drop k l, show (k + 1) * 2 = k * 2 + 1 + 1 by omega]
    simp [pcells]
theorem pcells_take : ∀ (k : Nat) (l : PL), pcells (l.take k) = (pcells l).take (k * 2)
  | 0, l => by simp [pcells]
  | k + 1, [] => by simp [pcells]
  | k + 1, p :: l => by
    rw [List.take_succ_cons, show (k + 1) * 2 = k * 2 + 1 + 1 by omega]
    simp [pcells, pcells_take k l]
/-- cells of a block, from a place on -/
theorem sub_cells {w : World} {q : Nat} {C : Array Value} {t : TypeId} {fr : Nat × Nat} (h : w.heap[q]? = some (.cells C t fr)) (o : Nat) (news : List Value) (hn : ∀ j u, news[j]? = some u → C[o + j]? = some u) : ∀ j u, news[j]? = some u → w.cell? ((⟨q, o, none⟩ : Addr).add j) = some u := by
  intro j u hu
  rw [Addr.add_lit, cell_here h]
  exact hn j u hu
theorem own_cells {w : World} {B g n m cp : Nat} {t : TypeId} {xs : List Value} (h : w.ownsRow B t 2 (.slice (some ⟨g, 0, none⟩) m cp) n xs) (o : Nat) (news : List Value) (hn : ∀ j u, news[j]? = some u → xs[o + j]? = some u) : ∀ j u, news[j]? = some u → w.cell? ((⟨g, o, none⟩ : Addr).add j) = some u := by
  intro j u hu
  have := World.ownsRow.cells h (g := g) rfl (o + j) u (hn j u hu)
  rw [Addr.add_lit] at this ⊢
  rwa [Nat.zero_add] at this
theorem rot_len (CH : List UInt8) (k : Nat) : (rotQ CH k).length = 6 := by
  unfold rotQ
  rw [List.length_append, List.length_drop, List.length_take]
  have : (baseQ CH).length = 6 := rfl
  omega
theorem row_addr {w : World} {B n : Nat} {t : TypeId} {v : Value} {xs : List Value} (h : w.ownsRow B t 2 v n xs) (hn : n ≠ 0) : ∃ g cp, v = .slice (some ⟨g, 0, none⟩) n cp ∧ n ≤ cp ∧ B ≤ g ∧ cp ≤ maxLen := by
  rcases h.2 with ⟨_, h0⟩ | ⟨g, cap, cur, hv, hB, _, h4, h5, _⟩
  · exact absurd h0 hn
  · exact ⟨g, cap, hv, h4, hB, h5⟩
theorem sl_from (g m c k o : Nat) (hk : k ≤ m) (ho : (if c = k then 0 else k * 2) = o) (W : World) : (Instr.slice 37 (.slice (some ⟨g, 0, none⟩) m c) (some (.int .i64 (k : Int))) none none).run Tryd.prog W = .ok (.slice (some ⟨g, o, none⟩) (m - k) (c - k)) W := by
  obtain ⟨i0, hi, hz0, hz1, hz2⟩ := info_parts Tryd.infoPair
  have hs : (sizeOf 39).run Tryd.prog W = .ok 2 W := by simp [sizeOf, typeInfo, hi, hz1]
  have he : Tryd.prog.elem 37 = 39 := by kernel_rfl
  rw [run_slice_l W 37 (some ⟨g, 0, none⟩) m c (by rw [he]; exact Tryd.underlying37) .i64 k (by omega) (by omega), he, hs]
  by_cases hc : c = k
  · rw [if_pos hc] at ho
    subst ho
    simp [sliced, hc]
  · rw [if_neg hc] at ho
    subst ho
    simp [sliced, hc, Addr.add_lit]
theorem sl_to (g m c k : Nat) (hk : k ≤ c) (W : World) : (Instr.slice 37 (.slice (some ⟨g, 0, none⟩) m c) none (some (.int .i64 (k : Int))) none).run Tryd.prog W = .ok (.slice (some ⟨g, 0, none⟩) k c) W := by
  obtain ⟨i0, hi, hz0, hz1, hz2⟩ := info_parts Tryd.infoPair
  have hs : (sizeOf 39).run Tryd.prog W = .ok 2 W := by simp [sizeOf, typeInfo, hi, hz1]
  have he : Tryd.prog.elem 37 = 39 := by kernel_rfl
  rw [run_slice_h W 37 (some ⟨g, 0, none⟩) m c (by rw [he]; exact Tryd.underlying37) .i64 k (by omega) (by omega), he, hs]
  simp [sliced, Addr.add_lit]
set_option maxRecDepth 100000 in
set_option maxHeartbeats 8000000 in
theorem askWhole_at {w : World} (K : CodeAsk w) (st no : List UInt8) (tu dr : Nat) (htu : tu ≤ 255) (hdr : dr ≤ 255) (hst : st.length ≤ 200000000000000) (hno : no.length ≤ 200000000000000) :
    Calls Tryd.prog 5 #[.int .u8 (tu : Int), .int .u8 (dr : Int), .string ⟨st.toArray⟩, .string ⟨no.toArray⟩] w fun e w' => e = .returned (.bool true) ∧ Below w.heap.size w w' := by
  have ha := fun W (hB : Below w.heap.size w W) => answers17_any (K.later hB)
  obtain ⟨ST, hST⟩ : ∃ B : ByteArray, (⟨st.toArray⟩ : ByteArray) = B := ⟨_, rfl⟩
  obtain ⟨NO, hNO⟩ : ∃ B : ByteArray, (⟨no.toArray⟩ : ByteArray) = B := ⟨_, rfl⟩
  have zs : ST.size = st.length := by rw [← hST]; show st.toArray.size = _; simp
  have zn : NO.size = no.length := by rw [← hNO]; show no.toArray.size = _; simp
  rw [hST, hNO]
  have HA := Lib.hid ha
  clear ha
  by_cases hsm : ST.size ≤ 256 ∧ NO.size ≤ 256
  rotate_left
  · clear hST hNO K
    by_cases h1 : ST.size ≤ 256
    · have t1 : ¬ (256 : Int) < (ST.size : Int) := by omega
      have t2 : (256 : Int) < (NO.size : Int) := by omega
      go_enter Tryd.func5, Tryd.ntmps5
      go_wp2_with fail
      refine (HA.out _ (Below.refl _ _)).mono ?_
      rintro e w1 ⟨rfl, hb1⟩
      have Q1 := Lib.hid hb1
      clear hb1
      dsimp only
      go_wp2_with fail
      go_ret
      exact ⟨rfl, Q1.out⟩
    · have t1 : (256 : Int) < (ST.size : Int) := by omega
      go_enter Tryd.func5, Tryd.ntmps5
      go_wp2_with fail
      refine (HA.out _ (Below.refl _ _)).mono ?_
      rintro e w1 ⟨rfl, hb1⟩
      have Q1 := Lib.hid hb1
      clear hb1
      dsimp only
      go_wp2_with fail
      go_ret
      exact ⟨rfl, Q1.out⟩
  obtain ⟨s1, s2⟩ := hsm
  have t1 : ¬ (256 : Int) < (ST.size : Int) := by omega
  have t2 : ¬ (256 : Int) < (NO.size : Int) := by omega
  obtain ⟨q, hq⟩ : ∃ q, w.heap.size = q := ⟨_, rfl⟩
  obtain ⟨U, hU⟩ : ∃ B : ByteArray, B = ⟨#[104, 116, 116, 112, 58, 47, 47, 114]⟩ := ⟨_, rfl⟩
  obtain ⟨X, hX⟩ : ∃ X, ((w.alloc (.cells #[.string U] 9)).alloc (.cells #[.string ⟨#[97]⟩, .string ⟨#[]⟩, .slice (some ⟨q, 0, none⟩) 1 1] 43)).alloc (.cells #[.string ⟨#[]⟩, .string ⟨#[]⟩, .string ⟨#[]⟩, .slice (some ⟨q + 1, 0, none⟩) 1 1, .slice none 0 0] 27) = X := ⟨_, rfl⟩
  have bX : Below w.heap.size w X := by rw [← hX]; exact (((Below.refl _ _).alloc (Nat.le_refl _) _).alloc (by simp) _).alloc (by simp; omega) _
  have x0 : X.heap[q]? = some (.cells #[.string U] 9 (0, 0)) := by rw [← hX, ← hq]; exact alloc_block (alloc_block (heap_alloc_last w _))
  have x1 : X.heap[q + 1]? = some (.cells #[.string ⟨#[97]⟩, .string ⟨#[]⟩, .slice (some ⟨q, 0, none⟩) 1 1] 43 (0, 0)) := by rw [← hX, ← hq]; exact alloc_block (fresh_at _ (by simp))
  have x2 : X.heap[q + 1 + 1]? = some (.cells #[.string ⟨#[]⟩, .string ⟨#[]⟩, .string ⟨#[]⟩, .slice (some ⟨q + 1, 0, none⟩) 1 1, .slice none 0 0] 27 (0, 0)) := by rw [← hX, ← hq]; exact fresh_at _ (by simp)
  have hcf : CfgIs X cfgR (some ⟨q + 1, 0, none⟩) 1 1 none 0 0 := by
    refine ⟨rfl, rfl, ⟨_, _, rfl, Nat.le_refl _, fun k r hk => ?_⟩, ⟨_, _, rfl, Nat.le_refl _, fun k r hk => by cases hk⟩⟩
    match k, hk with
    | 0, hk =>
      obtain rfl : _ = r := Option.some.inj hk
      refine ⟨q + 1, 0, _, rfl, (Array.getElem?_eq_some_iff.1 x1).1, cell_here x1, cell_here x1, cell_here x1, ⟨_, _, rfl, Nat.le_refl _, fun j y hj => ?_⟩⟩
      match j, hj with
      | 0, hj =>
        obtain rfl : _ = y := Option.some.inj hj
        exact ⟨q, 0, rfl, (Array.getElem?_eq_some_iff.1 x0).1, by rw [show tv urlR = Value.string U by rw [hU]; rfl]; exact cell_here x0⟩
  have hv : cfgR.val (some ⟨q + 1, 0, none⟩) 1 1 none 0 0 = .agg #[.string ⟨#[]⟩, .string ⟨#[]⟩, .string ⟨#[]⟩, .slice (some ⟨q + 1, 0, none⟩) 1 1, .slice none 0 0] := rfl
  obtain ⟨CH, hCH⟩ : ∃ CH, enc (sumL [120]) = CH := ⟨_, rfl⟩
  have hcl : CH.length ≤ 100 := by
    have h1 : (sumL [120]).length = 32 := outL_len _
    rw [← hCH, enc_len, h1]; decide
  have hcg : goodB CH = true := by rw [← hCH]; exact good_chal [120]
  have hsum := fun W => refSum_any ⟨#[120]⟩ (by decide) W
  have h64 := fun W => refB64_any ⟨(sumL [120]).toArray⟩ (by show (sumL [120]).toArray.size ≤ _; rw [List.size_toArray, show (sumL [120]).length = 32 from outL_len _]; decide) W
  have e1 : (⟨#[120]⟩ : ByteArray).data.toList = [120] := rfl
  have e2 : (⟨(sumL [120]).toArray⟩ : ByteArray).data.toList = sumL [120] := by simp
  rw [e1] at hsum
  rw [e2, hCH] at h64
  obtain ⟨SM, hSM⟩ : ∃ B : ByteArray, (⟨(sumL [120]).toArray⟩ : ByteArray) = B := ⟨_, rfl⟩
  obtain ⟨CB, hCB⟩ : ∃ B : ByteArray, (⟨CH.toArray⟩ : ByteArray) = B := ⟨_, rfl⟩
  rw [hSM] at hsum h64
  rw [hCB] at h64
  have HSUM := Lib.hid hsum; have H64 := Lib.hid h64
  have XW := Lib.hid bX; have X2 := Lib.hid x2; have HXE := Lib.hid hX; have HQ := Lib.hid hq; have HUU := Lib.hid hU; have HCF := Lib.hid hcf; have KK := Lib.hid K; have HCL := Lib.hid hcl; have HCG := Lib.hid hcg; have HCB0 := Lib.hid hCB; have HST := Lib.hid hST; have HNO := Lib.hid hNO; have ZS := Lib.hid zs; have ZN := Lib.hid zn
  clear hsum h64 e1 e2 hSM hCB hCH bX x0 x1 x2 hX hq hU hcf K hcl hcg hv hST hNO zs zn
  go_enter Tryd.func5, Tryd.ntmps5
  go_upto_region 4 with fail
  rw [← HUU.out, HQ.out, HXE.out]
  go_wp2_with fail
  refine (HSUM.out _).mono ?_
  rintro e w1 ⟨rfl, hb1⟩
  have B1 := Lib.hid hb1
  clear hb1
  dsimp only
  go_wp2_with fail
  refine (H64.out _).mono ?_
  rintro e w2 ⟨rfl, hb2⟩
  have B2 := Lib.hid (B1.out.chain hb2)
  clear hb2
  dsimp only
  obtain ⟨k, hk6, hkm⟩ : ∃ k : Nat, k < 6 ∧ Int.tmod (tu : Int) 6 = (k : Int) := ⟨tu % 6, Nat.mod_lt _ (by omega), by rw [Int.tmod_eq_emod_of_nonneg (by omega)]; omega⟩
  have hcv : IntKind.i64.wrap (tu : Int) = (tu : Int) := wraps_i64 _ (by omega) (by omega)
  obtain ⟨g, hg⟩ : ∃ g, w2.heap.size = g := ⟨_, rfl⟩
  obtain ⟨C, hC⟩ : ∃ C : Array Value, #[Value.string ⟨#[99, 108, 105, 101, 110, 116, 95, 105, 100]⟩, .string ⟨#[97]⟩, .string ⟨#[114, 101, 100, 105, 114, 101, 99, 116, 95, 117, 114, 105]⟩, .string U, .string ⟨#[114, 101, 115, 112, 111, 110, 115, 101, 95, 116, 121, 112, 101]⟩, .string ⟨#[99, 111, 100, 101]⟩, .string ⟨#[99, 111, 100, 101, 95, 99, 104, 97, 108, 108, 101, 110, 103, 101, 95, 109, 101, 116, 104, 111, 100]⟩, .string ⟨#[83, 50, 53, 54]⟩, .string ⟨#[99, 111, 100, 101, 95, 99, 104, 97, 108, 108, 101, 110, 103, 101]⟩, .string CB, .string ⟨#[115, 99, 111, 112, 101]⟩, .string ⟨#[97, 32, 111, 112, 101, 110, 105, 100]⟩] = C := ⟨_, rfl⟩
  have hCl : C.toList = pcells (baseQ CH) := by rw [← hC, HUU.out, ← HCB0.out]; rfl
  obtain ⟨W4, hW4⟩ : ∃ W4, w2.alloc (.cells C 39) = W4 := ⟨_, rfl⟩
  have b4 : Below X.heap.size X W4 := by rw [← hW4]; exact B2.out.alloc B2.out.size _
  have k4 : W4.heap[g]? = some (.cells C 39 (0, 0)) := by rw [← hW4, ← hg]; exact heap_alloc_last w2 _
  have HC := Lib.hid hC; have HCL2 := Lib.hid hCl; have HW4 := Lib.hid hW4; have B4 := Lib.hid b4; have K4 := Lib.hid k4; have HG := Lib.hid hg
  clear hC hCl hW4 b4 k4 hg
  obtain ⟨r, hr⟩ : ∃ r, 6 - k = r := ⟨_, rfl⟩
  obtain ⟨o, ho⟩ : ∃ o, k * 2 = o := ⟨_, rfl⟩
  have hsf := fun W => sl_from g 6 6 k o (by omega) (by rw [if_neg (by omega)]; exact ho) W
  rw [hr] at hsf
  have hst := fun W => sl_to g 6 6 k (by omega) W
  have hn1 : ∀ W, Below W4.heap.size W4 W → ∀ j u, (pcells ((baseQ CH).drop k))[j]? = some u → W.cell? ((⟨g, o, none⟩ : Addr).add j) = some u := fun W hB => sub_cells (blk_below K4.out hB) o _ (fun j u hu => by
    rw [pcells_drop, List.getElem?_drop, ho, ← HCL2.out] at hu
    simpa using hu)
  have hn2 : ∀ W, Below W4.heap.size W4 W → ∀ j u, (pcells ((baseQ CH).take k))[j]? = some u → W.cell? ((⟨g, 0, none⟩ : Addr).add j) = some u := fun W hB => sub_cells (blk_below K4.out hB) 0 _ (fun j u hu => by
    rw [pcells_take, List.getElem?_take] at hu
    split at hu
    · rw [← HCL2.out] at hu
      simpa using hu
    · cases hu)
  have hl1 : (pcells ((baseQ CH).drop k)).length = r * 2 := by rw [pcells_len, List.length_drop]; have : (baseQ CH).length = 6 := rfl; omega
  have hl2 : (pcells ((baseQ CH).take k)).length = k * 2 := by rw [pcells_len, List.length_take]; have : (baseQ CH).length = 6 := rfl; omega
  have hrot : pcells ((baseQ CH).drop k) ++ pcells ((baseQ CH).take k) = pcells (rotQ CH k) := by rw [← pcells_app]; rfl
  have hrk : r + k = 6 := by omega
  obtain ⟨i0, hi, hz0, hz1, hz2⟩ := info_parts Tryd.infoPair
  have HII := Lib.hid (And.intro hi (And.intro hz0 (And.intro hz1 hz2)))
  have HN1 := Lib.hid hn1; have HN2 := Lib.hid hn2; have HL1 := Lib.hid hl1; have HL2 := Lib.hid hl2; have HROT := Lib.hid hrot; have HRK := Lib.hid hrk; have HOO := Lib.hid ho
  have HK6 := Lib.hid (fun (W : World) (hB : Below W4.heap.size W4 W) => hB)
  have hk6' : (k : Int) ≤ 6 := by omega
  have hr6 : r ≤ 6 := by omega
  have hk0 : (0 : Int) ≤ k := by omega
  clear hi hz0 hz1 hz2 hn1 hn2 hl1 hl2 hrot ho hrk
  clear hr
  go_upto_region 6 with fail
  rw [HC.out, HG.out, HW4.out]
  refine wp_region_held_drew (S := (fun W => Below W4.heap.size W4 W)) (by kernel_rfl) (HK6.out _ (Below.refl W4.heap.size W4).drew) (fun hHeld => ?_)
  have hpd := (Below.refl W4.heap.size W4).drew
  obtain ⟨wd, hwd⟩ : ∃ z, W4.drew = z := ⟨_, rfl⟩
  rw [hwd] at hHeld hpd ⊢
  have PD := Lib.hid hpd
  clear hwd hpd
  refine wpAnyH_take (i := 1) (oi := _) (v := ?v96150) (by simp only [List.getElem?_toArray, List.getElem?_cons_succ, List.getElem?_cons_zero]; rfl) (by kernel_rfl) (by kernel_rfl) (by kernel_rfl) (by exact fun _ _ _ h => h) (Or.inl ⟨by rfl, ?hy96150⟩) (by assumption) ?rest96150
  case hy96150 => (intro w hSw; (try dsimp only at hSw); go_simp; try with_reducible rfl)
  try simp only [Act.put, List.setIfInBounds_toArray, List.set_cons_zero, List.set_cons_succ]
  refine wpAnyH_take (i := 2) (oi := _) (v := ?v96151) (by simp only [List.getElem?_toArray, List.getElem?_cons_succ, List.getElem?_cons_zero]; rfl) (by kernel_rfl) (by kernel_rfl) (by kernel_rfl) (by exact fun _ _ _ h => h) (Or.inl ⟨by rfl, ?hy96151⟩) (by assumption) ?rest96151
  case hy96151 => (intro w hSw; (try dsimp only at hSw); go_simp; try with_reducible rfl)
  try simp only [Act.put, List.setIfInBounds_toArray, List.set_cons_zero, List.set_cons_succ]
  refine wpAnyH_take (i := 3) (oi := _) (v := ?v96152) (by simp only [List.getElem?_toArray, List.getElem?_cons_succ, List.getElem?_cons_zero]; rfl) (by kernel_rfl) (by kernel_rfl) (by kernel_rfl) (by exact fun _ _ _ h => h) (Or.inl ⟨by rfl, ?hy96152⟩) (by assumption) ?rest96152
  case hy96152 => (intro w hSw; (try dsimp only at hSw); go_simp; try with_reducible rfl)
  try simp only [Act.put, List.setIfInBounds_toArray, List.set_cons_zero, List.set_cons_succ]
  refine wpAnyH_take (i := 5) (oi := _) (v := ?v96153) (by simp only [List.getElem?_toArray, List.getElem?_cons_succ, List.getElem?_cons_zero]; rfl) (by kernel_rfl) (by kernel_rfl) (by kernel_rfl) (by exact fun _ _ _ h => h) (Or.inl ⟨by rfl, ?hy96153⟩) (by assumption) ?rest96153
  case hy96153 => (intro w hSw; (try dsimp only at hSw); go_simp; try with_reducible rfl)
  try simp only [Act.put, List.setIfInBounds_toArray, List.set_cons_zero, List.set_cons_succ]
  refine wpAnyH_take (i := 6) (oi := _) (v := ?v96154) (by simp only [List.getElem?_toArray, List.getElem?_cons_succ, List.getElem?_cons_zero]; rfl) (by kernel_rfl) (by kernel_rfl) (by kernel_rfl) (by exact fun _ _ _ h => h) (Or.inl ⟨by rfl, ?hy96154⟩) (by assumption) ?rest96154
  case hy96154 => (intro w hSw; (try dsimp only at hSw); go_simp; try with_reducible rfl)
  try simp only [Act.put, List.setIfInBounds_toArray, List.set_cons_zero, List.set_cons_succ]
  refine wpAnyH_take (i := 7) (oi := _) (v := ?v96155) (by simp only [List.getElem?_toArray, List.getElem?_cons_succ, List.getElem?_cons_zero]; rfl) (by kernel_rfl) (by kernel_rfl) (by kernel_rfl) (by exact fun _ _ _ h => h) (Or.inl ⟨by rfl, ?hy96155⟩) (by assumption) ?rest96155
  case hy96155 => (intro w hSw; (try dsimp only at hSw); go_simp; try with_reducible rfl)
  try simp only [Act.put, List.setIfInBounds_toArray, List.set_cons_zero, List.set_cons_succ]
  refine wpAnyH_ready (rs := [0]) (by kernel_rfl) (by simp) ?_
  refine AllReadyH.cons (o := _) (by simp only [List.getElem?_toArray, List.getElem?_cons_succ, List.getElem?_cons_zero]; rfl) (fun K hK => ?_) AllReadyH.nil
  go_simp
  obtain ⟨X101, hX101⟩ : ∃ X, wd.alloc (.cells #[] 39) = X := ⟨_, rfl⟩
  have hp101 := (PD.out).alloc (PD.out).size (.cells #[] 39)
  have hq101 := heap_alloc_last wd (.cells #[] 39)
  have hw101 := own_fresh wd W4.heap.size 39 2 PD.out.size
  rw [hX101] at hp101 hq101 hw101 ⊢
  have P101 := Lib.hid hp101
  have O101 := Lib.hid hw101
  clear hX101 hp101 hq101 hw101
  refine hK.out _ _ (HK6.out _ P101.out) (fun hHeld => ?_)
  clear hK K
  try simp only [Act.put, List.setIfInBounds_toArray, List.set_cons_zero, List.set_cons_succ]
  refine wpAnyH_ready (rs := [4]) (by kernel_rfl) (by simp) ?_
  refine AllReadyH.cons (o := _) (by simp only [List.getElem?_toArray, List.getElem?_cons_succ, List.getElem?_cons_zero]; rfl) (fun K hK => ?_) AllReadyH.nil
  refine step_append_opt rfl (.tmp 48) (.tmp 51) 37 rfl W4.heap.size 39 i0 _ 2 32 Tryd.underlying37 HII.out.1 HII.out.2.1 HII.out.2.2.1 HII.out.2.2.2 rfl (by decide) (.slice (some ⟨wd.heap.size, 0, none⟩) 0 0) 0 [] rfl O101.out (some ⟨g, o, none⟩) r r (pcells ((baseQ CH).drop k)) rfl HL1.out (.inr ⟨_, rfl, HN1.out _ P101.out⟩) (pcells_allone _) (by unfold maxLen; omega) (by omega) P101.out.size ?_
  intro v102 X102 hw102 hg102 ht102
  simp only [Nat.zero_add, List.nil_append] at hw102
  obtain ⟨A102w, c102w, rfl⟩ := own_form hw102
  have P102 := Lib.hid ((P101.out).grown hg102 P101.out.size (fun k hk => (O101.out.lt k hk).1))
  have O102 := Lib.hid hw102
  clear hg102 ht102 hw102
  refine hK.out _ _ (HK6.out _ P102.out) (fun hHeld => ?_)
  clear hK K
  try simp only [Act.put, List.setIfInBounds_toArray, List.set_cons_zero, List.set_cons_succ]
  refine wpAnyH_ready (rs := [8]) (by kernel_rfl) (by simp) ?_
  refine AllReadyH.cons (o := _) (by simp only [List.getElem?_toArray, List.getElem?_cons_succ, List.getElem?_cons_zero]; rfl) (fun K hK => ?_) AllReadyH.nil
  refine step_append_opt rfl (.tmp 52) (.tmp 55) 37 rfl W4.heap.size 39 i0 _ 2 32 Tryd.underlying37 HII.out.1 HII.out.2.1 HII.out.2.2.1 HII.out.2.2.2 rfl (by decide) (.slice A102w r c102w) r (pcells ((baseQ CH).drop k)) rfl O102.out (some ⟨g, 0, none⟩) k 6 (pcells ((baseQ CH).take k)) rfl HL2.out (.inr ⟨_, rfl, HN2.out _ P102.out⟩) (pcells_allone _) (by unfold maxLen; omega) (by omega) P102.out.size ?_
  intro v103 X103 hw103 hg103 ht103
  rw [HROT.out, HRK.out] at hw103
  obtain ⟨gm, cm, rfl, hcm, hgm, hcx⟩ := row_addr hw103 (by decide)
  have P103 := Lib.hid ((P102.out).grown hg103 P102.out.size (fun k hk => (O102.out.lt k hk).1))
  have O103 := Lib.hid hw103
  clear hg103 ht103 hw103
  refine hK.out _ _ (HK6.out _ P103.out) (fun hHeld => ?_)
  clear hK K
  try simp only [Act.put, List.setIfInBounds_toArray, List.set_cons_zero, List.set_cons_succ]
  refine wpAnyH_take (i := 9) (oi := _) (v := ?v96159) (by simp only [List.getElem?_toArray, List.getElem?_cons_succ, List.getElem?_cons_zero]; rfl) (by kernel_rfl) (by kernel_rfl) (by kernel_rfl) (by exact fun _ _ _ h => h) (Or.inl ⟨by rfl, ?hy96159⟩) (by assumption) ?rest96159
  case hy96159 => (intro w hSw; (try dsimp only at hSw); go_simp; try with_reducible rfl)
  try simp only [Act.put, List.setIfInBounds_toArray, List.set_cons_zero, List.set_cons_succ]
  refine wpAnyH_done (by kernel_rfl) ?_ _
  have BM := Lib.hid (B4.out.chain P103.out)
  obtain ⟨g7, hg7⟩ : ∃ z, X103.heap.size = z := ⟨_, rfl⟩
  obtain ⟨W7, hW7⟩ : ∃ z, X103.alloc (.cells #[.string ⟨#[115, 116, 97, 116, 101]⟩, .string ST, .string ⟨#[110, 111, 110, 99, 101]⟩, .string NO] 39) = z := ⟨_, rfl⟩
  have b7 : Below X.heap.size X W7 := by rw [← hW7]; exact BM.out.alloc BM.out.size _
  have k7 : W7.heap[g7]? = some (.cells #[.string ⟨#[115, 116, 97, 116, 101]⟩, .string ST, .string ⟨#[110, 111, 110, 99, 101]⟩, .string NO] 39 (0, 0)) := by rw [← hW7, ← hg7]; exact heap_alloc_last X103 _
  have o7 : W7.ownsRow W4.heap.size 39 2 (.slice (some ⟨gm, 0, none⟩) 6 cm) 6 (pcells (rotQ CH k)) := by rw [← hW7]; exact own_below O103.out ((Below.refl _ _).alloc (Nat.le_refl _) _)
  have B7 := Lib.hid b7; have K7 := Lib.hid k7; have O7 := Lib.hid o7; have HG7 := Lib.hid hg7; have HW7 := Lib.hid hW7
  clear b7 k7 o7 hg7 hW7
  have hce : ∀ W, Below X.heap.size X W → (W.cell? ⟨q + 1 + 1, 0, none⟩ = some (.string ⟨#[]⟩) ∧ W.cell? ⟨q + 1 + 1, 1, none⟩ = some (.string ⟨#[]⟩) ∧ W.cell? ⟨q + 1 + 1, 2, none⟩ = some (.string ⟨#[]⟩) ∧ W.cell? ⟨q + 1 + 1, 3, none⟩ = some (.slice (some ⟨q + 1, 0, none⟩) 1 1) ∧ W.cell? ⟨q + 1 + 1, 4, none⟩ = some (.slice none 0 0)) := fun W hB => by
    have k2 := blk_below X2.out hB
    exact ⟨cell_here k2, cell_here k2, cell_here k2, cell_here k2, cell_here k2⟩
  have HCX := Lib.hid hce
  have HCE := Lib.hid (fun W (hB : Below W7.heap.size W7 W) => hce W (B7.out.chain hB))
  clear hce
  have hs8 := HST.out; have hn8 := HNO.out
  have zs := ZS.out; have zn := ZN.out
  obtain ⟨hl8, hll8⟩ := full_len CH st no HCL.out (by omega) (by omega) k hk6
  have HLL := Lib.hid hll8
  have hsh8 : ∀ y ∈ fullQ CH k st no, y.1.length + y.2.length ≤ 600 := fun y hy => by
    rcases List.mem_append.1 hy with hy | hy
    · have := base_short CH HCL.out y (rot_mem CH k y hy); omega
    · simp only [List.mem_cons, List.not_mem_nil, or_false] at hy
      rcases hy with rfl | rfl
      · show 5 + st.length ≤ 600; omega
      · show 5 + no.length ≤ 600; omega
  obtain ⟨Q8, hQ8⟩ : ∃ z : ByteArray, (⟨(buildL (fullQ CH k st no)).toArray⟩ : ByteArray) = z := ⟨_, rfl⟩
  have hbu : ∀ W v, PRow W W7.heap.size v (fullQ CH k st no) → ∃ A2 c2, v = .slice A2 8 c2 ∧ Calls Tryd.prog 10 #[.slice A2 8 c2] W fun e w' => e = .returned (.string Q8) ∧ Below W.heap.size W w' := fun W v hv => by
    obtain ⟨A2, c2, rfl, hpr⟩ := hv.reads
    have := refBuild_any A2 c2 W.heap.size 600 (fullQ CH k st no) (by rw [HLL.out]; omega) (by decide) (hsh8) W (Nat.le_refl _) hpr
    rw [HLL.out, hQ8] at this
    exact ⟨A2, c2, by rw [HLL.out], this⟩
  have HBU := Lib.hid hbu
  clear hbu
  have hc := fun W (hB : Below W7.heap.size W7 W) => KK.out W (XW.out.chain (B7.out.chain hB)) cfgR (some ⟨q + 1, 0, none⟩) 1 1 none 0 0 (buildL (fullQ CH k st no)) (HCF.out.below (B7.out.chain hB)) cfgR_fit (by decide) (by omega)
  rw [ask_full CH st no HCL.out HCG.out (by omega) (by omega) k hk6] at hc
  unfold AskSays AskV.val tv at hc
  dsimp only at hc
  rw [hQ8, hs8, hn8, HCB0.out] at hc
  have hc : ∀ W, Below W7.heap.size W7 W → Calls Tryd.prog 8 #[.agg #[.string ⟨#[]⟩, .string ⟨#[]⟩, .string ⟨#[]⟩, .slice (some ⟨q + 1, 0, none⟩) 1 1, .slice none 0 0], .string Q8] W fun e w' => e = .returned (.tuple #[.agg #[.string ⟨#[97]⟩, .string U, .string ST, .string NO, .string ⟨#[97, 32, 111, 112, 101, 110, 105, 100]⟩, .string CB], .string ⟨#[]⟩, .bool false]) ∧ Below W.heap.size W w' := by rw [HUU.out]; exact hc
  have HC := Lib.hid hc
  have hpl : pcells (rotQ CH k) ++ [.string ⟨#[115, 116, 97, 116, 101]⟩, .string ST, .string ⟨#[110, 111, 110, 99, 101]⟩, .string NO] = pcells (fullQ CH k st no) := by
    unfold fullQ
    rw [pcells_app, ← hs8, ← hn8]; rfl
  have HPLL := Lib.hid hpl
  have hrl : (pcells (rotQ CH k)).length = 6 * 2 := by rw [pcells_len, rot_len]
  have HRL := Lib.hid hrl
  clear hc hpl hrl hs8 hn8 hl8 hll8 hsh8 hQ8 zs zn
  go_upto_region 8 with fail
  rw [HG7.out, HW7.out]
  go_cut [14, 15, 16] from 17 (fun s14 s15 s16 wx => ∃ p, s14 = .pointer (some ⟨p, 0, none⟩) ∧ s15 = .string ⟨#[]⟩ ∧ s16 = .bool false ∧ Hid (GotT W7 wx p ⟨#[97]⟩ U ST NO ⟨#[97, 32, 111, 112, 101, 110, 105, 100]⟩ CB))
  case first =>
    refine wp_region_held_drew (S := (fun W => W.cell? ⟨q + 1 + 1, 0, none⟩ = some (.string ⟨#[]⟩) ∧ W.cell? ⟨q + 1 + 1, 1, none⟩ = some (.string ⟨#[]⟩) ∧ W.cell? ⟨q + 1 + 1, 2, none⟩ = some (.string ⟨#[]⟩) ∧ W.cell? ⟨q + 1 + 1, 3, none⟩ = some (.slice (some ⟨q + 1, 0, none⟩) 1 1) ∧ W.cell? ⟨q + 1 + 1, 4, none⟩ = some (.slice none 0 0))) (by kernel_rfl) (HCE.out _ (Below.refl W7.heap.size W7).drew) (fun hHeld => ?_)
    have hpd := (Below.refl W7.heap.size W7).drew
    obtain ⟨wd, hwd⟩ : ∃ z, W7.drew = z := ⟨_, rfl⟩
    rw [hwd] at hHeld hpd ⊢
    have PD := Lib.hid hpd
    clear hwd hpd
    refine wpAnyH_take (i := 0) (oi := _) (v := ?v96001) (by simp only [List.getElem?_toArray, List.getElem?_cons_succ, List.getElem?_cons_zero]; rfl) (by kernel_rfl) (by kernel_rfl) (by kernel_rfl) (by exact fun _ _ _ h => h) (Or.inl ⟨by rfl, ?hy96001⟩) (by assumption) ?rest96001
    case hy96001 => (intro w hSw; (try dsimp only at hSw); go_simp; try with_reducible rfl)
    try simp only [Act.put, List.setIfInBounds_toArray, List.set_cons_zero, List.set_cons_succ]
    refine wpAnyH_take (i := 2) (oi := _) (v := ?v96002) (by simp only [List.getElem?_toArray, List.getElem?_cons_succ, List.getElem?_cons_zero]; rfl) (by kernel_rfl) (by kernel_rfl) (by kernel_rfl) (by exact fun _ _ _ h => h) (Or.inl ⟨by rfl, ?hy96002⟩) (by assumption) ?rest96002
    case hy96002 => (intro w hSw; (try dsimp only at hSw); go_simp; try with_reducible rfl)
    try simp only [Act.put, List.setIfInBounds_toArray, List.set_cons_zero, List.set_cons_succ]
    refine wpAnyH_take (i := 4) (oi := _) (v := ?v96003) (by simp only [List.getElem?_toArray, List.getElem?_cons_succ, List.getElem?_cons_zero]; rfl) (by kernel_rfl) (by kernel_rfl) (by kernel_rfl) (by exact fun _ _ _ h => h) (Or.inl ⟨by rfl, ?hy96003⟩) (by assumption) ?rest96003
    case hy96003 => (intro w hSw; (try dsimp only at hSw); go_simp; try with_reducible rfl)
    try simp only [Act.put, List.setIfInBounds_toArray, List.set_cons_zero, List.set_cons_succ]
    refine wpAnyH_ready (rs := [1, 12]) (by kernel_rfl) (by simp) ?_
    refine AllReadyH.cons (o := _) (by simp only [List.getElem?_toArray, List.getElem?_cons_succ, List.getElem?_cons_zero]; rfl) (fun K hK => ?_) (AllReadyH.cons (o := _) (by simp only [List.getElem?_toArray, List.getElem?_cons_succ, List.getElem?_cons_zero]; rfl) (fun K hK => ?_) AllReadyH.nil)
    · go_simp
      obtain ⟨X104, hX104⟩ : ∃ X, wd.alloc (.cells #[] 39) = X := ⟨_, rfl⟩
      have hp104 := (PD.out).alloc (PD.out).size (.cells #[] 39)
      have hq104 := heap_alloc_last wd (.cells #[] 39)
      have hw104 := own_fresh wd W7.heap.size 39 2 PD.out.size
      rw [hX104] at hp104 hq104 hw104 ⊢
      have P104 := Lib.hid hp104
      have O104 := Lib.hid hw104
      clear hX104 hp104 hq104 hw104
      refine hK.out _ _ (HCE.out _ P104.out) (fun hHeld => ?_)
      clear hK K
      try simp only [Act.put, List.setIfInBounds_toArray, List.set_cons_zero, List.set_cons_succ]
      refine wpAnyH_ready (rs := [3, 12]) (by kernel_rfl) (by simp) ?_
      refine AllReadyH.cons (o := _) (by simp only [List.getElem?_toArray, List.getElem?_cons_succ, List.getElem?_cons_zero]; rfl) (fun K hK => ?_) (AllReadyH.cons (o := _) (by simp only [List.getElem?_toArray, List.getElem?_cons_succ, List.getElem?_cons_zero]; rfl) (fun K hK => ?_) AllReadyH.nil)
      · refine step_append_opt rfl (.tmp 64) (.tmp 65) 37 rfl W7.heap.size 39 i0 _ 2 32 Tryd.underlying37 HII.out.1 HII.out.2.1 HII.out.2.2.1 HII.out.2.2.2 rfl (by decide) (.slice (some ⟨wd.heap.size, 0, none⟩) 0 0) 0 [] rfl O104.out (some ⟨gm, 0, none⟩) 6 cm (pcells (rotQ CH k)) rfl HRL.out (.inr ⟨_, rfl, own_cells (own_below O7.out P104.out) 0 _ (fun j u hu => by rw [Nat.zero_add]; exact hu)⟩) (pcells_allone _) (by unfold maxLen; omega) (by omega) P104.out.size ?_
        intro v105 X105 hw105 hg105 ht105
        simp only [Nat.zero_add, List.nil_append] at hw105
        obtain ⟨A105w, c105w, rfl⟩ := own_form hw105
        have P105 := Lib.hid ((P104.out).grown hg105 P104.out.size (fun k hk => (O104.out.lt k hk).1))
        have O105 := Lib.hid hw105
        clear hg105 ht105 hw105
        refine hK.out _ _ (HCE.out _ P105.out) (fun hHeld => ?_)
        clear hK K
        try simp only [Act.put, List.setIfInBounds_toArray, List.set_cons_zero, List.set_cons_succ]
        refine wpAnyH_ready (rs := [5, 12]) (by kernel_rfl) (by simp) ?_
        refine AllReadyH.cons (o := _) (by simp only [List.getElem?_toArray, List.getElem?_cons_succ, List.getElem?_cons_zero]; rfl) (fun K hK => ?_) (AllReadyH.cons (o := _) (by simp only [List.getElem?_toArray, List.getElem?_cons_succ, List.getElem?_cons_zero]; rfl) (fun K hK => ?_) AllReadyH.nil)
        · refine step_append_opt rfl (.tmp 66) (.tmp 67) 37 rfl W7.heap.size 39 i0 _ 2 32 Tryd.underlying37 HII.out.1 HII.out.2.1 HII.out.2.2.1 HII.out.2.2.2 rfl (by decide) (.slice A105w 6 c105w) 6 (pcells (rotQ CH k)) rfl O105.out (some ⟨g7, 0, none⟩) 2 2 [.string ⟨#[115, 116, 97, 116, 101]⟩, .string ST, .string ⟨#[110, 111, 110, 99, 101]⟩, .string NO] rfl rfl (.inr ⟨_, rfl, sub_cells (blk_below K7.out P105.out) 0 _ (fun j u hu => by rw [Nat.zero_add]; simpa using hu)⟩) (by simp [Value.oneCell']) (by unfold maxLen; omega) (by omega) P105.out.size ?_
          intro v106 X106 hw106 hg106 ht106
          rw [HPLL.out] at hw106
          obtain ⟨A106w, c106w, rfl, hbu106⟩ := HBU.out _ _ (PRow.cut hw106 (by rw [HLL.out]) rfl)
          have BU106 := Lib.hid hbu106
          clear hbu106
          have P106 := Lib.hid ((P105.out).grown hg106 P105.out.size (fun k hk => (O105.out.lt k hk).1))
          have O106 := Lib.hid hw106
          clear hg106 ht106 hw106
          refine hK.out _ _ (HCE.out _ P106.out) (fun hHeld => ?_)
          clear hK K
          try simp only [Act.put, List.setIfInBounds_toArray, List.set_cons_zero, List.set_cons_succ]
          refine wpAnyH_ready (rs := [6, 12]) (by kernel_rfl) (by simp) ?_
          refine AllReadyH.cons (o := _) (by simp only [List.getElem?_toArray, List.getElem?_cons_succ, List.getElem?_cons_zero]; rfl) (fun K hK => ?_) (AllReadyH.cons (o := _) (by simp only [List.getElem?_toArray, List.getElem?_cons_succ, List.getElem?_cons_zero]; rfl) (fun K hK => ?_) AllReadyH.nil)
          · go_simp
            go_at_call 10
            (with_reducible refine (BU106.out).mono ?_)
            rintro e107 X107 ⟨rfl, hb107⟩
            have P107 := Lib.hid ((P106.out).chain hb107)
            clear hb107
            dsimp only
            refine hK.out _ _ (HCE.out _ P107.out) (fun hHeld => ?_)
            clear hK K
            try simp only [Act.put, List.setIfInBounds_toArray, List.set_cons_zero, List.set_cons_succ]
            refine wpAnyH_ready (rs := [7, 12]) (by kernel_rfl) (by simp) ?_
            refine AllReadyH.cons (o := _) (by simp only [List.getElem?_toArray, List.getElem?_cons_succ, List.getElem?_cons_zero]; rfl) (fun K hK => ?_) (AllReadyH.cons (o := _) (by simp only [List.getElem?_toArray, List.getElem?_cons_succ, List.getElem?_cons_zero]; rfl) (fun K hK => ?_) AllReadyH.nil)
            · go_simp
              go_at_call 8
              (with_reducible refine (HC.out _ P107.out).mono ?_)
              rintro e108 X108 ⟨rfl, hb108⟩
              have P108 := Lib.hid ((P107.out).chain hb108)
              clear hb108
              dsimp only
              refine hK.out _ _ (HCE.out _ P108.out) (fun hHeld => ?_)
              clear hK K
              try simp only [Act.put, List.setIfInBounds_toArray, List.set_cons_zero, List.set_cons_succ]
              refine wpAnyH_take (i := 8) (oi := _) (v := ?v96009) (by simp only [List.getElem?_toArray, List.getElem?_cons_succ, List.getElem?_cons_zero]; rfl) (by kernel_rfl) (by kernel_rfl) (by kernel_rfl) (by exact fun _ _ _ h => h) (Or.inl ⟨by rfl, ?hy96009⟩) (by assumption) ?rest96009
              case hy96009 => (intro w hSw; (try dsimp only at hSw); go_simp; try with_reducible rfl)
              try simp only [Act.put, List.setIfInBounds_toArray, List.set_cons_zero, List.set_cons_succ]
              refine wpAnyH_take (i := 9) (oi := _) (v := ?v96010) (by simp only [List.getElem?_toArray, List.getElem?_cons_succ, List.getElem?_cons_zero]; rfl) (by kernel_rfl) (by kernel_rfl) (by kernel_rfl) (by exact fun _ _ _ h => h) (Or.inl ⟨by rfl, ?hy96010⟩) (by assumption) ?rest96010
              case hy96010 => (intro w hSw; (try dsimp only at hSw); go_simp; try with_reducible rfl)
              try simp only [Act.put, List.setIfInBounds_toArray, List.set_cons_zero, List.set_cons_succ]
              refine wpAnyH_take (i := 10) (oi := _) (v := ?v96011) (by simp only [List.getElem?_toArray, List.getElem?_cons_succ, List.getElem?_cons_zero]; rfl) (by kernel_rfl) (by kernel_rfl) (by kernel_rfl) (by exact fun _ _ _ h => h) (Or.inl ⟨by rfl, ?hy96011⟩) (by assumption) ?rest96011
              case hy96011 => (intro w hSw; (try dsimp only at hSw); go_simp; try with_reducible rfl)
              try simp only [Act.put, List.setIfInBounds_toArray, List.set_cons_zero, List.set_cons_succ]
              refine wpAnyH_take (i := 11) (oi := _) (v := ?v96012) (by simp only [List.getElem?_toArray, List.getElem?_cons_succ, List.getElem?_cons_zero]; rfl) (by kernel_rfl) (by kernel_rfl) (by kernel_rfl) (by exact fun _ _ _ h => h) (Or.inl ⟨by rfl, ?hy96012⟩) (by assumption) ?rest96012
              case hy96012 => (intro w hSw; (try dsimp only at hSw); go_simp; try with_reducible rfl)
              try simp only [Act.put, List.setIfInBounds_toArray, List.set_cons_zero, List.set_cons_succ]
              refine wpAnyH_ready (rs := [12]) (by kernel_rfl) (by simp) ?_
              refine AllReadyH.cons (o := _) (by simp only [List.getElem?_toArray, List.getElem?_cons_succ, List.getElem?_cons_zero]; rfl) (fun K hK => ?_) AllReadyH.nil
              go_simp
              obtain ⟨X109, hX109⟩ : ∃ X, X108.alloc (.cells #[.string ⟨#[]⟩, .string ⟨#[]⟩, .string ⟨#[]⟩, .string ⟨#[]⟩, .string ⟨#[]⟩, .string ⟨#[]⟩] 30) = X := ⟨_, rfl⟩
              have hp109 := (P108.out).alloc (P108.out).size (.cells #[.string ⟨#[]⟩, .string ⟨#[]⟩, .string ⟨#[]⟩, .string ⟨#[]⟩, .string ⟨#[]⟩, .string ⟨#[]⟩] 30)
              have hq109 := heap_alloc_last X108 (.cells #[.string ⟨#[]⟩, .string ⟨#[]⟩, .string ⟨#[]⟩, .string ⟨#[]⟩, .string ⟨#[]⟩, .string ⟨#[]⟩] 30)
              rw [hX109] at hp109 hq109 ⊢
              have P109 := Lib.hid hp109
              have A109 := Lib.hid hq109
              have LX := Lib.hid (P108.out).size
              clear hX109 hp109 hq109
              obtain ⟨⟨r0, r1, r2, r3, r4, r5⟩, f0, f1, f2, f3, f4, f5⟩ := cellsK6_of A109.out
              refine hK.out _ _ (HCE.out _ P109.out) (fun hHeld => ?_)
              clear hK K
              try simp only [Act.put, List.setIfInBounds_toArray, List.set_cons_zero, List.set_cons_succ]
              refine wpAnyH_ready (rs := [13]) (by kernel_rfl) (by simp) ?_
              refine AllReadyH.cons (o := _) (by simp only [List.getElem?_toArray, List.getElem?_cons_succ, List.getElem?_cons_zero]; rfl) (fun K hK => ?_) AllReadyH.nil
              go_simp
              refine hK.out _ _ (HCE.out _ (setK6_below P109.out LX.out _ _ _ _ _ _)) (fun hHeld => ?_)
              clear hK K
              try simp only [Act.put, List.setIfInBounds_toArray, List.set_cons_zero, List.set_cons_succ]
              refine wpAnyH_take (i := 14) (oi := _) (v := ?v96015) (by simp only [List.getElem?_toArray, List.getElem?_cons_succ, List.getElem?_cons_zero]; rfl) (by kernel_rfl) (by kernel_rfl) (by kernel_rfl) (by exact fun _ _ _ h => h) (Or.inl ⟨by rfl, ?hy96015⟩) (by assumption) ?rest96015
              case hy96015 => (intro w hSw; (try dsimp only at hSw); go_simp; try with_reducible rfl)
              try simp only [Act.put, List.setIfInBounds_toArray, List.set_cons_zero, List.set_cons_succ]
              refine wpAnyH_take (i := 15) (oi := _) (v := ?v96016) (by simp only [List.getElem?_toArray, List.getElem?_cons_succ, List.getElem?_cons_zero]; rfl) (by kernel_rfl) (by kernel_rfl) (by kernel_rfl) (by exact fun _ _ _ h => h) (Or.inl ⟨by rfl, ?hy96016⟩) (by assumption) ?rest96016
              case hy96016 => (intro w hSw; (try dsimp only at hSw); go_simp; try with_reducible rfl)
              try simp only [Act.put, List.setIfInBounds_toArray, List.set_cons_zero, List.set_cons_succ]
              refine wpAnyH_done (by kernel_rfl) ?_ _
              go_wp2
              go_meet
              case rel => exact ⟨_, rfl, rfl, rfl, Lib.hid (gotT_at P109.out LX.out A109.out)⟩
            · go_simp
              obtain ⟨X110, hX110⟩ : ∃ X, X107.alloc (.cells #[.string ⟨#[]⟩, .string ⟨#[]⟩, .string ⟨#[]⟩, .string ⟨#[]⟩, .string ⟨#[]⟩, .string ⟨#[]⟩] 30) = X := ⟨_, rfl⟩
              have hp110 := (P107.out).alloc (P107.out).size (.cells #[.string ⟨#[]⟩, .string ⟨#[]⟩, .string ⟨#[]⟩, .string ⟨#[]⟩, .string ⟨#[]⟩, .string ⟨#[]⟩] 30)
              have hq110 := heap_alloc_last X107 (.cells #[.string ⟨#[]⟩, .string ⟨#[]⟩, .string ⟨#[]⟩, .string ⟨#[]⟩, .string ⟨#[]⟩, .string ⟨#[]⟩] 30)
              rw [hX110] at hp110 hq110 ⊢
              have P110 := Lib.hid hp110
              have A110 := Lib.hid hq110
              have LX := Lib.hid (P107.out).size
              clear hX110 hp110 hq110
              refine hK.out _ _ (HCE.out _ P110.out) (fun hHeld => ?_)
              clear hK K
              try simp only [Act.put, List.setIfInBounds_toArray, List.set_cons_zero, List.set_cons_succ]
              refine wpAnyH_ready (rs := [7]) (by kernel_rfl) (by simp) ?_
              refine AllReadyH.cons (o := _) (by simp only [List.getElem?_toArray, List.getElem?_cons_succ, List.getElem?_cons_zero]; rfl) (fun K hK => ?_) AllReadyH.nil
              go_simp
              go_at_call 8
              (with_reducible refine (HC.out _ P110.out).mono ?_)
              rintro e111 X111 ⟨rfl, hb111⟩
              have P111 := Lib.hid ((P110.out).chain hb111)
              have A111 := Lib.hid (blk_below A110.out hb111)
              clear hb111
              dsimp only
              obtain ⟨⟨r0, r1, r2, r3, r4, r5⟩, f0, f1, f2, f3, f4, f5⟩ := cellsK6_of A111.out
              refine hK.out _ _ (HCE.out _ P111.out) (fun hHeld => ?_)
              clear hK K
              try simp only [Act.put, List.setIfInBounds_toArray, List.set_cons_zero, List.set_cons_succ]
              refine wpAnyH_take (i := 8) (oi := _) (v := ?v96019) (by simp only [List.getElem?_toArray, List.getElem?_cons_succ, List.getElem?_cons_zero]; rfl) (by kernel_rfl) (by kernel_rfl) (by kernel_rfl) (by exact fun _ _ _ h => h) (Or.inl ⟨by rfl, ?hy96019⟩) (by assumption) ?rest96019
              case hy96019 => (intro w hSw; (try dsimp only at hSw); go_simp; try with_reducible rfl)
              try simp only [Act.put, List.setIfInBounds_toArray, List.set_cons_zero, List.set_cons_succ]
              refine wpAnyH_take (i := 9) (oi := _) (v := ?v96020) (by simp only [List.getElem?_toArray, List.getElem?_cons_succ, List.getElem?_cons_zero]; rfl) (by kernel_rfl) (by kernel_rfl) (by kernel_rfl) (by exact fun _ _ _ h => h) (Or.inl ⟨by rfl, ?hy96020⟩) (by assumption) ?rest96020
              case hy96020 => (intro w hSw; (try dsimp only at hSw); go_simp; try with_reducible rfl)
              try simp only [Act.put, List.setIfInBounds_toArray, List.set_cons_zero, List.set_cons_succ]
              refine wpAnyH_take (i := 10) (oi := _) (v := ?v96021) (by simp only [List.getElem?_toArray, List.getElem?_cons_succ, List.getElem?_cons_zero]; rfl) (by kernel_rfl) (by kernel_rfl) (by kernel_rfl) (by exact fun _ _ _ h => h) (Or.inl ⟨by rfl, ?hy96021⟩) (by assumption) ?rest96021
              case hy96021 => (intro w hSw; (try dsimp only at hSw); go_simp; try with_reducible rfl)
              try simp only [Act.put, List.setIfInBounds_toArray, List.set_cons_zero, List.set_cons_succ]
              refine wpAnyH_take (i := 11) (oi := _) (v := ?v96022) (by simp only [List.getElem?_toArray, List.getElem?_cons_succ, List.getElem?_cons_zero]; rfl) (by kernel_rfl) (by kernel_rfl) (by kernel_rfl) (by exact fun _ _ _ h => h) (Or.inl ⟨by rfl, ?hy96022⟩) (by assumption) ?rest96022
              case hy96022 => (intro w hSw; (try dsimp only at hSw); go_simp; try with_reducible rfl)
              try simp only [Act.put, List.setIfInBounds_toArray, List.set_cons_zero, List.set_cons_succ]
              refine wpAnyH_ready (rs := [13]) (by kernel_rfl) (by simp) ?_
              refine AllReadyH.cons (o := _) (by simp only [List.getElem?_toArray, List.getElem?_cons_succ, List.getElem?_cons_zero]; rfl) (fun K hK => ?_) AllReadyH.nil
              go_simp
              refine hK.out _ _ (HCE.out _ (setK6_below P111.out LX.out _ _ _ _ _ _)) (fun hHeld => ?_)
              clear hK K
              try simp only [Act.put, List.setIfInBounds_toArray, List.set_cons_zero, List.set_cons_succ]
              refine wpAnyH_take (i := 14) (oi := _) (v := ?v96024) (by simp only [List.getElem?_toArray, List.getElem?_cons_succ, List.getElem?_cons_zero]; rfl) (by kernel_rfl) (by kernel_rfl) (by kernel_rfl) (by exact fun _ _ _ h => h) (Or.inl ⟨by rfl, ?hy96024⟩) (by assumption) ?rest96024
              case hy96024 => (intro w hSw; (try dsimp only at hSw); go_simp; try with_reducible rfl)
              try simp only [Act.put, List.setIfInBounds_toArray, List.set_cons_zero, List.set_cons_succ]
              refine wpAnyH_take (i := 15) (oi := _) (v := ?v96025) (by simp only [List.getElem?_toArray, List.getElem?_cons_succ, List.getElem?_cons_zero]; rfl) (by kernel_rfl) (by kernel_rfl) (by kernel_rfl) (by exact fun _ _ _ h => h) (Or.inl ⟨by rfl, ?hy96025⟩) (by assumption) ?rest96025
              case hy96025 => (intro w hSw; (try dsimp only at hSw); go_simp; try with_reducible rfl)
              try simp only [Act.put, List.setIfInBounds_toArray, List.set_cons_zero, List.set_cons_succ]
              refine wpAnyH_done (by kernel_rfl) ?_ _
              go_wp2
              go_meet
              case rel => exact ⟨_, rfl, rfl, rfl, Lib.hid (gotT_at P111.out LX.out A111.out)⟩
          · go_simp
            obtain ⟨X112, hX112⟩ : ∃ X, X106.alloc (.cells #[.string ⟨#[]⟩, .string ⟨#[]⟩, .string ⟨#[]⟩, .string ⟨#[]⟩, .string ⟨#[]⟩, .string ⟨#[]⟩] 30) = X := ⟨_, rfl⟩
            have hp112 := (P106.out).alloc (P106.out).size (.cells #[.string ⟨#[]⟩, .string ⟨#[]⟩, .string ⟨#[]⟩, .string ⟨#[]⟩, .string ⟨#[]⟩, .string ⟨#[]⟩] 30)
            have hq112 := heap_alloc_last X106 (.cells #[.string ⟨#[]⟩, .string ⟨#[]⟩, .string ⟨#[]⟩, .string ⟨#[]⟩, .string ⟨#[]⟩, .string ⟨#[]⟩] 30)
            have ho112 := own_below O106.out ((Below.refl X106.heap.size X106).alloc (Nat.le_refl _) (.cells #[.string ⟨#[]⟩, .string ⟨#[]⟩, .string ⟨#[]⟩, .string ⟨#[]⟩, .string ⟨#[]⟩, .string ⟨#[]⟩] 30))
            rw [hX112] at hp112 hq112 ho112 ⊢
            have P112 := Lib.hid hp112
            have O112 := Lib.hid ho112
            have A112 := Lib.hid hq112
            have LX := Lib.hid (P106.out).size
            obtain ⟨A112z, c112z, ez112, hbz112⟩ := HBU.out _ _ (PRow.cut O112.out (by rw [HLL.out]) rfl)
            cases ez112
            have BU112 := Lib.hid hbz112
            clear hbz112
            clear hX112 hp112 hq112 ho112
            refine hK.out _ _ (HCE.out _ P112.out) (fun hHeld => ?_)
            clear hK K
            try simp only [Act.put, List.setIfInBounds_toArray, List.set_cons_zero, List.set_cons_succ]
            refine wpAnyH_ready (rs := [6]) (by kernel_rfl) (by simp) ?_
            refine AllReadyH.cons (o := _) (by simp only [List.getElem?_toArray, List.getElem?_cons_succ, List.getElem?_cons_zero]; rfl) (fun K hK => ?_) AllReadyH.nil
            go_simp
            go_at_call 10
            (with_reducible refine (BU112.out).mono ?_)
            rintro e113 X113 ⟨rfl, hb113⟩
            have P113 := Lib.hid ((P112.out).chain hb113)
            have A113 := Lib.hid (blk_below A112.out hb113)
            clear hb113
            dsimp only
            refine hK.out _ _ (HCE.out _ P113.out) (fun hHeld => ?_)
            clear hK K
            try simp only [Act.put, List.setIfInBounds_toArray, List.set_cons_zero, List.set_cons_succ]
            refine wpAnyH_ready (rs := [7]) (by kernel_rfl) (by simp) ?_
            refine AllReadyH.cons (o := _) (by simp only [List.getElem?_toArray, List.getElem?_cons_succ, List.getElem?_cons_zero]; rfl) (fun K hK => ?_) AllReadyH.nil
            go_simp
            go_at_call 8
            (with_reducible refine (HC.out _ P113.out).mono ?_)
            rintro e114 X114 ⟨rfl, hb114⟩
            have P114 := Lib.hid ((P113.out).chain hb114)
            have A114 := Lib.hid (blk_below A113.out hb114)
            clear hb114
            dsimp only
            obtain ⟨⟨r0, r1, r2, r3, r4, r5⟩, f0, f1, f2, f3, f4, f5⟩ := cellsK6_of A114.out
            refine hK.out _ _ (HCE.out _ P114.out) (fun hHeld => ?_)
            clear hK K
            try simp only [Act.put, List.setIfInBounds_toArray, List.set_cons_zero, List.set_cons_succ]
            refine wpAnyH_take (i := 8) (oi := _) (v := ?v96029) (by simp only [List.getElem?_toArray, List.getElem?_cons_succ, List.getElem?_cons_zero]; rfl) (by kernel_rfl) (by kernel_rfl) (by kernel_rfl) (by exact fun _ _ _ h => h) (Or.inl ⟨by rfl, ?hy96029⟩) (by assumption) ?rest96029
            case hy96029 => (intro w hSw; (try dsimp only at hSw); go_simp; try with_reducible rfl)
            try simp only [Act.put, List.setIfInBounds_toArray, List.set_cons_zero, List.set_cons_succ]
            refine wpAnyH_take (i := 9) (oi := _) (v := ?v96030) (by simp only [List.getElem?_toArray, List.getElem?_cons_succ, List.getElem?_cons_zero]; rfl) (by kernel_rfl) (by kernel_rfl) (by kernel_rfl) (by exact fun _ _ _ h => h) (Or.inl ⟨by rfl, ?hy96030⟩) (by assumption) ?rest96030
            case hy96030 => (intro w hSw; (try dsimp only at hSw); go_simp; try with_reducible rfl)
            try simp only [Act.put, List.setIfInBounds_toArray, List.set_cons_zero, List.set_cons_succ]
            refine wpAnyH_take (i := 10) (oi := _) (v := ?v96031) (by simp only [List.getElem?_toArray, List.getElem?_cons_succ, List.getElem?_cons_zero]; rfl) (by kernel_rfl) (by kernel_rfl) (by kernel_rfl) (by exact fun _ _ _ h => h) (Or.inl ⟨by rfl, ?hy96031⟩) (by assumption) ?rest96031
            case hy96031 => (intro w hSw; (try dsimp only at hSw); go_simp; try with_reducible rfl)
            try simp only [Act.put, List.setIfInBounds_toArray, List.set_cons_zero, List.set_cons_succ]
            refine wpAnyH_take (i := 11) (oi := _) (v := ?v96032) (by simp only [List.getElem?_toArray, List.getElem?_cons_succ, List.getElem?_cons_zero]; rfl) (by kernel_rfl) (by kernel_rfl) (by kernel_rfl) (by exact fun _ _ _ h => h) (Or.inl ⟨by rfl, ?hy96032⟩) (by assumption) ?rest96032
            case hy96032 => (intro w hSw; (try dsimp only at hSw); go_simp; try with_reducible rfl)
            try simp only [Act.put, List.setIfInBounds_toArray, List.set_cons_zero, List.set_cons_succ]
            refine wpAnyH_ready (rs := [13]) (by kernel_rfl) (by simp) ?_
            refine AllReadyH.cons (o := _) (by simp only [List.getElem?_toArray, List.getElem?_cons_succ, List.getElem?_cons_zero]; rfl) (fun K hK => ?_) AllReadyH.nil
            go_simp
            refine hK.out _ _ (HCE.out _ (setK6_below P114.out LX.out _ _ _ _ _ _)) (fun hHeld => ?_)
            clear hK K
            try simp only [Act.put, List.setIfInBounds_toArray, List.set_cons_zero, List.set_cons_succ]
            refine wpAnyH_take (i := 14) (oi := _) (v := ?v96034) (by simp only [List.getElem?_toArray, List.getElem?_cons_succ, List.getElem?_cons_zero]; rfl) (by kernel_rfl) (by kernel_rfl) (by kernel_rfl) (by exact fun _ _ _ h => h) (Or.inl ⟨by rfl, ?hy96034⟩) (by assumption) ?rest96034
            case hy96034 => (intro w hSw; (try dsimp only at hSw); go_simp; try with_reducible rfl)
            try simp only [Act.put, List.setIfInBounds_toArray, List.set_cons_zero, List.set_cons_succ]
            refine wpAnyH_take (i := 15) (oi := _) (v := ?v96035) (by simp only [List.getElem?_toArray, List.getElem?_cons_succ, List.getElem?_cons_zero]; rfl) (by kernel_rfl) (by kernel_rfl) (by kernel_rfl) (by exact fun _ _ _ h => h) (Or.inl ⟨by rfl, ?hy96035⟩) (by assumption) ?rest96035
            case hy96035 => (intro w hSw; (try dsimp only at hSw); go_simp; try with_reducible rfl)
            try simp only [Act.put, List.setIfInBounds_toArray, List.set_cons_zero, List.set_cons_succ]
            refine wpAnyH_done (by kernel_rfl) ?_ _
            go_wp2
            go_meet
            case rel => exact ⟨_, rfl, rfl, rfl, Lib.hid (gotT_at P114.out LX.out A114.out)⟩
        · go_simp
          obtain ⟨X115, hX115⟩ : ∃ X, X105.alloc (.cells #[.string ⟨#[]⟩, .string ⟨#[]⟩, .string ⟨#[]⟩, .string ⟨#[]⟩, .string ⟨#[]⟩, .string ⟨#[]⟩] 30) = X := ⟨_, rfl⟩
          have hp115 := (P105.out).alloc (P105.out).size (.cells #[.string ⟨#[]⟩, .string ⟨#[]⟩, .string ⟨#[]⟩, .string ⟨#[]⟩, .string ⟨#[]⟩, .string ⟨#[]⟩] 30)
          have hq115 := heap_alloc_last X105 (.cells #[.string ⟨#[]⟩, .string ⟨#[]⟩, .string ⟨#[]⟩, .string ⟨#[]⟩, .string ⟨#[]⟩, .string ⟨#[]⟩] 30)
          have ho115 := own_below O105.out ((Below.refl X105.heap.size X105).alloc (Nat.le_refl _) (.cells #[.string ⟨#[]⟩, .string ⟨#[]⟩, .string ⟨#[]⟩, .string ⟨#[]⟩, .string ⟨#[]⟩, .string ⟨#[]⟩] 30))
          rw [hX115] at hp115 hq115 ho115 ⊢
          have P115 := Lib.hid hp115
          have O115 := Lib.hid ho115
          have A115 := Lib.hid hq115
          have LX := Lib.hid (P105.out).size
          clear hX115 hp115 hq115 ho115
          refine hK.out _ _ (HCE.out _ P115.out) (fun hHeld => ?_)
          clear hK K
          try simp only [Act.put, List.setIfInBounds_toArray, List.set_cons_zero, List.set_cons_succ]
          refine wpAnyH_ready (rs := [5]) (by kernel_rfl) (by simp) ?_
          refine AllReadyH.cons (o := _) (by simp only [List.getElem?_toArray, List.getElem?_cons_succ, List.getElem?_cons_zero]; rfl) (fun K hK => ?_) AllReadyH.nil
          refine step_append_opt rfl (.tmp 66) (.tmp 67) 37 rfl W7.heap.size 39 i0 _ 2 32 Tryd.underlying37 HII.out.1 HII.out.2.1 HII.out.2.2.1 HII.out.2.2.2 rfl (by decide) (.slice A105w 6 c105w) 6 (pcells (rotQ CH k)) rfl O115.out (some ⟨g7, 0, none⟩) 2 2 [.string ⟨#[115, 116, 97, 116, 101]⟩, .string ST, .string ⟨#[110, 111, 110, 99, 101]⟩, .string NO] rfl rfl (.inr ⟨_, rfl, sub_cells (blk_below K7.out P115.out) 0 _ (fun j u hu => by rw [Nat.zero_add]; simpa using hu)⟩) (by simp [Value.oneCell']) (by unfold maxLen; omega) (by omega) P115.out.size ?_
          intro v116 X116 hw116 hg116 ht116
          rw [HPLL.out] at hw116
          obtain ⟨A116w, c116w, rfl, hbu116⟩ := HBU.out _ _ (PRow.cut hw116 (by rw [HLL.out]) rfl)
          have BU116 := Lib.hid hbu116
          clear hbu116
          have P116 := Lib.hid ((P115.out).grown hg116 P115.out.size (fun k hk => (O115.out.lt k hk).1))
          have O116 := Lib.hid hw116
          have A116 := Lib.hid (grown_block hg116 A115.out (own_not O115.out A115.out (by decide)))
          clear hg116 ht116 hw116
          refine hK.out _ _ (HCE.out _ P116.out) (fun hHeld => ?_)
          clear hK K
          try simp only [Act.put, List.setIfInBounds_toArray, List.set_cons_zero, List.set_cons_succ]
          refine wpAnyH_ready (rs := [6]) (by kernel_rfl) (by simp) ?_
          refine AllReadyH.cons (o := _) (by simp only [List.getElem?_toArray, List.getElem?_cons_succ, List.getElem?_cons_zero]; rfl) (fun K hK => ?_) AllReadyH.nil
          go_simp
          go_at_call 10
          (with_reducible refine (BU116.out).mono ?_)
          rintro e117 X117 ⟨rfl, hb117⟩
          have P117 := Lib.hid ((P116.out).chain hb117)
          have A117 := Lib.hid (blk_below A116.out hb117)
          clear hb117
          dsimp only
          refine hK.out _ _ (HCE.out _ P117.out) (fun hHeld => ?_)
          clear hK K
          try simp only [Act.put, List.setIfInBounds_toArray, List.set_cons_zero, List.set_cons_succ]
          refine wpAnyH_ready (rs := [7]) (by kernel_rfl) (by simp) ?_
          refine AllReadyH.cons (o := _) (by simp only [List.getElem?_toArray, List.getElem?_cons_succ, List.getElem?_cons_zero]; rfl) (fun K hK => ?_) AllReadyH.nil
          go_simp
          go_at_call 8
          (with_reducible refine (HC.out _ P117.out).mono ?_)
          rintro e118 X118 ⟨rfl, hb118⟩
          have P118 := Lib.hid ((P117.out).chain hb118)
          have A118 := Lib.hid (blk_below A117.out hb118)
          clear hb118
          dsimp only
          obtain ⟨⟨r0, r1, r2, r3, r4, r5⟩, f0, f1, f2, f3, f4, f5⟩ := cellsK6_of A118.out
          refine hK.out _ _ (HCE.out _ P118.out) (fun hHeld => ?_)
          clear hK K
          try simp only [Act.put, List.setIfInBounds_toArray, List.set_cons_zero, List.set_cons_succ]
          refine wpAnyH_take (i := 8) (oi := _) (v := ?v96040) (by simp only [List.getElem?_toArray, List.getElem?_cons_succ, List.getElem?_cons_zero]; rfl) (by kernel_rfl) (by kernel_rfl) (by kernel_rfl) (by exact fun _ _ _ h => h) (Or.inl ⟨by rfl, ?hy96040⟩) (by assumption) ?rest96040
          case hy96040 => (intro w hSw; (try dsimp only at hSw); go_simp; try with_reducible rfl)
          try simp only [Act.put, List.setIfInBounds_toArray, List.set_cons_zero, List.set_cons_succ]
          refine wpAnyH_take (i := 9) (oi := _) (v := ?v96041) (by simp only [List.getElem?_toArray, List.getElem?_cons_succ, List.getElem?_cons_zero]; rfl) (by kernel_rfl) (by kernel_rfl) (by kernel_rfl) (by exact fun _ _ _ h => h) (Or.inl ⟨by rfl, ?hy96041⟩) (by assumption) ?rest96041
          case hy96041 => (intro w hSw; (try dsimp only at hSw); go_simp; try with_reducible rfl)
          try simp only [Act.put, List.setIfInBounds_toArray, List.set_cons_zero, List.set_cons_succ]
          refine wpAnyH_take (i := 10) (oi := _) (v := ?v96042) (by simp only [List.getElem?_toArray, List.getElem?_cons_succ, List.getElem?_cons_zero]; rfl) (by kernel_rfl) (by kernel_rfl) (by kernel_rfl) (by exact fun _ _ _ h => h) (Or.inl ⟨by rfl, ?hy96042⟩) (by assumption) ?rest96042
          case hy96042 => (intro w hSw; (try dsimp only at hSw); go_simp; try with_reducible rfl)
          try simp only [Act.put, List.setIfInBounds_toArray, List.set_cons_zero, List.set_cons_succ]
          refine wpAnyH_take (i := 11) (oi := _) (v := ?v96043) (by simp only [List.getElem?_toArray, List.getElem?_cons_succ, List.getElem?_cons_zero]; rfl) (by kernel_rfl) (by kernel_rfl) (by kernel_rfl) (by exact fun _ _ _ h => h) (Or.inl ⟨by rfl, ?hy96043⟩) (by assumption) ?rest96043
          case hy96043 => (intro w hSw; (try dsimp only at hSw); go_simp; try with_reducible rfl)
          try simp only [Act.put, List.setIfInBounds_toArray, List.set_cons_zero, List.set_cons_succ]
          refine wpAnyH_ready (rs := [13]) (by kernel_rfl) (by simp) ?_
          refine AllReadyH.cons (o := _) (by simp only [List.getElem?_toArray, List.getElem?_cons_succ, List.getElem?_cons_zero]; rfl) (fun K hK => ?_) AllReadyH.nil
          go_simp
          refine hK.out _ _ (HCE.out _ (setK6_below P118.out LX.out _ _ _ _ _ _)) (fun hHeld => ?_)
          clear hK K
          try simp only [Act.put, List.setIfInBounds_toArray, List.set_cons_zero, List.set_cons_succ]
          refine wpAnyH_take (i := 14) (oi := _) (v := ?v96045) (by simp only [List.getElem?_toArray, List.getElem?_cons_succ, List.getElem?_cons_zero]; rfl) (by kernel_rfl) (by kernel_rfl) (by kernel_rfl) (by exact fun _ _ _ h => h) (Or.inl ⟨by rfl, ?hy96045⟩) (by assumption) ?rest96045
          case hy96045 => (intro w hSw; (try dsimp only at hSw); go_simp; try with_reducible rfl)
          try simp only [Act.put, List.setIfInBounds_toArray, List.set_cons_zero, List.set_cons_succ]
          refine wpAnyH_take (i := 15) (oi := _) (v := ?v96046) (by simp only [List.getElem?_toArray, List.getElem?_cons_succ, List.getElem?_cons_zero]; rfl) (by kernel_rfl) (by kernel_rfl) (by kernel_rfl) (by exact fun _ _ _ h => h) (Or.inl ⟨by rfl, ?hy96046⟩) (by assumption) ?rest96046
          case hy96046 => (intro w hSw; (try dsimp only at hSw); go_simp; try with_reducible rfl)
          try simp only [Act.put, List.setIfInBounds_toArray, List.set_cons_zero, List.set_cons_succ]
          refine wpAnyH_done (by kernel_rfl) ?_ _
          go_wp2
          go_meet
          case rel => exact ⟨_, rfl, rfl, rfl, Lib.hid (gotT_at P118.out LX.out A118.out)⟩
      · go_simp
        obtain ⟨X119, hX119⟩ : ∃ X, X104.alloc (.cells #[.string ⟨#[]⟩, .string ⟨#[]⟩, .string ⟨#[]⟩, .string ⟨#[]⟩, .string ⟨#[]⟩, .string ⟨#[]⟩] 30) = X := ⟨_, rfl⟩
        have hp119 := (P104.out).alloc (P104.out).size (.cells #[.string ⟨#[]⟩, .string ⟨#[]⟩, .string ⟨#[]⟩, .string ⟨#[]⟩, .string ⟨#[]⟩, .string ⟨#[]⟩] 30)
        have hq119 := heap_alloc_last X104 (.cells #[.string ⟨#[]⟩, .string ⟨#[]⟩, .string ⟨#[]⟩, .string ⟨#[]⟩, .string ⟨#[]⟩, .string ⟨#[]⟩] 30)
        have ho119 := own_below O104.out ((Below.refl X104.heap.size X104).alloc (Nat.le_refl _) (.cells #[.string ⟨#[]⟩, .string ⟨#[]⟩, .string ⟨#[]⟩, .string ⟨#[]⟩, .string ⟨#[]⟩, .string ⟨#[]⟩] 30))
        rw [hX119] at hp119 hq119 ho119 ⊢
        have P119 := Lib.hid hp119
        have O119 := Lib.hid ho119
        have A119 := Lib.hid hq119
        have LX := Lib.hid (P104.out).size
        clear hX119 hp119 hq119 ho119
        refine hK.out _ _ (HCE.out _ P119.out) (fun hHeld => ?_)
        clear hK K
        try simp only [Act.put, List.setIfInBounds_toArray, List.set_cons_zero, List.set_cons_succ]
        refine wpAnyH_ready (rs := [3]) (by kernel_rfl) (by simp) ?_
        refine AllReadyH.cons (o := _) (by simp only [List.getElem?_toArray, List.getElem?_cons_succ, List.getElem?_cons_zero]; rfl) (fun K hK => ?_) AllReadyH.nil
        refine step_append_opt rfl (.tmp 64) (.tmp 65) 37 rfl W7.heap.size 39 i0 _ 2 32 Tryd.underlying37 HII.out.1 HII.out.2.1 HII.out.2.2.1 HII.out.2.2.2 rfl (by decide) (.slice (some ⟨wd.heap.size, 0, none⟩) 0 0) 0 [] rfl O119.out (some ⟨gm, 0, none⟩) 6 cm (pcells (rotQ CH k)) rfl HRL.out (.inr ⟨_, rfl, own_cells (own_below O7.out P119.out) 0 _ (fun j u hu => by rw [Nat.zero_add]; exact hu)⟩) (pcells_allone _) (by unfold maxLen; omega) (by omega) P119.out.size ?_
        intro v120 X120 hw120 hg120 ht120
        simp only [Nat.zero_add, List.nil_append] at hw120
        obtain ⟨A120w, c120w, rfl⟩ := own_form hw120
        have P120 := Lib.hid ((P119.out).grown hg120 P119.out.size (fun k hk => (O119.out.lt k hk).1))
        have O120 := Lib.hid hw120
        have A120 := Lib.hid (grown_block hg120 A119.out (own_not O119.out A119.out (by decide)))
        clear hg120 ht120 hw120
        refine hK.out _ _ (HCE.out _ P120.out) (fun hHeld => ?_)
        clear hK K
        try simp only [Act.put, List.setIfInBounds_toArray, List.set_cons_zero, List.set_cons_succ]
        refine wpAnyH_ready (rs := [5]) (by kernel_rfl) (by simp) ?_
        refine AllReadyH.cons (o := _) (by simp only [List.getElem?_toArray, List.getElem?_cons_succ, List.getElem?_cons_zero]; rfl) (fun K hK => ?_) AllReadyH.nil
        refine step_append_opt rfl (.tmp 66) (.tmp 67) 37 rfl W7.heap.size 39 i0 _ 2 32 Tryd.underlying37 HII.out.1 HII.out.2.1 HII.out.2.2.1 HII.out.2.2.2 rfl (by decide) (.slice A120w 6 c120w) 6 (pcells (rotQ CH k)) rfl O120.out (some ⟨g7, 0, none⟩) 2 2 [.string ⟨#[115, 116, 97, 116, 101]⟩, .string ST, .string ⟨#[110, 111, 110, 99, 101]⟩, .string NO] rfl rfl (.inr ⟨_, rfl, sub_cells (blk_below K7.out P120.out) 0 _ (fun j u hu => by rw [Nat.zero_add]; simpa using hu)⟩) (by simp [Value.oneCell']) (by unfold maxLen; omega) (by omega) P120.out.size ?_
        intro v121 X121 hw121 hg121 ht121
        rw [HPLL.out] at hw121
        obtain ⟨A121w, c121w, rfl, hbu121⟩ := HBU.out _ _ (PRow.cut hw121 (by rw [HLL.out]) rfl)
        have BU121 := Lib.hid hbu121
        clear hbu121
        have P121 := Lib.hid ((P120.out).grown hg121 P120.out.size (fun k hk => (O120.out.lt k hk).1))
        have O121 := Lib.hid hw121
        have A121 := Lib.hid (grown_block hg121 A120.out (own_not O120.out A120.out (by decide)))
        clear hg121 ht121 hw121
        refine hK.out _ _ (HCE.out _ P121.out) (fun hHeld => ?_)
        clear hK K
        try simp only [Act.put, List.setIfInBounds_toArray, List.set_cons_zero, List.set_cons_succ]
        refine wpAnyH_ready (rs := [6]) (by kernel_rfl) (by simp) ?_
        refine AllReadyH.cons (o := _) (by simp only [List.getElem?_toArray, List.getElem?_cons_succ, List.getElem?_cons_zero]; rfl) (fun K hK => ?_) AllReadyH.nil
        go_simp
        go_at_call 10
        (with_reducible refine (BU121.out).mono ?_)
        rintro e122 X122 ⟨rfl, hb122⟩
        have P122 := Lib.hid ((P121.out).chain hb122)
        have A122 := Lib.hid (blk_below A121.out hb122)
        clear hb122
        dsimp only
        refine hK.out _ _ (HCE.out _ P122.out) (fun hHeld => ?_)
        clear hK K
        try simp only [Act.put, List.setIfInBounds_toArray, List.set_cons_zero, List.set_cons_succ]
        refine wpAnyH_ready (rs := [7]) (by kernel_rfl) (by simp) ?_
        refine AllReadyH.cons (o := _) (by simp only [List.getElem?_toArray, List.getElem?_cons_succ, List.getElem?_cons_zero]; rfl) (fun K hK => ?_) AllReadyH.nil
        go_simp
        go_at_call 8
        (with_reducible refine (HC.out _ P122.out).mono ?_)
        rintro e123 X123 ⟨rfl, hb123⟩
        have P123 := Lib.hid ((P122.out).chain hb123)
        have A123 := Lib.hid (blk_below A122.out hb123)
        clear hb123
        dsimp only
        obtain ⟨⟨r0, r1, r2, r3, r4, r5⟩, f0, f1, f2, f3, f4, f5⟩ := cellsK6_of A123.out
        refine hK.out _ _ (HCE.out _ P123.out) (fun hHeld => ?_)
        clear hK K
        try simp only [Act.put, List.setIfInBounds_toArray, List.set_cons_zero, List.set_cons_succ]
        refine wpAnyH_take (i := 8) (oi := _) (v := ?v96052) (by simp only [List.getElem?_toArray, List.getElem?_cons_succ, List.getElem?_cons_zero]; rfl) (by kernel_rfl) (by kernel_rfl) (by kernel_rfl) (by exact fun _ _ _ h => h) (Or.inl ⟨by rfl, ?hy96052⟩) (by assumption) ?rest96052
        case hy96052 => (intro w hSw; (try dsimp only at hSw); go_simp; try with_reducible rfl)
        try simp only [Act.put, List.setIfInBounds_toArray, List.set_cons_zero, List.set_cons_succ]
        refine wpAnyH_take (i := 9) (oi := _) (v := ?v96053) (by simp only [List.getElem?_toArray, List.getElem?_cons_succ, List.getElem?_cons_zero]; rfl) (by kernel_rfl) (by kernel_rfl) (by kernel_rfl) (by exact fun _ _ _ h => h) (Or.inl ⟨by rfl, ?hy96053⟩) (by assumption) ?rest96053
        case hy96053 => (intro w hSw; (try dsimp only at hSw); go_simp; try with_reducible rfl)
        try simp only [Act.put, List.setIfInBounds_toArray, List.set_cons_zero, List.set_cons_succ]
        refine wpAnyH_take (i := 10) (oi := _) (v := ?v96054) (by simp only [List.getElem?_toArray, List.getElem?_cons_succ, List.getElem?_cons_zero]; rfl) (by kernel_rfl) (by kernel_rfl) (by kernel_rfl) (by exact fun _ _ _ h => h) (Or.inl ⟨by rfl, ?hy96054⟩) (by assumption) ?rest96054
        case hy96054 => (intro w hSw; (try dsimp only at hSw); go_simp; try with_reducible rfl)
        try simp only [Act.put, List.setIfInBounds_toArray, List.set_cons_zero, List.set_cons_succ]
        refine wpAnyH_take (i := 11) (oi := _) (v := ?v96055) (by simp only [List.getElem?_toArray, List.getElem?_cons_succ, List.getElem?_cons_zero]; rfl) (by kernel_rfl) (by kernel_rfl) (by kernel_rfl) (by exact fun _ _ _ h => h) (Or.inl ⟨by rfl, ?hy96055⟩) (by assumption) ?rest96055
        case hy96055 => (intro w hSw; (try dsimp only at hSw); go_simp; try with_reducible rfl)
        try simp only [Act.put, List.setIfInBounds_toArray, List.set_cons_zero, List.set_cons_succ]
        refine wpAnyH_ready (rs := [13]) (by kernel_rfl) (by simp) ?_
        refine AllReadyH.cons (o := _) (by simp only [List.getElem?_toArray, List.getElem?_cons_succ, List.getElem?_cons_zero]; rfl) (fun K hK => ?_) AllReadyH.nil
        go_simp
        refine hK.out _ _ (HCE.out _ (setK6_below P123.out LX.out _ _ _ _ _ _)) (fun hHeld => ?_)
        clear hK K
        try simp only [Act.put, List.setIfInBounds_toArray, List.set_cons_zero, List.set_cons_succ]
        refine wpAnyH_take (i := 14) (oi := _) (v := ?v96057) (by simp only [List.getElem?_toArray, List.getElem?_cons_succ, List.getElem?_cons_zero]; rfl) (by kernel_rfl) (by kernel_rfl) (by kernel_rfl) (by exact fun _ _ _ h => h) (Or.inl ⟨by rfl, ?hy96057⟩) (by assumption) ?rest96057
        case hy96057 => (intro w hSw; (try dsimp only at hSw); go_simp; try with_reducible rfl)
        try simp only [Act.put, List.setIfInBounds_toArray, List.set_cons_zero, List.set_cons_succ]
        refine wpAnyH_take (i := 15) (oi := _) (v := ?v96058) (by simp only [List.getElem?_toArray, List.getElem?_cons_succ, List.getElem?_cons_zero]; rfl) (by kernel_rfl) (by kernel_rfl) (by kernel_rfl) (by exact fun _ _ _ h => h) (Or.inl ⟨by rfl, ?hy96058⟩) (by assumption) ?rest96058
        case hy96058 => (intro w hSw; (try dsimp only at hSw); go_simp; try with_reducible rfl)
        try simp only [Act.put, List.setIfInBounds_toArray, List.set_cons_zero, List.set_cons_succ]
        refine wpAnyH_done (by kernel_rfl) ?_ _
        go_wp2
        go_meet
        case rel => exact ⟨_, rfl, rfl, rfl, Lib.hid (gotT_at P123.out LX.out A123.out)⟩
    · go_simp
      obtain ⟨X124, hX124⟩ : ∃ X, wd.alloc (.cells #[.string ⟨#[]⟩, .string ⟨#[]⟩, .string ⟨#[]⟩, .string ⟨#[]⟩, .string ⟨#[]⟩, .string ⟨#[]⟩] 30) = X := ⟨_, rfl⟩
      have hp124 := (PD.out).alloc (PD.out).size (.cells #[.string ⟨#[]⟩, .string ⟨#[]⟩, .string ⟨#[]⟩, .string ⟨#[]⟩, .string ⟨#[]⟩, .string ⟨#[]⟩] 30)
      have hq124 := heap_alloc_last wd (.cells #[.string ⟨#[]⟩, .string ⟨#[]⟩, .string ⟨#[]⟩, .string ⟨#[]⟩, .string ⟨#[]⟩, .string ⟨#[]⟩] 30)
      rw [hX124] at hp124 hq124 ⊢
      have P124 := Lib.hid hp124
      have A124 := Lib.hid hq124
      have LX := Lib.hid (PD.out).size
      clear hX124 hp124 hq124
      refine hK.out _ _ (HCE.out _ P124.out) (fun hHeld => ?_)
      clear hK K
      try simp only [Act.put, List.setIfInBounds_toArray, List.set_cons_zero, List.set_cons_succ]
      refine wpAnyH_ready (rs := [1]) (by kernel_rfl) (by simp) ?_
      refine AllReadyH.cons (o := _) (by simp only [List.getElem?_toArray, List.getElem?_cons_succ, List.getElem?_cons_zero]; rfl) (fun K hK => ?_) AllReadyH.nil
      go_simp
      obtain ⟨X125, hX125⟩ : ∃ X, X124.alloc (.cells #[] 39) = X := ⟨_, rfl⟩
      have hp125 := (P124.out).alloc (P124.out).size (.cells #[] 39)
      have hq125 := heap_alloc_last X124 (.cells #[] 39)
      have ha125 := alloc_block (x := .cells #[] 39) A124.out
      have hw125 := own_fresh X124 W7.heap.size 39 2 P124.out.size
      rw [hX125] at hp125 hq125 ha125 hw125 ⊢
      have P125 := Lib.hid hp125
      have A125 := Lib.hid ha125
      have O125 := Lib.hid hw125
      clear hX125 hp125 hq125 ha125 hw125
      refine hK.out _ _ (HCE.out _ P125.out) (fun hHeld => ?_)
      clear hK K
      try simp only [Act.put, List.setIfInBounds_toArray, List.set_cons_zero, List.set_cons_succ]
      refine wpAnyH_ready (rs := [3]) (by kernel_rfl) (by simp) ?_
      refine AllReadyH.cons (o := _) (by simp only [List.getElem?_toArray, List.getElem?_cons_succ, List.getElem?_cons_zero]; rfl) (fun K hK => ?_) AllReadyH.nil
      refine step_append_opt rfl (.tmp 64) (.tmp 65) 37 rfl W7.heap.size 39 i0 _ 2 32 Tryd.underlying37 HII.out.1 HII.out.2.1 HII.out.2.2.1 HII.out.2.2.2 rfl (by decide) (.slice (some ⟨X124.heap.size, 0, none⟩) 0 0) 0 [] rfl O125.out (some ⟨gm, 0, none⟩) 6 cm (pcells (rotQ CH k)) rfl HRL.out (.inr ⟨_, rfl, own_cells (own_below O7.out P125.out) 0 _ (fun j u hu => by rw [Nat.zero_add]; exact hu)⟩) (pcells_allone _) (by unfold maxLen; omega) (by omega) P125.out.size ?_
      intro v126 X126 hw126 hg126 ht126
      simp only [Nat.zero_add, List.nil_append] at hw126
      obtain ⟨A126w, c126w, rfl⟩ := own_form hw126
      have P126 := Lib.hid ((P125.out).grown hg126 P125.out.size (fun k hk => (O125.out.lt k hk).1))
      have O126 := Lib.hid hw126
      have A126 := Lib.hid (grown_block hg126 A125.out (own_not O125.out A125.out (by decide)))
      clear hg126 ht126 hw126
      refine hK.out _ _ (HCE.out _ P126.out) (fun hHeld => ?_)
      clear hK K
      try simp only [Act.put, List.setIfInBounds_toArray, List.set_cons_zero, List.set_cons_succ]
      refine wpAnyH_ready (rs := [5]) (by kernel_rfl) (by simp) ?_
      refine AllReadyH.cons (o := _) (by simp only [List.getElem?_toArray, List.getElem?_cons_succ, List.getElem?_cons_zero]; rfl) (fun K hK => ?_) AllReadyH.nil
      refine step_append_opt rfl (.tmp 66) (.tmp 67) 37 rfl W7.heap.size 39 i0 _ 2 32 Tryd.underlying37 HII.out.1 HII.out.2.1 HII.out.2.2.1 HII.out.2.2.2 rfl (by decide) (.slice A126w 6 c126w) 6 (pcells (rotQ CH k)) rfl O126.out (some ⟨g7, 0, none⟩) 2 2 [.string ⟨#[115, 116, 97, 116, 101]⟩, .string ST, .string ⟨#[110, 111, 110, 99, 101]⟩, .string NO] rfl rfl (.inr ⟨_, rfl, sub_cells (blk_below K7.out P126.out) 0 _ (fun j u hu => by rw [Nat.zero_add]; simpa using hu)⟩) (by simp [Value.oneCell']) (by unfold maxLen; omega) (by omega) P126.out.size ?_
      intro v127 X127 hw127 hg127 ht127
      rw [HPLL.out] at hw127
      obtain ⟨A127w, c127w, rfl, hbu127⟩ := HBU.out _ _ (PRow.cut hw127 (by rw [HLL.out]) rfl)
      have BU127 := Lib.hid hbu127
      clear hbu127
      have P127 := Lib.hid ((P126.out).grown hg127 P126.out.size (fun k hk => (O126.out.lt k hk).1))
      have O127 := Lib.hid hw127
      have A127 := Lib.hid (grown_block hg127 A126.out (own_not O126.out A126.out (by decide)))
      clear hg127 ht127 hw127
      refine hK.out _ _ (HCE.out _ P127.out) (fun hHeld => ?_)
      clear hK K
      try simp only [Act.put, List.setIfInBounds_toArray, List.set_cons_zero, List.set_cons_succ]
      refine wpAnyH_ready (rs := [6]) (by kernel_rfl) (by simp) ?_
      refine AllReadyH.cons (o := _) (by simp only [List.getElem?_toArray, List.getElem?_cons_succ, List.getElem?_cons_zero]; rfl) (fun K hK => ?_) AllReadyH.nil
      go_simp
      go_at_call 10
      (with_reducible refine (BU127.out).mono ?_)
      rintro e128 X128 ⟨rfl, hb128⟩
      have P128 := Lib.hid ((P127.out).chain hb128)
      have A128 := Lib.hid (blk_below A127.out hb128)
      clear hb128
      dsimp only
      refine hK.out _ _ (HCE.out _ P128.out) (fun hHeld => ?_)
      clear hK K
      try simp only [Act.put, List.setIfInBounds_toArray, List.set_cons_zero, List.set_cons_succ]
      refine wpAnyH_ready (rs := [7]) (by kernel_rfl) (by simp) ?_
      refine AllReadyH.cons (o := _) (by simp only [List.getElem?_toArray, List.getElem?_cons_succ, List.getElem?_cons_zero]; rfl) (fun K hK => ?_) AllReadyH.nil
      go_simp
      go_at_call 8
      (with_reducible refine (HC.out _ P128.out).mono ?_)
      rintro e129 X129 ⟨rfl, hb129⟩
      have P129 := Lib.hid ((P128.out).chain hb129)
      have A129 := Lib.hid (blk_below A128.out hb129)
      clear hb129
      dsimp only
      obtain ⟨⟨r0, r1, r2, r3, r4, r5⟩, f0, f1, f2, f3, f4, f5⟩ := cellsK6_of A129.out
      refine hK.out _ _ (HCE.out _ P129.out) (fun hHeld => ?_)
      clear hK K
      try simp only [Act.put, List.setIfInBounds_toArray, List.set_cons_zero, List.set_cons_succ]
      refine wpAnyH_take (i := 8) (oi := _) (v := ?v96065) (by simp only [List.getElem?_toArray, List.getElem?_cons_succ, List.getElem?_cons_zero]; rfl) (by kernel_rfl) (by kernel_rfl) (by kernel_rfl) (by exact fun _ _ _ h => h) (Or.inl ⟨by rfl, ?hy96065⟩) (by assumption) ?rest96065
      case hy96065 => (intro w hSw; (try dsimp only at hSw); go_simp; try with_reducible rfl)
      try simp only [Act.put, List.setIfInBounds_toArray, List.set_cons_zero, List.set_cons_succ]
      refine wpAnyH_take (i := 9) (oi := _) (v := ?v96066) (by simp only [List.getElem?_toArray, List.getElem?_cons_succ, List.getElem?_cons_zero]; rfl) (by kernel_rfl) (by kernel_rfl) (by kernel_rfl) (by exact fun _ _ _ h => h) (Or.inl ⟨by rfl, ?hy96066⟩) (by assumption) ?rest96066
      case hy96066 => (intro w hSw; (try dsimp only at hSw); go_simp; try with_reducible rfl)
      try simp only [Act.put, List.setIfInBounds_toArray, List.set_cons_zero, List.set_cons_succ]
      refine wpAnyH_take (i := 10) (oi := _) (v := ?v96067) (by simp only [List.getElem?_toArray, List.getElem?_cons_succ, List.getElem?_cons_zero]; rfl) (by kernel_rfl) (by kernel_rfl) (by kernel_rfl) (by exact fun _ _ _ h => h) (Or.inl ⟨by rfl, ?hy96067⟩) (by assumption) ?rest96067
      case hy96067 => (intro w hSw; (try dsimp only at hSw); go_simp; try with_reducible rfl)
      try simp only [Act.put, List.setIfInBounds_toArray, List.set_cons_zero, List.set_cons_succ]
      refine wpAnyH_take (i := 11) (oi := _) (v := ?v96068) (by simp only [List.getElem?_toArray, List.getElem?_cons_succ, List.getElem?_cons_zero]; rfl) (by kernel_rfl) (by kernel_rfl) (by kernel_rfl) (by exact fun _ _ _ h => h) (Or.inl ⟨by rfl, ?hy96068⟩) (by assumption) ?rest96068
      case hy96068 => (intro w hSw; (try dsimp only at hSw); go_simp; try with_reducible rfl)
      try simp only [Act.put, List.setIfInBounds_toArray, List.set_cons_zero, List.set_cons_succ]
      refine wpAnyH_ready (rs := [13]) (by kernel_rfl) (by simp) ?_
      refine AllReadyH.cons (o := _) (by simp only [List.getElem?_toArray, List.getElem?_cons_succ, List.getElem?_cons_zero]; rfl) (fun K hK => ?_) AllReadyH.nil
      go_simp
      refine hK.out _ _ (HCE.out _ (setK6_below P129.out LX.out _ _ _ _ _ _)) (fun hHeld => ?_)
      clear hK K
      try simp only [Act.put, List.setIfInBounds_toArray, List.set_cons_zero, List.set_cons_succ]
      refine wpAnyH_take (i := 14) (oi := _) (v := ?v96070) (by simp only [List.getElem?_toArray, List.getElem?_cons_succ, List.getElem?_cons_zero]; rfl) (by kernel_rfl) (by kernel_rfl) (by kernel_rfl) (by exact fun _ _ _ h => h) (Or.inl ⟨by rfl, ?hy96070⟩) (by assumption) ?rest96070
      case hy96070 => (intro w hSw; (try dsimp only at hSw); go_simp; try with_reducible rfl)
      try simp only [Act.put, List.setIfInBounds_toArray, List.set_cons_zero, List.set_cons_succ]
      refine wpAnyH_take (i := 15) (oi := _) (v := ?v96071) (by simp only [List.getElem?_toArray, List.getElem?_cons_succ, List.getElem?_cons_zero]; rfl) (by kernel_rfl) (by kernel_rfl) (by kernel_rfl) (by exact fun _ _ _ h => h) (Or.inl ⟨by rfl, ?hy96071⟩) (by assumption) ?rest96071
      case hy96071 => (intro w hSw; (try dsimp only at hSw); go_simp; try with_reducible rfl)
      try simp only [Act.put, List.setIfInBounds_toArray, List.set_cons_zero, List.set_cons_succ]
      refine wpAnyH_done (by kernel_rfl) ?_ _
      go_wp2
      go_meet
      case rel => exact ⟨_, rfl, rfl, rfl, Lib.hid (gotT_at P129.out LX.out A129.out)⟩
  case rest =>
    obtain ⟨p, rfl, rfl, rfl, HGT⟩ := hcut
    obtain ⟨W9, rfl⟩ : ∃ z, z = wc := ⟨_, rfl⟩
    obtain ⟨hg1, hg2, hg3⟩ := HGT.out
    have B9 := Lib.hid (B7.out.chain hg1); have KA := Lib.hid hg3; have O9 := Lib.hid (own_below O7.out hg1)
    clear HGT hg1 hg2 hg3
    clear HBU HC HLL HPLL HCE
    obtain ⟨d, hd6, hdm⟩ : ∃ d : Nat, d < 6 ∧ Int.tmod (dr : Int) 6 = (d : Int) := ⟨dr % 6, Nat.mod_lt _ (by omega), by rw [Int.tmod_eq_emod_of_nonneg (by omega)]; omega⟩
    have hcv2 : IntKind.i64.wrap (dr : Int) = (dr : Int) := wraps_i64 _ (by omega) (by omega)
    obtain ⟨r2, hr2⟩ : ∃ r, 6 - (d + 1) = r := ⟨_, rfl⟩
    obtain ⟨o2, ho2⟩ : ∃ o, (if cm = d + 1 then 0 else (d + 1) * 2) = o := ⟨_, rfl⟩
    obtain ⟨c2, hc2⟩ : ∃ c, cm - (d + 1) = c := ⟨_, rfl⟩
    have hd0 : (0 : Int) ≤ d := by omega
    have hd1 : (d : Int) < 6 := by omega
    have hwd : IntKind.i64.wrap ((d : Int) + 1) = (d : Int) + 1 := wraps_i64 _ (by omega) (by omega)
    have hsf2 : ∀ W, (Instr.slice 37 (.slice (some ⟨gm, 0, none⟩) 6 cm) (some (.int .i64 ((d : Int) + 1))) none none).run Tryd.prog W = .ok (.slice (some ⟨gm, o2, none⟩) r2 c2) W := fun W => by
      have h9 := sl_from gm 6 cm (d + 1) o2 (by omega) ho2 W
      rw [hr2, hc2] at h9
      exact h9
    have hst2 := fun W => sl_to gm 6 cm d (by omega) W
    have hn3 : ∀ W, Below W9.heap.size W9 W → ∀ j u, (pcells ((rotQ CH k).take d))[j]? = some u → W.cell? ((⟨gm, 0, none⟩ : Addr).add j) = some u := fun W hB => own_cells (own_below O9.out hB) 0 _ (fun j u hu => by
      rw [pcells_take, List.getElem?_take] at hu
      split at hu
      · rw [Nat.zero_add]; exact hu
      · cases hu)
    have hn4 : ∀ W, Below W9.heap.size W9 W → ∀ j u, (pcells ((rotQ CH k).drop (d + 1)))[j]? = some u → W.cell? ((⟨gm, o2, none⟩ : Addr).add j) = some u := fun W hB => own_cells (own_below O9.out hB) o2 _ (fun j u hu => by
      by_cases hcd : cm = d + 1
      · have : (rotQ CH k).drop (d + 1) = [] := List.drop_eq_nil_of_le (by rw [rot_len]; omega)
        rw [this] at hu
        cases hu
      · rw [if_neg hcd] at ho2
        rw [pcells_drop, List.getElem?_drop, ho2] at hu
        exact hu)
    have hl3 : (pcells ((rotQ CH k).take d)).length = d * 2 := by rw [pcells_len, List.length_take, rot_len]; omega
    have hl4 : (pcells ((rotQ CH k).drop (d + 1))).length = r2 * 2 := by rw [pcells_len, List.length_drop, rot_len, hr2]
    have hpl : pcells ((rotQ CH k).take d) ++ pcells ((rotQ CH k).drop (d + 1)) = pcells (lackQ CH k d) := by rw [← pcells_app]; rfl
    have hdr2 : d + r2 = 5 := by omega
    have hll : (lackQ CH k d).length = 5 := by unfold lackQ; rw [List.length_append, List.length_take, List.length_drop, rot_len]; omega
    have hsh : ∀ y ∈ lackQ CH k d, y.1.length + y.2.length ≤ 160 := fun y hy => base_short CH HCL.out y (rot_mem CH k y ((lack_sub CH k d).subset hy))
    have hbl : (buildL (lackQ CH k d)).length ≤ 1000000 := by
      have h3 := buildL_len (lackQ CH k d) 160 hsh
      rw [hll] at h3; omega
    have htt := ask_lack CH HCL.out k d hk6 hd6
    have HLL := Lib.hid hll; have HPLL := Lib.hid hpl; have HN3 := Lib.hid hn3; have HN4 := Lib.hid hn4; have HL3 := Lib.hid hl3; have HL4 := Lib.hid hl4; have HDR := Lib.hid hdr2
    have HCE := Lib.hid (fun W (hB : Below W9.heap.size W9 W) => HCX.out W (B9.out.chain hB))
    obtain ⟨Q10, hQ10⟩ : ∃ z : ByteArray, (⟨(buildL (lackQ CH k d)).toArray⟩ : ByteArray) = z := ⟨_, rfl⟩
    have hbu : ∀ W v, PRow W W9.heap.size v (lackQ CH k d) → ∃ A2 c2, v = .slice A2 5 c2 ∧ Calls Tryd.prog 10 #[.slice A2 5 c2] W fun e w' => e = .returned (.string Q10) ∧ Below W.heap.size W w' := fun W v hv => by
      obtain ⟨A2, c2, rfl, hpr⟩ := hv.reads
      have := refBuild_any A2 c2 W.heap.size 160 (lackQ CH k d) (by rw [HLL.out]; omega) (by decide) (hsh) W (Nat.le_refl _) hpr
      rw [HLL.out, hQ10] at this
      exact ⟨A2, c2, by rw [HLL.out], this⟩
    have HBU := Lib.hid hbu
    clear hbu
    obtain ⟨T, hT⟩ : ∃ T, askP cfgR (buildL (lackQ CH k d)) = T := ⟨_, rfl⟩
    rw [hT] at htt
    obtain ⟨⟨v0, v1, v2, v3, v4, v5⟩, tt, bb⟩ := T
    dsimp only at htt
    obtain ⟨c0, h0'⟩ : ∃ z : ByteArray, (⟨v0.toArray⟩ : ByteArray) = z := ⟨_, rfl⟩
    obtain ⟨c1, h1'⟩ : ∃ z : ByteArray, (⟨v1.toArray⟩ : ByteArray) = z := ⟨_, rfl⟩
    obtain ⟨c3, h2'⟩ : ∃ z : ByteArray, (⟨v2.toArray⟩ : ByteArray) = z := ⟨_, rfl⟩
    obtain ⟨c4, h3'⟩ : ∃ z : ByteArray, (⟨v3.toArray⟩ : ByteArray) = z := ⟨_, rfl⟩
    obtain ⟨c5, h4'⟩ : ∃ z : ByteArray, (⟨v4.toArray⟩ : ByteArray) = z := ⟨_, rfl⟩
    obtain ⟨c6, h5'⟩ : ∃ z : ByteArray, (⟨v5.toArray⟩ : ByteArray) = z := ⟨_, rfl⟩
    obtain ⟨TT, h6'⟩ : ∃ z : ByteArray, (⟨tt.toArray⟩ : ByteArray) = z := ⟨_, rfl⟩
    have hc := fun W (hB : Below W9.heap.size W9 W) => KK.out W (XW.out.chain (B9.out.chain hB)) cfgR (some ⟨q + 1, 0, none⟩) 1 1 none 0 0 (buildL (lackQ CH k d)) (HCF.out.below (B9.out.chain hB)) cfgR_fit (by decide) hbl
    rw [hT] at hc
    unfold AskSays AskV.val tv at hc
    dsimp only at hc
    rw [hQ10, h0', h1', h2', h3', h4', h5', h6'] at hc
    have hc : ∀ W, Below W9.heap.size W9 W → Calls Tryd.prog 8 #[.agg #[.string ⟨#[]⟩, .string ⟨#[]⟩, .string ⟨#[]⟩, .slice (some ⟨q + 1, 0, none⟩) 1 1, .slice none 0 0], .string Q10] W fun e w' => e = .returned (.tuple #[.agg #[.string c0, .string c1, .string c3, .string c4, .string c5, .string c6], .string TT, .bool bb]) ∧ Below W.heap.size W w' := hc
    have hte : ¬ TT.toList = [] := by
      rw [← h6', ByteArray.toList_eq]
      simpa using htt
    have HC := Lib.hid hc; have HTE := Lib.hid hte
    have hdc : d ≤ 6 := by omega
    have hrc : r2 ≤ 6 := by omega
    have hdn : (d : Int) ≤ (cm : Int) := by omega
    clear hc hte hT htt hbl hsh hll hpl hl3 hl4 hn3 hn4 hQ10 h0' h1' h2' h3' h4' h5' h6' hdr2 ho2
    clear hr2 hc2
    go_upto_region 10 with fail
    go_cut [18, 19, 20] from 21 (fun s18 s19 s20 wx => ∃ p2, s18 = .pointer (some ⟨p2, 0, none⟩) ∧ s19 = .string TT ∧ s20 = .bool bb ∧ Hid (GotT W9 wx p2 c0 c1 c3 c4 c5 c6))
    case first =>
      refine wp_region_held_drew (S := (fun W => W.cell? ⟨q + 1 + 1, 0, none⟩ = some (.string ⟨#[]⟩) ∧ W.cell? ⟨q + 1 + 1, 1, none⟩ = some (.string ⟨#[]⟩) ∧ W.cell? ⟨q + 1 + 1, 2, none⟩ = some (.string ⟨#[]⟩) ∧ W.cell? ⟨q + 1 + 1, 3, none⟩ = some (.slice (some ⟨q + 1, 0, none⟩) 1 1) ∧ W.cell? ⟨q + 1 + 1, 4, none⟩ = some (.slice none 0 0))) (by kernel_rfl) (HCE.out _ (Below.refl W9.heap.size W9).drew) (fun hHeld => ?_)
      have hpd := (Below.refl W9.heap.size W9).drew
      obtain ⟨wd, hwd⟩ : ∃ z, W9.drew = z := ⟨_, rfl⟩
      rw [hwd] at hHeld hpd ⊢
      have PD := Lib.hid hpd
      clear hwd hpd
      refine wpAnyH_take (i := 0) (oi := _) (v := ?v96073) (by simp only [List.getElem?_toArray, List.getElem?_cons_succ, List.getElem?_cons_zero]; rfl) (by kernel_rfl) (by kernel_rfl) (by kernel_rfl) (by exact fun _ _ _ h => h) (Or.inl ⟨by rfl, ?hy96073⟩) (by assumption) ?rest96073
      case hy96073 => (intro w hSw; (try dsimp only at hSw); go_simp; try with_reducible rfl)
      try simp only [Act.put, List.setIfInBounds_toArray, List.set_cons_zero, List.set_cons_succ]
      refine wpAnyH_take (i := 2) (oi := _) (v := ?v96074) (by simp only [List.getElem?_toArray, List.getElem?_cons_succ, List.getElem?_cons_zero]; rfl) (by kernel_rfl) (by kernel_rfl) (by kernel_rfl) (by exact fun _ _ _ h => h) (Or.inl ⟨by rfl, ?hy96074⟩) (by assumption) ?rest96074
      case hy96074 => (intro w hSw; (try dsimp only at hSw); go_simp; try with_reducible rfl)
      try simp only [Act.put, List.setIfInBounds_toArray, List.set_cons_zero, List.set_cons_succ]
      refine wpAnyH_take (i := 3) (oi := _) (v := ?v96075) (by simp only [List.getElem?_toArray, List.getElem?_cons_succ, List.getElem?_cons_zero]; rfl) (by kernel_rfl) (by kernel_rfl) (by kernel_rfl) (by exact fun _ _ _ h => h) (Or.inl ⟨by rfl, ?hy96075⟩) (by assumption) ?rest96075
      case hy96075 => (intro w hSw; (try dsimp only at hSw); go_simp; try with_reducible rfl)
      try simp only [Act.put, List.setIfInBounds_toArray, List.set_cons_zero, List.set_cons_succ]
      refine wpAnyH_take (i := 4) (oi := _) (v := ?v96076) (by simp only [List.getElem?_toArray, List.getElem?_cons_succ, List.getElem?_cons_zero]; rfl) (by kernel_rfl) (by kernel_rfl) (by kernel_rfl) (by exact fun _ _ _ h => h) (Or.inl ⟨by rfl, ?hy96076⟩) (by assumption) ?rest96076
      case hy96076 => (intro w hSw; (try dsimp only at hSw); go_simp; try with_reducible rfl)
      try simp only [Act.put, List.setIfInBounds_toArray, List.set_cons_zero, List.set_cons_succ]
      refine wpAnyH_take (i := 6) (oi := _) (v := ?v96077) (by simp only [List.getElem?_toArray, List.getElem?_cons_succ, List.getElem?_cons_zero]; rfl) (by kernel_rfl) (by kernel_rfl) (by kernel_rfl) (by exact fun _ _ _ h => h) (Or.inl ⟨by rfl, ?hy96077⟩) (by assumption) ?rest96077
      case hy96077 => (intro w hSw; (try dsimp only at hSw); go_simp; try with_reducible rfl)
      try simp only [Act.put, List.setIfInBounds_toArray, List.set_cons_zero, List.set_cons_succ]
      refine wpAnyH_take (i := 7) (oi := _) (v := ?v96078) (by simp only [List.getElem?_toArray, List.getElem?_cons_succ, List.getElem?_cons_zero]; rfl) (by kernel_rfl) (by kernel_rfl) (by kernel_rfl) (by exact fun _ _ _ h => h) (Or.inl ⟨by rfl, ?hy96078⟩) (by assumption) ?rest96078
      case hy96078 => (intro w hSw; (try dsimp only at hSw); go_simp; try with_reducible rfl)
      try simp only [Act.put, List.setIfInBounds_toArray, List.set_cons_zero, List.set_cons_succ]
      refine wpAnyH_take (i := 8) (oi := _) (v := ?v96079) (by simp only [List.getElem?_toArray, List.getElem?_cons_succ, List.getElem?_cons_zero]; rfl) (by kernel_rfl) (by kernel_rfl) (by kernel_rfl) (by exact fun _ _ _ h => h) (Or.inl ⟨by rfl, ?hy96079⟩) (by assumption) ?rest96079
      case hy96079 => (intro w hSw; (try dsimp only at hSw); go_simp; try with_reducible rfl)
      try simp only [Act.put, List.setIfInBounds_toArray, List.set_cons_zero, List.set_cons_succ]
      refine wpAnyH_take (i := 9) (oi := _) (v := ?v96080) (by simp only [List.getElem?_toArray, List.getElem?_cons_succ, List.getElem?_cons_zero]; rfl) (by kernel_rfl) (by kernel_rfl) (by kernel_rfl) (by exact fun _ _ _ h => h) (Or.inl ⟨by rfl, ?hy96080⟩) (by assumption) ?rest96080
      case hy96080 => (intro w hSw; (try dsimp only at hSw); go_simp; try with_reducible rfl)
      try simp only [Act.put, List.setIfInBounds_toArray, List.set_cons_zero, List.set_cons_succ]
      refine wpAnyH_ready (rs := [1, 17]) (by kernel_rfl) (by simp) ?_
      refine AllReadyH.cons (o := _) (by simp only [List.getElem?_toArray, List.getElem?_cons_succ, List.getElem?_cons_zero]; rfl) (fun K hK => ?_) (AllReadyH.cons (o := _) (by simp only [List.getElem?_toArray, List.getElem?_cons_succ, List.getElem?_cons_zero]; rfl) (fun K hK => ?_) AllReadyH.nil)
      · go_simp
        obtain ⟨X130, hX130⟩ : ∃ X, wd.alloc (.cells #[] 39) = X := ⟨_, rfl⟩
        have hp130 := (PD.out).alloc (PD.out).size (.cells #[] 39)
        have hq130 := heap_alloc_last wd (.cells #[] 39)
        have hw130 := own_fresh wd W9.heap.size 39 2 PD.out.size
        rw [hX130] at hp130 hq130 hw130 ⊢
        have P130 := Lib.hid hp130
        have O130 := Lib.hid hw130
        clear hX130 hp130 hq130 hw130
        refine hK.out _ _ (HCE.out _ P130.out) (fun hHeld => ?_)
        clear hK K
        try simp only [Act.put, List.setIfInBounds_toArray, List.set_cons_zero, List.set_cons_succ]
        refine wpAnyH_ready (rs := [5, 17]) (by kernel_rfl) (by simp) ?_
        refine AllReadyH.cons (o := _) (by simp only [List.getElem?_toArray, List.getElem?_cons_succ, List.getElem?_cons_zero]; rfl) (fun K hK => ?_) (AllReadyH.cons (o := _) (by simp only [List.getElem?_toArray, List.getElem?_cons_succ, List.getElem?_cons_zero]; rfl) (fun K hK => ?_) AllReadyH.nil)
        · refine step_append_opt rfl (.tmp 81) (.tmp 84) 37 rfl W9.heap.size 39 i0 _ 2 32 Tryd.underlying37 HII.out.1 HII.out.2.1 HII.out.2.2.1 HII.out.2.2.2 rfl (by decide) (.slice (some ⟨wd.heap.size, 0, none⟩) 0 0) 0 [] rfl O130.out (some ⟨gm, 0, none⟩) d cm (pcells ((rotQ CH k).take d)) rfl HL3.out (.inr ⟨_, rfl, HN3.out _ P130.out⟩) (pcells_allone _) (by unfold maxLen; omega) (by omega) P130.out.size ?_
          intro v131 X131 hw131 hg131 ht131
          simp only [Nat.zero_add, List.nil_append] at hw131
          obtain ⟨A131w, c131w, rfl⟩ := own_form hw131
          have P131 := Lib.hid ((P130.out).grown hg131 P130.out.size (fun k hk => (O130.out.lt k hk).1))
          have O131 := Lib.hid hw131
          clear hg131 ht131 hw131
          refine hK.out _ _ (HCE.out _ P131.out) (fun hHeld => ?_)
          clear hK K
          try simp only [Act.put, List.setIfInBounds_toArray, List.set_cons_zero, List.set_cons_succ]
          refine wpAnyH_ready (rs := [10, 17]) (by kernel_rfl) (by simp) ?_
          refine AllReadyH.cons (o := _) (by simp only [List.getElem?_toArray, List.getElem?_cons_succ, List.getElem?_cons_zero]; rfl) (fun K hK => ?_) (AllReadyH.cons (o := _) (by simp only [List.getElem?_toArray, List.getElem?_cons_succ, List.getElem?_cons_zero]; rfl) (fun K hK => ?_) AllReadyH.nil)
          · refine step_append_opt rfl (.tmp 85) (.tmp 89) 37 rfl W9.heap.size 39 i0 _ 2 32 Tryd.underlying37 HII.out.1 HII.out.2.1 HII.out.2.2.1 HII.out.2.2.2 rfl (by decide) (.slice A131w d c131w) d (pcells ((rotQ CH k).take d)) rfl O131.out (some ⟨gm, o2, none⟩) r2 c2 (pcells ((rotQ CH k).drop (d + 1))) rfl HL4.out (.inr ⟨_, rfl, HN4.out _ P131.out⟩) (pcells_allone _) (by unfold maxLen; omega) (by omega) P131.out.size ?_
            intro v132 X132 hw132 hg132 ht132
            rw [HDR.out] at hw132
            rw [HPLL.out] at hw132
            obtain ⟨A132w, c132w, rfl, hbu132⟩ := HBU.out _ _ (PRow.cut hw132 (by rw [HLL.out]) rfl)
            have BU132 := Lib.hid hbu132
            clear hbu132
            have P132 := Lib.hid ((P131.out).grown hg132 P131.out.size (fun k hk => (O131.out.lt k hk).1))
            have O132 := Lib.hid hw132
            clear hg132 ht132 hw132
            refine hK.out _ _ (HCE.out _ P132.out) (fun hHeld => ?_)
            clear hK K
            try simp only [Act.put, List.setIfInBounds_toArray, List.set_cons_zero, List.set_cons_succ]
            refine wpAnyH_ready (rs := [11, 17]) (by kernel_rfl) (by simp) ?_
            refine AllReadyH.cons (o := _) (by simp only [List.getElem?_toArray, List.getElem?_cons_succ, List.getElem?_cons_zero]; rfl) (fun K hK => ?_) (AllReadyH.cons (o := _) (by simp only [List.getElem?_toArray, List.getElem?_cons_succ, List.getElem?_cons_zero]; rfl) (fun K hK => ?_) AllReadyH.nil)
            · go_simp
              go_at_call 10
              (with_reducible refine (BU132.out).mono ?_)
              rintro e133 X133 ⟨rfl, hb133⟩
              have P133 := Lib.hid ((P132.out).chain hb133)
              clear hb133
              dsimp only
              refine hK.out _ _ (HCE.out _ P133.out) (fun hHeld => ?_)
              clear hK K
              try simp only [Act.put, List.setIfInBounds_toArray, List.set_cons_zero, List.set_cons_succ]
              refine wpAnyH_ready (rs := [12, 17]) (by kernel_rfl) (by simp) ?_
              refine AllReadyH.cons (o := _) (by simp only [List.getElem?_toArray, List.getElem?_cons_succ, List.getElem?_cons_zero]; rfl) (fun K hK => ?_) (AllReadyH.cons (o := _) (by simp only [List.getElem?_toArray, List.getElem?_cons_succ, List.getElem?_cons_zero]; rfl) (fun K hK => ?_) AllReadyH.nil)
              · go_simp
                go_at_call 8
                (with_reducible refine (HC.out _ P133.out).mono ?_)
                rintro e134 X134 ⟨rfl, hb134⟩
                have P134 := Lib.hid ((P133.out).chain hb134)
                clear hb134
                dsimp only
                refine hK.out _ _ (HCE.out _ P134.out) (fun hHeld => ?_)
                clear hK K
                try simp only [Act.put, List.setIfInBounds_toArray, List.set_cons_zero, List.set_cons_succ]
                refine wpAnyH_take (i := 13) (oi := _) (v := ?v96086) (by simp only [List.getElem?_toArray, List.getElem?_cons_succ, List.getElem?_cons_zero]; rfl) (by kernel_rfl) (by kernel_rfl) (by kernel_rfl) (by exact fun _ _ _ h => h) (Or.inl ⟨by rfl, ?hy96086⟩) (by assumption) ?rest96086
                case hy96086 => (intro w hSw; (try dsimp only at hSw); go_simp; try with_reducible rfl)
                try simp only [Act.put, List.setIfInBounds_toArray, List.set_cons_zero, List.set_cons_succ]
                refine wpAnyH_take (i := 14) (oi := _) (v := ?v96087) (by simp only [List.getElem?_toArray, List.getElem?_cons_succ, List.getElem?_cons_zero]; rfl) (by kernel_rfl) (by kernel_rfl) (by kernel_rfl) (by exact fun _ _ _ h => h) (Or.inl ⟨by rfl, ?hy96087⟩) (by assumption) ?rest96087
                case hy96087 => (intro w hSw; (try dsimp only at hSw); go_simp; try with_reducible rfl)
                try simp only [Act.put, List.setIfInBounds_toArray, List.set_cons_zero, List.set_cons_succ]
                refine wpAnyH_take (i := 15) (oi := _) (v := ?v96088) (by simp only [List.getElem?_toArray, List.getElem?_cons_succ, List.getElem?_cons_zero]; rfl) (by kernel_rfl) (by kernel_rfl) (by kernel_rfl) (by exact fun _ _ _ h => h) (Or.inl ⟨by rfl, ?hy96088⟩) (by assumption) ?rest96088
                case hy96088 => (intro w hSw; (try dsimp only at hSw); go_simp; try with_reducible rfl)
                try simp only [Act.put, List.setIfInBounds_toArray, List.set_cons_zero, List.set_cons_succ]
                refine wpAnyH_take (i := 16) (oi := _) (v := ?v96089) (by simp only [List.getElem?_toArray, List.getElem?_cons_succ, List.getElem?_cons_zero]; rfl) (by kernel_rfl) (by kernel_rfl) (by kernel_rfl) (by exact fun _ _ _ h => h) (Or.inl ⟨by rfl, ?hy96089⟩) (by assumption) ?rest96089
                case hy96089 => (intro w hSw; (try dsimp only at hSw); go_simp; try with_reducible rfl)
                try simp only [Act.put, List.setIfInBounds_toArray, List.set_cons_zero, List.set_cons_succ]
                refine wpAnyH_ready (rs := [17]) (by kernel_rfl) (by simp) ?_
                refine AllReadyH.cons (o := _) (by simp only [List.getElem?_toArray, List.getElem?_cons_succ, List.getElem?_cons_zero]; rfl) (fun K hK => ?_) AllReadyH.nil
                go_simp
                obtain ⟨X135, hX135⟩ : ∃ X, X134.alloc (.cells #[.string ⟨#[]⟩, .string ⟨#[]⟩, .string ⟨#[]⟩, .string ⟨#[]⟩, .string ⟨#[]⟩, .string ⟨#[]⟩] 30) = X := ⟨_, rfl⟩
                have hp135 := (P134.out).alloc (P134.out).size (.cells #[.string ⟨#[]⟩, .string ⟨#[]⟩, .string ⟨#[]⟩, .string ⟨#[]⟩, .string ⟨#[]⟩, .string ⟨#[]⟩] 30)
                have hq135 := heap_alloc_last X134 (.cells #[.string ⟨#[]⟩, .string ⟨#[]⟩, .string ⟨#[]⟩, .string ⟨#[]⟩, .string ⟨#[]⟩, .string ⟨#[]⟩] 30)
                rw [hX135] at hp135 hq135 ⊢
                have P135 := Lib.hid hp135
                have A135 := Lib.hid hq135
                have LX := Lib.hid (P134.out).size
                clear hX135 hp135 hq135
                obtain ⟨⟨r0, r1, r2, r3, r4, r5⟩, f0, f1, f2, f3, f4, f5⟩ := cellsK6_of A135.out
                refine hK.out _ _ (HCE.out _ P135.out) (fun hHeld => ?_)
                clear hK K
                try simp only [Act.put, List.setIfInBounds_toArray, List.set_cons_zero, List.set_cons_succ]
                refine wpAnyH_ready (rs := [18]) (by kernel_rfl) (by simp) ?_
                refine AllReadyH.cons (o := _) (by simp only [List.getElem?_toArray, List.getElem?_cons_succ, List.getElem?_cons_zero]; rfl) (fun K hK => ?_) AllReadyH.nil
                go_simp
                refine hK.out _ _ (HCE.out _ (setK6_below P135.out LX.out _ _ _ _ _ _)) (fun hHeld => ?_)
                clear hK K
                try simp only [Act.put, List.setIfInBounds_toArray, List.set_cons_zero, List.set_cons_succ]
                refine wpAnyH_take (i := 19) (oi := _) (v := ?v96092) (by simp only [List.getElem?_toArray, List.getElem?_cons_succ, List.getElem?_cons_zero]; rfl) (by kernel_rfl) (by kernel_rfl) (by kernel_rfl) (by exact fun _ _ _ h => h) (Or.inl ⟨by rfl, ?hy96092⟩) (by assumption) ?rest96092
                case hy96092 => (intro w hSw; (try dsimp only at hSw); go_simp; try with_reducible rfl)
                try simp only [Act.put, List.setIfInBounds_toArray, List.set_cons_zero, List.set_cons_succ]
                refine wpAnyH_take (i := 20) (oi := _) (v := ?v96093) (by simp only [List.getElem?_toArray, List.getElem?_cons_succ, List.getElem?_cons_zero]; rfl) (by kernel_rfl) (by kernel_rfl) (by kernel_rfl) (by exact fun _ _ _ h => h) (Or.inl ⟨by rfl, ?hy96093⟩) (by assumption) ?rest96093
                case hy96093 => (intro w hSw; (try dsimp only at hSw); go_simp; try with_reducible rfl)
                try simp only [Act.put, List.setIfInBounds_toArray, List.set_cons_zero, List.set_cons_succ]
                refine wpAnyH_done (by kernel_rfl) ?_ _
                go_wp2
                go_meet
                case rel => exact ⟨_, rfl, rfl, rfl, Lib.hid (gotT_at P135.out LX.out A135.out)⟩
              · go_simp
                obtain ⟨X136, hX136⟩ : ∃ X, X133.alloc (.cells #[.string ⟨#[]⟩, .string ⟨#[]⟩, .string ⟨#[]⟩, .string ⟨#[]⟩, .string ⟨#[]⟩, .string ⟨#[]⟩] 30) = X := ⟨_, rfl⟩
                have hp136 := (P133.out).alloc (P133.out).size (.cells #[.string ⟨#[]⟩, .string ⟨#[]⟩, .string ⟨#[]⟩, .string ⟨#[]⟩, .string ⟨#[]⟩, .string ⟨#[]⟩] 30)
                have hq136 := heap_alloc_last X133 (.cells #[.string ⟨#[]⟩, .string ⟨#[]⟩, .string ⟨#[]⟩, .string ⟨#[]⟩, .string ⟨#[]⟩, .string ⟨#[]⟩] 30)
                rw [hX136] at hp136 hq136 ⊢
                have P136 := Lib.hid hp136
                have A136 := Lib.hid hq136
                have LX := Lib.hid (P133.out).size
                clear hX136 hp136 hq136
                refine hK.out _ _ (HCE.out _ P136.out) (fun hHeld => ?_)
                clear hK K
                try simp only [Act.put, List.setIfInBounds_toArray, List.set_cons_zero, List.set_cons_succ]
                refine wpAnyH_ready (rs := [12]) (by kernel_rfl) (by simp) ?_
                refine AllReadyH.cons (o := _) (by simp only [List.getElem?_toArray, List.getElem?_cons_succ, List.getElem?_cons_zero]; rfl) (fun K hK => ?_) AllReadyH.nil
                go_simp
                go_at_call 8
                (with_reducible refine (HC.out _ P136.out).mono ?_)
                rintro e137 X137 ⟨rfl, hb137⟩
                have P137 := Lib.hid ((P136.out).chain hb137)
                have A137 := Lib.hid (blk_below A136.out hb137)
                clear hb137
                dsimp only
                obtain ⟨⟨r0, r1, r2, r3, r4, r5⟩, f0, f1, f2, f3, f4, f5⟩ := cellsK6_of A137.out
                refine hK.out _ _ (HCE.out _ P137.out) (fun hHeld => ?_)
                clear hK K
                try simp only [Act.put, List.setIfInBounds_toArray, List.set_cons_zero, List.set_cons_succ]
                refine wpAnyH_take (i := 13) (oi := _) (v := ?v96096) (by simp only [List.getElem?_toArray, List.getElem?_cons_succ, List.getElem?_cons_zero]; rfl) (by kernel_rfl) (by kernel_rfl) (by kernel_rfl) (by exact fun _ _ _ h => h) (Or.inl ⟨by rfl, ?hy96096⟩) (by assumption) ?rest96096
                case hy96096 => (intro w hSw; (try dsimp only at hSw); go_simp; try with_reducible rfl)
                try simp only [Act.put, List.setIfInBounds_toArray, List.set_cons_zero, List.set_cons_succ]
                refine wpAnyH_take (i := 14) (oi := _) (v := ?v96097) (by simp only [List.getElem?_toArray, List.getElem?_cons_succ, List.getElem?_cons_zero]; rfl) (by kernel_rfl) (by kernel_rfl) (by kernel_rfl) (by exact fun _ _ _ h => h) (Or.inl ⟨by rfl, ?hy96097⟩) (by assumption) ?rest96097
                case hy96097 => (intro w hSw; (try dsimp only at hSw); go_simp; try with_reducible rfl)
                try simp only [Act.put, List.setIfInBounds_toArray, List.set_cons_zero, List.set_cons_succ]
                refine wpAnyH_take (i := 15) (oi := _) (v := ?v96098) (by simp only [List.getElem?_toArray, List.getElem?_cons_succ, List.getElem?_cons_zero]; rfl) (by kernel_rfl) (by kernel_rfl) (by kernel_rfl) (by exact fun _ _ _ h => h) (Or.inl ⟨by rfl, ?hy96098⟩) (by assumption) ?rest96098
                case hy96098 => (intro w hSw; (try dsimp only at hSw); go_simp; try with_reducible rfl)
                try simp only [Act.put, List.setIfInBounds_toArray, List.set_cons_zero, List.set_cons_succ]
                refine wpAnyH_take (i := 16) (oi := _) (v := ?v96099) (by simp only [List.getElem?_toArray, List.getElem?_cons_succ, List.getElem?_cons_zero]; rfl) (by kernel_rfl) (by kernel_rfl) (by kernel_rfl) (by exact fun _ _ _ h => h) (Or.inl ⟨by rfl, ?hy96099⟩) (by assumption) ?rest96099
                case hy96099 => (intro w hSw; (try dsimp only at hSw); go_simp; try with_reducible rfl)
                try simp only [Act.put, List.setIfInBounds_toArray, List.set_cons_zero, List.set_cons_succ]
                refine wpAnyH_ready (rs := [18]) (by kernel_rfl) (by simp) ?_
                refine AllReadyH.cons (o := _) (by simp only [List.getElem?_toArray, List.getElem?_cons_succ, List.getElem?_cons_zero]; rfl) (fun K hK => ?_) AllReadyH.nil
                go_simp
                refine hK.out _ _ (HCE.out _ (setK6_below P137.out LX.out _ _ _ _ _ _)) (fun hHeld => ?_)
                clear hK K
                try simp only [Act.put, List.setIfInBounds_toArray, List.set_cons_zero, List.set_cons_succ]
                refine wpAnyH_take (i := 19) (oi := _) (v := ?v96101) (by simp only [List.getElem?_toArray, List.getElem?_cons_succ, List.getElem?_cons_zero]; rfl) (by kernel_rfl) (by kernel_rfl) (by kernel_rfl) (by exact fun _ _ _ h => h) (Or.inl ⟨by rfl, ?hy96101⟩) (by assumption) ?rest96101
                case hy96101 => (intro w hSw; (try dsimp only at hSw); go_simp; try with_reducible rfl)
                try simp only [Act.put, List.setIfInBounds_toArray, List.set_cons_zero, List.set_cons_succ]
                refine wpAnyH_take (i := 20) (oi := _) (v := ?v96102) (by simp only [List.getElem?_toArray, List.getElem?_cons_succ, List.getElem?_cons_zero]; rfl) (by kernel_rfl) (by kernel_rfl) (by kernel_rfl) (by exact fun _ _ _ h => h) (Or.inl ⟨by rfl, ?hy96102⟩) (by assumption) ?rest96102
                case hy96102 => (intro w hSw; (try dsimp only at hSw); go_simp; try with_reducible rfl)
                try simp only [Act.put, List.setIfInBounds_toArray, List.set_cons_zero, List.set_cons_succ]
                refine wpAnyH_done (by kernel_rfl) ?_ _
                go_wp2
                go_meet
                case rel => exact ⟨_, rfl, rfl, rfl, Lib.hid (gotT_at P137.out LX.out A137.out)⟩
            · go_simp
              obtain ⟨X138, hX138⟩ : ∃ X, X132.alloc (.cells #[.string ⟨#[]⟩, .string ⟨#[]⟩, .string ⟨#[]⟩, .string ⟨#[]⟩, .string ⟨#[]⟩, .string ⟨#[]⟩] 30) = X := ⟨_, rfl⟩
              have hp138 := (P132.out).alloc (P132.out).size (.cells #[.string ⟨#[]⟩, .string ⟨#[]⟩, .string ⟨#[]⟩, .string ⟨#[]⟩, .string ⟨#[]⟩, .string ⟨#[]⟩] 30)
              have hq138 := heap_alloc_last X132 (.cells #[.string ⟨#[]⟩, .string ⟨#[]⟩, .string ⟨#[]⟩, .string ⟨#[]⟩, .string ⟨#[]⟩, .string ⟨#[]⟩] 30)
              have ho138 := own_below O132.out ((Below.refl X132.heap.size X132).alloc (Nat.le_refl _) (.cells #[.string ⟨#[]⟩, .string ⟨#[]⟩, .string ⟨#[]⟩, .string ⟨#[]⟩, .string ⟨#[]⟩, .string ⟨#[]⟩] 30))
              rw [hX138] at hp138 hq138 ho138 ⊢
              have P138 := Lib.hid hp138
              have O138 := Lib.hid ho138
              have A138 := Lib.hid hq138
              have LX := Lib.hid (P132.out).size
              obtain ⟨A138z, c138z, ez138, hbz138⟩ := HBU.out _ _ (PRow.cut O138.out (by rw [HLL.out]) rfl)
              cases ez138
              have BU138 := Lib.hid hbz138
              clear hbz138
              clear hX138 hp138 hq138 ho138
              refine hK.out _ _ (HCE.out _ P138.out) (fun hHeld => ?_)
              clear hK K
              try simp only [Act.put, List.setIfInBounds_toArray, List.set_cons_zero, List.set_cons_succ]
              refine wpAnyH_ready (rs := [11]) (by kernel_rfl) (by simp) ?_
              refine AllReadyH.cons (o := _) (by simp only [List.getElem?_toArray, List.getElem?_cons_succ, List.getElem?_cons_zero]; rfl) (fun K hK => ?_) AllReadyH.nil
              go_simp
              go_at_call 10
              (with_reducible refine (BU138.out).mono ?_)
              rintro e139 X139 ⟨rfl, hb139⟩
              have P139 := Lib.hid ((P138.out).chain hb139)
              have A139 := Lib.hid (blk_below A138.out hb139)
              clear hb139
              dsimp only
              refine hK.out _ _ (HCE.out _ P139.out) (fun hHeld => ?_)
              clear hK K
              try simp only [Act.put, List.setIfInBounds_toArray, List.set_cons_zero, List.set_cons_succ]
              refine wpAnyH_ready (rs := [12]) (by kernel_rfl) (by simp) ?_
              refine AllReadyH.cons (o := _) (by simp only [List.getElem?_toArray, List.getElem?_cons_succ, List.getElem?_cons_zero]; rfl) (fun K hK => ?_) AllReadyH.nil
              go_simp
              go_at_call 8
              (with_reducible refine (HC.out _ P139.out).mono ?_)
              rintro e140 X140 ⟨rfl, hb140⟩
              have P140 := Lib.hid ((P139.out).chain hb140)
              have A140 := Lib.hid (blk_below A139.out hb140)
              clear hb140
              dsimp only
              obtain ⟨⟨r0, r1, r2, r3, r4, r5⟩, f0, f1, f2, f3, f4, f5⟩ := cellsK6_of A140.out
              refine hK.out _ _ (HCE.out _ P140.out) (fun hHeld => ?_)
              clear hK K
              try simp only [Act.put, List.setIfInBounds_toArray, List.set_cons_zero, List.set_cons_succ]
              refine wpAnyH_take (i := 13) (oi := _) (v := ?v96106) (by simp only [List.getElem?_toArray, List.getElem?_cons_succ, List.getElem?_cons_zero]; rfl) (by kernel_rfl) (by kernel_rfl) (by kernel_rfl) (by exact fun _ _ _ h => h) (Or.inl ⟨by rfl, ?hy96106⟩) (by assumption) ?rest96106
              case hy96106 => (intro w hSw; (try dsimp only at hSw); go_simp; try with_reducible rfl)
              try simp only [Act.put, List.setIfInBounds_toArray, List.set_cons_zero, List.set_cons_succ]
              refine wpAnyH_take (i := 14) (oi := _) (v := ?v96107) (by simp only [List.getElem?_toArray, List.getElem?_cons_succ, List.getElem?_cons_zero]; rfl) (by kernel_rfl) (by kernel_rfl) (by kernel_rfl) (by exact fun _ _ _ h => h) (Or.inl ⟨by rfl, ?hy96107⟩) (by assumption) ?rest96107
              case hy96107 => (intro w hSw; (try dsimp only at hSw); go_simp; try with_reducible rfl)
              try simp only [Act.put, List.setIfInBounds_toArray, List.set_cons_zero, List.set_cons_succ]
              refine wpAnyH_take (i := 15) (oi := _) (v := ?v96108) (by simp only [List.getElem?_toArray, List.getElem?_cons_succ, List.getElem?_cons_zero]; rfl) (by kernel_rfl) (by kernel_rfl) (by kernel_rfl) (by exact fun _ _ _ h => h) (Or.inl ⟨by rfl, ?hy96108⟩) (by assumption) ?rest96108
              case hy96108 => (intro w hSw; (try dsimp only at hSw); go_simp; try with_reducible rfl)
              try simp only [Act.put, List.setIfInBounds_toArray, List.set_cons_zero, List.set_cons_succ]
              refine wpAnyH_take (i := 16) (oi := _) (v := ?v96109) (by simp only [List.getElem?_toArray, List.getElem?_cons_succ, List.getElem?_cons_zero]; rfl) (by kernel_rfl) (by kernel_rfl) (by kernel_rfl) (by exact fun _ _ _ h => h) (Or.inl ⟨by rfl, ?hy96109⟩) (by assumption) ?rest96109
              case hy96109 => (intro w hSw; (try dsimp only at hSw); go_simp; try with_reducible rfl)
              try simp only [Act.put, List.setIfInBounds_toArray, List.set_cons_zero, List.set_cons_succ]
              refine wpAnyH_ready (rs := [18]) (by kernel_rfl) (by simp) ?_
              refine AllReadyH.cons (o := _) (by simp only [List.getElem?_toArray, List.getElem?_cons_succ, List.getElem?_cons_zero]; rfl) (fun K hK => ?_) AllReadyH.nil
              go_simp
              refine hK.out _ _ (HCE.out _ (setK6_below P140.out LX.out _ _ _ _ _ _)) (fun hHeld => ?_)
              clear hK K
              try simp only [Act.put, List.setIfInBounds_toArray, List.set_cons_zero, List.set_cons_succ]
              refine wpAnyH_take (i := 19) (oi := _) (v := ?v96111) (by simp only [List.getElem?_toArray, List.getElem?_cons_succ, List.getElem?_cons_zero]; rfl) (by kernel_rfl) (by kernel_rfl) (by kernel_rfl) (by exact fun _ _ _ h => h) (Or.inl ⟨by rfl, ?hy96111⟩) (by assumption) ?rest96111
              case hy96111 => (intro w hSw; (try dsimp only at hSw); go_simp; try with_reducible rfl)
              try simp only [Act.put, List.setIfInBounds_toArray, List.set_cons_zero, List.set_cons_succ]
              refine wpAnyH_take (i := 20) (oi := _) (v := ?v96112) (by simp only [List.getElem?_toArray, List.getElem?_cons_succ, List.getElem?_cons_zero]; rfl) (by kernel_rfl) (by kernel_rfl) (by kernel_rfl) (by exact fun _ _ _ h => h) (Or.inl ⟨by rfl, ?hy96112⟩) (by assumption) ?rest96112
              case hy96112 => (intro w hSw; (try dsimp only at hSw); go_simp; try with_reducible rfl)
              try simp only [Act.put, List.setIfInBounds_toArray, List.set_cons_zero, List.set_cons_succ]
              refine wpAnyH_done (by kernel_rfl) ?_ _
              go_wp2
              go_meet
              case rel => exact ⟨_, rfl, rfl, rfl, Lib.hid (gotT_at P140.out LX.out A140.out)⟩
          · go_simp
            obtain ⟨X141, hX141⟩ : ∃ X, X131.alloc (.cells #[.string ⟨#[]⟩, .string ⟨#[]⟩, .string ⟨#[]⟩, .string ⟨#[]⟩, .string ⟨#[]⟩, .string ⟨#[]⟩] 30) = X := ⟨_, rfl⟩
            have hp141 := (P131.out).alloc (P131.out).size (.cells #[.string ⟨#[]⟩, .string ⟨#[]⟩, .string ⟨#[]⟩, .string ⟨#[]⟩, .string ⟨#[]⟩, .string ⟨#[]⟩] 30)
            have hq141 := heap_alloc_last X131 (.cells #[.string ⟨#[]⟩, .string ⟨#[]⟩, .string ⟨#[]⟩, .string ⟨#[]⟩, .string ⟨#[]⟩, .string ⟨#[]⟩] 30)
            have ho141 := own_below O131.out ((Below.refl X131.heap.size X131).alloc (Nat.le_refl _) (.cells #[.string ⟨#[]⟩, .string ⟨#[]⟩, .string ⟨#[]⟩, .string ⟨#[]⟩, .string ⟨#[]⟩, .string ⟨#[]⟩] 30))
            rw [hX141] at hp141 hq141 ho141 ⊢
            have P141 := Lib.hid hp141
            have O141 := Lib.hid ho141
            have A141 := Lib.hid hq141
            have LX := Lib.hid (P131.out).size
            clear hX141 hp141 hq141 ho141
            refine hK.out _ _ (HCE.out _ P141.out) (fun hHeld => ?_)
            clear hK K
            try simp only [Act.put, List.setIfInBounds_toArray, List.set_cons_zero, List.set_cons_succ]
            refine wpAnyH_ready (rs := [10]) (by kernel_rfl) (by simp) ?_
            refine AllReadyH.cons (o := _) (by simp only [List.getElem?_toArray, List.getElem?_cons_succ, List.getElem?_cons_zero]; rfl) (fun K hK => ?_) AllReadyH.nil
            refine step_append_opt rfl (.tmp 85) (.tmp 89) 37 rfl W9.heap.size 39 i0 _ 2 32 Tryd.underlying37 HII.out.1 HII.out.2.1 HII.out.2.2.1 HII.out.2.2.2 rfl (by decide) (.slice A131w d c131w) d (pcells ((rotQ CH k).take d)) rfl O141.out (some ⟨gm, o2, none⟩) r2 c2 (pcells ((rotQ CH k).drop (d + 1))) rfl HL4.out (.inr ⟨_, rfl, HN4.out _ P141.out⟩) (pcells_allone _) (by unfold maxLen; omega) (by omega) P141.out.size ?_
            intro v142 X142 hw142 hg142 ht142
            rw [HDR.out] at hw142
            rw [HPLL.out] at hw142
            obtain ⟨A142w, c142w, rfl, hbu142⟩ := HBU.out _ _ (PRow.cut hw142 (by rw [HLL.out]) rfl)
            have BU142 := Lib.hid hbu142
            clear hbu142
            have P142 := Lib.hid ((P141.out).grown hg142 P141.out.size (fun k hk => (O141.out.lt k hk).1))
            have O142 := Lib.hid hw142
            have A142 := Lib.hid (grown_block hg142 A141.out (own_not O141.out A141.out (by decide)))
            clear hg142 ht142 hw142
            refine hK.out _ _ (HCE.out _ P142.out) (fun hHeld => ?_)
            clear hK K
            try simp only [Act.put, List.setIfInBounds_toArray, List.set_cons_zero, List.set_cons_succ]
            refine wpAnyH_ready (rs := [11]) (by kernel_rfl) (by simp) ?_
            refine AllReadyH.cons (o := _) (by simp only [List.getElem?_toArray, List.getElem?_cons_succ, List.getElem?_cons_zero]; rfl) (fun K hK => ?_) AllReadyH.nil
            go_simp
            go_at_call 10
            (with_reducible refine (BU142.out).mono ?_)
            rintro e143 X143 ⟨rfl, hb143⟩
            have P143 := Lib.hid ((P142.out).chain hb143)
            have A143 := Lib.hid (blk_below A142.out hb143)
            clear hb143
            dsimp only
            refine hK.out _ _ (HCE.out _ P143.out) (fun hHeld => ?_)
            clear hK K
            try simp only [Act.put, List.setIfInBounds_toArray, List.set_cons_zero, List.set_cons_succ]
            refine wpAnyH_ready (rs := [12]) (by kernel_rfl) (by simp) ?_
            refine AllReadyH.cons (o := _) (by simp only [List.getElem?_toArray, List.getElem?_cons_succ, List.getElem?_cons_zero]; rfl) (fun K hK => ?_) AllReadyH.nil
            go_simp
            go_at_call 8
            (with_reducible refine (HC.out _ P143.out).mono ?_)
            rintro e144 X144 ⟨rfl, hb144⟩
            have P144 := Lib.hid ((P143.out).chain hb144)
            have A144 := Lib.hid (blk_below A143.out hb144)
            clear hb144
            dsimp only
            obtain ⟨⟨r0, r1, r2, r3, r4, r5⟩, f0, f1, f2, f3, f4, f5⟩ := cellsK6_of A144.out
            refine hK.out _ _ (HCE.out _ P144.out) (fun hHeld => ?_)
            clear hK K
            try simp only [Act.put, List.setIfInBounds_toArray, List.set_cons_zero, List.set_cons_succ]
            refine wpAnyH_take (i := 13) (oi := _) (v := ?v96117) (by simp only [List.getElem?_toArray, List.getElem?_cons_succ, List.getElem?_cons_zero]; rfl) (by kernel_rfl) (by kernel_rfl) (by kernel_rfl) (by exact fun _ _ _ h => h) (Or.inl ⟨by rfl, ?hy96117⟩) (by assumption) ?rest96117
            case hy96117 => (intro w hSw; (try dsimp only at hSw); go_simp; try with_reducible rfl)
            try simp only [Act.put, List.setIfInBounds_toArray, List.set_cons_zero, List.set_cons_succ]
            refine wpAnyH_take (i := 14) (oi := _) (v := ?v96118) (by simp only [List.getElem?_toArray, List.getElem?_cons_succ, List.getElem?_cons_zero]; rfl) (by kernel_rfl) (by kernel_rfl) (by kernel_rfl) (by exact fun _ _ _ h => h) (Or.inl ⟨by rfl, ?hy96118⟩) (by assumption) ?rest96118
            case hy96118 => (intro w hSw; (try dsimp only at hSw); go_simp; try with_reducible rfl)
            try simp only [Act.put, List.setIfInBounds_toArray, List.set_cons_zero, List.set_cons_succ]
            refine wpAnyH_take (i := 15) (oi := _) (v := ?v96119) (by simp only [List.getElem?_toArray, List.getElem?_cons_succ, List.getElem?_cons_zero]; rfl) (by kernel_rfl) (by kernel_rfl) (by kernel_rfl) (by exact fun _ _ _ h => h) (Or.inl ⟨by rfl, ?hy96119⟩) (by assumption) ?rest96119
            case hy96119 => (intro w hSw; (try dsimp only at hSw); go_simp; try with_reducible rfl)
            try simp only [Act.put, List.setIfInBounds_toArray, List.set_cons_zero, List.set_cons_succ]
            refine wpAnyH_take (i := 16) (oi := _) (v := ?v96120) (by simp only [List.getElem?_toArray, List.getElem?_cons_succ, List.getElem?_cons_zero]; rfl) (by kernel_rfl) (by kernel_rfl) (by kernel_rfl) (by exact fun _ _ _ h => h) (Or.inl ⟨by rfl, ?hy96120⟩) (by assumption) ?rest96120
            case hy96120 => (intro w hSw; (try dsimp only at hSw); go_simp; try with_reducible rfl)
            try simp only [Act.put, List.setIfInBounds_toArray, List.set_cons_zero, List.set_cons_succ]
            refine wpAnyH_ready (rs := [18]) (by kernel_rfl) (by simp) ?_
            refine AllReadyH.cons (o := _) (by simp only [List.getElem?_toArray, List.getElem?_cons_succ, List.getElem?_cons_zero]; rfl) (fun K hK => ?_) AllReadyH.nil
            go_simp
            refine hK.out _ _ (HCE.out _ (setK6_below P144.out LX.out _ _ _ _ _ _)) (fun hHeld => ?_)
            clear hK K
            try simp only [Act.put, List.setIfInBounds_toArray, List.set_cons_zero, List.set_cons_succ]
            refine wpAnyH_take (i := 19) (oi := _) (v := ?v96122) (by simp only [List.getElem?_toArray, List.getElem?_cons_succ, List.getElem?_cons_zero]; rfl) (by kernel_rfl) (by kernel_rfl) (by kernel_rfl) (by exact fun _ _ _ h => h) (Or.inl ⟨by rfl, ?hy96122⟩) (by assumption) ?rest96122
            case hy96122 => (intro w hSw; (try dsimp only at hSw); go_simp; try with_reducible rfl)
            try simp only [Act.put, List.setIfInBounds_toArray, List.set_cons_zero, List.set_cons_succ]
            refine wpAnyH_take (i := 20) (oi := _) (v := ?v96123) (by simp only [List.getElem?_toArray, List.getElem?_cons_succ, List.getElem?_cons_zero]; rfl) (by kernel_rfl) (by kernel_rfl) (by kernel_rfl) (by exact fun _ _ _ h => h) (Or.inl ⟨by rfl, ?hy96123⟩) (by assumption) ?rest96123
            case hy96123 => (intro w hSw; (try dsimp only at hSw); go_simp; try with_reducible rfl)
            try simp only [Act.put, List.setIfInBounds_toArray, List.set_cons_zero, List.set_cons_succ]
            refine wpAnyH_done (by kernel_rfl) ?_ _
            go_wp2
            go_meet
            case rel => exact ⟨_, rfl, rfl, rfl, Lib.hid (gotT_at P144.out LX.out A144.out)⟩
        · go_simp
          obtain ⟨X145, hX145⟩ : ∃ X, X130.alloc (.cells #[.string ⟨#[]⟩, .string ⟨#[]⟩, .string ⟨#[]⟩, .string ⟨#[]⟩, .string ⟨#[]⟩, .string ⟨#[]⟩] 30) = X := ⟨_, rfl⟩
          have hp145 := (P130.out).alloc (P130.out).size (.cells #[.string ⟨#[]⟩, .string ⟨#[]⟩, .string ⟨#[]⟩, .string ⟨#[]⟩, .string ⟨#[]⟩, .string ⟨#[]⟩] 30)
          have hq145 := heap_alloc_last X130 (.cells #[.string ⟨#[]⟩, .string ⟨#[]⟩, .string ⟨#[]⟩, .string ⟨#[]⟩, .string ⟨#[]⟩, .string ⟨#[]⟩] 30)
          have ho145 := own_below O130.out ((Below.refl X130.heap.size X130).alloc (Nat.le_refl _) (.cells #[.string ⟨#[]⟩, .string ⟨#[]⟩, .string ⟨#[]⟩, .string ⟨#[]⟩, .string ⟨#[]⟩, .string ⟨#[]⟩] 30))
          rw [hX145] at hp145 hq145 ho145 ⊢
          have P145 := Lib.hid hp145
          have O145 := Lib.hid ho145
          have A145 := Lib.hid hq145
          have LX := Lib.hid (P130.out).size
          clear hX145 hp145 hq145 ho145
          refine hK.out _ _ (HCE.out _ P145.out) (fun hHeld => ?_)
          clear hK K
          try simp only [Act.put, List.setIfInBounds_toArray, List.set_cons_zero, List.set_cons_succ]
          refine wpAnyH_ready (rs := [5]) (by kernel_rfl) (by simp) ?_
          refine AllReadyH.cons (o := _) (by simp only [List.getElem?_toArray, List.getElem?_cons_succ, List.getElem?_cons_zero]; rfl) (fun K hK => ?_) AllReadyH.nil
          refine step_append_opt rfl (.tmp 81) (.tmp 84) 37 rfl W9.heap.size 39 i0 _ 2 32 Tryd.underlying37 HII.out.1 HII.out.2.1 HII.out.2.2.1 HII.out.2.2.2 rfl (by decide) (.slice (some ⟨wd.heap.size, 0, none⟩) 0 0) 0 [] rfl O145.out (some ⟨gm, 0, none⟩) d cm (pcells ((rotQ CH k).take d)) rfl HL3.out (.inr ⟨_, rfl, HN3.out _ P145.out⟩) (pcells_allone _) (by unfold maxLen; omega) (by omega) P145.out.size ?_
          intro v146 X146 hw146 hg146 ht146
          simp only [Nat.zero_add, List.nil_append] at hw146
          obtain ⟨A146w, c146w, rfl⟩ := own_form hw146
          have P146 := Lib.hid ((P145.out).grown hg146 P145.out.size (fun k hk => (O145.out.lt k hk).1))
          have O146 := Lib.hid hw146
          have A146 := Lib.hid (grown_block hg146 A145.out (own_not O145.out A145.out (by decide)))
          clear hg146 ht146 hw146
          refine hK.out _ _ (HCE.out _ P146.out) (fun hHeld => ?_)
          clear hK K
          try simp only [Act.put, List.setIfInBounds_toArray, List.set_cons_zero, List.set_cons_succ]
          refine wpAnyH_ready (rs := [10]) (by kernel_rfl) (by simp) ?_
          refine AllReadyH.cons (o := _) (by simp only [List.getElem?_toArray, List.getElem?_cons_succ, List.getElem?_cons_zero]; rfl) (fun K hK => ?_) AllReadyH.nil
          refine step_append_opt rfl (.tmp 85) (.tmp 89) 37 rfl W9.heap.size 39 i0 _ 2 32 Tryd.underlying37 HII.out.1 HII.out.2.1 HII.out.2.2.1 HII.out.2.2.2 rfl (by decide) (.slice A146w d c146w) d (pcells ((rotQ CH k).take d)) rfl O146.out (some ⟨gm, o2, none⟩) r2 c2 (pcells ((rotQ CH k).drop (d + 1))) rfl HL4.out (.inr ⟨_, rfl, HN4.out _ P146.out⟩) (pcells_allone _) (by unfold maxLen; omega) (by omega) P146.out.size ?_
          intro v147 X147 hw147 hg147 ht147
          rw [HDR.out] at hw147
          rw [HPLL.out] at hw147
          obtain ⟨A147w, c147w, rfl, hbu147⟩ := HBU.out _ _ (PRow.cut hw147 (by rw [HLL.out]) rfl)
          have BU147 := Lib.hid hbu147
          clear hbu147
          have P147 := Lib.hid ((P146.out).grown hg147 P146.out.size (fun k hk => (O146.out.lt k hk).1))
          have O147 := Lib.hid hw147
          have A147 := Lib.hid (grown_block hg147 A146.out (own_not O146.out A146.out (by decide)))
          clear hg147 ht147 hw147
          refine hK.out _ _ (HCE.out _ P147.out) (fun hHeld => ?_)
          clear hK K
          try simp only [Act.put, List.setIfInBounds_toArray, List.set_cons_zero, List.set_cons_succ]
          refine wpAnyH_ready (rs := [11]) (by kernel_rfl) (by simp) ?_
          refine AllReadyH.cons (o := _) (by simp only [List.getElem?_toArray, List.getElem?_cons_succ, List.getElem?_cons_zero]; rfl) (fun K hK => ?_) AllReadyH.nil
          go_simp
          go_at_call 10
          (with_reducible refine (BU147.out).mono ?_)
          rintro e148 X148 ⟨rfl, hb148⟩
          have P148 := Lib.hid ((P147.out).chain hb148)
          have A148 := Lib.hid (blk_below A147.out hb148)
          clear hb148
          dsimp only
          refine hK.out _ _ (HCE.out _ P148.out) (fun hHeld => ?_)
          clear hK K
          try simp only [Act.put, List.setIfInBounds_toArray, List.set_cons_zero, List.set_cons_succ]
          refine wpAnyH_ready (rs := [12]) (by kernel_rfl) (by simp) ?_
          refine AllReadyH.cons (o := _) (by simp only [List.getElem?_toArray, List.getElem?_cons_succ, List.getElem?_cons_zero]; rfl) (fun K hK => ?_) AllReadyH.nil
          go_simp
          go_at_call 8
          (with_reducible refine (HC.out _ P148.out).mono ?_)
          rintro e149 X149 ⟨rfl, hb149⟩
          have P149 := Lib.hid ((P148.out).chain hb149)
          have A149 := Lib.hid (blk_below A148.out hb149)
          clear hb149
          dsimp only
          obtain ⟨⟨r0, r1, r2, r3, r4, r5⟩, f0, f1, f2, f3, f4, f5⟩ := cellsK6_of A149.out
          refine hK.out _ _ (HCE.out _ P149.out) (fun hHeld => ?_)
          clear hK K
          try simp only [Act.put, List.setIfInBounds_toArray, List.set_cons_zero, List.set_cons_succ]
          refine wpAnyH_take (i := 13) (oi := _) (v := ?v96129) (by simp only [List.getElem?_toArray, List.getElem?_cons_succ, List.getElem?_cons_zero]; rfl) (by kernel_rfl) (by kernel_rfl) (by kernel_rfl) (by exact fun _ _ _ h => h) (Or.inl ⟨by rfl, ?hy96129⟩) (by assumption) ?rest96129
          case hy96129 => (intro w hSw; (try dsimp only at hSw); go_simp; try with_reducible rfl)
          try simp only [Act.put, List.setIfInBounds_toArray, List.set_cons_zero, List.set_cons_succ]
          refine wpAnyH_take (i := 14) (oi := _) (v := ?v96130) (by simp only [List.getElem?_toArray, List.getElem?_cons_succ, List.getElem?_cons_zero]; rfl) (by kernel_rfl) (by kernel_rfl) (by kernel_rfl) (by exact fun _ _ _ h => h) (Or.inl ⟨by rfl, ?hy96130⟩) (by assumption) ?rest96130
          case hy96130 => (intro w hSw; (try dsimp only at hSw); go_simp; try with_reducible rfl)
          try simp only [Act.put, List.setIfInBounds_toArray, List.set_cons_zero, List.set_cons_succ]
          refine wpAnyH_take (i := 15) (oi := _) (v := ?v96131) (by simp only [List.getElem?_toArray, List.getElem?_cons_succ, List.getElem?_cons_zero]; rfl) (by kernel_rfl) (by kernel_rfl) (by kernel_rfl) (by exact fun _ _ _ h => h) (Or.inl ⟨by rfl, ?hy96131⟩) (by assumption) ?rest96131
          case hy96131 => (intro w hSw; (try dsimp only at hSw); go_simp; try with_reducible rfl)
          try simp only [Act.put, List.setIfInBounds_toArray, List.set_cons_zero, List.set_cons_succ]
          refine wpAnyH_take (i := 16) (oi := _) (v := ?v96132) (by simp only [List.getElem?_toArray, List.getElem?_cons_succ, List.getElem?_cons_zero]; rfl) (by kernel_rfl) (by kernel_rfl) (by kernel_rfl) (by exact fun _ _ _ h => h) (Or.inl ⟨by rfl, ?hy96132⟩) (by assumption) ?rest96132
          case hy96132 => (intro w hSw; (try dsimp only at hSw); go_simp; try with_reducible rfl)
          try simp only [Act.put, List.setIfInBounds_toArray, List.set_cons_zero, List.set_cons_succ]
          refine wpAnyH_ready (rs := [18]) (by kernel_rfl) (by simp) ?_
          refine AllReadyH.cons (o := _) (by simp only [List.getElem?_toArray, List.getElem?_cons_succ, List.getElem?_cons_zero]; rfl) (fun K hK => ?_) AllReadyH.nil
          go_simp
          refine hK.out _ _ (HCE.out _ (setK6_below P149.out LX.out _ _ _ _ _ _)) (fun hHeld => ?_)
          clear hK K
          try simp only [Act.put, List.setIfInBounds_toArray, List.set_cons_zero, List.set_cons_succ]
          refine wpAnyH_take (i := 19) (oi := _) (v := ?v96134) (by simp only [List.getElem?_toArray, List.getElem?_cons_succ, List.getElem?_cons_zero]; rfl) (by kernel_rfl) (by kernel_rfl) (by kernel_rfl) (by exact fun _ _ _ h => h) (Or.inl ⟨by rfl, ?hy96134⟩) (by assumption) ?rest96134
          case hy96134 => (intro w hSw; (try dsimp only at hSw); go_simp; try with_reducible rfl)
          try simp only [Act.put, List.setIfInBounds_toArray, List.set_cons_zero, List.set_cons_succ]
          refine wpAnyH_take (i := 20) (oi := _) (v := ?v96135) (by simp only [List.getElem?_toArray, List.getElem?_cons_succ, List.getElem?_cons_zero]; rfl) (by kernel_rfl) (by kernel_rfl) (by kernel_rfl) (by exact fun _ _ _ h => h) (Or.inl ⟨by rfl, ?hy96135⟩) (by assumption) ?rest96135
          case hy96135 => (intro w hSw; (try dsimp only at hSw); go_simp; try with_reducible rfl)
          try simp only [Act.put, List.setIfInBounds_toArray, List.set_cons_zero, List.set_cons_succ]
          refine wpAnyH_done (by kernel_rfl) ?_ _
          go_wp2
          go_meet
          case rel => exact ⟨_, rfl, rfl, rfl, Lib.hid (gotT_at P149.out LX.out A149.out)⟩
      · go_simp
        obtain ⟨X150, hX150⟩ : ∃ X, wd.alloc (.cells #[.string ⟨#[]⟩, .string ⟨#[]⟩, .string ⟨#[]⟩, .string ⟨#[]⟩, .string ⟨#[]⟩, .string ⟨#[]⟩] 30) = X := ⟨_, rfl⟩
        have hp150 := (PD.out).alloc (PD.out).size (.cells #[.string ⟨#[]⟩, .string ⟨#[]⟩, .string ⟨#[]⟩, .string ⟨#[]⟩, .string ⟨#[]⟩, .string ⟨#[]⟩] 30)
        have hq150 := heap_alloc_last wd (.cells #[.string ⟨#[]⟩, .string ⟨#[]⟩, .string ⟨#[]⟩, .string ⟨#[]⟩, .string ⟨#[]⟩, .string ⟨#[]⟩] 30)
        rw [hX150] at hp150 hq150 ⊢
        have P150 := Lib.hid hp150
        have A150 := Lib.hid hq150
        have LX := Lib.hid (PD.out).size
        clear hX150 hp150 hq150
        refine hK.out _ _ (HCE.out _ P150.out) (fun hHeld => ?_)
        clear hK K
        try simp only [Act.put, List.setIfInBounds_toArray, List.set_cons_zero, List.set_cons_succ]
        refine wpAnyH_ready (rs := [1]) (by kernel_rfl) (by simp) ?_
        refine AllReadyH.cons (o := _) (by simp only [List.getElem?_toArray, List.getElem?_cons_succ, List.getElem?_cons_zero]; rfl) (fun K hK => ?_) AllReadyH.nil
        go_simp
        obtain ⟨X151, hX151⟩ : ∃ X, X150.alloc (.cells #[] 39) = X := ⟨_, rfl⟩
        have hp151 := (P150.out).alloc (P150.out).size (.cells #[] 39)
        have hq151 := heap_alloc_last X150 (.cells #[] 39)
        have ha151 := alloc_block (x := .cells #[] 39) A150.out
        have hw151 := own_fresh X150 W9.heap.size 39 2 P150.out.size
        rw [hX151] at hp151 hq151 ha151 hw151 ⊢
        have P151 := Lib.hid hp151
        have A151 := Lib.hid ha151
        have O151 := Lib.hid hw151
        clear hX151 hp151 hq151 ha151 hw151
        refine hK.out _ _ (HCE.out _ P151.out) (fun hHeld => ?_)
        clear hK K
        try simp only [Act.put, List.setIfInBounds_toArray, List.set_cons_zero, List.set_cons_succ]
        refine wpAnyH_ready (rs := [5]) (by kernel_rfl) (by simp) ?_
        refine AllReadyH.cons (o := _) (by simp only [List.getElem?_toArray, List.getElem?_cons_succ, List.getElem?_cons_zero]; rfl) (fun K hK => ?_) AllReadyH.nil
        refine step_append_opt rfl (.tmp 81) (.tmp 84) 37 rfl W9.heap.size 39 i0 _ 2 32 Tryd.underlying37 HII.out.1 HII.out.2.1 HII.out.2.2.1 HII.out.2.2.2 rfl (by decide) (.slice (some ⟨X150.heap.size, 0, none⟩) 0 0) 0 [] rfl O151.out (some ⟨gm, 0, none⟩) d cm (pcells ((rotQ CH k).take d)) rfl HL3.out (.inr ⟨_, rfl, HN3.out _ P151.out⟩) (pcells_allone _) (by unfold maxLen; omega) (by omega) P151.out.size ?_
        intro v152 X152 hw152 hg152 ht152
        simp only [Nat.zero_add, List.nil_append] at hw152
        obtain ⟨A152w, c152w, rfl⟩ := own_form hw152
        have P152 := Lib.hid ((P151.out).grown hg152 P151.out.size (fun k hk => (O151.out.lt k hk).1))
        have O152 := Lib.hid hw152
        have A152 := Lib.hid (grown_block hg152 A151.out (own_not O151.out A151.out (by decide)))
        clear hg152 ht152 hw152
        refine hK.out _ _ (HCE.out _ P152.out) (fun hHeld => ?_)
        clear hK K
        try simp only [Act.put, List.setIfInBounds_toArray, List.set_cons_zero, List.set_cons_succ]
        refine wpAnyH_ready (rs := [10]) (by kernel_rfl) (by simp) ?_
        refine AllReadyH.cons (o := _) (by simp only [List.getElem?_toArray, List.getElem?_cons_succ, List.getElem?_cons_zero]; rfl) (fun K hK => ?_) AllReadyH.nil
        refine step_append_opt rfl (.tmp 85) (.tmp 89) 37 rfl W9.heap.size 39 i0 _ 2 32 Tryd.underlying37 HII.out.1 HII.out.2.1 HII.out.2.2.1 HII.out.2.2.2 rfl (by decide) (.slice A152w d c152w) d (pcells ((rotQ CH k).take d)) rfl O152.out (some ⟨gm, o2, none⟩) r2 c2 (pcells ((rotQ CH k).drop (d + 1))) rfl HL4.out (.inr ⟨_, rfl, HN4.out _ P152.out⟩) (pcells_allone _) (by unfold maxLen; omega) (by omega) P152.out.size ?_
        intro v153 X153 hw153 hg153 ht153
        rw [HDR.out] at hw153
        rw [HPLL.out] at hw153
        obtain ⟨A153w, c153w, rfl, hbu153⟩ := HBU.out _ _ (PRow.cut hw153 (by rw [HLL.out]) rfl)
        have BU153 := Lib.hid hbu153
        clear hbu153
        have P153 := Lib.hid ((P152.out).grown hg153 P152.out.size (fun k hk => (O152.out.lt k hk).1))
        have O153 := Lib.hid hw153
        have A153 := Lib.hid (grown_block hg153 A152.out (own_not O152.out A152.out (by decide)))
        clear hg153 ht153 hw153
        refine hK.out _ _ (HCE.out _ P153.out) (fun hHeld => ?_)
        clear hK K
        try simp only [Act.put, List.setIfInBounds_toArray, List.set_cons_zero, List.set_cons_succ]
        refine wpAnyH_ready (rs := [11]) (by kernel_rfl) (by simp) ?_
        refine AllReadyH.cons (o := _) (by simp only [List.getElem?_toArray, List.getElem?_cons_succ, List.getElem?_cons_zero]; rfl) (fun K hK => ?_) AllReadyH.nil
        go_simp
        go_at_call 10
        (with_reducible refine (BU153.out).mono ?_)
        rintro e154 X154 ⟨rfl, hb154⟩
        have P154 := Lib.hid ((P153.out).chain hb154)
        have A154 := Lib.hid (blk_below A153.out hb154)
        clear hb154
        dsimp only
        refine hK.out _ _ (HCE.out _ P154.out) (fun hHeld => ?_)
        clear hK K
        try simp only [Act.put, List.setIfInBounds_toArray, List.set_cons_zero, List.set_cons_succ]
        refine wpAnyH_ready (rs := [12]) (by kernel_rfl) (by simp) ?_
        refine AllReadyH.cons (o := _) (by simp only [List.getElem?_toArray, List.getElem?_cons_succ, List.getElem?_cons_zero]; rfl) (fun K hK => ?_) AllReadyH.nil
        go_simp
        go_at_call 8
        (with_reducible refine (HC.out _ P154.out).mono ?_)
        rintro e155 X155 ⟨rfl, hb155⟩
        have P155 := Lib.hid ((P154.out).chain hb155)
        have A155 := Lib.hid (blk_below A154.out hb155)
        clear hb155
        dsimp only
        obtain ⟨⟨r0, r1, r2, r3, r4, r5⟩, f0, f1, f2, f3, f4, f5⟩ := cellsK6_of A155.out
        refine hK.out _ _ (HCE.out _ P155.out) (fun hHeld => ?_)
        clear hK K
        try simp only [Act.put, List.setIfInBounds_toArray, List.set_cons_zero, List.set_cons_succ]
        refine wpAnyH_take (i := 13) (oi := _) (v := ?v96142) (by simp only [List.getElem?_toArray, List.getElem?_cons_succ, List.getElem?_cons_zero]; rfl) (by kernel_rfl) (by kernel_rfl) (by kernel_rfl) (by exact fun _ _ _ h => h) (Or.inl ⟨by rfl, ?hy96142⟩) (by assumption) ?rest96142
        case hy96142 => (intro w hSw; (try dsimp only at hSw); go_simp; try with_reducible rfl)
        try simp only [Act.put, List.setIfInBounds_toArray, List.set_cons_zero, List.set_cons_succ]
        refine wpAnyH_take (i := 14) (oi := _) (v := ?v96143) (by simp only [List.getElem?_toArray, List.getElem?_cons_succ, List.getElem?_cons_zero]; rfl) (by kernel_rfl) (by kernel_rfl) (by kernel_rfl) (by exact fun _ _ _ h => h) (Or.inl ⟨by rfl, ?hy96143⟩) (by assumption) ?rest96143
        case hy96143 => (intro w hSw; (try dsimp only at hSw); go_simp; try with_reducible rfl)
        try simp only [Act.put, List.setIfInBounds_toArray, List.set_cons_zero, List.set_cons_succ]
        refine wpAnyH_take (i := 15) (oi := _) (v := ?v96144) (by simp only [List.getElem?_toArray, List.getElem?_cons_succ, List.getElem?_cons_zero]; rfl) (by kernel_rfl) (by kernel_rfl) (by kernel_rfl) (by exact fun _ _ _ h => h) (Or.inl ⟨by rfl, ?hy96144⟩) (by assumption) ?rest96144
        case hy96144 => (intro w hSw; (try dsimp only at hSw); go_simp; try with_reducible rfl)
        try simp only [Act.put, List.setIfInBounds_toArray, List.set_cons_zero, List.set_cons_succ]
        refine wpAnyH_take (i := 16) (oi := _) (v := ?v96145) (by simp only [List.getElem?_toArray, List.getElem?_cons_succ, List.getElem?_cons_zero]; rfl) (by kernel_rfl) (by kernel_rfl) (by kernel_rfl) (by exact fun _ _ _ h => h) (Or.inl ⟨by rfl, ?hy96145⟩) (by assumption) ?rest96145
        case hy96145 => (intro w hSw; (try dsimp only at hSw); go_simp; try with_reducible rfl)
        try simp only [Act.put, List.setIfInBounds_toArray, List.set_cons_zero, List.set_cons_succ]
        refine wpAnyH_ready (rs := [18]) (by kernel_rfl) (by simp) ?_
        refine AllReadyH.cons (o := _) (by simp only [List.getElem?_toArray, List.getElem?_cons_succ, List.getElem?_cons_zero]; rfl) (fun K hK => ?_) AllReadyH.nil
        go_simp
        refine hK.out _ _ (HCE.out _ (setK6_below P155.out LX.out _ _ _ _ _ _)) (fun hHeld => ?_)
        clear hK K
        try simp only [Act.put, List.setIfInBounds_toArray, List.set_cons_zero, List.set_cons_succ]
        refine wpAnyH_take (i := 19) (oi := _) (v := ?v96147) (by simp only [List.getElem?_toArray, List.getElem?_cons_succ, List.getElem?_cons_zero]; rfl) (by kernel_rfl) (by kernel_rfl) (by kernel_rfl) (by exact fun _ _ _ h => h) (Or.inl ⟨by rfl, ?hy96147⟩) (by assumption) ?rest96147
        case hy96147 => (intro w hSw; (try dsimp only at hSw); go_simp; try with_reducible rfl)
        try simp only [Act.put, List.setIfInBounds_toArray, List.set_cons_zero, List.set_cons_succ]
        refine wpAnyH_take (i := 20) (oi := _) (v := ?v96148) (by simp only [List.getElem?_toArray, List.getElem?_cons_succ, List.getElem?_cons_zero]; rfl) (by kernel_rfl) (by kernel_rfl) (by kernel_rfl) (by exact fun _ _ _ h => h) (Or.inl ⟨by rfl, ?hy96148⟩) (by assumption) ?rest96148
        case hy96148 => (intro w hSw; (try dsimp only at hSw); go_simp; try with_reducible rfl)
        try simp only [Act.put, List.setIfInBounds_toArray, List.set_cons_zero, List.set_cons_succ]
        refine wpAnyH_done (by kernel_rfl) ?_ _
        go_wp2
        go_meet
        case rel => exact ⟨_, rfl, rfl, rfl, Lib.hid (gotT_at P155.out LX.out A155.out)⟩
    case rest =>
      obtain ⟨p2, rfl, rfl, rfl, HGT⟩ := hcut
      obtain ⟨W11, rfl⟩ : ∃ z, z = wc := ⟨_, rfl⟩
      obtain ⟨hg1, hg2, hg3⟩ := HGT.out
      have BC := Lib.hid (B9.out.chain hg1); have KA2 := Lib.hid (blk_below KA.out hg1)
      clear HGT hg1 hg2 hg3
      go_wp2_with fail
      refine (HA.out _ (XW.out.chain BC.out)).mono ?_
      rintro e w5 ⟨rfl, hb5⟩
      have B5 := Lib.hid (BC.out.chain hb5)
      obtain ⟨⟨m0, m1, m2, m3, m4, m5⟩, -⟩ := cellsK6_of (blk_below KA2.out hb5)
      have hte := HTE.out
      have hcc1 : (ST.toList == ST.toList) = true := by simp
      have hcc2 : (NO.toList == NO.toList) = true := by simp
      clear hb5
      dsimp only
      go_wp2_with fail
      go_ret
      refine ⟨?_, XW.out.chain B5.out⟩
      have hem : TT.toList.isEmpty = false := by simpa using HTE.out
      show Ending.returned (.bool (!TT.toList.isEmpty)) = _
      rw [hem]; rfl
end Go.Proofs.YtlcpehmdhnakpaaDoor
