/- Layer 11's law FrameTurned, out of what the code's frames do. -/
import Derived.Test.YtdflghphjhejdaaDoorFrameLaw
namespace Go.Proofs.YtdflghphjhejdaaDoor
open Go.RowKit
set_option linter.unusedVariables false
set_option linter.unusedSimpArgs false

theorem xor8F (x c : UInt8) : bits .xor .u8 (x.toNat : Int) (c.toNat : Int) = ((x ^^^ c).toNat : Int) := by
  rw [bits_xor_nat .u8 8 (by decide) (fun n h0 h1 => by rw [IntKind.wrap_u8]; omega) _ _ x.toNat_lt c.toNat_lt, UInt8.toNat_xor]
theorem xor_ne (x c : UInt8) (h : c ≠ 0) : x ^^^ c ≠ x := fun e => by
  apply h
  apply UInt8.toNat_inj.1
  have h1 := congrArg UInt8.toNat e
  rw [UInt8.toNat_xor] at h1
  have h2 : x.toNat ^^^ (x.toNat ^^^ c.toNat) = x.toNat ^^^ x.toNat := by rw [h1]
  rw [← Nat.xor_assoc, Nat.xor_self, Nat.zero_xor] at h2
  rw [h2]; rfl
/-- a row of bytes of the call's own, by its block -/
theorem buf_form {w : World} {B : Nat} {v : Value} {l : List UInt8} (h : Buf w B v l) (h0 : 0 < l.length) : ∃ g cap C, v = .slice (some ⟨g, 0, none⟩) l.length cap ∧ B ≤ g ∧ w.heap[g]? = some (.cells C 5) ∧ l.length ≤ cap ∧ cap ≤ maxLen ∧ C.size = cap * 1 ∧ C.toList.take (l.length * 1) = cells l := by
  rcases h.2 with ⟨_, h0'⟩ | ⟨g, cap, C, hv, hB, hg, h4, h5, h6, h7⟩
  · omega
  · exact ⟨g, cap, C, hv, hB, hg, h4, h5, h6, h7⟩
theorem buf_set {w : World} {B g cap : Nat} {l : List UInt8} (h : Buf w B (.slice (some ⟨g, 0, none⟩) l.length cap) l) (h0 : 0 < l.length) (i : Nat) (hi : i < l.length) (x : UInt8) : Buf (w.setCell ⟨g, i, none⟩ (.int .u8 x.toNat)) B (.slice (some ⟨g, 0, none⟩) l.length cap) (l.set i x) := by
  obtain ⟨g', cap', C, hv, hB, hg, h4, h5, h6, h7⟩ := buf_form h h0
  injection hv with e1 _ e3
  injection e1 with e1
  injection e1 with e1
  subst e1; subst e3
  refine ⟨by simp [cells], .inr ⟨g, cap, C.setIfInBounds i (.int .u8 x.toNat), by rw [List.length_set], hB, set_here hg _, by rw [List.length_set]; exact h4, h5, by rw [Array.size_setIfInBounds]; exact h6, ?_⟩⟩
  rw [Array.toList_setIfInBounds, List.length_set, List.take_set, h7]
  unfold cells
  rw [List.map_set]
theorem buf_cell {w : World} {B g cap : Nat} {l : List UInt8} (h : Buf w B (.slice (some ⟨g, 0, none⟩) l.length cap) l) (i : Nat) (hi : i < l.length) : w.cell? ⟨g, i, none⟩ = some (.int .u8 (l[i].toNat : Int)) ∧ w.frozen? ⟨g, i, none⟩ = false := by
  have hc := World.ownsRow.cells (g := g) h rfl i (.int .u8 (l[i].toNat : Int)) (by simp [cells, hi])
  rw [Addr.add_lit, Nat.zero_add] at hc
  obtain ⟨g', cap', C, hv, hB, hg, _⟩ := buf_form h (by omega)
  injection hv with e1 _ e3
  injection e1 with e1
  injection e1 with e1
  subst e1
  exact ⟨hc, frozen_here hg i⟩
set_option maxRecDepth 100000 in
set_option maxHeartbeats 4000000 in
theorem frameTurned_at (H : CodeFrame) (A : Option Addr) (c : Nat) (a : List UInt8) (A' : Option Addr) (c' : Nat) (b : List UInt8) (x y : Int) {w : World} (ha : RdAt w (.slice A a.length c) a) (hb : RdAt w (.slice A' b.length c') b) (hx : (Lit.int .u16 x).wf = true) (hy : (Lit.int .u8 y).wf = true) (hr : RoundsIn w) :
    Calls Tryd.prog 6 #[.slice A a.length c, .slice A' b.length c', .int .u16 x, .int .u8 y] w fun e w' => e = .returned (.bool true) ∧ Below w.heap.size w w' := by
  obtain ⟨i0, hi, hz0, hz1, hz2⟩ := info_parts Tryd.infoByte
  have hans := fun W (hb : Below w.heap.size w W) => answers11_any H W (hr.below hb)
  have HA := Lib.hid hans; clear hans
  obtain ⟨t, rfl⟩ := byte_ex hy
  obtain ⟨d, rfl, hd⟩ : ∃ d : Nat, x = (d : Int) ∧ d < 65536 := by
    simp [Lit.wf, IntKind.min, IntKind.max, IntKind.signed, IntKind.bits] at hx
    exact ⟨x.toNat, by omega, by omega⟩
  obtain ⟨n, hn⟩ : ∃ n, a.length = n := ⟨_, rfl⟩
  obtain ⟨m, hm⟩ : ∃ n, b.length = n := ⟨_, rfl⟩
  rw [hn, hm]
  by_cases hbad : 500 < n ∨ 500 < m ∨ t = 0
  · have hgo : Calls Tryd.prog 6 #[.slice A n c, .slice A' m c', .int .u16 d, .int .u8 t.toNat] w fun e w' => e = .returned (.bool true) ∧ Below w.heap.size w w' := by
      by_cases h1 : 500 < n
      · have d1 : decide ((500 : Int) < n) = true := by simp; omega
        clear hbad h1 hn hm ha hb hr H hx hy
        go_enter Tryd.func6, Tryd.ntmps6
        go_wp2_with fail
        refine (HA.out _ (Below.refl _ _)).mono ?_
        rintro e w1 ⟨rfl, hb1⟩
        have B1 := Lib.hid hb1; clear hb1
        dsimp only
        go_wp2
        go_ret
        exact ⟨rfl, B1.out⟩
      have d1 : decide ((500 : Int) < n) = false := by simp; omega
      by_cases h2 : 500 < m
      · have d2 : decide ((500 : Int) < m) = true := by simp; omega
        clear hbad h1 h2 hn hm ha hb hr H hx hy
        go_enter Tryd.func6, Tryd.ntmps6
        go_wp2_with fail
        refine (HA.out _ (Below.refl _ _)).mono ?_
        rintro e w1 ⟨rfl, hb1⟩
        have B1 := Lib.hid hb1; clear hb1
        dsimp only
        go_wp2
        go_ret
        exact ⟨rfl, B1.out⟩
      have d2 : decide ((500 : Int) < m) = false := by simp; omega
      have h3 : t = 0 := by rcases hbad with h | h | h; exact absurd h h1; exact absurd h h2; exact h
      subst h3
      have d3 : ((((0 : UInt8).toNat : Nat) : Int) == 0) = true := by decide
      clear hbad h1 h2 hn hm ha hb hr H hx hy
      go_enter Tryd.func6, Tryd.ntmps6
      go_wp2_with fail
      refine (HA.out _ (Below.refl _ _)).mono ?_
      rintro e w1 ⟨rfl, hb1⟩
      have B1 := Lib.hid hb1; clear hb1
      dsimp only
      go_wp2
      go_ret
      exact ⟨rfl, B1.out⟩
    exact hgo
  have h1 : n ≤ 500 := by omega
  have h2 : m ≤ 500 := by omega
  have ht0 : t ≠ 0 := fun e => hbad (.inr (.inr e))
  have d1 : decide ((500 : Int) < n) = false := by simp; omega
  have d2 : decide ((500 : Int) < m) = false := by simp; omega
  have d3 : ((t.toNat : Int) == 0) = false := by
    rw [beq_eq_false_iff_ne]
    intro e
    apply ht0
    apply UInt8.toNat_inj.1
    show t.toNat = 0
    omega
  have f1 := refFrame_any A c a (by omega) w ha.weak
  have f2 := fun W (hb' : Below w.heap.size w W) => refFrame_any A' c' b (by omega) W (hb.below hb').weak
  rw [hn] at f1
  rw [hm] at f2
  have hta := fun W (hb' : Below w.heap.size w W) => (ha.below hb').text
  rw [hn] at hta
  have F1 := Lib.hid f1; have F2 := Lib.hid f2; have TA := Lib.hid hta; have HR := Lib.hid hr; have HH := Lib.hid H; have HN := Lib.hid hn; have HM := Lib.hid hm; have HT0 := Lib.hid ht0
  clear f1 f2 hta hr H hbad hn hm ha hb hx hy ht0
  go_enter Tryd.func6, Tryd.ntmps6
  go_wp2_with fail
  refine F1.out.mono ?_
  rintro e w1 ⟨⟨v1, rfl, hu1⟩, hb1⟩
  have B1 := Lib.hid hb1; have U1 := Lib.hid hu1; clear hb1 hu1
  dsimp only
  go_wp2_with fail
  refine (F2.out _ B1.out).mono ?_
  rintro e w2 ⟨⟨v2, rfl, hu2⟩, hb2⟩
  have hfl : (frameL a).length = 8 + n := by rw [frameL_len, HN.out]
  have U1' : Buf w2 w.heap.size v1 (frameL a) := own_below U1.out hb2
  have hg12 : ∀ g, v1.ownBlock = some g → g < w1.heap.size := fun g hg => (U1.out.lt g hg).2
  obtain ⟨g, cap, C, rfl, hBg, hCg, hlc, hcm, -, -⟩ := buf_form U1' (by omega)
  have hgl : g < w1.heap.size := hg12 g rfl
  obtain ⟨i, hi0⟩ : ∃ i, d % (8 + n) = i := ⟨_, rfl⟩
  have hil : i < (frameL a).length := by rw [hfl, ← hi0]; exact Nat.mod_lt _ (by omega)
  obtain ⟨hcell, hfroz⟩ := buf_cell U1' i hil
  have hset := buf_set U1' (by omega) i hil ((frameL a)[i] ^^^ t)
  obtain ⟨X, hX⟩ : ∃ X, (frameL a).set i ((frameL a)[i] ^^^ t) = X := ⟨_, rfl⟩
  have hXl : X.length = 8 + n := by rw [← hX, List.length_set, hfl]
  have hXne : X ≠ frameL a := fun e => by
    have := congrArg (fun l => l[i]?) (hX.trans e)
    simp only [List.getElem?_set_self hil, List.getElem?_eq_getElem hil] at this
    exact xor_ne _ _ HT0.out (Option.some.inj this)
  have hxv := xor8F (frameL a)[i] t
  obtain ⟨b0, hb0⟩ : ∃ b0 : UInt8, (frameL a)[i] = b0 := ⟨_, rfl⟩
  rw [hb0] at hcell hset hX hxv
  rw [hX] at hset
  rw [hfl] at hset hlc hil
  have htm : (d : Int).tmod ((8 + n : Nat) : Int) = (i : Int) := by rw [Int.tmod_eq_emod_of_nonneg (by omega)]; omega
  have B2 := Lib.hid (B1.out.chain hb2)
  have U2 := Lib.hid hu2; have SET := Lib.hid hset; have XL := Lib.hid hXl; have XNE := Lib.hid hXne; have GL := Lib.hid hgl
  rw [hfl]
  clear hb2 hu2 hset hXl hXne U1' hg12 hCg hX hb0
  have hmod : (d : Int) % (8 + (n : Int)) = (i : Int) := by exact_mod_cast hi0
  have k0 : (0 : Int) ≤ i := by omega
  have k1 : (i : Int) < 8 + (n : Int) := by omega
  dsimp only
  go_upto_region 5 with fail
  obtain ⟨W3, hW3⟩ : ∃ W3, W3 = w2.setCell ⟨g, i, none⟩ (.int .u8 ((b0.toNat ^^^ t.toNat : Nat) : Int)) := ⟨_, rfl⟩
  have s3 := SET.out
  rw [UInt8.toNat_xor] at s3
  rw [← hW3] at s3 ⊢
  have z3 : W3.heap.size = w2.heap.size := by rw [hW3, set_size]
  have b3 : Below w.heap.size w W3 := by
    rw [hW3]
    exact B2.out.trans (((Only.refl (fun k => k = g) w2).set rfl _).below B2.out.size (fun k hk => by rw [hk]; exact hBg))
  have u3 : Buf W3 w1.heap.size v2 (frameL b) := by
    rw [hW3]
    exact own_kept U2.out fun g' hg' => set_there _ (by have := (U2.out.lt g' hg').1; have := GL.out; omega)
  have hyl : (frameL b).length = 8 + m := by rw [frameL_len, HM.out]
  obtain ⟨A2, c2, rfl⟩ := own_form u3
  have hX : RdAt W3 (.slice (some ⟨g, 0, none⟩) (8 + n) cap) X := Buf.rd (Buf.cut s3 rfl rfl)
  have hY := u3.rd
  rw [hyl] at hY u3 ⊢
  have hcx : (cells X).length = (8 + n) * 1 := by rw [Nat.mul_one]; simp [cells, XL.out]
  have hcy : (cells (frameL b)).length = (8 + m) * 1 := by rw [Nat.mul_one]; simp [cells, hyl]
  have hnx : ∀ W, Below W3.heap.size W3 W → ((some ⟨g, 0, none⟩ : Option Addr) = none ∧ 8 + n = 0 ∧ cap = 0) ∨ ∃ ad, (some ⟨g, 0, none⟩ : Option Addr) = some ad ∧ ∀ j u, (cells X)[j]? = some u → W.cell? (ad.add j) = some u := fun W hbw => by
    obtain ⟨A1, c1, e1, hA1⟩ := (hX.below hbw).news
    rw [XL.out] at e1 hA1
    cases e1
    exact hA1
  have hny : ∀ W, Below W3.heap.size W3 W → (A2 = none ∧ 8 + m = 0 ∧ c2 = 0) ∨ ∃ ad, A2 = some ad ∧ ∀ j u, (cells (frameL b))[j]? = some u → W.cell? (ad.add j) = some u := fun W hbw => by
    obtain ⟨A1, c1, e1, hA1⟩ := (hY.below hbw).news
    rw [hyl] at e1 hA1
    cases e1
    exact hA1
  have B3 := Lib.hid b3; have CX := Lib.hid hcx; have CY := Lib.hid hcy; have NX := Lib.hid hnx; have NY := Lib.hid hny; have YL := Lib.hid hyl
  clear hW3 s3 z3 b3 u3 hyl hX hY hcx hcy hnx hny hcell hfroz hxv htm hmod k0 k1 hil hi0 hlc hcm SET U1 U2
  go_wp2_with (at_builtin; refine wpList_append_opt rfl _ _ 23 rfl W3.heap.size 5 i0 _ 1 1 Tryd.underlying23 hi hz0 hz1 hz2 rfl (by decide) (.slice (some ⟨W3.heap.size, 0, none⟩) 0 0) 0 [] rfl (own_fresh _ _ _ _ (Nat.le_refl _)) (some ⟨g, 0, none⟩) (8 + n) cap (cells X) rfl CX.out (NX.out _ ((Below.refl _ _).alloc (Nat.le_refl _) _)) (cells_one _) (by unfold maxLen; omega) (by omega) (by simp) ?_)
  intro v4 w4 hown4 hg4 _
  have hb4 : Below W3.heap.size W3 w4 := ((Below.refl _ _).alloc (Nat.le_refl _) _).grown hg4 (by simp) (fun j hj => by have hj2 : some W3.heap.size = some j := hj; injection hj2 with hj2; omega)
  go_wp2_with (at_builtin; refine wpList_append_opt rfl _ _ 23 rfl W3.heap.size 5 i0 _ 1 1 Tryd.underlying23 hi hz0 hz1 hz2 rfl (by decide) _ _ _ rfl hown4 A2 (8 + m) c2 (cells (frameL b)) rfl CY.out (NY.out _ hb4) (cells_one _) (by unfold maxLen; omega) (by omega) hb4.size ?_)
  intro v5 w5 hown5 hg5 _
  have hb5 : Below W3.heap.size W3 w5 := hb4.grown hg5 hb4.size (fun j hj => (hown4.lt j hj).1)
  obtain ⟨L, hL⟩ : ∃ L, 8 + n + (8 + m) = L := ⟨_, rfl⟩
  have hall : (X ++ frameL b).length = L := by rw [List.length_append, XL.out, YL.out, hL]
  have hbuf : Buf w5 W3.heap.size v5 (X ++ frameL b) := Buf.cut hown5 (by rw [hall, hL]) (by rw [cells_app])
  obtain ⟨ALL, hALL⟩ : ∃ ALL, X ++ frameL b = ALL := ⟨_, rfl⟩
  have hnot := turned_not a X (frameL b) (by rw [XL.out, HN.out]) XNE.out
  rw [hALL] at hbuf hall hnot
  have b5 : Below w.heap.size w w5 := B3.out.chain hb5
  have hrd5 := hbuf.rd.weak
  obtain ⟨A5, c5, rfl⟩ := rdw_form hrd5
  have hs1 := HH.out.split w5 A5 c5 ALL (by omega) (HR.out.below b5) hrd5
  have hs2 := fun W (hb : Below w5.heap.size w5 W) => refSplit_any A5 c5 ALL (by omega) W (hrd5.below hb)
  rw [hall] at hs1 ⊢
  simp only [hall] at hs2
  obtain ⟨LL, hLL⟩ : ∃ LL, (splitL ALL).1 = LL := ⟨_, rfl⟩
  obtain ⟨NN, hNN⟩ : ∃ NN, (splitL ALL).2 = NN := ⟨_, rfl⟩
  have hLn : LL.length ≤ 1000000 := by rw [← hLL]; exact Nat.le_trans (splitL_few ALL) (by omega)
  rw [hLL, hNN] at hs1
  rw [hLL] at hnot
  simp only [hLL, hNN] at hs2
  have S1 := Lib.hid hs1; have S2 := Lib.hid hs2; have B5 := Lib.hid b5; have NOT := Lib.hid hnot
  clear hs1 hs2 b5 hnot hrd5 hbuf hall hALL hLL hNN hb5 hb4 hown4 hown5 hg4 hg5 CX CY NX NY XL XNE YL B3 hL
  go_wp2_with fail
  refine S1.out.mono ?_
  rintro e w6 ⟨⟨v6, rfl, hr6⟩, hb6⟩
  have B6 := Lib.hid (B5.out.chain hb6)
  have R6 := Lib.hid hr6; have G6 := Lib.hid hb6; clear hr6 hb6
  dsimp only
  go_wp2_with fail
  refine (S2.out _ G6.out).mono ?_
  rintro e w7 ⟨⟨v7, rfl, hr7⟩, hb7⟩
  have R7' := Lib.hid (R6.out.below hb7); have R7 := Lib.hid hr7
  have B7 := Lib.hid (B6.out.chain hb7); have G7 := Lib.hid hb7; clear hb7 hr7
  obtain ⟨S0, hS0⟩ : ∃ S : ByteArray, S = ⟨a.toArray⟩ := ⟨_, rfl⟩
  have hta : ∀ W, Below w.heap.size w W → (convert 23 9 (.slice A n c)).run Tryd.prog W = .ok (.string S0) W := fun W hb => by rw [hS0]; exact TA.out W hb
  have hsame : ∀ W, Below w7.heap.size w7 W → Calls Tryd.prog 11 #[v6, v7] W fun e w' => e = .returned (.bool (decide (LL = LL))) ∧ Below W.heap.size W w' := fun W hb => same_any v6 v7 LL LL hLn hLn W (R7'.out.below hb) (R7.out.below hb)
  have e1 : decide (LL = LL) = true := by simp
  rw [e1] at hsame
  have e2 : ((NN : Int) == NN) = true := by simp
  have TB := Lib.hid hta; have SM := Lib.hid hsame; have HS0 := Lib.hid hS0
  clear hta hsame hS0 e1
  dsimp only
  cases LL with
  | nil =>
    obtain ⟨A6, c6, rfl⟩ := rdb_form R6.out
    have SM2 : Hid (∀ W, Below w7.heap.size w7 W → Calls Tryd.prog 11 #[.slice A6 0 c6, v7] W fun e w' => e = .returned (.bool true) ∧ Below W.heap.size W w') := SM
    go_upto_region 8 with fail
    refine wp_region_held_drew (S := (fun _ => True)) (by kernel_rfl) (trivial) (fun hHeld => ?_)
    refine wpAnyH_ready (rs := [0]) (by kernel_rfl) (by simp) ?_
    refine AllReadyH.cons (o := _) (by simp only [List.getElem?_toArray, List.getElem?_cons_succ, List.getElem?_cons_zero]; rfl) (fun K hK => ?_) AllReadyH.nil
    go_simp
    go_at_call 7
    (with_reducible refine (HA.out _ B7.out.drew).mono ?_)
    rintro e w8 ⟨rfl, hb8⟩
    have B8 := Lib.hid (B7.out.drew.chain hb8); have G8 := Lib.hid ((Below.refl w7.heap.size w7).drew.trans hb8); clear hb8
    dsimp only
    refine hK.out _ _ (trivial) (fun hHeld => ?_)
    clear hK K
    try simp only [Act.put, List.setIfInBounds_toArray, List.set_cons_zero, List.set_cons_succ]
    refine wpAnyH_take (i := 1) (oi := _) (v := ?v1) (by simp only [List.getElem?_toArray, List.getElem?_cons_succ, List.getElem?_cons_zero]; rfl) (by kernel_rfl) (by kernel_rfl) (by kernel_rfl) (by exact fun _ _ _ h => h) (Or.inl ⟨by rfl, ?hy1⟩) (by assumption) ?rest1
    case hy1 => (intro w hSw; (try dsimp only at hSw); go_simp; try with_reducible rfl)
    simp only [Act.put, List.setIfInBounds_toArray, List.set_cons_zero, List.set_cons_succ]
    refine wpAnyH_take (i := 2) (oi := _) (v := ?v2) (by simp only [List.getElem?_toArray, List.getElem?_cons_succ, List.getElem?_cons_zero]; rfl) (by kernel_rfl) (by kernel_rfl) (by kernel_rfl) (by exact fun _ _ _ h => h) (Or.inl ⟨by rfl, ?hy2⟩) (by assumption) ?rest2
    case hy2 => (intro w hSw; (try dsimp only at hSw); go_simp; try with_reducible rfl)
    simp only [Act.put, List.setIfInBounds_toArray, List.set_cons_zero, List.set_cons_succ]
    refine wpAnyH_take (i := 3) (oi := _) (v := ?v3) (by simp only [List.getElem?_toArray, List.getElem?_cons_succ, List.getElem?_cons_zero]; rfl) (by kernel_rfl) (by kernel_rfl) (by kernel_rfl) (by exact fun _ _ _ h => h) (Or.inl ⟨by rfl, ?hy3⟩) (by assumption) ?rest3
    case hy3 => (intro w hSw; (try dsimp only at hSw); go_simp; try with_reducible rfl)
    simp only [Act.put, List.setIfInBounds_toArray, List.set_cons_zero, List.set_cons_succ]
    refine wpAnyH_ready (rs := [4]) (by kernel_rfl) (by simp) ?_
    refine AllReadyH.cons (o := _) (by simp only [List.getElem?_toArray, List.getElem?_cons_succ, List.getElem?_cons_zero]; rfl) (fun K hK => ?_) AllReadyH.nil
    go_simp
    go_at_call 11
    (with_reducible refine (SM2.out _ G8.out).mono ?_)
    rintro e w9 ⟨rfl, hb9⟩
    have B9 := Lib.hid (B8.out.chain hb9); clear hb9
    dsimp only
    refine hK.out _ _ (trivial) (fun hHeld => ?_)
    clear hK K
    try simp only [Act.put, List.setIfInBounds_toArray, List.set_cons_zero, List.set_cons_succ]
    refine wpAnyH_take (i := 5) (oi := _) (v := ?v5) (by simp only [List.getElem?_toArray, List.getElem?_cons_succ, List.getElem?_cons_zero]; rfl) (by kernel_rfl) (by kernel_rfl) (by kernel_rfl) (by exact fun _ _ _ h => h) (Or.inl ⟨by rfl, ?hy5⟩) (by assumption) ?rest5
    case hy5 => (intro w hSw; (try dsimp only at hSw); go_simp; try with_reducible rfl)
    simp only [Act.put, List.setIfInBounds_toArray, List.set_cons_zero, List.set_cons_succ]
    refine wpAnyH_take (i := 6) (oi := _) (v := ?v6) (by simp only [List.getElem?_toArray, List.getElem?_cons_succ, List.getElem?_cons_zero]; rfl) (by kernel_rfl) (by kernel_rfl) (by kernel_rfl) (by exact fun _ _ _ h => h) (Or.inl ⟨by rfl, ?hy6⟩) (by assumption) ?rest6
    case hy6 => (intro w hSw; (try dsimp only at hSw); go_simp; try with_reducible rfl)
    simp only [Act.put, List.setIfInBounds_toArray, List.set_cons_zero, List.set_cons_succ]
    refine wpAnyH_take (i := 7) (oi := _) (v := ?v7) (by simp only [List.getElem?_toArray, List.getElem?_cons_succ, List.getElem?_cons_zero]; rfl) (by kernel_rfl) (by kernel_rfl) (by kernel_rfl) (by exact fun _ _ _ h => h) (Or.inl ⟨by rfl, ?hy7⟩) (by assumption) ?rest7
    case hy7 => (intro w hSw; (try dsimp only at hSw); go_simp; try with_reducible rfl)
    simp only [Act.put, List.setIfInBounds_toArray, List.set_cons_zero, List.set_cons_succ]
    refine wpAnyH_take (i := 8) (oi := _) (v := ?v8) (by simp only [List.getElem?_toArray, List.getElem?_cons_succ, List.getElem?_cons_zero]; rfl) (by kernel_rfl) (by kernel_rfl) (by kernel_rfl) (by exact fun _ _ _ h => h) (Or.inl ⟨by rfl, ?hy8⟩) (by assumption) ?rest8
    case hy8 => (intro w hSw; (try dsimp only at hSw); go_simp; try with_reducible rfl)
    simp only [Act.put, List.setIfInBounds_toArray, List.set_cons_zero, List.set_cons_succ]
    refine wpAnyH_take (i := 9) (oi := _) (v := ?v9) (by simp only [List.getElem?_toArray, List.getElem?_cons_succ, List.getElem?_cons_zero]; rfl) (by kernel_rfl) (by kernel_rfl) (by kernel_rfl) (by exact fun _ _ _ h => h) (Or.inl ⟨by rfl, ?hy9⟩) (by assumption) ?rest9
    case hy9 => (intro w hSw; (try dsimp only at hSw); go_simp; try with_reducible rfl)
    simp only [Act.put, List.setIfInBounds_toArray, List.set_cons_zero, List.set_cons_succ]
    refine wpAnyH_take (i := 10) (oi := _) (v := ?v10) (by simp only [List.getElem?_toArray, List.getElem?_cons_succ, List.getElem?_cons_zero]; rfl) (by kernel_rfl) (by kernel_rfl) (by kernel_rfl) (by exact fun _ _ _ h => h) (Or.inl ⟨by rfl, ?hy10⟩) (by assumption) ?rest10
    case hy10 => (intro w hSw; (try dsimp only at hSw); go_simp; try with_reducible rfl)
    simp only [Act.put, List.setIfInBounds_toArray, List.set_cons_zero, List.set_cons_succ]
    refine wpAnyH_take (i := 11) (oi := _) (v := ?v11) (by simp only [List.getElem?_toArray, List.getElem?_cons_succ, List.getElem?_cons_zero]; rfl) (by kernel_rfl) (by kernel_rfl) (by kernel_rfl) (by exact fun _ _ _ h => h) (Or.inl ⟨by rfl, ?hy11⟩) (by assumption) ?rest11
    case hy11 => (intro w hSw; (try dsimp only at hSw); go_simp; try with_reducible rfl)
    simp only [Act.put, List.setIfInBounds_toArray, List.set_cons_zero, List.set_cons_succ]
    refine wpAnyH_take (i := 12) (oi := _) (v := ?v12) (by simp only [List.getElem?_toArray, List.getElem?_cons_succ, List.getElem?_cons_zero]; rfl) (by kernel_rfl) (by kernel_rfl) (by kernel_rfl) (by exact fun _ _ _ h => h) (Or.inl ⟨by rfl, ?hy12⟩) (by assumption) ?rest12
    case hy12 => (intro w hSw; (try dsimp only at hSw); go_simp; try with_reducible rfl)
    simp only [Act.put, List.setIfInBounds_toArray, List.set_cons_zero, List.set_cons_succ]
    refine wpAnyH_take (i := 13) (oi := _) (v := ?v13) (by simp only [List.getElem?_toArray, List.getElem?_cons_succ, List.getElem?_cons_zero]; rfl) (by kernel_rfl) (by kernel_rfl) (by kernel_rfl) (by exact fun _ _ _ h => h) (Or.inl ⟨by rfl, ?hy13⟩) (by assumption) ?rest13
    case hy13 => (intro w hSw; (try dsimp only at hSw); go_simp; try with_reducible rfl)
    simp only [Act.put, List.setIfInBounds_toArray, List.set_cons_zero, List.set_cons_succ]
    refine wpAnyH_take (i := 14) (oi := _) (v := ?v14) (by simp only [List.getElem?_toArray, List.getElem?_cons_succ, List.getElem?_cons_zero]; rfl) (by kernel_rfl) (by kernel_rfl) (by kernel_rfl) (by exact fun _ _ _ h => h) (Or.inl ⟨by rfl, ?hy14⟩) (by assumption) ?rest14
    case hy14 => (intro w hSw; (try dsimp only at hSw); go_simp; try with_reducible rfl)
    simp only [Act.put, List.setIfInBounds_toArray, List.set_cons_zero, List.set_cons_succ]
    refine wpAnyH_take (i := 15) (oi := _) (v := ?v15) (by simp only [List.getElem?_toArray, List.getElem?_cons_succ, List.getElem?_cons_zero]; rfl) (by kernel_rfl) (by kernel_rfl) (by kernel_rfl) (by exact fun _ _ _ h => h) (Or.inl ⟨by rfl, ?hy15⟩) (by assumption) ?rest15
    case hy15 => (intro w hSw; (try dsimp only at hSw); go_simp; try with_reducible rfl)
    simp only [Act.put, List.setIfInBounds_toArray, List.set_cons_zero, List.set_cons_succ]
    refine wpAnyH_take (i := 16) (oi := _) (v := undef) (by simp only [List.getElem?_toArray, List.getElem?_cons_succ, List.getElem?_cons_zero]; rfl) (by kernel_rfl) (by kernel_rfl) (by kernel_rfl) (by exact fun _ _ _ h => h) (Or.inr ⟨by rfl, rfl⟩) (by assumption) ?rest16
    try simp only [Act.put, List.setIfInBounds_toArray, List.set_cons_zero, List.set_cons_succ]
    refine wpAnyH_take (i := 17) (oi := _) (v := undef) (by simp only [List.getElem?_toArray, List.getElem?_cons_succ, List.getElem?_cons_zero]; rfl) (by kernel_rfl) (by kernel_rfl) (by kernel_rfl) (by exact fun _ _ _ h => h) (Or.inr ⟨by rfl, rfl⟩) (by assumption) ?rest17
    try simp only [Act.put, List.setIfInBounds_toArray, List.set_cons_zero, List.set_cons_succ]
    refine wpAnyH_take (i := 18) (oi := _) (v := undef) (by simp only [List.getElem?_toArray, List.getElem?_cons_succ, List.getElem?_cons_zero]; rfl) (by kernel_rfl) (by kernel_rfl) (by kernel_rfl) (by exact fun _ _ _ h => h) (Or.inr ⟨by rfl, rfl⟩) (by assumption) ?rest18
    try simp only [Act.put, List.setIfInBounds_toArray, List.set_cons_zero, List.set_cons_succ]
    refine wpAnyH_take (i := 19) (oi := _) (v := undef) (by simp only [List.getElem?_toArray, List.getElem?_cons_succ, List.getElem?_cons_zero]; rfl) (by kernel_rfl) (by kernel_rfl) (by kernel_rfl) (by exact fun _ _ _ h => h) (Or.inr ⟨by rfl, rfl⟩) (by assumption) ?rest19
    try simp only [Act.put, List.setIfInBounds_toArray, List.set_cons_zero, List.set_cons_succ]
    refine wpAnyH_take (i := 20) (oi := _) (v := undef) (by simp only [List.getElem?_toArray, List.getElem?_cons_succ, List.getElem?_cons_zero]; rfl) (by kernel_rfl) (by kernel_rfl) (by kernel_rfl) (by exact fun _ _ _ h => h) (Or.inr ⟨by rfl, rfl⟩) (by assumption) ?rest20
    try simp only [Act.put, List.setIfInBounds_toArray, List.set_cons_zero, List.set_cons_succ]
    refine wpAnyH_take (i := 21) (oi := _) (v := undef) (by simp only [List.getElem?_toArray, List.getElem?_cons_succ, List.getElem?_cons_zero]; rfl) (by kernel_rfl) (by kernel_rfl) (by kernel_rfl) (by exact fun _ _ _ h => h) (Or.inr ⟨by rfl, rfl⟩) (by assumption) ?rest21
    try simp only [Act.put, List.setIfInBounds_toArray, List.set_cons_zero, List.set_cons_succ]
    refine wpAnyH_take (i := 22) (oi := _) (v := undef) (by simp only [List.getElem?_toArray, List.getElem?_cons_succ, List.getElem?_cons_zero]; rfl) (by kernel_rfl) (by kernel_rfl) (by kernel_rfl) (by exact fun _ _ _ h => h) (Or.inr ⟨by rfl, rfl⟩) (by assumption) ?rest22
    try simp only [Act.put, List.setIfInBounds_toArray, List.set_cons_zero, List.set_cons_succ]
    refine wpAnyH_take (i := 23) (oi := _) (v := ?v23) (by simp only [List.getElem?_toArray, List.getElem?_cons_succ, List.getElem?_cons_zero]; rfl) (by kernel_rfl) (by kernel_rfl) (by kernel_rfl) (by exact fun _ _ _ h => h) (Or.inl ⟨by rfl, ?hy23⟩) (by assumption) ?rest23
    case hy23 => (intro w hSw; (try dsimp only at hSw); go_simp; try with_reducible rfl)
    simp only [Act.put, List.setIfInBounds_toArray, List.set_cons_zero, List.set_cons_succ]
    refine wpAnyH_take (i := 24) (oi := _) (v := ?v24) (by simp only [List.getElem?_toArray, List.getElem?_cons_succ, List.getElem?_cons_zero]; rfl) (by kernel_rfl) (by kernel_rfl) (by kernel_rfl) (by exact fun _ _ _ h => h) (Or.inl ⟨by rfl, ?hy24⟩) (by assumption) ?rest24
    case hy24 => (intro w hSw; (try dsimp only at hSw); go_simp; try with_reducible rfl)
    simp only [Act.put, List.setIfInBounds_toArray, List.set_cons_zero, List.set_cons_succ]
    refine wpAnyH_take (i := 25) (oi := _) (v := ?v25) (by simp only [List.getElem?_toArray, List.getElem?_cons_succ, List.getElem?_cons_zero]; rfl) (by kernel_rfl) (by kernel_rfl) (by kernel_rfl) (by exact fun _ _ _ h => h) (Or.inl ⟨by rfl, ?hy25⟩) (by assumption) ?rest25
    case hy25 => (intro w hSw; (try dsimp only at hSw); go_simp; try with_reducible rfl)
    simp only [Act.put, List.setIfInBounds_toArray, List.set_cons_zero, List.set_cons_succ]
    refine wpAnyH_done (by kernel_rfl) ?_ _
    all_goals
      go_wp2
      go_ret
      exact ⟨ret_bool (by simp), B9.out⟩
  | cons l0 r =>
    obtain ⟨q, hq⟩ : ∃ q, (l0 :: r).length = q := ⟨_, rfl⟩
    have hq0 : 1 ≤ q := by rw [← hq]; simp
    obtain ⟨A6, c6, rfl, hc6, hA6⟩ := R6.out
    obtain ⟨g6, o6, u6, rfl, hg6, hu6, hr6⟩ := hA6 0 l0 rfl
    rw [hq] at hc6 ⊢
    have SM2 : Hid (∀ W, Below w7.heap.size w7 W → Calls Tryd.prog 11 #[.slice (some ⟨g6, o6, none⟩) q c6, v7] W fun e w' => e = .returned (.bool true) ∧ Below W.heap.size W w') := by rw [← hq]; exact SM
    obtain ⟨A7, c7, rfl⟩ := rdw_form hr6
    obtain ⟨q0, hq0'⟩ : ∃ q0, l0.length = q0 := ⟨_, rfl⟩
    have hlong : l0 ≠ a := fun e => NOT.out (by rw [e]; rfl)
    obtain ⟨S1s, hS1s⟩ : ∃ S : ByteArray, S = ⟨l0.toArray⟩ := ⟨_, rfl⟩
    have hne : (!S1s.toList == S0.toList) = true := by
      rw [hS1s, HS0.out, ByteArray.toList_eq, ByteArray.toList_eq]
      show (!l0 == a) = true
      simp [hlong]
    have hST : ∀ W, Below w6.heap.size w6 W → (W.cell? ⟨g6, o6, none⟩ = some (.slice A7 q0 c7) ∧ (convert 23 9 (.slice A7 q0 c7)).run Tryd.prog W = .ok (.string S1s) W) := fun W hb => by
      have h1 := (World.cell?_of_block (a := ⟨g6, o6 + 0, none⟩) (hb.block g6 hg6)).trans hu6
      have h2 := (hr6.below hb).text
      rw [hq0', Nat.add_zero] at h1
      rw [hq0', ← hS1s] at h2
      exact ⟨h1, h2⟩
    have hSA : ∀ W, Below w7.heap.size w7 W → (W.cell? ⟨g6, o6, none⟩ = some (.slice A7 q0 c7) ∧ (convert 23 9 (.slice A7 q0 c7)).run Tryd.prog W = .ok (.string S1s) W ∧ (convert 23 9 (.slice A n c)).run Tryd.prog W = .ok (.string S0) W) := fun W hb => by
      obtain ⟨h1, h2⟩ := hST W (G7.out.trans (hb.mono G7.out.size))
      exact ⟨h1, h2, TB.out W (B7.out.chain hb)⟩
    have SA := Lib.hid hSA
    clear hST hSA hA6 hu6 hr6 hS1s hlong hq0' hq
    have i0' : (0 : Int) < q := by omega
    have i0n : 0 < q := hq0
    have z1 : ((q : Int) == 0) = false := by rw [beq_eq_false_iff_ne]; omega
    go_upto_region 8 with fail
    refine wp_region_held_drew (S := (fun W => W.cell? ⟨g6, o6, none⟩ = some (.slice A7 q0 c7) ∧ (convert 23 9 (.slice A7 q0 c7)).run Tryd.prog W = .ok (.string S1s) W ∧ (convert 23 9 (.slice A n c)).run Tryd.prog W = .ok (.string S0) W)) (by kernel_rfl) (SA.out _ (Below.refl _ _).drew) (fun hHeld => ?_)
    refine wpAnyH_ready (rs := [0]) (by kernel_rfl) (by simp) ?_
    refine AllReadyH.cons (o := _) (by simp only [List.getElem?_toArray, List.getElem?_cons_succ, List.getElem?_cons_zero]; rfl) (fun K hK => ?_) AllReadyH.nil
    go_simp
    go_at_call 7
    (with_reducible refine (HA.out _ B7.out.drew).mono ?_)
    rintro e w8 ⟨rfl, hb8⟩
    have B8 := Lib.hid (B7.out.drew.chain hb8); have G8 := Lib.hid ((Below.refl w7.heap.size w7).drew.trans hb8); clear hb8
    dsimp only
    refine hK.out _ _ (SA.out _ G8.out) (fun hHeld => ?_)
    clear hK K
    try simp only [Act.put, List.setIfInBounds_toArray, List.set_cons_zero, List.set_cons_succ]
    refine wpAnyH_take (i := 1) (oi := _) (v := ?v102) (by simp only [List.getElem?_toArray, List.getElem?_cons_succ, List.getElem?_cons_zero]; rfl) (by kernel_rfl) (by kernel_rfl) (by kernel_rfl) (by exact fun _ _ _ h => h) (Or.inl ⟨by rfl, ?hy102⟩) (by assumption) ?rest102
    case hy102 => (intro w hSw; (try dsimp only at hSw); go_simp; try with_reducible rfl)
    try simp only [Act.put, List.setIfInBounds_toArray, List.set_cons_zero, List.set_cons_succ]
    refine wpAnyH_take (i := 2) (oi := _) (v := ?v103) (by simp only [List.getElem?_toArray, List.getElem?_cons_succ, List.getElem?_cons_zero]; rfl) (by kernel_rfl) (by kernel_rfl) (by kernel_rfl) (by exact fun _ _ _ h => h) (Or.inl ⟨by rfl, ?hy103⟩) (by assumption) ?rest103
    case hy103 => (intro w hSw; (try dsimp only at hSw); go_simp; try with_reducible rfl)
    try simp only [Act.put, List.setIfInBounds_toArray, List.set_cons_zero, List.set_cons_succ]
    refine wpAnyH_take (i := 3) (oi := _) (v := ?v104) (by simp only [List.getElem?_toArray, List.getElem?_cons_succ, List.getElem?_cons_zero]; rfl) (by kernel_rfl) (by kernel_rfl) (by kernel_rfl) (by exact fun _ _ _ h => h) (Or.inl ⟨by rfl, ?hy104⟩) (by assumption) ?rest104
    case hy104 => (intro w hSw; (try dsimp only at hSw); go_simp; try with_reducible rfl)
    try simp only [Act.put, List.setIfInBounds_toArray, List.set_cons_zero, List.set_cons_succ]
    refine wpAnyH_ready (rs := [4]) (by kernel_rfl) (by simp) ?_
    refine AllReadyH.cons (o := _) (by simp only [List.getElem?_toArray, List.getElem?_cons_succ, List.getElem?_cons_zero]; rfl) (fun K hK => ?_) AllReadyH.nil
    go_simp
    go_at_call 11
    (with_reducible refine (SM2.out _ G8.out).mono ?_)
    rintro e w9 ⟨rfl, hb9⟩
    have B9 := Lib.hid (B8.out.chain hb9); have G9 := Lib.hid (G8.out.trans (hb9.mono G8.out.size)); clear hb9
    dsimp only
    refine hK.out _ _ (SA.out _ G9.out) (fun hHeld => ?_)
    clear hK K
    try simp only [Act.put, List.setIfInBounds_toArray, List.set_cons_zero, List.set_cons_succ]
    refine wpAnyH_take (i := 5) (oi := _) (v := ?v106) (by simp only [List.getElem?_toArray, List.getElem?_cons_succ, List.getElem?_cons_zero]; rfl) (by kernel_rfl) (by kernel_rfl) (by kernel_rfl) (by exact fun _ _ _ h => h) (Or.inl ⟨by rfl, ?hy106⟩) (by assumption) ?rest106
    case hy106 => (intro w hSw; (try dsimp only at hSw); go_simp; try with_reducible rfl)
    try simp only [Act.put, List.setIfInBounds_toArray, List.set_cons_zero, List.set_cons_succ]
    refine wpAnyH_take (i := 6) (oi := _) (v := ?v107) (by simp only [List.getElem?_toArray, List.getElem?_cons_succ, List.getElem?_cons_zero]; rfl) (by kernel_rfl) (by kernel_rfl) (by kernel_rfl) (by exact fun _ _ _ h => h) (Or.inl ⟨by rfl, ?hy107⟩) (by assumption) ?rest107
    case hy107 => (intro w hSw; (try dsimp only at hSw); go_simp; try with_reducible rfl)
    try simp only [Act.put, List.setIfInBounds_toArray, List.set_cons_zero, List.set_cons_succ]
    refine wpAnyH_take (i := 7) (oi := _) (v := ?v108) (by simp only [List.getElem?_toArray, List.getElem?_cons_succ, List.getElem?_cons_zero]; rfl) (by kernel_rfl) (by kernel_rfl) (by kernel_rfl) (by exact fun _ _ _ h => h) (Or.inl ⟨by rfl, ?hy108⟩) (by assumption) ?rest108
    case hy108 => (intro w hSw; (try dsimp only at hSw); go_simp; try with_reducible rfl)
    try simp only [Act.put, List.setIfInBounds_toArray, List.set_cons_zero, List.set_cons_succ]
    refine wpAnyH_take (i := 8) (oi := _) (v := ?v109) (by simp only [List.getElem?_toArray, List.getElem?_cons_succ, List.getElem?_cons_zero]; rfl) (by kernel_rfl) (by kernel_rfl) (by kernel_rfl) (by exact fun _ _ _ h => h) (Or.inl ⟨by rfl, ?hy109⟩) (by assumption) ?rest109
    case hy109 => (intro w hSw; (try dsimp only at hSw); go_simp; try with_reducible rfl)
    try simp only [Act.put, List.setIfInBounds_toArray, List.set_cons_zero, List.set_cons_succ]
    refine wpAnyH_take (i := 9) (oi := _) (v := ?v110) (by simp only [List.getElem?_toArray, List.getElem?_cons_succ, List.getElem?_cons_zero]; rfl) (by kernel_rfl) (by kernel_rfl) (by kernel_rfl) (by exact fun _ _ _ h => h) (Or.inl ⟨by rfl, ?hy110⟩) (by assumption) ?rest110
    case hy110 => (intro w hSw; (try dsimp only at hSw); go_simp; try with_reducible rfl)
    try simp only [Act.put, List.setIfInBounds_toArray, List.set_cons_zero, List.set_cons_succ]
    refine wpAnyH_take (i := 10) (oi := _) (v := ?v111) (by simp only [List.getElem?_toArray, List.getElem?_cons_succ, List.getElem?_cons_zero]; rfl) (by kernel_rfl) (by kernel_rfl) (by kernel_rfl) (by exact fun _ _ _ h => h) (Or.inl ⟨by rfl, ?hy111⟩) (by assumption) ?rest111
    case hy111 => (intro w hSw; (try dsimp only at hSw); go_simp; try with_reducible rfl)
    try simp only [Act.put, List.setIfInBounds_toArray, List.set_cons_zero, List.set_cons_succ]
    refine wpAnyH_take (i := 11) (oi := _) (v := ?v112) (by simp only [List.getElem?_toArray, List.getElem?_cons_succ, List.getElem?_cons_zero]; rfl) (by kernel_rfl) (by kernel_rfl) (by kernel_rfl) (by exact fun _ _ _ h => h) (Or.inl ⟨by rfl, ?hy112⟩) (by assumption) ?rest112
    case hy112 => (intro w hSw; (try dsimp only at hSw); go_simp; try with_reducible rfl)
    try simp only [Act.put, List.setIfInBounds_toArray, List.set_cons_zero, List.set_cons_succ]
    refine wpAnyH_take (i := 12) (oi := _) (v := ?v113) (by simp only [List.getElem?_toArray, List.getElem?_cons_succ, List.getElem?_cons_zero]; rfl) (by kernel_rfl) (by kernel_rfl) (by kernel_rfl) (by exact fun _ _ _ h => h) (Or.inl ⟨by rfl, ?hy113⟩) (by assumption) ?rest113
    case hy113 => (intro w hSw; (try dsimp only at hSw); go_simp; try with_reducible rfl)
    try simp only [Act.put, List.setIfInBounds_toArray, List.set_cons_zero, List.set_cons_succ]
    refine wpAnyH_take (i := 13) (oi := _) (v := ?v114) (by simp only [List.getElem?_toArray, List.getElem?_cons_succ, List.getElem?_cons_zero]; rfl) (by kernel_rfl) (by kernel_rfl) (by kernel_rfl) (by exact fun _ _ _ h => h) (Or.inl ⟨by rfl, ?hy114⟩) (by assumption) ?rest114
    case hy114 => (intro w hSw; (try dsimp only at hSw); go_simp; try with_reducible rfl)
    try simp only [Act.put, List.setIfInBounds_toArray, List.set_cons_zero, List.set_cons_succ]
    refine wpAnyH_take (i := 14) (oi := _) (v := ?v115) (by simp only [List.getElem?_toArray, List.getElem?_cons_succ, List.getElem?_cons_zero]; rfl) (by kernel_rfl) (by kernel_rfl) (by kernel_rfl) (by exact fun _ _ _ h => h) (Or.inl ⟨by rfl, ?hy115⟩) (by assumption) ?rest115
    case hy115 => (intro w hSw; (try dsimp only at hSw); go_simp; try with_reducible rfl)
    try simp only [Act.put, List.setIfInBounds_toArray, List.set_cons_zero, List.set_cons_succ]
    refine wpAnyH_take (i := 15) (oi := _) (v := ?v116) (by simp only [List.getElem?_toArray, List.getElem?_cons_succ, List.getElem?_cons_zero]; rfl) (by kernel_rfl) (by kernel_rfl) (by kernel_rfl) (by exact fun _ _ _ h => h) (Or.inl ⟨by rfl, ?hy116⟩) (by assumption) ?rest116
    case hy116 => (intro w hSw; (try dsimp only at hSw); go_simp; try with_reducible rfl)
    try simp only [Act.put, List.setIfInBounds_toArray, List.set_cons_zero, List.set_cons_succ]
    refine wpAnyH_take (i := 16) (oi := _) (v := ?v117) (by simp only [List.getElem?_toArray, List.getElem?_cons_succ, List.getElem?_cons_zero]; rfl) (by kernel_rfl) (by kernel_rfl) (by kernel_rfl) (by exact fun _ _ _ h => h) (Or.inl ⟨by rfl, ?hy117⟩) (by assumption) ?rest117
    case hy117 => (intro w hSw; (try dsimp only at hSw); go_simp; try with_reducible rfl)
    try simp only [Act.put, List.setIfInBounds_toArray, List.set_cons_zero, List.set_cons_succ]
    refine wpAnyH_take (i := 17) (oi := _) (v := ?v118) (by simp only [List.getElem?_toArray, List.getElem?_cons_succ, List.getElem?_cons_zero]; rfl) (by kernel_rfl) (by kernel_rfl) (by kernel_rfl) (by exact fun _ _ _ h => h) (Or.inl ⟨by rfl, ?hy118⟩) (by assumption) ?rest118
    case hy118 => (intro w hSw; (try dsimp only at hSw); go_simp; try with_reducible rfl)
    try simp only [Act.put, List.setIfInBounds_toArray, List.set_cons_zero, List.set_cons_succ]
    refine wpAnyH_take (i := 18) (oi := _) (v := ?v119) (by simp only [List.getElem?_toArray, List.getElem?_cons_succ, List.getElem?_cons_zero]; rfl) (by kernel_rfl) (by kernel_rfl) (by kernel_rfl) (by exact fun _ _ _ h => h) (Or.inl ⟨by rfl, ?hy119⟩) (by assumption) ?rest119
    case hy119 => (intro w hSw; (try dsimp only at hSw); go_simp; try with_reducible rfl)
    try simp only [Act.put, List.setIfInBounds_toArray, List.set_cons_zero, List.set_cons_succ]
    refine wpAnyH_take (i := 19) (oi := _) (v := ?v120) (by simp only [List.getElem?_toArray, List.getElem?_cons_succ, List.getElem?_cons_zero]; rfl) (by kernel_rfl) (by kernel_rfl) (by kernel_rfl) (by exact fun _ _ _ h => h) (Or.inl ⟨by rfl, ?hy120⟩) (by assumption) ?rest120
    case hy120 => (intro w hSw; (try dsimp only at hSw); go_simp; try with_reducible rfl)
    try simp only [Act.put, List.setIfInBounds_toArray, List.set_cons_zero, List.set_cons_succ]
    refine wpAnyH_take (i := 20) (oi := _) (v := ?v121) (by simp only [List.getElem?_toArray, List.getElem?_cons_succ, List.getElem?_cons_zero]; rfl) (by kernel_rfl) (by kernel_rfl) (by kernel_rfl) (by exact fun _ _ _ h => h) (Or.inl ⟨by rfl, ?hy121⟩) (by assumption) ?rest121
    case hy121 => (intro w hSw; (try dsimp only at hSw); go_simp; try with_reducible rfl)
    try simp only [Act.put, List.setIfInBounds_toArray, List.set_cons_zero, List.set_cons_succ]
    refine wpAnyH_take (i := 21) (oi := _) (v := ?v122) (by simp only [List.getElem?_toArray, List.getElem?_cons_succ, List.getElem?_cons_zero]; rfl) (by kernel_rfl) (by kernel_rfl) (by kernel_rfl) (by exact fun _ _ _ h => h) (Or.inl ⟨by rfl, ?hy122⟩) (by assumption) ?rest122
    case hy122 => (intro w hSw; (try dsimp only at hSw); go_simp; try with_reducible rfl)
    try simp only [Act.put, List.setIfInBounds_toArray, List.set_cons_zero, List.set_cons_succ]
    refine wpAnyH_take (i := 22) (oi := _) (v := ?v123) (by simp only [List.getElem?_toArray, List.getElem?_cons_succ, List.getElem?_cons_zero]; rfl) (by kernel_rfl) (by kernel_rfl) (by kernel_rfl) (by exact fun _ _ _ h => h) (Or.inl ⟨by rfl, ?hy123⟩) (by assumption) ?rest123
    case hy123 => (intro w hSw; (try dsimp only at hSw); go_simp; try with_reducible rfl)
    try simp only [Act.put, List.setIfInBounds_toArray, List.set_cons_zero, List.set_cons_succ]
    refine wpAnyH_take (i := 23) (oi := _) (v := ?v124) (by simp only [List.getElem?_toArray, List.getElem?_cons_succ, List.getElem?_cons_zero]; rfl) (by kernel_rfl) (by kernel_rfl) (by kernel_rfl) (by exact fun _ _ _ h => h) (Or.inl ⟨by rfl, ?hy124⟩) (by assumption) ?rest124
    case hy124 => (intro w hSw; (try dsimp only at hSw); go_simp; try with_reducible rfl)
    try simp only [Act.put, List.setIfInBounds_toArray, List.set_cons_zero, List.set_cons_succ]
    refine wpAnyH_take (i := 24) (oi := _) (v := ?v125) (by simp only [List.getElem?_toArray, List.getElem?_cons_succ, List.getElem?_cons_zero]; rfl) (by kernel_rfl) (by kernel_rfl) (by kernel_rfl) (by exact fun _ _ _ h => h) (Or.inl ⟨by rfl, ?hy125⟩) (by assumption) ?rest125
    case hy125 => (intro w hSw; (try dsimp only at hSw); go_simp; try with_reducible rfl)
    try simp only [Act.put, List.setIfInBounds_toArray, List.set_cons_zero, List.set_cons_succ]
    refine wpAnyH_take (i := 25) (oi := _) (v := ?v126) (by simp only [List.getElem?_toArray, List.getElem?_cons_succ, List.getElem?_cons_zero]; rfl) (by kernel_rfl) (by kernel_rfl) (by kernel_rfl) (by exact fun _ _ _ h => h) (Or.inl ⟨by rfl, ?hy126⟩) (by assumption) ?rest126
    case hy126 => (intro w hSw; (try dsimp only at hSw); go_simp; try with_reducible rfl)
    try simp only [Act.put, List.setIfInBounds_toArray, List.set_cons_zero, List.set_cons_succ]
    refine wpAnyH_done (by kernel_rfl) ?_ _
    all_goals
      go_wp2
      go_ret
      exact ⟨ret_bool (by simp), B9.out⟩
end Go.Proofs.YtdflghphjhejdaaDoor
