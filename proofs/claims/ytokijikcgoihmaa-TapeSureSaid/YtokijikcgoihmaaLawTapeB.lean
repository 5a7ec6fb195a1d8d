/- Layer 10's law TapeBurns, out of what the code's tape does (wip/gen/gburns.py has written it). -/
import Derived.Test.YtokijikcgoihmaaTapeTwo
namespace Go.Proofs.Ytokijikcgoihmaa
open Go.RowKit
set_option linter.unusedVariables false
set_option linter.unusedSimpArgs false

theorem b_write (l : List UInt8) (h : 1 ≤ l.length) (f : Nat) (hf : l.length ≤ f) (hf1 : 1 ≤ f) : (TP.new.setFuse f).write l = (⟨l, 0, (f : Int) - l.length, false⟩, 0) := by
  have e1 : ¬ ((f : Int) < 0) := by omega
  have e2 : (TP.new.setFuse f) = ⟨[], 0, f, false⟩ := by unfold TP.setFuse TP.new; rw [if_neg e1]
  have e3 : (TP.mk [] 0 (f : Int) false).left l.length = l.length := by
    unfold TP.left; rw [if_neg (by simp), if_pos (.inr (by show (l.length : Int) ≤ (f : Int); omega))]
  rw [e2]
  unfold TP.write
  rw [e3]
  unfold TP.use
  rw [if_neg (by simp), if_neg (by omega), if_pos (by show (0 : Int) < (f : Int); omega)]
  simp
theorem b_sync1 (l : List UInt8) : (TP.mk l 0 1 false).sync = (⟨l, l.length, 0, false⟩, 0) := by
  have e : (TP.mk l 0 1 false).left 1 = 1 := by unfold TP.left; simp
  unfold TP.sync
  rw [e]
  simp [TP.use]
theorem b_sync0 (l : List UInt8) : (TP.mk l 0 0 false).sync = (⟨l, 0, 0, true⟩, 8) := by
  have e : (TP.mk l 0 0 false).left 1 = 0 := by unfold TP.left; simp
  unfold TP.sync
  rw [e]
  simp [TP.use]
theorem b_swap1 (l : List UInt8) : (TP.new.setFuse ((l.length : Int) + 1)).swap l = (⟨l, l.length, 0, false⟩, 0) := by
  have e1 : ¬ ((l.length : Int) + 1 < 0) := by omega
  have e2 : (TP.new.setFuse ((l.length : Int) + 1)) = ⟨[], 0, (l.length : Int) + 1, false⟩ := by unfold TP.setFuse TP.new; rw [if_neg e1]
  have e3 : (TP.mk [] 0 ((l.length : Int) + 1) false).left (l.length + 1) = l.length + 1 := by
    unfold TP.left; rw [if_neg (by simp), if_pos (.inr (by show ((l.length + 1 : Nat) : Int) ≤ (l.length : Int) + 1; omega))]
  rw [e2]
  unfold TP.swap
  rw [e3]
  have e4 : (TP.mk [] 0 ((l.length : Int) + 1) false).use (l.length + 1) (l.length + 1) = (⟨[], 0, 0, false⟩, 0) := by
    unfold TP.use
    rw [if_neg (by simp), if_neg (by omega), if_pos (by show (0 : Int) < (l.length : Int) + 1; omega)]
    have : ((l.length : Int) + 1 - ((l.length + 1 : Nat) : Int)) = 0 := by omega
    simp only [this]
  rw [e4]
  rfl
theorem b_swap0 (l : List UInt8) (h : 1 ≤ l.length) : (TP.new.setFuse (l.length : Int)).swap l = (⟨[], 0, 0, true⟩, 8) := by
  have e1 : ¬ ((l.length : Int) < 0) := by omega
  have e2 : (TP.new.setFuse (l.length : Int)) = ⟨[], 0, (l.length : Int), false⟩ := by unfold TP.setFuse TP.new; rw [if_neg e1]
  have e3 : (TP.mk [] 0 (l.length : Int) false).left (l.length + 1) = l.length := by
    unfold TP.left; rw [if_neg (by simp), if_neg (by show ¬ ((l.length : Int) < 0 ∨ ((l.length + 1 : Nat) : Int) ≤ (l.length : Int)); omega)]; simp
  rw [e2]
  unfold TP.swap
  rw [e3]
  have e4 : (TP.mk [] 0 (l.length : Int) false).use l.length (l.length + 1) = (⟨[], 0, 0, true⟩, 8) := by
    unfold TP.use
    rw [if_neg (by simp), if_pos (by omega)]
  rw [e4]
  rfl
theorem b_down (b l : List UInt8) : (TP.mk b 0 0 true).write l = (⟨b, 0, 0, true⟩, 8) := by
  have e : (TP.mk b 0 0 true).left l.length = 0 := by unfold TP.left; simp
  unfold TP.write
  rw [e]
  simp [TP.use]
theorem b_crash (b : List UInt8) : (TP.mk b 0 0 true).crash 0 = ⟨[], 0, -1, false⟩ := by
  have e : (TP.mk b 0 0 true).kept 0 = 0 := by
    unfold TP.kept
    rw [if_neg (by decide), if_neg (by show ¬ (((b.length - 0 : Nat) : Int) < 0); omega)]; rfl
  unfold TP.crash
  rw [e]; simp
theorem b_last (l : List UInt8) : ((TP.mk [] 0 (-1) false).write l).2 = 0 := by
  have e : (TP.mk [] 0 (-1) false).left l.length = l.length := by unfold TP.left; simp
  unfold TP.write
  rw [e]
  simp [TP.use]
set_option maxRecDepth 100000 in
set_option maxHeartbeats 16000000 in
theorem tapeBurns_at {CT : World → (Nat → Prop) → Nat → TP → Prop} (H : CodeTape CT) (bv : Value) (l : List UInt8) (x : Int) (hx : (Lit.int .u8 x).wf = true) (w : World) (hb : RdAt w bv l) :
    Calls Try.prog 6 #[bv, .int .u8 x] w fun e w' => e = .returned (.bool true) ∧ Below w.heap.size w w' := by
  have h8 := Lib.hid (fun W => answers10_any H W)
  have K := H.kept
  obtain ⟨c0, rfl⟩ := byte_ex hx
  have hrd := fun W (hbw : Below w.heap.size w W) => hb.below hbw
  have hown : ∀ g, bv.ownBlock = some g → g < w.heap.size := fun g hg => hb.lt hg
  obtain ⟨A, c, hbv, -⟩ := hb.news
  obtain ⟨n, hn⟩ : ∃ n, l.length = n := ⟨_, rfl⟩
  rw [hn] at hbv
  by_cases h0 : n = 0
  · have d1 : ((n : Int) == 0) = true := by simp [h0]
    subst hbv
    clear hrd hown hb hn h0 H K hx
    go_enter Try.func6, Try.ntmps6
    go_wp2_with fail
    refine (h8.out _).mono ?_
    rintro e w1 ⟨rfl, hb1⟩
    have B1 := Lib.hid hb1; clear hb1
    dsimp only
    go_wp2
    go_ret
    exact ⟨rfl, B1.out⟩
  have d1 : ((n : Int) == 0) = false := by simp [h0]
  by_cases h2 : 200 < n
  · have d2 : decide ((200 : Int) < n) = true := by simp; omega
    subst hbv
    clear hrd hown hb hn h0 h2 H K hx
    go_enter Try.func6, Try.ntmps6
    go_wp2_with fail
    refine (h8.out _).mono ?_
    rintro e w1 ⟨rfl, hb1⟩
    have B1 := Lib.hid hb1; clear hb1
    dsimp only
    go_wp2
    go_ret
    exact ⟨rfl, B1.out⟩
  have d2 : decide ((200 : Int) < n) = false := by simp; omega
  -- the calls, each for both tapes
  have hok : ∀ t : TP, t.sure ≤ t.b.length → (-1 ≤ t.fuse ∧ t.fuse ≤ 9223372036854775807) → t.Ok := fun t a b => ⟨a, b⟩
  have cfF := fun (W : World) (p q : Nat) (t u : TP) (z : Int) (hz : (Lit.int .i64 z).wf = true) (tw : Two CT CT w W p q t u) => tw.fst K K (t' := t.setFuse z) (fun S h _ => H.fuse W S p t z h hz)
  have cfS := fun (W : World) (p q : Nat) (t u : TP) (z : Int) (hz : (Lit.int .i64 z).wf = true) (tw : Two CT CT w W p q t u) => tw.snd K K (u' := u.setFuse z) (fun S h _ => H.fuse W S q u z h hz)
  have cwF := fun (W : World) (p q : Nat) (t u : TP) (ht : t.Ok) (hl : t.b.length ≤ 1000) (tw : Two CT CT w W p q t u) => tw.fst K K (t' := (t.write l).1) (fun S h hB => H.write W S p t bv l h ht (by omega) (hrd W tw.low) (by omega) (fun g hg hs => by have := hown g hg; have := hB g hs; omega))
  have cwS := fun (W : World) (p q : Nat) (t u : TP) (ht : u.Ok) (hl : u.b.length ≤ 1000) (tw : Two CT CT w W p q t u) => tw.snd K K (u' := (u.write l).1) (fun S h hB => H.write W S q u bv l h ht (by omega) (hrd W tw.low) (by omega) (fun g hg hs => by have := hown g hg; have := hB g hs; omega))
  have cpF := fun (W : World) (p q : Nat) (t u : TP) (ht : t.Ok) (hl : t.b.length ≤ 1000) (tw : Two CT CT w W p q t u) => tw.fst K K (t' := (t.swap l).1) (fun S h hB => H.swap W S p t bv l h ht (by omega) (hrd W tw.low) (by omega) (fun g hg hs => by have := hown g hg; have := hB g hs; omega))
  have cpS := fun (W : World) (p q : Nat) (t u : TP) (ht : u.Ok) (hl : u.b.length ≤ 1000) (tw : Two CT CT w W p q t u) => tw.snd K K (u' := (u.swap l).1) (fun S h hB => H.swap W S q u bv l h ht (by omega) (hrd W tw.low) (by omega) (fun g hg hs => by have := hown g hg; have := hB g hs; omega))
  have cyF := fun (W : World) (p q : Nat) (t u : TP) (ht : t.Ok) (hl : t.b.length ≤ 1000) (tw : Two CT CT w W p q t u) => tw.fst K K (t' := t.sync.1) (fun S h hB => H.sync W S p t h ht (by omega))
  have cyS := fun (W : World) (p q : Nat) (t u : TP) (ht : u.Ok) (hl : u.b.length ≤ 1000) (tw : Two CT CT w W p q t u) => tw.snd K K (u' := u.sync.1) (fun S h hB => H.sync W S q u h ht (by omega))
  have ccS := fun (W : World) (p q : Nat) (t u : TP) (z : Int) (hz : (Lit.int .i64 z).wf = true) (ht : u.Ok) (hl : u.b.length ≤ 1000) (tw : Two CT CT w W p q t u) => tw.snd K K (u' := u.crash z) (fun S h hB => H.crash W S q u z h ht (by omega) hz)
  have csF := fun (W : World) (p q : Nat) (t u : TP) (tw : Two CT CT w W p q t u) => show Calls Try.prog 20 #[.pointer (some ⟨p, 0, none⟩)] W fun e w' => e = .returned (.int .i64 t.sure) ∧ Two CT CT w w' p q t u by
    obtain ⟨S, X, a1, a2, a3, a4, a5, a6⟩ := tw
    exact (H.sure W S p t a1).mono fun e w' ⟨he, hb⟩ => ⟨he, Two.later K K ⟨S, X, a1, a2, a3, a4, a5, a6⟩ hb⟩
  have cbS := fun (W : World) (p q : Nat) (t u : TP) (hl : u.b.length ≤ 1000) (tw : Two CT CT w W p q t u) => show Calls Try.prog 19 #[.pointer (some ⟨q, 0, none⟩)] W fun e w' => (∃ A c, e = .returned (.slice A u.b.length c)) ∧ Two CT CT w w' p q t u by
    obtain ⟨S, X, a1, a2, a3, a4, a5, a6⟩ := tw
    exact (H.bytes W X q u a2 (by omega)).mono fun e w' ⟨⟨A, c, he, _⟩, hb⟩ => ⟨⟨A, c, he⟩, Two.later K K ⟨S, X, a1, a2, a3, a4, a5, a6⟩ hb⟩
  have hans := fun (W : World) (p q : Nat) (t u : TP) (tw : Two CT CT w W p q t u) => (h8.out W).mono (R' := fun e w' => e = .returned (.bool true) ∧ Two CT CT w w' p q t u) fun e w' ⟨he, hb⟩ => ⟨he, tw.later K K hb⟩
  have hnew := Lib.hid H.new
  have hK := Lib.hid K
  have w1 := b_write l (by omega) (n + 1) (by omega) (by omega)
  have w0 := b_write l (by omega) n (by omega) (by omega)
  have z1 : ((n + 1 : Nat) : Int) - l.length = 1 := by omega
  have z0 : ((n : Nat) : Int) - l.length = 0 := by omega
  rw [z1] at w1
  rw [z0] at w0
  have zc : ((n + 1 : Nat) : Int) = (n : Int) + 1 := by omega
  rw [zc] at w1
  have s1 := b_sync1 l
  have s0 := b_sync0 l
  have p1 := b_swap1 l
  have p0 := b_swap0 l (by omega)
  have dl := b_down l l
  have de := b_down [] l
  have kl := b_crash l
  have ke := b_crash []
  have lw := b_last l
  rw [hn] at s1 p1 p0
  have hl1000 : l.length ≤ 1000 := by omega
  have wf1 : (Lit.int .i64 ((n : Int) + 1)).wf = true := by simp [Lit.wf, IntKind.min, IntKind.max, IntKind.signed, IntKind.bits]; omega
  have wf0 : (Lit.int .i64 (n : Int)).wf = true := by simp [Lit.wf, IntKind.min, IntKind.max, IntKind.signed, IntKind.bits]; omega
  have fz : ∀ z : Int, 0 ≤ z → TP.new.setFuse z = ⟨[], 0, z, false⟩ := fun z hz => by unfold TP.setFuse TP.new; rw [if_neg (by omega)]
  have hw2 : IntKind.i64.wrap ((n : Int) + 1) = (n : Int) + 1 := by rw [IntKind.wrap_i64]; omega
  have hw3 : IntKind.i64.wrap ((n : Int) + 1 - 1) = (n : Int) := by rw [IntKind.wrap_i64]; omega
  have hw4 : IntKind.i64.wrap (n : Int) = (n : Int) := by rw [IntKind.wrap_i64]; omega
  have okf : ∀ z : Int, 0 ≤ z → z ≤ 100000 → (TP.mk [] 0 z false).Ok := fun z a b => ⟨Nat.le_refl _, by show (-1 : Int) ≤ z; omega, by show z ≤ 9223372036854775807; omega⟩
  rw [fz _ (by omega)] at w1 w0 p1 p0
  have HFF := Lib.hid (fun W p q tw => cfF W p q TP.new TP.new _ wf1 tw)
  have HFS := Lib.hid (fun W p q t tw => cfS W p q t TP.new _ wf0 tw)
  have HW1 := Lib.hid (fun W p q u tw => cwF W p q ⟨[], 0, (n : Int) + 1, false⟩ u (okf _ (by omega) (by omega)) (by simp) tw)
  have HW0 := Lib.hid (fun W p q t tw => cwS W p q t ⟨[], 0, (n : Int), false⟩ (okf _ (by omega) (by omega)) (by simp) tw)
  have HP1 := Lib.hid (fun W p q u tw => cpF W p q ⟨[], 0, (n : Int) + 1, false⟩ u (okf _ (by omega) (by omega)) (by simp) tw)
  have HP0 := Lib.hid (fun W p q t tw => cpS W p q t ⟨[], 0, (n : Int), false⟩ (okf _ (by omega) (by omega)) (by simp) tw)
  have HY1 := Lib.hid (fun W p q u tw => cyF W p q ⟨l, 0, 1, false⟩ u ⟨Nat.zero_le _, by show (-1 : Int) ≤ 1; decide, by show (1 : Int) ≤ _; decide⟩ hl1000 tw)
  have HY0 := Lib.hid (fun W p q t tw => cyS W p q t ⟨l, 0, 0, false⟩ ⟨Nat.zero_le _, by show (-1 : Int) ≤ 0; decide, by show (0 : Int) ≤ _; decide⟩ hl1000 tw)
  have HD := Lib.hid (fun W p q t (b : List UInt8) (hbl : b.length ≤ 1000) tw => cwS W p q t ⟨b, 0, 0, true⟩ ⟨Nat.zero_le _, by show (-1 : Int) ≤ 0; decide, by show (0 : Int) ≤ _; decide⟩ hbl tw)
  have HC := Lib.hid (fun W p q t (b : List UInt8) (hbl : b.length ≤ 1000) tw => ccS W p q t ⟨b, 0, 0, true⟩ 0 (by decide) ⟨Nat.zero_le _, by show (-1 : Int) ≤ 0; decide, by show (0 : Int) ≤ _; decide⟩ hbl tw)
  have HL := Lib.hid (fun W p q t tw => cwS W p q t ⟨[], 0, -1, false⟩ ⟨Nat.le_refl _, by show (-1 : Int) ≤ -1; decide, by show (-1 : Int) ≤ _; decide⟩ (by simp) tw)
  have HS := Lib.hid csF; have HB := Lib.hid cbS; have HAN := Lib.hid hans
  have HFZ := Lib.hid fz; have Hw1 := Lib.hid w1; have Hw0 := Lib.hid w0; have Hs1 := Lib.hid s1; have Hs0 := Lib.hid s0; have Hp1 := Lib.hid p1; have Hp0 := Lib.hid p0; have Hdl := Lib.hid dl; have Hde := Lib.hid de; have Hkl := Lib.hid kl; have Hke := Lib.hid ke; have Hlw := Lib.hid lw; have HLL := Lib.hid hl1000
  clear hok cfF cfS cwF cwS cpF cpS cyF cyS ccS csF cbS hans w1 w0 z1 z0 zc s1 s0 p1 p0 dl de kl ke lw hl1000 wf1 wf0 fz okf hrd hown hn h0 h2 hx hb K H
  subst hbv
  by_cases hev : c0.toNat % 2 = 0
  · have d3 : (((c0.toNat : Int) % 2) == 0) = true := by simp; omega
    have d4 : (c0.toNat : Int) % 2 = 0 := by omega
    clear hev
    go_enter Try.func6, Try.ntmps6
    go_wp2_with fail
    refine (hnew.out _).mono ?_
    rintro e x1 ⟨⟨p, S, rfl, ct1, hS1⟩, hb1⟩
    have CT1 := Lib.hid ct1; have HS1 := Lib.hid hS1; have HB1 := Lib.hid hb1
    clear ct1 hS1 hb1
    dsimp only
    go_wp2_with fail
    refine (hnew.out _).mono ?_
    rintro e x2 ⟨⟨q, X, rfl, ct2, hS2⟩, hb2⟩
    have tw0 := Lib.hid (Two.start (CT := CT) (CT' := CT) hK.out CT1.out HS1.out HB1.out ct2 hS2 hb2)
    clear ct2 hS2 hb2 CT1 HS1 HB1
    dsimp only
    go_wp2_with fail
    have c1 := HFF.out _ _ _ tw0.out
    rw [HFZ.out _ (by omega)] at c1
    have C1 := Lib.hid c1; clear c1
    with_reducible refine C1.out.mono ?_
    rintro e y1 ⟨rfl, t1⟩
    have tw1 := Lib.hid t1; clear t1 C1
    dsimp only
    go_wp2_with fail
    have c2 := HFS.out _ _ _ _ tw1.out
    rw [HFZ.out _ (by omega)] at c2
    have C2 := Lib.hid c2; clear c2
    with_reducible refine C2.out.mono ?_
    rintro e y2 ⟨rfl, t2⟩
    have tw2 := Lib.hid t2; clear t2 C2
    dsimp only
    go_wp2_with fail
    have c3 := HW1.out _ _ _ _ tw2.out
    rw [Hw1.out] at c3
    have C3 := Lib.hid c3; clear c3
    with_reducible refine C3.out.mono ?_
    rintro e y3 ⟨rfl, t3⟩
    have tw3 := Lib.hid t3; clear t3 C3
    dsimp only
    go_wp2_with fail
    have c4 := HW0.out _ _ _ _ tw3.out
    rw [Hw0.out] at c4
    have C4 := Lib.hid c4; clear c4
    with_reducible refine C4.out.mono ?_
    rintro e y4 ⟨rfl, t4⟩
    have tw4 := Lib.hid t4; clear t4 C4
    dsimp only
    go_wp2_with fail
    have c5 := HY1.out _ _ _ _ tw4.out
    rw [Hs1.out] at c5
    have C5 := Lib.hid c5; clear c5
    with_reducible refine C5.out.mono ?_
    rintro e y5 ⟨rfl, t5⟩
    have tw5 := Lib.hid t5; clear t5 C5
    dsimp only
    go_wp2_with fail
    have c6 := HY0.out _ _ _ _ tw5.out
    rw [Hs0.out] at c6
    have C6 := Lib.hid c6; clear c6
    with_reducible refine C6.out.mono ?_
    rintro e y6 ⟨rfl, t6⟩
    have tw6 := Lib.hid t6; clear t6 C6
    dsimp only
    go_wp2_with fail
    have c7 := HD.out _ _ _ _ l HLL.out tw6.out
    rw [Hdl.out] at c7
    have C7 := Lib.hid c7; clear c7
    with_reducible refine C7.out.mono ?_
    rintro e y7 ⟨rfl, t7⟩
    have tw7 := Lib.hid t7; clear t7 C7
    dsimp only
    go_wp2_with fail
    have c8 := HC.out _ _ _ _ l HLL.out tw7.out
    rw [Hkl.out] at c8
    have C8 := Lib.hid c8; clear c8
    with_reducible refine C8.out.mono ?_
    rintro e y8 ⟨rfl, t8⟩
    have tw8 := Lib.hid t8; clear t8 C8
    dsimp only
    go_wp2_with fail
    have c9 := HAN.out _ _ _ _ _ tw8.out
    have C9 := Lib.hid c9; clear c9
    with_reducible refine C9.out.mono ?_
    rintro e y9 ⟨rfl, t9⟩
    have tw9 := Lib.hid t9; clear t9 C9
    dsimp only
    go_wp2_with fail
    have c10 := HS.out _ _ _ _ _ tw9.out
    have C10 := Lib.hid c10; clear c10
    with_reducible refine C10.out.mono ?_
    rintro e y10 ⟨rfl, t10⟩
    have tw10 := Lib.hid t10; clear t10 C10
    dsimp only
    go_wp2_with fail
    have c11 := HB.out _ _ _ _ _ (by simp) tw10.out
    have C11 := Lib.hid c11; clear c11
    with_reducible refine C11.out.mono ?_
    rintro e y11 ⟨⟨A9, c9, rfl⟩, t11⟩
    have tw11 := Lib.hid t11; clear t11 C11
    dsimp only
    go_wp2_with fail
    have c12 := HL.out _ _ _ _ tw11.out
    rw [Hlw.out] at c12
    have C12 := Lib.hid c12; clear c12
    with_reducible refine C12.out.mono ?_
    rintro e y12 ⟨rfl, t12⟩
    have tw12 := Lib.hid t12; clear t12 C12
    dsimp only
    go_wp2
    go_ret
    exact ⟨rfl, tw12.out.low⟩
  · have d3 : (((c0.toNat : Int) % 2) == 0) = false := by simp; omega
    have d4 : (c0.toNat : Int) % 2 = 1 := by omega
    clear hev
    go_enter Try.func6, Try.ntmps6
    go_wp2_with fail
    refine (hnew.out _).mono ?_
    rintro e x1 ⟨⟨p, S, rfl, ct1, hS1⟩, hb1⟩
    have CT1 := Lib.hid ct1; have HS1 := Lib.hid hS1; have HB1 := Lib.hid hb1
    clear ct1 hS1 hb1
    dsimp only
    go_wp2_with fail
    refine (hnew.out _).mono ?_
    rintro e x2 ⟨⟨q, X, rfl, ct2, hS2⟩, hb2⟩
    have tw0 := Lib.hid (Two.start (CT := CT) (CT' := CT) hK.out CT1.out HS1.out HB1.out ct2 hS2 hb2)
    clear ct2 hS2 hb2 CT1 HS1 HB1
    dsimp only
    go_wp2_with fail
    have c1 := HFF.out _ _ _ tw0.out
    rw [HFZ.out _ (by omega)] at c1
    have C1 := Lib.hid c1; clear c1
    with_reducible refine C1.out.mono ?_
    rintro e y1 ⟨rfl, t1⟩
    have tw1 := Lib.hid t1; clear t1 C1
    dsimp only
    go_wp2_with fail
    have c2 := HFS.out _ _ _ _ tw1.out
    rw [HFZ.out _ (by omega)] at c2
    have C2 := Lib.hid c2; clear c2
    with_reducible refine C2.out.mono ?_
    rintro e y2 ⟨rfl, t2⟩
    have tw2 := Lib.hid t2; clear t2 C2
    dsimp only
    go_wp2_with fail
    have c3 := HP1.out _ _ _ _ tw2.out
    rw [Hp1.out] at c3
    have C3 := Lib.hid c3; clear c3
    with_reducible refine C3.out.mono ?_
    rintro e y3 ⟨rfl, t3⟩
    have tw3 := Lib.hid t3; clear t3 C3
    dsimp only
    go_wp2_with fail
    have c4 := HP0.out _ _ _ _ tw3.out
    rw [Hp0.out] at c4
    have C4 := Lib.hid c4; clear c4
    with_reducible refine C4.out.mono ?_
    rintro e y4 ⟨rfl, t4⟩
    have tw4 := Lib.hid t4; clear t4 C4
    dsimp only
    go_wp2_with fail
    have c5 := HD.out _ _ _ _ [] (by simp) tw4.out
    rw [Hde.out] at c5
    have C5 := Lib.hid c5; clear c5
    with_reducible refine C5.out.mono ?_
    rintro e y5 ⟨rfl, t5⟩
    have tw5 := Lib.hid t5; clear t5 C5
    dsimp only
    go_wp2_with fail
    have c6 := HC.out _ _ _ _ [] (by simp) tw5.out
    rw [Hke.out] at c6
    have C6 := Lib.hid c6; clear c6
    with_reducible refine C6.out.mono ?_
    rintro e y6 ⟨rfl, t6⟩
    have tw6 := Lib.hid t6; clear t6 C6
    dsimp only
    go_wp2_with fail
    have c7 := HAN.out _ _ _ _ _ tw6.out
    have C7 := Lib.hid c7; clear c7
    with_reducible refine C7.out.mono ?_
    rintro e y7 ⟨rfl, t7⟩
    have tw7 := Lib.hid t7; clear t7 C7
    dsimp only
    go_wp2_with fail
    have c8 := HS.out _ _ _ _ _ tw7.out
    have C8 := Lib.hid c8; clear c8
    with_reducible refine C8.out.mono ?_
    rintro e y8 ⟨rfl, t8⟩
    have tw8 := Lib.hid t8; clear t8 C8
    dsimp only
    go_wp2_with fail
    have c9 := HB.out _ _ _ _ _ (by simp) tw8.out
    have C9 := Lib.hid c9; clear c9
    with_reducible refine C9.out.mono ?_
    rintro e y9 ⟨⟨A9, c9, rfl⟩, t9⟩
    have tw9 := Lib.hid t9; clear t9 C9
    dsimp only
    go_wp2_with fail
    have c10 := HL.out _ _ _ _ tw9.out
    rw [Hlw.out] at c10
    have C10 := Lib.hid c10; clear c10
    with_reducible refine C10.out.mono ?_
    rintro e y10 ⟨rfl, t10⟩
    have tw10 := Lib.hid t10; clear t10 C10
    dsimp only
    go_wp2
    go_ret
    exact ⟨rfl, tw10.out.low⟩
end Go.Proofs.Ytokijikcgoihmaa
