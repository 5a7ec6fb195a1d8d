/- Texts merged by program, in build order: CliAll, RuleSeq, Both, LaidPin, OpenTexty. -/
import Derived.Test.YtiofgepfcacgjaaDoorG11
import Derived.Test.YtiofgepfcacgjaaDoorG10
import Derived.RangeFuncNested
import Derived.RangeFuncBound
import Derived.RangeFuncCalls
import Derived.RangeFuncLeaves
import Derived.RangeFuncBox
import Derived.Lib.LaidTab
import Derived.LaidMore
import Derived.LaidSub
import Derived.OpenShut
import Derived.ProofKit
import Derived.Stop.Joined
import Derived.Stop.LaidErr
import Derived.HandedShaped
import Derived.Shelf.Vars
import Derived.Test.YtiofgepfcacgjaaDoorG01
import Derived.ChangeMaps5
import Derived.SizedLaws
set_option linter.unusedVariables false
set_option linter.unusedSimpArgs false
namespace Go.Proofs.YtiofgepfcacgjaaDoor
open Go.RowKit Go.Shelf
set_option linter.unusedVariables false
set_option linter.unusedSimpArgs false

/-- whether all up to n are good -/
def allB (n : Nat) (q : Nat → Bool) : Bool := !hitB n (fun k => !q k)
theorem allB_iff {n : Nat} {q : Nat → Bool} : allB n q = true ↔ ∀ k, k < n → q k = true := by
  unfold allB
  constructor
  · intro h k hk
    have h2 : hitB n (fun k => !q k) = false := by simpa using h
    have := hitB_no h2 k hk
    simpa using this
  · intro h
    cases hc : hitB n (fun k => !q k) with
    | false => rfl
    | true =>
      obtain ⟨j, hj, hp⟩ := hitB_yes hc
      rw [h j hj] at hp; cases hp
set_option maxRecDepth 100000 in
set_option maxHeartbeats 2000000 in
theorem textIndex_any (A : Option Addr) (c : Nat) (l : List (List UInt8)) (hl : l.length ≤ 4611686018427387904) (g : Nat) (lb : Array Value) (eg : ∀ args w, (callFunc g args).run Tryd.prog w = .ok (.enter g args) w) (p : Nat → Bool) (B : Nat) (R : Nat → World → Prop) (w : World)
    (hrd : ∀ W, Below B w W → RdT W (.slice A l.length c) l) (h0 : R 0 w) (hB : B ≤ w.heap.size)
    (hf : ∀ k (hk : k < l.length) (W : World), R k W → Below B w W → Calls Tryd.prog g (#[tv l[k]] ++ lb) W fun e W' => e = .returned (.bool (p k)) ∧ R (k + 1) W' ∧ Below B w W') :
    Calls Tryd.prog 71 #[.slice A l.length c, .func (.func g) #[] lb] w fun e w' => (∃ i, e = .returned (.int .i64 i) ∧ HitAt l.length p i) ∧ (∃ k, R k w') ∧ Below B w w' := by
  obtain ⟨n, hn⟩ : ∃ n, l.length = n := ⟨_, rfl⟩
  rw [hn] at hl hrd ⊢
  have HN := Lib.hid hn; have HF := Lib.hid hf; have HP := Lib.hid hrd; have H0 := Lib.hid h0
  clear hn hf hrd h0
  go_enter Tryd.func71, Tryd.ntmps71
  go_wp2
  go_loopw [8] (fun i wr => ∃ k : Nat, k ≤ n ∧ i = .int .i64 k ∧ (∀ j, j < k → p j = false) ∧ R k wr ∧ Below B w wr) (fun i _ => n - (intOf i).toNat)
  case atStart => exact ⟨0, Nat.zero_le _, rfl, fun _ h => absurd h (Nat.not_lt_zero _), H0.out, Below.refl _ _⟩
  case round =>
    obtain ⟨k, hk, rfl, hb, hR, hbw⟩ := hrel
    have HB := Lib.hid hb; have HBW := Lib.hid hbw; have HR := Lib.hid hR
    clear hb
    by_cases hlt : k < n
    · have hkl : k < l.length := by have := HN.out; omega
      obtain ⟨a, o, rfl, hab, h1⟩ := (HP.out wr hbw).at k hkl
      have hc := HF.out k hkl wr hR hbw
      obtain ⟨V0, hV0⟩ : ∃ B : ByteArray, tv l[k] = .string B := ⟨_, rfl⟩
      rw [hV0] at hc h1
      have g1 : p k = true → HitAt n p k := fun e => Or.inl ⟨k, hlt, rfl, e, HB.out⟩
      have g2 : p k = false → ∀ j, j < k + 1 → p j = false := hit_next HB.out
      have HC := Lib.hid hc; have G1 := Lib.hid g1; have G2 := Lib.hid g2
      clear hc g1 g2 hbw hR hV0
      have hk0 : (0 : Int) ≤ k := by omega
      have hk1 : (k : Int) < n := by omega
      go_wp2_with fail
      refine HC.out.mono ?_
      rintro e w1 ⟨rfl, hR1, hb1⟩
      have HR1 := Lib.hid hR1; have HB1 := Lib.hid hb1
      clear hR1 hb1
      cases hp : p k with
      | true =>
        have HE := Lib.hid (G1.out hp); clear hp
        dsimp only
        go_wp2
        go_ret
        exact ⟨⟨_, rfl, HE.out⟩, ⟨_, HR1.out⟩, HB1.out⟩
      | false =>
        have HE := Lib.hid (G2.out hp); clear hp
        dsimp only
        go_wp2
        go_roundw
        case rel => exact ⟨k + 1, by omega, by go_num, HE.out, HR1.out, HB1.out⟩
        case measure => simp [intOf]; omega
    · have hke : k = n := by omega
      subst hke
      go_wp2
      go_ret
      exact ⟨⟨_, rfl, Or.inr ⟨rfl, HB.out⟩⟩, ⟨_, HR.out⟩, HBW.out⟩
set_option maxRecDepth 100000 in
set_option maxHeartbeats 2000000 in
theorem textContains_any (A : Option Addr) (c : Nat) (l : List (List UInt8)) (hl : l.length ≤ 4611686018427387904) (g : Nat) (lb : Array Value) (eg : ∀ args w, (callFunc g args).run Tryd.prog w = .ok (.enter g args) w) (p : Nat → Bool) (B : Nat) (R : Nat → World → Prop) (w : World)
    (hrd : ∀ W, Below B w W → RdT W (.slice A l.length c) l) (h0 : R 0 w) (hB : B ≤ w.heap.size)
    (hf : ∀ k (hk : k < l.length) (W : World), R k W → Below B w W → Calls Tryd.prog g (#[tv l[k]] ++ lb) W fun e W' => e = .returned (.bool (p k)) ∧ R (k + 1) W' ∧ Below B w W') :
    Calls Tryd.prog 63 #[.slice A l.length c, .func (.func g) #[] lb] w fun e w' => e = .returned (.bool (hitB l.length p)) ∧ (∃ k, R k w') ∧ Below B w w' := by
  have hi := textIndex_any A c l hl g lb eg p B R w hrd h0 hB hf
  obtain ⟨n, hn⟩ : ∃ n, l.length = n := ⟨_, rfl⟩
  rw [hn] at hi ⊢
  have HI := Lib.hid hi
  clear hi hn hl hrd h0 hf
  go_enter Tryd.func63, Tryd.ntmps63
  go_wp2_with fail
  refine HI.out.mono ?_
  rintro e w1 ⟨⟨i, rfl, hit⟩, hR, hb⟩
  have hd := hitB_of hit
  have HR := Lib.hid hR; have HB1 := Lib.hid hb; have HD := Lib.hid hd
  clear hR hb hit hd
  dsimp only
  go_wp2
  go_ret
  exact ⟨by rw [← HD.out]; rfl, HR.out, HB1.out⟩
set_option maxRecDepth 100000 in
set_option maxHeartbeats 2000000 in
theorem textBad_any (K : ByteArray) (g : Nat) (eg : ∀ args w, (callFunc g args).run Tryd.prog w = .ok (.enter g args) w) (M : Nat) (q : Bool) (w : World) (hM : w.cell? ⟨M, 0, none⟩ = some (.func (.func g) #[] #[])) (hMl : M < w.heap.size)
    (hg : ∀ W, Below w.heap.size w W → Calls Tryd.prog g #[.string K] W fun e W' => e = .returned (.bool q) ∧ Below W.heap.size W W') :
    Calls Tryd.prog 64 #[.string K, .pointer (some ⟨M, 0, none⟩)] w fun e w' => e = .returned (.bool !q) ∧ Below w.heap.size w w' := by
  have b1 := Below.refl w.heap.size w
  have HG := Lib.hid hg; have HB1 := Lib.hid b1
  clear hg b1
  go_enter Tryd.func64, Tryd.ntmps64
  go_wp2_with fail
  refine (HG.out _ (by first | exact Below.refl _ _ | exact HB1.out)).mono ?_
  rintro e w1 ⟨rfl, hb⟩
  have HB2 := Lib.hid (HB1.out.chain hb)
  clear hb
  dsimp only
  go_wp2
  go_ret
  exact ⟨rfl, HB2.out⟩
set_option maxRecDepth 100000 in
set_option maxHeartbeats 2000000 in
theorem textAll_any (A : Option Addr) (c : Nat) (l : List (List UInt8)) (hl : l.length ≤ 4611686018427387904) (g : Nat) (eg : ∀ args w, (callFunc g args).run Tryd.prog w = .ok (.enter g args) w) (q : Nat → Bool) (w : World)
    (hrd : RdT w (.slice A l.length c) l)
    (hg : ∀ k (hk : k < l.length) (W : World), Below w.heap.size w W → Calls Tryd.prog g #[tv l[k]] W fun e W' => e = .returned (.bool (q k)) ∧ Below W.heap.size W W') :
    Calls Tryd.prog 42 #[.slice A l.length c, .func (.func g) #[] #[]] w fun e w' => e = .returned (.bool (allB l.length q)) ∧ Below w.heap.size w w' := by
  have e2 := enters_of Tryd.func64 (by kernel_rfl) rfl
  obtain ⟨X, hX⟩ : ∃ X, X = w.alloc (.cells #[.func (.func g) #[] #[]] 43) := ⟨_, rfl⟩
  have bX : Below w.heap.size w X := by rw [hX]; exact (Below.refl _ _).alloc (Nat.le_refl _) _
  have zX : X.heap.size = w.heap.size + 1 := by rw [hX]; simp
  have kX : X.cell? ⟨w.heap.size, 0, none⟩ = some (.func (.func g) #[] #[]) := by rw [hX]; exact cell_here (heap_alloc_last w _)
  have hc := textContains_any A c l hl 64 #[.pointer (some ⟨w.heap.size, 0, none⟩)] e2 (fun k => !q k) w.heap.size (fun _ W => Below X.heap.size X W) X
    (fun W hb => hrd.below (bX.trans hb)) (Below.refl _ _) (by omega)
    (fun k hk W hR hb => by
      unfold tv at hg ⊢
      refine (textBad_any ⟨l[k].toArray⟩ g eg w.heap.size (q k) W ((hR.cell (p := ⟨w.heap.size, 0, none⟩) (by show w.heap.size < _; omega)).trans kX) (by have := hR.size; omega) (fun W2 hb2 => ?_)).mono ?_
      · exact hg k hk W2 (bX.trans (hb.trans (hb2.mono (by have := hR.size; omega))))
      · rintro e w2 ⟨rfl, hb2⟩
        exact ⟨rfl, hR.chain hb2, hb.trans (hb2.mono (by have := hR.size; omega))⟩)
  obtain ⟨n, hn⟩ : ∃ n, l.length = n := ⟨_, rfl⟩
  rw [hn] at hc ⊢
  have HC := Lib.hid hc; have HX := Lib.hid hX; have BX := Lib.hid bX
  clear hc hX bX zX kX hn hg hrd hl e2
  go_enter Tryd.func42, Tryd.ntmps42
  go_upto_region 1 with fail
  rw [← HX.out]
  go_wp2_with fail
  refine HC.out.mono ?_
  rintro e w1 ⟨rfl, hR, hb⟩
  have HB1 := Lib.hid (BX.out.trans hb)
  clear hR hb
  dsimp only
  go_wp2
  go_ret
  exact ⟨rfl, HB1.out⟩
set_option maxRecDepth 100000 in
set_option maxHeartbeats 2000000 in
theorem clientContains_any (A : Option Addr) (c : Nat) (l : List CliP) (hl : l.length ≤ 4611686018427387904) (g : Nat) (lb : Array Value) (eg : ∀ args w, (callFunc g args).run Tryd.prog w = .ok (.enter g args) w) (p : Nat → Bool) (B : Nat) (R : Nat → World → Prop) (w : World)
    (hrd : ∀ W, Below B w W → RdCl W (.slice A l.length c) l) (h0 : R 0 w) (hB : B ≤ w.heap.size)
    (hf : ∀ k (hk : k < l.length) (W : World) (u : Value), R k W → Below B w W → RdT W u l[k].cReds → Calls Tryd.prog g (#[.agg #[tv l[k].cID, tv l[k].cSecret, u]] ++ lb) W fun e W' => e = .returned (.bool (p k)) ∧ R (k + 1) W' ∧ Below B w W') :
    Calls Tryd.prog 45 #[.slice A l.length c, .func (.func g) #[] lb] w fun e w' => e = .returned (.bool (hitB l.length p)) ∧ (∃ k, R k w') ∧ Below B w w' := by
  have hi := clientIndex_any A c l hl g lb eg p B R w hrd h0 hB hf
  obtain ⟨n, hn⟩ : ∃ n, l.length = n := ⟨_, rfl⟩
  rw [hn] at hi ⊢
  have HI := Lib.hid hi
  clear hi hn hl hrd h0 hf
  go_enter Tryd.func45, Tryd.ntmps45
  go_wp2_with fail
  refine HI.out.mono ?_
  rintro e w1 ⟨⟨i, rfl, hit⟩, hR, hb⟩
  have hd := hitB_of hit
  have HR := Lib.hid hR; have HB1 := Lib.hid hb; have HD := Lib.hid hd
  clear hR hb hit hd
  dsimp only
  go_wp2
  go_ret
  exact ⟨by rw [← HD.out]; rfl, HR.out, HB1.out⟩
set_option maxRecDepth 100000 in
set_option maxHeartbeats 2000000 in
theorem clientBad_any (K S : ByteArray) (A : Option Addr) (n c : Nat) (g : Nat) (eg : ∀ args w, (callFunc g args).run Tryd.prog w = .ok (.enter g args) w) (M : Nat) (q : Bool) (w : World) (hM : w.cell? ⟨M, 0, none⟩ = some (.func (.func g) #[] #[])) (hMl : M < w.heap.size)
    (hg : ∀ W, Below w.heap.size w W → Calls Tryd.prog g #[.agg #[.string K, .string S, .slice A n c]] W fun e W' => e = .returned (.bool q) ∧ Below W.heap.size W W') :
    Calls Tryd.prog 46 #[.agg #[.string K, .string S, .slice A n c], .pointer (some ⟨M, 0, none⟩)] w fun e w' => e = .returned (.bool !q) ∧ Below w.heap.size w w' := by
  have b1 : Below w.heap.size w (w.alloc (.cells #[.string K, .string S, .slice A n c] 32)) := (Below.refl _ _).alloc (Nat.le_refl _) _
  have HG := Lib.hid hg; have HB1 := Lib.hid b1
  clear hg b1
  go_enter Tryd.func46, Tryd.ntmps46
  go_wp2_with fail
  refine (HG.out _ (by first | exact Below.refl _ _ | exact HB1.out)).mono ?_
  rintro e w1 ⟨rfl, hb⟩
  have HB2 := Lib.hid (HB1.out.chain hb)
  clear hb
  dsimp only
  go_wp2
  go_ret
  exact ⟨rfl, HB2.out⟩
set_option maxRecDepth 100000 in
set_option maxHeartbeats 2000000 in
theorem clientAll_any (A : Option Addr) (c : Nat) (l : List CliP) (hl : l.length ≤ 4611686018427387904) (g : Nat) (eg : ∀ args w, (callFunc g args).run Tryd.prog w = .ok (.enter g args) w) (q : Nat → Bool) (w : World)
    (hrd : RdCl w (.slice A l.length c) l)
    (hg : ∀ k (hk : k < l.length) (W : World) (u : Value), Below w.heap.size w W → RdT W u l[k].cReds → Calls Tryd.prog g #[.agg #[tv l[k].cID, tv l[k].cSecret, u]] W fun e W' => e = .returned (.bool (q k)) ∧ Below W.heap.size W W') :
    Calls Tryd.prog 24 #[.slice A l.length c, .func (.func g) #[] #[]] w fun e w' => e = .returned (.bool (allB l.length q)) ∧ Below w.heap.size w w' := by
  have e2 := enters_of Tryd.func46 (by kernel_rfl) rfl
  obtain ⟨X, hX⟩ : ∃ X, X = w.alloc (.cells #[.func (.func g) #[] #[]] 48) := ⟨_, rfl⟩
  have bX : Below w.heap.size w X := by rw [hX]; exact (Below.refl _ _).alloc (Nat.le_refl _) _
  have zX : X.heap.size = w.heap.size + 1 := by rw [hX]; simp
  have kX : X.cell? ⟨w.heap.size, 0, none⟩ = some (.func (.func g) #[] #[]) := by rw [hX]; exact cell_here (heap_alloc_last w _)
  have hc := clientContains_any A c l hl 46 #[.pointer (some ⟨w.heap.size, 0, none⟩)] e2 (fun k => !q k) w.heap.size (fun _ W => Below X.heap.size X W) X
    (fun W hb => hrd.below (bX.trans hb)) (Below.refl _ _) (by omega)
    (fun k hk W u hR hb hu => by
      obtain ⟨UA, uc, rfl⟩ := rdt_form hu
      refine (clientBad_any ⟨l[k].cID.toArray⟩ ⟨l[k].cSecret.toArray⟩ UA l[k].cReds.length uc g eg w.heap.size (q k) W ((hR.cell (p := ⟨w.heap.size, 0, none⟩) (by show w.heap.size < _; omega)).trans kX) (by have := hR.size; omega) (fun W2 hb2 => ?_)).mono ?_
      · exact hg k hk W2 _ (bX.trans (hb.trans (hb2.mono (by have := hR.size; omega)))) (hu.below hb2)
      · rintro e w2 ⟨rfl, hb2⟩
        exact ⟨rfl, hR.chain hb2, hb.trans (hb2.mono (by have := hR.size; omega))⟩)
  obtain ⟨n, hn⟩ : ∃ n, l.length = n := ⟨_, rfl⟩
  rw [hn] at hc ⊢
  have HC := Lib.hid hc; have HX := Lib.hid hX; have BX := Lib.hid bX
  clear hc hX bX zX kX hn hg hrd hl e2
  go_enter Tryd.func24, Tryd.ntmps24
  go_upto_region 1 with fail
  rw [← HX.out]
  go_wp2_with fail
  refine HC.out.mono ?_
  rintro e w1 ⟨rfl, hR, hb⟩
  have HB1 := Lib.hid (BX.out.trans hb)
  clear hR hb
  dsimp only
  go_wp2
  go_ret
  exact ⟨rfl, HB1.out⟩
set_option maxRecDepth 100000 in
set_option maxHeartbeats 2000000 in
theorem connContains_any (A : Option Addr) (c : Nat) (l : List ConnP) (hl : l.length ≤ 4611686018427387904) (g : Nat) (lb : Array Value) (eg : ∀ args w, (callFunc g args).run Tryd.prog w = .ok (.enter g args) w) (p : Nat → Bool) (B : Nat) (R : Nat → World → Prop) (w : World)
    (hrd : ∀ W, Below B w W → RdCn W (.slice A l.length c) l) (h0 : R 0 w) (hB : B ≤ w.heap.size)
    (hf : ∀ k (hk : k < l.length) (W : World), R k W → Below B w W → Calls Tryd.prog g (#[l[k].val] ++ lb) W fun e W' => e = .returned (.bool (p k)) ∧ R (k + 1) W' ∧ Below B w W') :
    Calls Tryd.prog 49 #[.slice A l.length c, .func (.func g) #[] lb] w fun e w' => e = .returned (.bool (hitB l.length p)) ∧ (∃ k, R k w') ∧ Below B w w' := by
  have hi := connIndex_any A c l hl g lb eg p B R w hrd h0 hB hf
  obtain ⟨n, hn⟩ : ∃ n, l.length = n := ⟨_, rfl⟩
  rw [hn] at hi ⊢
  have HI := Lib.hid hi
  clear hi hn hl hrd h0 hf
  go_enter Tryd.func49, Tryd.ntmps49
  go_wp2_with fail
  refine HI.out.mono ?_
  rintro e w1 ⟨⟨i, rfl, hit⟩, hR, hb⟩
  have hd := hitB_of hit
  have HR := Lib.hid hR; have HB1 := Lib.hid hb; have HD := Lib.hid hd
  clear hR hb hit hd
  dsimp only
  go_wp2
  go_ret
  exact ⟨by rw [← HD.out]; rfl, HR.out, HB1.out⟩
set_option maxRecDepth 100000 in
set_option maxHeartbeats 2000000 in
theorem connBad_any (K S2 S3 S4 S5 : ByteArray) (b : Bool) (S7 : ByteArray) (g : Nat) (eg : ∀ args w, (callFunc g args).run Tryd.prog w = .ok (.enter g args) w) (M : Nat) (q : Bool) (w : World) (hM : w.cell? ⟨M, 0, none⟩ = some (.func (.func g) #[] #[])) (hMl : M < w.heap.size)
    (hg : ∀ W, Below w.heap.size w W → Calls Tryd.prog g #[.agg #[.string K, .string S2, .string S3, .string S4, .string S5, .bool b, .string S7]] W fun e W' => e = .returned (.bool q) ∧ Below W.heap.size W W') :
    Calls Tryd.prog 50 #[.agg #[.string K, .string S2, .string S3, .string S4, .string S5, .bool b, .string S7], .pointer (some ⟨M, 0, none⟩)] w fun e w' => e = .returned (.bool !q) ∧ Below w.heap.size w w' := by
  have b1 : Below w.heap.size w (w.alloc (.cells #[.string K, .string S2, .string S3, .string S4, .string S5, .bool b, .string S7] 36)) := (Below.refl _ _).alloc (Nat.le_refl _) _
  have HG := Lib.hid hg; have HB1 := Lib.hid b1
  clear hg b1
  go_enter Tryd.func50, Tryd.ntmps50
  go_wp2_with fail
  refine (HG.out _ (by first | exact Below.refl _ _ | exact HB1.out)).mono ?_
  rintro e w1 ⟨rfl, hb⟩
  have HB2 := Lib.hid (HB1.out.chain hb)
  clear hb
  dsimp only
  go_wp2
  go_ret
  exact ⟨rfl, HB2.out⟩
set_option maxRecDepth 100000 in
set_option maxHeartbeats 2000000 in
theorem connAll_any (A : Option Addr) (c : Nat) (l : List ConnP) (hl : l.length ≤ 4611686018427387904) (g : Nat) (eg : ∀ args w, (callFunc g args).run Tryd.prog w = .ok (.enter g args) w) (q : Nat → Bool) (w : World)
    (hrd : RdCn w (.slice A l.length c) l)
    (hg : ∀ k (hk : k < l.length) (W : World), Below w.heap.size w W → Calls Tryd.prog g #[l[k].val] W fun e W' => e = .returned (.bool (q k)) ∧ Below W.heap.size W W') :
    Calls Tryd.prog 28 #[.slice A l.length c, .func (.func g) #[] #[]] w fun e w' => e = .returned (.bool (allB l.length q)) ∧ Below w.heap.size w w' := by
  have e2 := enters_of Tryd.func50 (by kernel_rfl) rfl
  obtain ⟨X, hX⟩ : ∃ X, X = w.alloc (.cells #[.func (.func g) #[] #[]] 52) := ⟨_, rfl⟩
  have bX : Below w.heap.size w X := by rw [hX]; exact (Below.refl _ _).alloc (Nat.le_refl _) _
  have zX : X.heap.size = w.heap.size + 1 := by rw [hX]; simp
  have kX : X.cell? ⟨w.heap.size, 0, none⟩ = some (.func (.func g) #[] #[]) := by rw [hX]; exact cell_here (heap_alloc_last w _)
  have hc := connContains_any A c l hl 50 #[.pointer (some ⟨w.heap.size, 0, none⟩)] e2 (fun k => !q k) w.heap.size (fun _ W => Below X.heap.size X W) X
    (fun W hb => hrd.below (bX.trans hb)) (Below.refl _ _) (by omega)
    (fun k hk W hR hb => by
      refine (connBad_any ⟨l[k].fID.toArray⟩ ⟨l[k].fIssuer.toArray⟩ ⟨l[k].fClient.toArray⟩ ⟨l[k].fAuth.toArray⟩ ⟨l[k].fSecret.toArray⟩ l[k].fOpen ⟨l[k].fRules.toArray⟩ g eg w.heap.size (q k) W ((hR.cell (p := ⟨w.heap.size, 0, none⟩) (by show w.heap.size < _; omega)).trans kX) (by have := hR.size; omega) (fun W2 hb2 => ?_)).mono ?_
      · exact hg k hk W2 (bX.trans (hb.trans (hb2.mono (by have := hR.size; omega))))
      · rintro e w2 ⟨rfl, hb2⟩
        exact ⟨rfl, hR.chain hb2, hb.trans (hb2.mono (by have := hR.size; omega))⟩)
  obtain ⟨n, hn⟩ : ∃ n, l.length = n := ⟨_, rfl⟩
  rw [hn] at hc ⊢
  have HC := Lib.hid hc; have HX := Lib.hid hX; have BX := Lib.hid bX
  clear hc hX bX zX kX hn hg hrd hl e2
  go_enter Tryd.func28, Tryd.ntmps28
  go_upto_region 1 with fail
  rw [← HX.out]
  go_wp2_with fail
  refine HC.out.mono ?_
  rintro e w1 ⟨rfl, hR, hb⟩
  have HB1 := Lib.hid (BX.out.trans hb)
  clear hR hb
  dsimp only
  go_wp2
  go_ret
  exact ⟨rfl, HB1.out⟩
open Go.Maps
/-- whether the k-th has the name of one ahead of it -/
def clientTwin (l : List CliP) (k : Nat) : Bool := Maps.has (seenK (l.map (·.cID)) k) (.string ((l.map (·.cID)).getD k []))
theorem clientTwin_iff (l : List CliP) : hitB l.length (clientTwin l) = false ↔ ∀ j (hj : j < l.length), ∀ k (hk : k < l.length), k < j → l[k].cID ≠ l[j].cID := by
  constructor
  · intro h j hj k hk hkj e
    have h1 := hitB_no h j hj
    unfold clientTwin at h1
    have h2 := seenK_no h1 k (by simpa using hk) hkj
    apply h2
    simp [List.getD_eq_getElem?_getD, hj, e]
  · intro h
    cases hc : hitB l.length (clientTwin l) with
    | false => rfl
    | true =>
      obtain ⟨j, hj, hp⟩ := hitB_yes hc
      unfold clientTwin at hp
      obtain ⟨k, hk, hkj, e⟩ := seenK_yes hp
      have hk' : k < l.length := by simpa using hk
      exact absurd (by simpa [List.getD_eq_getElem?_getD, hj] using e) (h j hj k hk' hkj)
set_option maxRecDepth 100000 in
set_option maxHeartbeats 2000000 in
theorem clientUnlike_any (A : Option Addr) (c : Nat) (l : List CliP) (hl : l.length ≤ 1000000) (hz : ∀ r ∈ l, r.cID.length ≤ 200000000000000) (w : World) (hrd : RdCl w (.slice A l.length c) l) :
    Calls Tryd.prog 22 #[.slice A l.length c, .func (.func 23) #[] #[]] w fun e w' => e = .returned (.bool !hitB l.length (clientTwin l)) ∧ Below w.heap.size w w' := by
  have hmm := fun n => @run_makeMapHintK Tryd.prog 67 9 68 .i64 n Tryd.underlying67
  have e2 := enters_of Tryd.func44 (by kernel_rfl) rfl
  obtain ⟨b, hb⟩ : ∃ b, w.heap.size = b := ⟨_, rfl⟩
  obtain ⟨X, hX⟩ : ∃ X, X = ((w.alloc (.cells #[.func (.func 23) #[] #[]] 46)).alloc (.map #[] 0)).alloc (.cells #[.map (some (b + 1))] 67) := ⟨_, rfl⟩
  have bX : Below w.heap.size w X := by rw [hX, ← hb]; exact (((Below.refl _ _).alloc (Nat.le_refl _) _).alloc (by simp) _).alloc (by simp; omega) _
  have zX : X.heap.size = w.heap.size + 3 := by rw [hX]; simp
  have k0 : X.cell? ⟨b, 0, none⟩ = some (.func (.func 23) #[] #[]) := by
    rw [hX]
    refine cell_here (fr := (0, 0)) (C := #[.func (.func 23) #[] #[]]) (t := 46) (alloc_block (alloc_block ?_))
    rw [← hb]; exact heap_alloc_last w _
  have k2 : X.cell? ⟨b + 1 + 1, 0, none⟩ = some (.map (some (b + 1))) := by
    rw [hX]
    exact cell_here (fresh_at (w := (w.alloc (.cells #[.func (.func 23) #[] #[]] 46)).alloc (.map #[] 0)) (b := b + 1 + 1) (.cells #[.map (some (b + 1))] 67) (by simp [hb]))
  have o0 : X.ownsMap Tryd.prog 9 (unitElem (H := Unit)) (b + 1) 0 (seenK (l.map (·.cID)) 0) := by
    have h1 := World.ownsMap_made (w.alloc (.cells #[.func (.func 23) #[] #[]] 46)) Tryd.prog 9 (unitElem (H := Unit))
    rw [World.size_alloc, hb] at h1
    rw [hX]
    exact h1.alloc _
  have hcn := clientContains_any A c l (by omega) 44 #[.pointer (some ⟨b + 1 + 1, 0, none⟩), .pointer (some ⟨b, 0, none⟩)] e2 (clientTwin l) w.heap.size
    (fun k W => k ≤ l.length → W.ownsMap Tryd.prog 9 (unitElem (H := Unit)) (b + 1) k (seenK (l.map (·.cID)) k) ∧ ButO X.heap.size (b + 1) X W) X
    (fun W hb => hrd.below (bX.trans hb)) (fun _ => ⟨o0, ButO.refl _ _ _⟩) (by omega)
    (fun k hk W u hR hbw hu => by
      obtain ⟨ho, hbo⟩ := hR (by omega)
      have hkm : k < (l.map (·.cID)).length := by simpa using hk
      have hkg : (l.map (·.cID))[k] = l[k].cID := by simp
      have hgd : (l.map (·.cID)).getD k [] = l[k].cID := by simp [List.getD_eq_getElem?_getD, hk]
      have hzk := hz l[k] (List.getElem_mem hk)
      obtain ⟨UA, uc, rfl⟩ := rdt_form hu
      refine (clientSeen_any ⟨l[k].cID.toArray⟩ ⟨l[k].cSecret.toArray⟩ UA l[k].cReds.length uc l[k].cID rfl (by unfold maxLen; omega) _ k (by unfold maxLen; omega) (b + 1 + 1) b (b + 1) W ((cell_block (hbo.block _ (by omega) (by omega))).trans k2) ((cell_block (hbo.block _ (by omega) (by omega))).trans k0) (by have := hbo.size; omega) (by have := hbo.size; omega) (by omega) (by omega) ho).mono ?_
      rintro e w2 ⟨rfl, ho2, hb2⟩
      refine ⟨by unfold clientTwin; rw [hgd], fun _ => ⟨?_, hbo.trans (hb2.mono hbo.size)⟩, hbw.trans (hb2.low (by have := hbo.size; omega) (by omega))⟩
      rw [seenK_next _ _ hkm, hkg]; exact ho2)
  obtain ⟨H, hH⟩ : ∃ H, hitB l.length (clientTwin l) = H := ⟨_, rfl⟩
  obtain ⟨n, hn⟩ : ∃ n, l.length = n := ⟨_, rfl⟩
  rw [hH] at hcn ⊢
  rw [hn] at hcn hl ⊢
  have HC := Lib.hid hcn; have HX := Lib.hid hX; have BX := Lib.hid bX; have HB := Lib.hid hb
  clear hcn hX bX zX k0 k2 o0 hn hrd hz e2 hH
  go_enter Tryd.func22, Tryd.ntmps22
  go_upto_region 2 with fail
  rw [← HX.out]
  go_wp2_with fail
  refine HC.out.mono ?_
  rintro e w1 ⟨rfl, hR, hb1⟩
  have HB1 := Lib.hid (BX.out.trans hb1)
  clear hR hb1
  dsimp only
  go_wp2
  go_ret
  exact ⟨rfl, HB1.out⟩
open Go.Maps
/-- whether the k-th has the name of one ahead of it -/
def connTwin (l : List ConnP) (k : Nat) : Bool := Maps.has (seenK (l.map (·.fID)) k) (.string ((l.map (·.fID)).getD k []))
theorem connTwin_iff (l : List ConnP) : hitB l.length (connTwin l) = false ↔ ∀ j (hj : j < l.length), ∀ k (hk : k < l.length), k < j → l[k].fID ≠ l[j].fID := by
  constructor
  · intro h j hj k hk hkj e
    have h1 := hitB_no h j hj
    unfold connTwin at h1
    have h2 := seenK_no h1 k (by simpa using hk) hkj
    apply h2
    simp [List.getD_eq_getElem?_getD, hj, e]
  · intro h
    cases hc : hitB l.length (connTwin l) with
    | false => rfl
    | true =>
      obtain ⟨j, hj, hp⟩ := hitB_yes hc
      unfold connTwin at hp
      obtain ⟨k, hk, hkj, e⟩ := seenK_yes hp
      have hk' : k < l.length := by simpa using hk
      exact absurd (by simpa [List.getD_eq_getElem?_getD, hj] using e) (h j hj k hk' hkj)
set_option maxRecDepth 100000 in
set_option maxHeartbeats 2000000 in
theorem connUnlike_any (A : Option Addr) (c : Nat) (l : List ConnP) (hl : l.length ≤ 1000000) (hz : ∀ r ∈ l, r.fID.length ≤ 200000000000000) (w : World) (hrd : RdCn w (.slice A l.length c) l) :
    Calls Tryd.prog 26 #[.slice A l.length c, .func (.func 27) #[] #[]] w fun e w' => e = .returned (.bool !hitB l.length (connTwin l)) ∧ Below w.heap.size w w' := by
  have hmm := fun n => @run_makeMapHintK Tryd.prog 67 9 68 .i64 n Tryd.underlying67
  have e2 := enters_of Tryd.func48 (by kernel_rfl) rfl
  obtain ⟨b, hb⟩ : ∃ b, w.heap.size = b := ⟨_, rfl⟩
  obtain ⟨X, hX⟩ : ∃ X, X = ((w.alloc (.cells #[.func (.func 27) #[] #[]] 50)).alloc (.map #[] 0)).alloc (.cells #[.map (some (b + 1))] 67) := ⟨_, rfl⟩
  have bX : Below w.heap.size w X := by rw [hX, ← hb]; exact (((Below.refl _ _).alloc (Nat.le_refl _) _).alloc (by simp) _).alloc (by simp; omega) _
  have zX : X.heap.size = w.heap.size + 3 := by rw [hX]; simp
  have k0 : X.cell? ⟨b, 0, none⟩ = some (.func (.func 27) #[] #[]) := by
    rw [hX]
    refine cell_here (fr := (0, 0)) (C := #[.func (.func 27) #[] #[]]) (t := 50) (alloc_block (alloc_block ?_))
    rw [← hb]; exact heap_alloc_last w _
  have k2 : X.cell? ⟨b + 1 + 1, 0, none⟩ = some (.map (some (b + 1))) := by
    rw [hX]
    exact cell_here (fresh_at (w := (w.alloc (.cells #[.func (.func 27) #[] #[]] 50)).alloc (.map #[] 0)) (b := b + 1 + 1) (.cells #[.map (some (b + 1))] 67) (by simp [hb]))
  have o0 : X.ownsMap Tryd.prog 9 (unitElem (H := Unit)) (b + 1) 0 (seenK (l.map (·.fID)) 0) := by
    have h1 := World.ownsMap_made (w.alloc (.cells #[.func (.func 27) #[] #[]] 50)) Tryd.prog 9 (unitElem (H := Unit))
    rw [World.size_alloc, hb] at h1
    rw [hX]
    exact h1.alloc _
  have hcn := connContains_any A c l (by omega) 48 #[.pointer (some ⟨b + 1 + 1, 0, none⟩), .pointer (some ⟨b, 0, none⟩)] e2 (connTwin l) w.heap.size
    (fun k W => k ≤ l.length → W.ownsMap Tryd.prog 9 (unitElem (H := Unit)) (b + 1) k (seenK (l.map (·.fID)) k) ∧ ButO X.heap.size (b + 1) X W) X
    (fun W hb => hrd.below (bX.trans hb)) (fun _ => ⟨o0, ButO.refl _ _ _⟩) (by omega)
    (fun k hk W hR hbw => by
      obtain ⟨ho, hbo⟩ := hR (by omega)
      have hkm : k < (l.map (·.fID)).length := by simpa using hk
      have hkg : (l.map (·.fID))[k] = l[k].fID := by simp
      have hgd : (l.map (·.fID)).getD k [] = l[k].fID := by simp [List.getD_eq_getElem?_getD, hk]
      have hzk := hz l[k] (List.getElem_mem hk)
      refine (connSeen_any ⟨l[k].fID.toArray⟩ ⟨l[k].fIssuer.toArray⟩ ⟨l[k].fClient.toArray⟩ ⟨l[k].fAuth.toArray⟩ ⟨l[k].fSecret.toArray⟩ l[k].fOpen ⟨l[k].fRules.toArray⟩ l[k].fID rfl (by unfold maxLen; omega) _ k (by unfold maxLen; omega) (b + 1 + 1) b (b + 1) W ((cell_block (hbo.block _ (by omega) (by omega))).trans k2) ((cell_block (hbo.block _ (by omega) (by omega))).trans k0) (by have := hbo.size; omega) (by have := hbo.size; omega) (by omega) (by omega) ho).mono ?_
      rintro e w2 ⟨rfl, ho2, hb2⟩
      refine ⟨by unfold connTwin; rw [hgd], fun _ => ⟨?_, hbo.trans (hb2.mono hbo.size)⟩, hbw.trans (hb2.low (by have := hbo.size; omega) (by omega))⟩
      rw [seenK_next _ _ hkm, hkg]; exact ho2)
  obtain ⟨H, hH⟩ : ∃ H, hitB l.length (connTwin l) = H := ⟨_, rfl⟩
  obtain ⟨n, hn⟩ : ∃ n, l.length = n := ⟨_, rfl⟩
  rw [hH] at hcn ⊢
  rw [hn] at hcn hl ⊢
  have HC := Lib.hid hcn; have HX := Lib.hid hX; have BX := Lib.hid bX; have HB := Lib.hid hb
  clear hcn hX bX zX k0 k2 o0 hn hrd hz e2 hH
  go_enter Tryd.func26, Tryd.ntmps26
  go_upto_region 2 with fail
  rw [← HX.out]
  go_wp2_with fail
  refine HC.out.mono ?_
  rintro e w1 ⟨rfl, hR, hb1⟩
  have HB1 := Lib.hid (BX.out.trans hb1)
  clear hR hb1
  dsimp only
  go_wp2
  go_ret
  exact ⟨rfl, HB1.out⟩
end Go.Proofs.YtiofgepfcacgjaaDoor
namespace Go.Proofs.YtiofgepfcacgjaaDoor
open Go.RowKit
set_option linter.unusedVariables false
set_option linter.unusedSimpArgs false

/-- one block is turned: the iterator's cell, or one of the loop's own books; new ones may come -/
def TurnC (b0 Bn : Nat) (A B : World) : Prop := ∃ q, (q = Bn ∨ (b0 ≤ q ∧ ∃ o : Obj, A.heap[q]? = some o ∧ o.isCells = false)) ∧ ButO A.heap.size q A B
theorem turn_alloc (b0 Bn : Nat) (A : World) (o : Obj) : TurnC b0 Bn A (A.alloc o) := ⟨Bn, .inl rfl, ButO.of ((Below.refl _ A).alloc (Nat.le_refl _) o)⟩
theorem turn_put {b0 Bn l : Nat} {A : World} {o : Obj} (o' : Obj) (hl : b0 ≤ l) (h : A.heap[l]? = some o) (hc : o.isCells = false) : TurnC b0 Bn A (A.putObj l o') :=
  ⟨l, .inr ⟨hl, o, h, hc⟩, rfl, rfl, rfl, (grownBy_putObj' A l o').size, fun k _ hk => World.putObj_heap_other hk⟩
theorem turn_cell {b0 Bn : Nat} {A B : World} (h : ButO A.heap.size Bn A B) : TurnC b0 Bn A B := ⟨Bn, .inl rfl, h⟩
/-- how a round may be left -/
def postC {α : Type} (b0 : Nat) (K : Nat → Prop) (I Ix : List α → World → Prop) (xs : List α) (W : World) : Exit → Act → World → Prop
  | .normal, _, W' => KeepsFrom b0 W W' ∧ (∀ k, K k → W'.heap[k]? = W.heap[k]?) ∧ I xs W'
  | .ret, _, W' => KeepsFrom b0 W W' ∧ Ix xs W'
  | _, _, _ => False
/-- what the iterator gives, whatever its caller holds that abides its own cell's turns -/
def SeqC {α : Type} (F : Fence) (n : Nat) (P : Program) (g : Nat) (lb : Array Value) (encs : α → Array Value) (Bn : Nat) (K : Nat → Prop) (S Sp : List α → Prop) (N : Nat) (w : World) : Prop :=
  ∀ (l : Nat) (J Jx : List α → World → Prop) (W : World), Below w.heap.size w W → (∀ s A B, J s A → ButO A.heap.size Bn A B → J s B) → (∀ s A B, Jx s A → ButO A.heap.size Bn A B → Jx s B) →
    (∀ pre x W1, J pre W1 → pre.length < N → YieldAt F (n - 1) P l (encs x) W1 fun e W' =>
      (e = .returned (.bool true) ∧ J (pre ++ [x]) W' ∧ ∀ k, K k → W'.heap[k]? = W1.heap[k]?) ∨ (e = .returned (.bool false) ∧ Jx (pre ++ [x]) W')) →
    J [] W → CallsIn F n P g (#[.func (.yield l) #[] #[]] ++ lb) W fun e W' => (∃ v, e = .returned v) ∧ ((∃ xs, S xs ∧ J xs W') ∨ (∃ pre, Sp pre ∧ Jx pre W'))
variable {F : Fence} {n : Nat} {P : Program}
theorem range_cell {α : Type} {g : Operand} {ps : Array Tmp} {assign body : Code} {Q : Exit → Act → World → Prop} {a : Act} {w : World}
    (hro : F.round = none) (h1 : 1 ≤ n) {gf : Nat} {lb : Array Value} (hg : a.eval g = .func (.func gf) #[] lb) (hFg : F.fn gf) (eg : ∀ args w, (callFunc gf args).run P w = .ok (.enter gf args) w)
    {encs : α → Array Value} {Bn : Nat} {K : Nat → Prop} {S Sp : List α → Prop} {N : Nat} (hBn : Bn < w.heap.size) (hK : ∀ k, K k → k < w.heap.size) (hseq : SeqC F (n - 1) P gf lb encs Bn K S Sp N w) (hps : ∀ x, (encs x).size = ps.size)
    (I Ix : List α → World → Prop) (hI : ∀ s A B, I s A → TurnC w.heap.size Bn A B → I s B) (hIx : ∀ s A B, Ix s A → TurnC w.heap.size Bn A B → Ix s B) (h0 : I [] w) (a₁ : α → Act)
    (hassign : ∀ (l : Nat) (x : α) (W : World) (K : Act → World → Prop), K (a₁ x) W →
      assign.wpIn (F.inRound l) (n - 1 - 1) P (Exit.then K (fun _ _ _ => False)) { tmps := (ps.zip (encs x)).foldl (fun t (p, v) => t.setIfInBounds p v) a.tmps, defers := [] } W)
    (hbody : ∀ (l : Nat) (pre : List α) (x : α) (W : World), I pre W → w.heap.size ≤ W.heap.size → pre.length < N → body.wpIn (F.inRound l) (n - 1 - 1) P (postC w.heap.size K I Ix (pre ++ [x]) W) (a₁ x) W)
    (hdone : ∀ (D : Nat) (xs : List α) (W : World), w.heap.size ≤ D → S xs → I xs W → W.heap[D]? = some (.deferred (some [])) → Q .normal { a with defers := { target := .collected D, args := #[] } :: a.defers } W)
    (hstop : ∀ (D : Nat) (pre : List α) (W : World), w.heap.size ≤ D → Sp pre → Ix pre W → W.heap[D]? = some (.deferred (some [])) → Code.ret.wpIn F n P Q { a with defers := { target := .collected D, args := #[] } :: a.defers } W) :
    (Code.rangeFunc g ps assign body).wpIn F n P Q a w := by
  refine wpIn_rangeFunc fun fn hfn => ?_
  rw [hro]
  -- the loop's two blocks: its deferred calls (D), its record (R)
  obtain ⟨D, hD⟩ : ∃ D, w.heap.size = D := ⟨_, rfl⟩
  obtain ⟨mk, hmk⟩ : ∃ mk : LoopState → Option Code → Loop, mk = fun st pe => { state := st, pending := pe, fn, tmps := a.tmps, params := ps, assign, body, defers := w.heap.size } := ⟨_, rfl⟩
  obtain ⟨V, hV⟩ : ∃ V, V = (w.alloc (.deferred (some []))).alloc (.loop (mk .ready none)) := ⟨_, rfl⟩
  have vR : V.heap[D + 1]? = some (.loop (mk .ready none)) := by
    have := World.alloc_heap_new (w.alloc (.deferred (some []))) (.loop (mk .ready none))
    rw [World.size_alloc, hD] at this
    rw [hV]; exact this
  have vD : V.heap[D]? = some (.deferred (some [])) := by rw [hV, ← hD]; exact (Below.heap_alloc _ _ _ (by simp)).trans (World.alloc_heap_new w _)
  have vI : I [] V := by rw [hV]; exact hI _ _ _ (hI _ _ _ h0 (turn_alloc ..)) (turn_alloc ..)
  have vB : Below w.heap.size w V := by rw [hV]; exact ((Below.refl _ w).alloc (Nat.le_refl _) _).alloc (by simp) _
  refine ⟨D + 1, [{ target := .collected D, args := #[] }], V, { target := .fn (.func gf) lb, args := #[.func (.yield (D + 1)) #[] #[]] }, V, gf, #[.func (.yield (D + 1)) #[] #[]] ++ lb, V, ?_, ?_, ?_, ?_, fun _ => h1, ?_⟩
  · have := run_enterLoop_outer (P := P) (w := w) fn a.tmps ps assign body
    rw [hV, hmk, ← hD]; exact this
  · simp only [resolve, hg]
    simp [go_sem]
  · intro f' hf'
    simp [Target.leads] at hf'
    subst hf'; exact hFg
  · simp [invoke, go_sem, eg]
  have hRp : ∀ pe, (mk .ready pe).params = ps := fun pe => by rw [hmk]
  have book : ∀ {A B : World} {k : Nat} {o : Obj}, ButO A.heap.size Bn A B → A.heap[k]? = some o → D ≤ k → B.heap[k]? = some o := fun hb ho hk =>
    (hb.block _ (Array.getElem?_eq_some_iff.1 ho).1 (by omega)).trans ho
  refine (hseq (D + 1) (fun pre W => I pre W ∧ W.heap[D + 1]? = some (.loop (mk .ready none)) ∧ W.heap[D]? = some (.deferred (some []))) (fun pre W => Ix pre W ∧ W.heap[D + 1]? = some (.loop (mk .done (some .ret))) ∧ W.heap[D]? = some (.deferred (some [])))
    V vB (fun s A B hs hb => ⟨hI _ _ _ hs.1 (turn_cell hb), book hb hs.2.1 (by omega), book hb hs.2.2 (by omega)⟩) (fun s A B hs hb => ⟨hIx _ _ _ hs.1 (turn_cell hb), book hb hs.2.1 (by omega), book hb hs.2.2 (by omega)⟩) ?_ ⟨vI, vR, vD⟩).mono ?_
  · -- one round
    rintro pre x W ⟨hi, hl, hk⟩ hlen
    have hlt := (Array.getElem?_eq_some_iff.1 hl).1
    have hy := run_yield (P := P) (args := encs x) hl (by rw [hRp]; exact hps x)
    rw [hmk] at hy
    refine ⟨fn, _, assign, body, hy, roundIn_of_wpIn hfn (hassign _ x W _ ⟨_, run_beginRound hl (by rw [hmk]), ?_⟩)⟩
    clear hy
    obtain ⟨Wb, hWb⟩ : ∃ Wb, Wb = W.putObj (D + 1) (.loop { mk .ready none with state := .busy }) := ⟨_, rfl⟩
    rw [← hWb]
    have bl : Wb.heap[D + 1]? = some (.loop { mk .ready none with state := .busy }) := by rw [hWb]; exact World.putObj_heap_same hlt
    have bk : Wb.heap[D]? = some (.deferred (some [])) := by rw [hWb]; exact (World.putObj_heap_other (by omega)).trans hk
    have bi : I pre Wb := by rw [hWb]; exact hI _ _ _ hi (turn_put _ (by omega) hl rfl)
    have bK : ∀ k, K k → Wb.heap[k]? = W.heap[k]? := fun k hk => by rw [hWb]; exact World.putObj_heap_other (by have := hK k hk; omega)
    have bs : w.heap.size ≤ Wb.heap.size := by have := (Array.getElem?_eq_some_iff.1 bl).1; omega
    refine wpIn_mono (hbody _ pre x Wb bi bs hlen) ?_
    have fin : ∀ (jump : Option Code) (W3 : World), KeepsFrom w.heap.size Wb W3 → (Instr.endRound (D + 1) jump).run P W3 = .ok (.bool jump.isNone) (W3.putObj (D + 1) (.loop (mk (if jump.isNone then .ready else .done) jump))) ∧
        (W3.putObj (D + 1) (.loop (mk (if jump.isNone then .ready else .done) jump))).heap[D + 1]? = some (.loop (mk (if jump.isNone then .ready else .done) jump)) ∧
        (W3.putObj (D + 1) (.loop (mk (if jump.isNone then .ready else .done) jump))).heap[D]? = some (.deferred (some [])) ∧ W3.heap[D + 1]? = some (.loop { mk .ready none with state := .busy }) := fun jump W3 hk3 => by
      have h3 := hk3.same _ _ (by omega) bl rfl
      have hr := run_endRound (P := P) jump h3
      rw [hmk] at hr h3 ⊢
      exact ⟨hr, World.putObj_heap_same (Array.getElem?_eq_some_iff.1 h3).1, (World.putObj_heap_other (by omega)).trans (hk3.same _ _ (by omega) bk rfl), h3⟩
    rintro e a3 W3 hp
    cases e with
    | normal =>
      obtain ⟨hk3, hs3, hi3⟩ := hp
      obtain ⟨hr, r1, r2, r3⟩ := fin none W3 hk3
      exact ⟨_, _, hr, .inl ⟨rfl, ⟨hI _ _ _ hi3 (turn_put _ (by omega) r3 rfl), r1, r2⟩, fun k hk => (World.putObj_heap_other (by have := hK k hk; omega)).trans ((hs3 k hk).trans (bK k hk))⟩⟩
    | ret =>
      obtain ⟨hk3, hi3⟩ := hp
      obtain ⟨hr, r1, r2, r3⟩ := fin (some .ret) W3 hk3
      exact ⟨_, _, hr, .inr ⟨rfl, hIx _ _ _ hi3 (turn_put _ (by omega) r3 rfl), r1, r2⟩⟩
    | exit id => exact hp.elim
    | goto t => exact hp.elim
    | panic ch => exact hp.elim
    | outgrown => exact hp.elim
  · -- behind the iterator
    rintro e W2 ⟨⟨v, rfl⟩, ⟨xs, hS, hi, hl, hk⟩ | ⟨pre, hSp, hi, hl, hk⟩⟩
    · refine ⟨none, _, by have := run_endLoop (P := P) hl (by rw [hmk]; simp); rw [hmk] at this; exact this, ?_⟩
      exact hdone D xs _ (by omega) hS (hI _ _ _ hi (turn_put _ (by omega) hl rfl)) ((World.putObj_heap_other (by omega)).trans hk)
    · refine ⟨some .ret, _, by have := run_endLoop (P := P) hl (by rw [hmk]; simp); rw [hmk] at this; exact this, ?_⟩
      exact hstop D pre _ (by omega) hSp (hIx _ _ _ hi (turn_put _ (by omega) hl rfl)) ((World.putObj_heap_other (by omega)).trans hk)
end Go.Proofs.YtiofgepfcacgjaaDoor
namespace Go.Proofs.YtiofgepfcacgjaaDoor
open Go.ChangeShapes Go.WideShapes Go.ChangeAt Go.RowKit

/-- the row's builder that keeps both: what is laid, and the world's shape -/
theorem returnsInHanded_of_change_both {H : Type} {enc : TypeId × Value → H} {a : Assume} {C : Checked} {os : Os} {f : FuncId} {fn : Func} {s : ChangeSpec} {conds : List PathCond} {apart fresh handsOn again : Bool} {X : World → Array Value → Prop}
    (hX : ∀ (w w' : World) (args : Array Value), w.heap = w'.heap → X w args → X w' args)
    (own : ownKnob C.prog.godebug = none) (started : os.Started) (noInit : C.prog.inits.idxOf? f = none) (hfn : C.prog.funcs[f]? = some fn)
    (witness : ∃ (w : World) (tape : Tape) (i : Input), w.os = os ∧ (w.forCall tape i).Shaped C.prog ∧ i.vars = [] ∧ Input.okWide C.prog (w.forCall tape i) .any w.heap.size f i ∧
      ((s.pre enc C.prog fn conds apart (w.forCall tape i).memory i.args ∧ X (w.forCall tape i).memory i.args) ∧ sizedMet enc C.prog fn (OpenSpec.ofChange s) apart (w.forCall tape i).memory i.args) ∧ a.holds C.prog (lone (Frame.enter C.prog f i.args .normal) [] (w.forCall tape i)))
    (contract : ∀ (W : World) (base : Nat) (args : Array Value) (ds gs : List (DataW H)) (before : List MemPlace),
      (∀ (j : Nat) t v, fn.params[j]? = some t → args[j]? = some v → Value.okWide C.prog W .any base t v) →
      DataW.Whole enc C.prog fn.params.toList s.vars apart W args.toList ds gs before →
      conds.all (PathCond.test C.prog ⟨fn.params.toList, ds, s.plain.varTypes C.prog, gs⟩) = true →
      (DataW.weightsEach C.prog (fn.params.toList ++ s.plain.varTypes C.prog) (ds ++ gs)).all (· ≤ reachBytes) = true → X W args → W.ShapedOpen C.prog →
      a.holds C.prog (lone (Frame.enter C.prog f args .normal) [] W) →
      Calls C.prog f args W fun e W' => ∃ v, e = .returned v ∧ s.post enc C.prog fn apart fresh handsOn again W args v W') :
    ReturnsInHanded a C os f .any (fun w args => (s.pre enc C.prog fn conds apart w args ∧ X w args) ∧ sizedMet enc C.prog fn (OpenSpec.ofChange s) apart w args) (s.post enc C.prog fn apart fresh handsOn again) := by
  refine returnsInHanded_of_calls own started noInit witness ?_
  intro w tape i _ hsh _ hok hpre hholds
  obtain ⟨_, _, _, fn', hfn', _, _, _, _, hval⟩ := hok
  have e : fn' = fn := Option.some.inj (hfn'.symm.trans hfn)
  subst e
  obtain ⟨⟨⟨ds, gs, before, hw, hc⟩, hx⟩, hz⟩ := hpre
  have hw' := DataW.Whole.of_heap (w' := w.forCall tape i) (by rfl) hw
  refine (contract (w.forCall tape i) w.heap.size i.args ds gs before hval hw' hc (hz.weights hw) (hX _ _ _ (by rfl) hx) hsh hholds).mono fun e W' ⟨v, he, hp⟩ => ?_
  subst he
  exact ChangeSpec.post_blind hp
end Go.Proofs.YtiofgepfcacgjaaDoor
namespace Go.Proofs.YtiofgepfcacgjaaDoor
open Go.ChangeShapes Go.WideShapes Go.ChangeAt Go.RowKit

/-- what the rows list -/
def listedP : List (String × DataW Unit) := [("unicode/utf8.acceptRanges", Rows.laid_unicode_utf8_acceptRanges), ("unicode/utf8.first", Rows.laid_unicode_utf8_first)]
/-- a table's letters as cells -/
def cellsOfData : DataW Unit → Array Value
  | .agg l => (l.map fun d => match d with
    | .lit (.int k z) => Value.int k z
    | _ => .nilIface).toArray
  | _ => #[]
/-- a heap in which the pinned table lies -/
def tableIn (h : Array Obj) (g : Nat) : Array Obj := match h[g]? with
  | some (.cells _ t fr) => h.setIfInBounds g (.cells (cellsOfData Rows.laid_unicode_utf8_first) t fr)
  | _ => h
noncomputable def doorJ (os : Os) : World := { World.doorLaid Tryd.prog 400 os with heap := tableIn (World.doorLaid Tryd.prog 400 os).heap 1 }
set_option maxRecDepth 100000 in
theorem doorJ_met (os : Os) (args : Array Value) : laidMetH Tryd.prog listedP ((doorJ os).forCall (fun _ _ => 0) ⟨#[], args, []⟩).memory :=
  laidMetH_of_parts3 (fuel := 8) (laidMet_of_run' 8 (by kernel_rfl) (by kernel_rfl)) (by kernel_rfl) (by kernel_rfl)
end Go.Proofs.YtiofgepfcacgjaaDoor
namespace Go.Proofs.YtiofgepfcacgjaaDoor
open Go.ChangeShapes Go.WideShapes Go.ChangeAt Go.RowKit
set_option linter.unusedVariables false

set_option maxRecDepth 100000 in
theorem open_texty {H : Type} {enc : TypeId × Value → H} {W : World} {base : Nat} {v : Value} {d : DataW H} {ps : List MemPlace} (hval : Value.okWide Tryd.prog W .any base 9 v)
    (hd : DataW.Trod enc Tryd.prog W 0 (fun _ => true) true 9 v d ps) (_ : ∀ x ∈ ps, x.block < W.heap.size) (hwt : ∀ n ∈ d.weights Tryd.prog 9, n ≤ reachBytes) :
    ∃ x : ByteArray, v = .string x ∧ x.size ≤ 200000000000000 := by
  obtain ⟨x, rfl, rfl, rfl, _⟩ := Go.ChangeMaps.open_string Tryd.underlying9 hval hd
  have h := hwt x.data.toList.length (by simp [DataW.weights])
  have hr : reachBytes ≤ 200000000000000 := by decide
  exact ⟨x, rfl, by simpa using Nat.le_trans h hr⟩
end Go.Proofs.YtiofgepfcacgjaaDoor
