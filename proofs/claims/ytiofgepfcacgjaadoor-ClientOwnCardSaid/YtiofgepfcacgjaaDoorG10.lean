/- Texts merged by program, in build order: CliKey, Equal, ButO, SeenK. -/
import Derived.Test.YtiofgepfcacgjaaDoorG02
import Derived.Test.YtiofgepfcacgjaaDoorG01
import Derived.Deep.RegionLaw
import Derived.Deep.Cut
import Derived.Shelf.Abstract
import Derived.Test.YtiofgepfcacgjaaDoorG04
import Derived.Maps.OwnSet
set_option linter.unusedVariables false
set_option linter.unusedSimpArgs false
namespace Go.Proofs.YtiofgepfcacgjaaDoor
open Go.RowKit Go.Shelf
set_option linter.unusedVariables false
set_option linter.unusedSimpArgs false

/-- where a test first says yes; -1: nowhere -/
def HitAt (n : Nat) (p : Nat → Bool) (i : Int) : Prop := (∃ k : Nat, k < n ∧ i = k ∧ p k = true ∧ ∀ j, j < k → p j = false) ∨ (i = -1 ∧ ∀ j, j < n → p j = false)
/-- whether a test says yes somewhere -/
def hitB (n : Nat) (p : Nat → Bool) : Bool := (List.range n).any p
theorem hitB_of {n : Nat} {p : Nat → Bool} {i : Int} (h : HitAt n p i) : decide (i ≥ 0) = hitB n p := by
  rcases h with ⟨k, hk, rfl, hp, _⟩ | ⟨rfl, hn⟩
  · rw [decide_eq_true (by omega)]
    symm; unfold hitB
    rw [List.any_eq_true]
    exact ⟨k, List.mem_range.2 hk, hp⟩
  · have : hitB n p = false := by
      unfold hitB
      rw [List.any_eq_false]
      intro j hj
      rw [hn j (List.mem_range.1 hj)]; decide
    rw [this]; decide
theorem hitB_no {n : Nat} {p : Nat → Bool} (h : hitB n p = false) (j : Nat) (hj : j < n) : p j = false := by
  unfold hitB at h
  rw [List.any_eq_false] at h
  have := h j (List.mem_range.2 hj)
  cases hp : p j with
  | true => exact absurd hp this
  | false => rfl
theorem hitB_yes {n : Nat} {p : Nat → Bool} (h : hitB n p = true) : ∃ j, j < n ∧ p j = true := by
  unfold hitB at h
  rw [List.any_eq_true] at h
  obtain ⟨j, hj, hp⟩ := h
  exact ⟨j, List.mem_range.1 hj, hp⟩
theorem hit_next {p : Nat → Bool} {k : Nat} (h : ∀ j, j < k → p j = false) (hp : p k = false) : ∀ j, j < k + 1 → p j = false := fun j hj => by
  rcases Nat.lt_succ_iff_lt_or_eq.1 hj with hj | hj
  · exact h j hj
  · rw [hj]; exact hp
set_option maxRecDepth 100000 in
set_option maxHeartbeats 2000000 in
theorem clientID_any (K S : ByteArray) (A : Option Addr) (n c : Nat) (w : World) : Calls Tryd.prog 23 #[.agg #[.string K, .string S, .slice A n c]] w fun e w' => e = .returned (.string K) ∧ Below w.heap.size w w' := by
  go_enter Tryd.func23, Tryd.ntmps23
  go_wp2
  go_ret
  exact ⟨rfl, (Below.refl _ _).alloc (Nat.le_refl _) _⟩
set_option maxRecDepth 100000 in
set_option maxHeartbeats 2000000 in
theorem clientIs_any (K S : ByteArray) (A : Option Addr) (n c : Nat) (x : ByteArray) (M I : Nat) (w : World) (hM : w.cell? ⟨M, 0, none⟩ = some (.func (.func 23) #[] #[])) (hI : w.cell? ⟨I, 0, none⟩ = some (.string x)) (hMl : M < w.heap.size) (hIl : I < w.heap.size) :
    Calls Tryd.prog 56 #[.agg #[.string K, .string S, .slice A n c], .pointer (some ⟨M, 0, none⟩), .pointer (some ⟨I, 0, none⟩)] w fun e w' => e = .returned (.bool (K.toList == x.toList)) ∧ Below w.heap.size w w' := by
  have eg := enters_of Tryd.func23 (by kernel_rfl) rfl
  obtain ⟨W1, hW1⟩ : ∃ W1, W1 = w.alloc (.cells #[.string K, .string S, .slice A n c] 32) := ⟨_, rfl⟩
  have b1 : Below w.heap.size w W1 := by rw [hW1]; exact (Below.refl _ _).alloc (Nat.le_refl _) _
  have z1 : W1.heap.size = w.heap.size + 1 := by rw [hW1]; simp
  have k1 : W1.heap[w.heap.size]? = some (.cells #[.string K, .string S, .slice A n c] 32 (0, 0)) := by rw [hW1]; exact heap_alloc_last w _
  have ST : ∀ W, Below W1.heap.size W1 W → ((W.cell? ⟨w.heap.size, 0, none⟩ = some (.string K) ∧ W.cell? ⟨w.heap.size, 1, none⟩ = some (.string S) ∧ W.cell? ⟨w.heap.size, 2, none⟩ = some (.slice A n c)) ∧ W.cell? ⟨M, 0, none⟩ = some (.func (.func 23) #[] #[]) ∧ W.cell? ⟨I, 0, none⟩ = some (.string x)) ∧ Below W1.heap.size W1 W := fun W hb =>
    ⟨⟨⟨(hb.cell (p := ⟨w.heap.size, 0, none⟩) (by show w.heap.size < _; omega)).trans (cell_here k1), (hb.cell (p := ⟨w.heap.size, 1, none⟩) (by show w.heap.size < _; omega)).trans (cell_here k1), (hb.cell (p := ⟨w.heap.size, 2, none⟩) (by show w.heap.size < _; omega)).trans (cell_here k1)⟩,
      (hb.cell (p := ⟨M, 0, none⟩) (by show M < _; omega)).trans ((b1.cell (p := ⟨M, 0, none⟩) hMl).trans hM),
      (hb.cell (p := ⟨I, 0, none⟩) (by show I < _; omega)).trans ((b1.cell (p := ⟨I, 0, none⟩) hIl).trans hI)⟩, hb⟩
  have hh := fun W => clientID_any K S A n c W
  have STH := Lib.hid ST; have HH := Lib.hid hh; have HW := Lib.hid hW1; have HB1 := Lib.hid b1; have Z1 := Lib.hid z1
  clear ST hh hW1 b1 k1 z1 hM hI hMl hIl
  go_enter Tryd.func56, Tryd.ntmps56
  go_upto_region 1 with fail
  rw [← HW.out]
  go_region_held3 (fun W => ((W.cell? ⟨w.heap.size, 0, none⟩ = some (.string K) ∧ W.cell? ⟨w.heap.size, 1, none⟩ = some (.string S) ∧ W.cell? ⟨w.heap.size, 2, none⟩ = some (.slice A n c)) ∧ W.cell? ⟨M, 0, none⟩ = some (.func (.func 23) #[] #[]) ∧ W.cell? ⟨I, 0, none⟩ = some (.string x)) ∧ Below W1.heap.size W1 W)
    (first | exact STH.out _ (by repeat (first | (with_reducible exact Below.refl _ _) | (with_reducible apply Below.drew) | (with_reducible refine Below.alloc ?_ (by (first | omega | (simp only [World.size_alloc, World.size_drew, set_size]; omega) | (simp; omega))) _) | (with_reducible refine Below.setCell ?_ (by (first | omega | (simp only [World.size_alloc, World.size_drew, set_size]; omega) | (simp; omega))) _) | (with_reducible refine Below.chain ?_ hbx))))
    (first | (go_at_call 23; (with_reducible refine (HH.out _).mono ?_); rintro e wx ⟨rfl, hbx⟩))
  all_goals
    go_wp2_with fail
    go_ret
    exact ⟨rfl, HB1.out.trans (Below.mono (w := W1) (by repeat (first | (with_reducible exact Below.refl _ _) | (with_reducible apply Below.drew) | (with_reducible refine Below.alloc ?_ (by (first | omega | (simp only [World.size_alloc, World.size_drew, set_size]; omega) | (simp; omega))) _) | (with_reducible refine Below.setCell ?_ (by (first | omega | (simp only [World.size_alloc, World.size_drew, set_size]; omega) | (simp; omega))) _) | (with_reducible refine Below.chain ?_ hbx))) HB1.out.size)⟩
set_option maxRecDepth 100000 in
set_option maxHeartbeats 2000000 in
theorem clientIndex_any (A : Option Addr) (c : Nat) (l : List CliP) (hl : l.length ≤ 4611686018427387904) (g : Nat) (lb : Array Value) (eg : ∀ args w, (callFunc g args).run Tryd.prog w = .ok (.enter g args) w) (p : Nat → Bool) (B : Nat) (R : Nat → World → Prop) (w : World)
    (hrd : ∀ W, Below B w W → RdCl W (.slice A l.length c) l) (h0 : R 0 w) (hB : B ≤ w.heap.size)
    (hf : ∀ k (hk : k < l.length) (W : World) (u : Value), R k W → Below B w W → RdT W u l[k].cReds → Calls Tryd.prog g (#[.agg #[tv l[k].cID, tv l[k].cSecret, u]] ++ lb) W fun e W' => e = .returned (.bool (p k)) ∧ R (k + 1) W' ∧ Below B w W') :
    Calls Tryd.prog 55 #[.slice A l.length c, .func (.func g) #[] lb] w fun e w' => (∃ i, e = .returned (.int .i64 i) ∧ HitAt l.length p i) ∧ (∃ k, R k w') ∧ Below B w w' := by
  obtain ⟨n, hn⟩ : ∃ n, l.length = n := ⟨_, rfl⟩
  rw [hn] at hl hrd ⊢
  have HN := Lib.hid hn; have HF := Lib.hid hf; have HP := Lib.hid hrd; have H0 := Lib.hid h0
  clear hn hf hrd h0
  go_enter Tryd.func55, Tryd.ntmps55
  go_wp2
  go_loopw [8] (fun i wr => ∃ k : Nat, k ≤ n ∧ i = .int .i64 k ∧ (∀ j, j < k → p j = false) ∧ R k wr ∧ Below B w wr) (fun i _ => n - (intOf i).toNat)
  case atStart => exact ⟨0, Nat.zero_le _, rfl, fun _ h => absurd h (Nat.not_lt_zero _), H0.out, Below.refl _ _⟩
  case round =>
    obtain ⟨k, hk, rfl, hb, hR, hbw⟩ := hrel
    have HB := Lib.hid hb; have HBW := Lib.hid hbw; have HR := Lib.hid hR
    clear hb
    by_cases hlt : k < n
    · have hkl : k < l.length := by have := HN.out; omega
      obtain ⟨a, o, u, rfl, hab, h1, h2, h3, hu⟩ := (HP.out wr hbw).at k hkl
      obtain ⟨UA, uc, rfl⟩ := rdt_form hu
      have hc := HF.out k hkl wr _ hR hbw hu
      obtain ⟨V0, hV0⟩ : ∃ B : ByteArray, tv l[k].cID = .string B := ⟨_, rfl⟩
      obtain ⟨V1, hV1⟩ : ∃ B : ByteArray, tv l[k].cSecret = .string B := ⟨_, rfl⟩
      rw [hV0, hV1] at hc
      rw [hV0] at h1
      rw [hV1] at h2
      have g1 : p k = true → HitAt n p k := fun e => Or.inl ⟨k, hlt, rfl, e, HB.out⟩
      have g2 : p k = false → ∀ j, j < k + 1 → p j = false := hit_next HB.out
      have HC := Lib.hid hc; have G1 := Lib.hid g1; have G2 := Lib.hid g2
      clear hc g1 g2 hbw hR hV0 hV1
      have hk0 : (0 : Int) ≤ k := by omega
      have hk1 : (k : Int) < n := by omega
      go_wp2_with fail
      refine HC.out.mono ?_
      rintro e w1 ⟨rfl, hR1, hb1⟩
      have HR1 := Lib.hid hR1; have HB1 := Lib.hid hb1
      clear hR1 hb1
      cases hp : p k with
      | true =>
        have HE := Lib.hid (G1.out hp); clear hp
        dsimp only
        go_wp2
        go_ret
        exact ⟨⟨_, rfl, HE.out⟩, ⟨_, HR1.out⟩, HB1.out⟩
      | false =>
        have HE := Lib.hid (G2.out hp); clear hp
        dsimp only
        go_wp2
        go_roundw
        case rel => exact ⟨k + 1, by omega, by go_num, HE.out, HR1.out, HB1.out⟩
        case measure => simp [intOf]; omega
    · have hke : k = n := by omega
      subst hke
      go_wp2
      go_ret
      exact ⟨⟨_, rfl, Or.inr ⟨rfl, HB.out⟩⟩, ⟨_, HR.out⟩, HBW.out⟩
set_option maxRecDepth 100000 in
set_option maxHeartbeats 2000000 in
theorem connID_any (K S2 S3 S4 S5 : ByteArray) (b : Bool) (S7 : ByteArray) (w : World) : Calls Tryd.prog 27 #[.agg #[.string K, .string S2, .string S3, .string S4, .string S5, .bool b, .string S7]] w fun e w' => e = .returned (.string K) ∧ Below w.heap.size w w' := by
  go_enter Tryd.func27, Tryd.ntmps27
  go_wp2
  go_ret
  exact ⟨rfl, (Below.refl _ _).alloc (Nat.le_refl _) _⟩
set_option maxRecDepth 100000 in
set_option maxHeartbeats 2000000 in
theorem connIs_any (K S2 S3 S4 S5 : ByteArray) (b : Bool) (S7 : ByteArray) (x : ByteArray) (M I : Nat) (w : World) (hM : w.cell? ⟨M, 0, none⟩ = some (.func (.func 27) #[] #[])) (hI : w.cell? ⟨I, 0, none⟩ = some (.string x)) (hMl : M < w.heap.size) (hIl : I < w.heap.size) :
    Calls Tryd.prog 58 #[.agg #[.string K, .string S2, .string S3, .string S4, .string S5, .bool b, .string S7], .pointer (some ⟨M, 0, none⟩), .pointer (some ⟨I, 0, none⟩)] w fun e w' => e = .returned (.bool (K.toList == x.toList)) ∧ Below w.heap.size w w' := by
  have eg := enters_of Tryd.func27 (by kernel_rfl) rfl
  obtain ⟨W1, hW1⟩ : ∃ W1, W1 = w.alloc (.cells #[.string K, .string S2, .string S3, .string S4, .string S5, .bool b, .string S7] 36) := ⟨_, rfl⟩
  have b1 : Below w.heap.size w W1 := by rw [hW1]; exact (Below.refl _ _).alloc (Nat.le_refl _) _
  have z1 : W1.heap.size = w.heap.size + 1 := by rw [hW1]; simp
  have k1 : W1.heap[w.heap.size]? = some (.cells #[.string K, .string S2, .string S3, .string S4, .string S5, .bool b, .string S7] 36 (0, 0)) := by rw [hW1]; exact heap_alloc_last w _
  have ST : ∀ W, Below W1.heap.size W1 W → ((W.cell? ⟨w.heap.size, 0, none⟩ = some (.string K) ∧ W.cell? ⟨w.heap.size, 1, none⟩ = some (.string S2) ∧ W.cell? ⟨w.heap.size, 2, none⟩ = some (.string S3) ∧ W.cell? ⟨w.heap.size, 3, none⟩ = some (.string S4) ∧ W.cell? ⟨w.heap.size, 4, none⟩ = some (.string S5) ∧ W.cell? ⟨w.heap.size, 5, none⟩ = some (.bool b) ∧ W.cell? ⟨w.heap.size, 6, none⟩ = some (.string S7)) ∧ W.cell? ⟨M, 0, none⟩ = some (.func (.func 27) #[] #[]) ∧ W.cell? ⟨I, 0, none⟩ = some (.string x)) ∧ Below W1.heap.size W1 W := fun W hb =>
    ⟨⟨⟨(hb.cell (p := ⟨w.heap.size, 0, none⟩) (by show w.heap.size < _; omega)).trans (cell_here k1), (hb.cell (p := ⟨w.heap.size, 1, none⟩) (by show w.heap.size < _; omega)).trans (cell_here k1), (hb.cell (p := ⟨w.heap.size, 2, none⟩) (by show w.heap.size < _; omega)).trans (cell_here k1), (hb.cell (p := ⟨w.heap.size, 3, none⟩) (by show w.heap.size < _; omega)).trans (cell_here k1), (hb.cell (p := ⟨w.heap.size, 4, none⟩) (by show w.heap.size < _; omega)).trans (cell_here k1), (hb.cell (p := ⟨w.heap.size, 5, none⟩) (by show w.heap.size < _; omega)).trans (cell_here k1), (hb.cell (p := ⟨w.heap.size, 6, none⟩) (by show w.heap.size < _; omega)).trans (cell_here k1)⟩,
      (hb.cell (p := ⟨M, 0, none⟩) (by show M < _; omega)).trans ((b1.cell (p := ⟨M, 0, none⟩) hMl).trans hM),
      (hb.cell (p := ⟨I, 0, none⟩) (by show I < _; omega)).trans ((b1.cell (p := ⟨I, 0, none⟩) hIl).trans hI)⟩, hb⟩
  have hh := fun W => connID_any K S2 S3 S4 S5 b S7 W
  have STH := Lib.hid ST; have HH := Lib.hid hh; have HW := Lib.hid hW1; have HB1 := Lib.hid b1; have Z1 := Lib.hid z1
  clear ST hh hW1 b1 k1 z1 hM hI hMl hIl
  go_enter Tryd.func58, Tryd.ntmps58
  go_upto_region 1 with fail
  rw [← HW.out]
  go_region_held3 (fun W => ((W.cell? ⟨w.heap.size, 0, none⟩ = some (.string K) ∧ W.cell? ⟨w.heap.size, 1, none⟩ = some (.string S2) ∧ W.cell? ⟨w.heap.size, 2, none⟩ = some (.string S3) ∧ W.cell? ⟨w.heap.size, 3, none⟩ = some (.string S4) ∧ W.cell? ⟨w.heap.size, 4, none⟩ = some (.string S5) ∧ W.cell? ⟨w.heap.size, 5, none⟩ = some (.bool b) ∧ W.cell? ⟨w.heap.size, 6, none⟩ = some (.string S7)) ∧ W.cell? ⟨M, 0, none⟩ = some (.func (.func 27) #[] #[]) ∧ W.cell? ⟨I, 0, none⟩ = some (.string x)) ∧ Below W1.heap.size W1 W)
    (first | exact STH.out _ (by repeat (first | (with_reducible exact Below.refl _ _) | (with_reducible apply Below.drew) | (with_reducible refine Below.alloc ?_ (by (first | omega | (simp only [World.size_alloc, World.size_drew, set_size]; omega) | (simp; omega))) _) | (with_reducible refine Below.setCell ?_ (by (first | omega | (simp only [World.size_alloc, World.size_drew, set_size]; omega) | (simp; omega))) _) | (with_reducible refine Below.chain ?_ hbx))))
    (first | (go_at_call 27; (with_reducible refine (HH.out _).mono ?_); rintro e wx ⟨rfl, hbx⟩))
  all_goals
    go_wp2_with fail
    go_ret
    exact ⟨rfl, HB1.out.trans (Below.mono (w := W1) (by repeat (first | (with_reducible exact Below.refl _ _) | (with_reducible apply Below.drew) | (with_reducible refine Below.alloc ?_ (by (first | omega | (simp only [World.size_alloc, World.size_drew, set_size]; omega) | (simp; omega))) _) | (with_reducible refine Below.setCell ?_ (by (first | omega | (simp only [World.size_alloc, World.size_drew, set_size]; omega) | (simp; omega))) _) | (with_reducible refine Below.chain ?_ hbx))) HB1.out.size)⟩
set_option maxRecDepth 100000 in
set_option maxHeartbeats 2000000 in
theorem connIndex_any (A : Option Addr) (c : Nat) (l : List ConnP) (hl : l.length ≤ 4611686018427387904) (g : Nat) (lb : Array Value) (eg : ∀ args w, (callFunc g args).run Tryd.prog w = .ok (.enter g args) w) (p : Nat → Bool) (B : Nat) (R : Nat → World → Prop) (w : World)
    (hrd : ∀ W, Below B w W → RdCn W (.slice A l.length c) l) (h0 : R 0 w) (hB : B ≤ w.heap.size)
    (hf : ∀ k (hk : k < l.length) (W : World), R k W → Below B w W → Calls Tryd.prog g (#[l[k].val] ++ lb) W fun e W' => e = .returned (.bool (p k)) ∧ R (k + 1) W' ∧ Below B w W') :
    Calls Tryd.prog 57 #[.slice A l.length c, .func (.func g) #[] lb] w fun e w' => (∃ i, e = .returned (.int .i64 i) ∧ HitAt l.length p i) ∧ (∃ k, R k w') ∧ Below B w w' := by
  obtain ⟨n, hn⟩ : ∃ n, l.length = n := ⟨_, rfl⟩
  rw [hn] at hl hrd ⊢
  have HN := Lib.hid hn; have HF := Lib.hid hf; have HP := Lib.hid hrd; have H0 := Lib.hid h0
  clear hn hf hrd h0
  go_enter Tryd.func57, Tryd.ntmps57
  go_wp2
  go_loopw [8] (fun i wr => ∃ k : Nat, k ≤ n ∧ i = .int .i64 k ∧ (∀ j, j < k → p j = false) ∧ R k wr ∧ Below B w wr) (fun i _ => n - (intOf i).toNat)
  case atStart => exact ⟨0, Nat.zero_le _, rfl, fun _ h => absurd h (Nat.not_lt_zero _), H0.out, Below.refl _ _⟩
  case round =>
    obtain ⟨k, hk, rfl, hb, hR, hbw⟩ := hrel
    have HB := Lib.hid hb; have HBW := Lib.hid hbw; have HR := Lib.hid hR
    clear hb
    by_cases hlt : k < n
    · have hkl : k < l.length := by have := HN.out; omega
      obtain ⟨a, o, rfl, hab, h1, h2, h3, h4, h5, h6, h7⟩ := (HP.out wr hbw).at k hkl
      have hc := HF.out k hkl wr hR hbw
      unfold ConnP.val at hc
      obtain ⟨V0, hV0⟩ : ∃ B : ByteArray, tv l[k].fID = .string B := ⟨_, rfl⟩
      obtain ⟨V1, hV1⟩ : ∃ B : ByteArray, tv l[k].fIssuer = .string B := ⟨_, rfl⟩
      obtain ⟨V2, hV2⟩ : ∃ B : ByteArray, tv l[k].fClient = .string B := ⟨_, rfl⟩
      obtain ⟨V3, hV3⟩ : ∃ B : ByteArray, tv l[k].fAuth = .string B := ⟨_, rfl⟩
      obtain ⟨V4, hV4⟩ : ∃ B : ByteArray, tv l[k].fSecret = .string B := ⟨_, rfl⟩
      obtain ⟨V6, hV6⟩ : ∃ B : ByteArray, tv l[k].fRules = .string B := ⟨_, rfl⟩
      rw [hV0, hV1, hV2, hV3, hV4, hV6] at hc
      rw [hV0] at h1
      rw [hV1] at h2
      rw [hV2] at h3
      rw [hV3] at h4
      rw [hV4] at h5
      rw [hV6] at h7
      have g1 : p k = true → HitAt n p k := fun e => Or.inl ⟨k, hlt, rfl, e, HB.out⟩
      have g2 : p k = false → ∀ j, j < k + 1 → p j = false := hit_next HB.out
      have HC := Lib.hid hc; have G1 := Lib.hid g1; have G2 := Lib.hid g2
      clear hc g1 g2 hbw hR hV0 hV1 hV2 hV3 hV4 hV6
      have hk0 : (0 : Int) ≤ k := by omega
      have hk1 : (k : Int) < n := by omega
      go_wp2_with fail
      refine HC.out.mono ?_
      rintro e w1 ⟨rfl, hR1, hb1⟩
      have HR1 := Lib.hid hR1; have HB1 := Lib.hid hb1
      clear hR1 hb1
      cases hp : p k with
      | true =>
        have HE := Lib.hid (G1.out hp); clear hp
        dsimp only
        go_wp2
        go_ret
        exact ⟨⟨_, rfl, HE.out⟩, ⟨_, HR1.out⟩, HB1.out⟩
      | false =>
        have HE := Lib.hid (G2.out hp); clear hp
        dsimp only
        go_wp2
        go_roundw
        case rel => exact ⟨k + 1, by omega, by go_num, HE.out, HR1.out, HB1.out⟩
        case measure => simp [intOf]; omega
    · have hke : k = n := by omega
      subst hke
      go_wp2
      go_ret
      exact ⟨⟨_, rfl, Or.inr ⟨rfl, HB.out⟩⟩, ⟨_, HR.out⟩, HBW.out⟩
end Go.Proofs.YtiofgepfcacgjaaDoor
namespace Go.Proofs.YtiofgepfcacgjaaDoor
open Go.RowKit
/-- the lists are of one length, and alike up to k -/
def Alike (a b : List UInt8) (k : Nat) : Prop := a.length = b.length ∧ a.take k = b.take k
/-- what the loop holds: 0 just where they are alike so far -/
def Held (a b : List UInt8) (k : Nat) (U : Int) : Prop := 0 ≤ U ∧ U < 2 ^ 63 ∧ (U = 0 ↔ Alike a b k)

theorem held_start (a b : List UInt8) (ha : a.length < 2 ^ 63) (hb : b.length < 2 ^ 63) : Held a b 0 (bits .xor .i64 a.length b.length) := by
  rw [bits_xor_nat .i64 63 (by decide) wraps_i64 _ _ ha hb]
  refine ⟨Int.natCast_nonneg _, by exact_mod_cast Nat.xor_lt_two_pow ha hb, ?_⟩
  simp only [Alike, List.take_zero, and_true]
  rw [Int.natCast_eq_zero]
  exact xor_zero_iff _ _

theorem take_succ' (l : List UInt8) (k : Nat) (h : k < l.length) : l.take (k + 1) = l.take k ++ [l[k]] := List.take_succ_eq_append_getElem h

theorem held_in (a b : List UInt8) (k : Nat) (U : Int) (h : Held a b k U) (ha : k < a.length) (hb : k < b.length) :
    Held a b (k + 1) (bits .or .i64 U (wrap64 (bits .xor .u8 (a[k].toNat : Int) (b[k].toNat : Int)))) := by
  obtain ⟨h0, h1, h2⟩ := h
  obtain ⟨u, rfl⟩ := Int.eq_ofNat_of_zero_le h0
  have hu : u < 2 ^ 63 := by exact_mod_cast h1
  have x8 := a[k].toNat_lt
  have y8 := b[k].toNat_lt
  rw [u8_xor_nat _ _ x8 y8]
  have hx : a[k].toNat ^^^ b[k].toNat < 2 ^ 63 := Nat.lt_trans (Nat.xor_lt_two_pow (n := 8) x8 y8) (by decide)
  rw [IntWalk.wrap64_in _ ⟨by omega, by omega⟩]
  rw [(bits_nat .i64 63 (by decide) wraps_i64 u _ hu hx).2]
  refine ⟨Int.natCast_nonneg _, by exact_mod_cast Nat.or_lt_two_pow hu hx, ?_⟩
  rw [Int.natCast_eq_zero, Nat.or_eq_zero_iff, xor_zero_iff]
  rw [Int.natCast_eq_zero] at h2
  rw [h2]
  unfold Alike
  rw [take_succ' a k ha, take_succ' b k hb]
  constructor
  · rintro ⟨⟨hl, ht⟩, he⟩
    exact ⟨hl, by rw [ht, UInt8.toNat_inj.1 he]⟩
  · rintro ⟨hl, ht⟩
    have := List.append_inj ht (by simp; omega)
    exact ⟨⟨hl, this.1⟩, by simpa using congrArg (fun l => l.map UInt8.toNat) this.2⟩

theorem held_out (a b : List UInt8) (k : Nat) (U : Int) (h : Held a b k U) (ha : k < a.length) (hb : b.length ≤ k) :
    Held a b (k + 1) (bits .or .i64 U (wrap64 (bits .xor .u8 (a[k].toNat : Int) 0))) := by
  obtain ⟨h0, h1, h2⟩ := h
  obtain ⟨u, rfl⟩ := Int.eq_ofNat_of_zero_le h0
  have hu : u < 2 ^ 63 := by exact_mod_cast h1
  have x8 := a[k].toNat_lt
  have e0 : bits .xor .u8 (a[k].toNat : Int) 0 = ((a[k].toNat ^^^ 0 : Nat) : Int) := u8_xor_nat _ 0 x8 (by decide)
  rw [e0]
  have hx : a[k].toNat ^^^ 0 < 2 ^ 63 := Nat.lt_trans (Nat.xor_lt_two_pow (n := 8) x8 (by decide)) (by decide)
  rw [IntWalk.wrap64_in _ ⟨by omega, by omega⟩]
  rw [(bits_nat .i64 63 (by decide) wraps_i64 u _ hu hx).2]
  refine ⟨Int.natCast_nonneg _, by exact_mod_cast Nat.or_lt_two_pow hu hx, ?_⟩
  rw [Int.natCast_eq_zero, Nat.or_eq_zero_iff]
  rw [Int.natCast_eq_zero] at h2
  rw [h2]
  unfold Alike
  constructor
  · rintro ⟨⟨hl, _⟩, _⟩; omega
  · rintro ⟨hl, _⟩; omega

def eqB (a b : ByteArray) : Bool := decide (a.data.toList = b.data.toList)

theorem held_end (a b : ByteArray) (U : Int) (h : Held a.data.toList b.data.toList a.size U) : (U == 0) = eqB a b := by
  rw [Bool.eq_iff_iff]
  unfold eqB
  simp only [beq_iff_eq, decide_eq_true_iff]
  rw [h.2.2]
  unfold Alike
  have hs : a.data.toList.length = a.size := rfl
  constructor
  · rintro ⟨hl, ht⟩
    rw [List.take_of_length_le (by omega), List.take_of_length_le (by omega)] at ht
    exact ht
  · intro h; rw [h]; exact ⟨rfl, rfl⟩

set_option maxRecDepth 100000 in
theorem equal_any (a b : ByteArray) (ha : a.size ≤ maxLen) (hb : b.size ≤ maxLen) (w : World) :
    Calls Tryd.prog 37 #[.string a, .string b] w fun e w' => e = .returned (.bool (eqB a b)) ∧ w = w' := by
  unfold maxLen at ha hb
  have hstart := held_start a.data.toList b.data.toList (show a.size < 2 ^ 63 by omega) (show b.size < 2 ^ 63 by omega)
  have HS := Lib.hid hstart; clear hstart
  go_enter Tryd.func37, Tryd.ntmps37
  go_wp2
  go_loop [5, 15] (fun u i => ∃ (k : Nat) (U : Int), k ≤ a.size ∧ i = .int .i64 k ∧ u = .int .i64 U ∧ Held a.data.toList b.data.toList k U) (fun _ i => a.size - (intOf i).toNat)
  case atStart => exact ⟨0, _, Nat.zero_le _, rfl, rfl, HS.out⟩
  case round =>
    obtain ⟨k, U, hk, rfl, rfl, hh⟩ := hrel
    have HH := Lib.hid hh; clear hh
    by_cases hlt : k < a.size
    · by_cases hltb : k < b.size
      · go_wp2
        go_round
        case rel => exact ⟨k + 1, _, by omega, by go_num, rfl, held_in _ _ k U HH.out hlt hltb⟩
        case measure => simp [intOf]; omega
      · go_wp2
        go_round
        case rel => exact ⟨k + 1, _, by omega, by go_num, rfl, held_out _ _ k U HH.out hlt (Nat.le_of_not_lt hltb)⟩
        case measure => simp [intOf]; omega
    · go_wp2
      go_ret
      have hke : k = a.size := by omega
      subst hke
      exact ⟨ret_bool (held_end a b U HH.out), rfl⟩
end Go.Proofs.YtiofgepfcacgjaaDoor
namespace Go.Proofs.YtiofgepfcacgjaaDoor
open Go.RowKit
set_option linter.unusedVariables false
set_option linter.unusedSimpArgs false

/-- whatever lay below B lies as it lay, but block p -/
structure ButO (B p : Nat) (w w' : World) : Prop where
  os : w'.os = w.os
  tape : w'.tape = w.tape
  output : w'.output = w.output
  size : w.heap.size ≤ w'.heap.size
  block : ∀ k, k < B → k ≠ p → w'.heap[k]? = w.heap[k]?
theorem ButO.refl (B p : Nat) (w : World) : ButO B p w w := ⟨rfl, rfl, rfl, Nat.le_refl _, fun _ _ _ => rfl⟩
theorem ButO.trans {B p : Nat} {a b c : World} (h : ButO B p a b) (k : ButO B p b c) : ButO B p a c :=
  ⟨k.os.trans h.os, k.tape.trans h.tape, k.output.trans h.output, Nat.le_trans h.size k.size, fun i h1 h2 => (k.block i h1 h2).trans (h.block i h1 h2)⟩
theorem ButO.of {B p : Nat} {w w' : World} (h : Below B w w') : ButO B p w w' := ⟨h.os, h.tape, h.output, h.size, fun k hk _ => h.block k hk⟩
theorem ButO.low {B p A : Nat} {w w' : World} (h : ButO B p w w') (h1 : A ≤ B) (h2 : A ≤ p) : Below A w w' := ⟨h.os, h.tape, h.output, h.size, fun k hk => h.block k (by omega) (by omega)⟩
theorem ButO.mono {B B' p : Nat} {w w' : World} (h : ButO B p w w') (hB : B' ≤ B) : ButO B' p w w' := ⟨h.os, h.tape, h.output, h.size, fun k hk hp => h.block k (by omega) hp⟩
theorem ButO.set {B p : Nat} {w w' : World} (h : ButO B p w w') {b o : Nat} (hb : B ≤ b ∨ b = p) (v : Value) : ButO B p w (w'.setCell ⟨b, o, none⟩ v) :=
  ⟨h.os, h.tape, h.output, by rw [set_size]; exact h.size, fun k h1 h2 => (set_there v (by omega)).trans (h.block k h1 h2)⟩
theorem ButO.grown {B p : Nat} {w w' w'' : World} {row : Option Nat} (h : ButO B p w w') (hg : w'.grownBy w'' row) (hB : B ≤ w'.heap.size) (hr : ∀ k, row = some k → B ≤ k ∨ k = p) : ButO B p w w'' :=
  ⟨hg.os.trans h.os, hg.tape.trans h.tape, hg.output.trans h.output, Nat.le_trans h.size hg.size, fun k h1 h2 => (hg.block k (by omega) (fun e => by have := hr k e.symm; omega)).trans (h.block k h1 h2)⟩

end Go.Proofs.YtiofgepfcacgjaaDoor
namespace Go.Proofs.YtiofgepfcacgjaaDoor
open Go.RowKit
set_option linter.unusedVariables false
set_option linter.unusedSimpArgs false

open Go.Maps
theorem zeroUnitK (w : World) : (zeroValue 68).run Tryd.prog w = .ok (.agg #[]) w := by kernel_rfl
theorem run_makeMapHintK {P : Program} (t k e : TypeId) (kd : IntKind) (n : Int) (ht : P.underlying t = some (.map k e)) (w : World) :
    (Instr.makeMap t (some (.int kd n))).run P w = .ok (.map (some w.heap.size)) (w.alloc (.map #[] 0)) := by
  simp [Instr.makeMap, run_underlying ht]; rfl
theorem lawStrK : Keyed Tryd.prog 9 := string_keyed Tryd.underlying9
/-- the first k texts, as a set -/
def seenK (l : List (List UInt8)) (k : Nat) : DataW Unit := setOf (.agg []) ((l.take k).map Lit.string)
theorem seenK_zero (l : List (List UInt8)) : seenK l 0 = .map [] := rfl
theorem seenK_next (l : List (List UInt8)) (k : Nat) (h : k < l.length) : seenK l (k + 1) = (seenK l k).put (.string l[k]) (.agg []) := by
  unfold seenK
  rw [List.take_succ_eq_append_getElem h, List.map_append, List.map_singleton, setOf_snoc]
theorem str_sameKeyK (a b : List UInt8) : (Lit.string a).sameKey (.string b) = decide (a = b) := by
  show (a == b) = _
  rw [Bool.eq_iff_iff]; simp
theorem seenK_has (l : List (List UInt8)) (k : Nat) (x : List UInt8) : Maps.has (seenK l k) (.string x) = (l.take k).any (fun p => decide (p = x)) := by
  unfold seenK
  rw [has_setOf _ _ _ (fun y hy => by obtain ⟨_, _, rfl⟩ := List.mem_map.1 hy; trivial), List.any_map]
  congr 1; funext p; exact str_sameKeyK _ _
theorem seenK_yes {l : List (List UInt8)} {k : Nat} {x : List UInt8} (h : Maps.has (seenK l k) (.string x) = true) : ∃ j, ∃ hj : j < l.length, j < k ∧ l[j] = x := by
  rw [seenK_has, List.any_eq_true] at h
  obtain ⟨p, hp, he⟩ := h
  obtain ⟨j, hj, rfl⟩ := List.getElem_of_mem hp
  rw [List.length_take] at hj
  refine ⟨j, by omega, by omega, ?_⟩
  have : (l.take k)[j] = l[j] := List.getElem_take
  rw [this] at he
  simpa using he
theorem seenK_no {l : List (List UInt8)} {k : Nat} {x : List UInt8} (h : Maps.has (seenK l k) (.string x) = false) : ∀ j (hj : j < l.length), j < k → l[j] ≠ x := fun j hj hjk e => by
  rw [seenK_has, List.any_eq_false] at h
  have hm : l[j] ∈ l.take k := by
    rw [List.mem_iff_getElem]
    exact ⟨j, by rw [List.length_take]; omega, List.getElem_take⟩
  exact h _ hm (by simp [e])
theorem keyStrK (x : List UInt8) (hx : x.length ≤ maxLen) : keyOf Tryd.prog 9 (.string ⟨x.toArray⟩) = some (.string x) := WideMaps.keyOf_string_mk Tryd.underlying9 hx
/-- the look-up in a set of the call's own, as a run's equation -/
theorem seen_look {w : World} {Q n : Nat} {D : DataW Unit} (h : w.ownsMap Tryd.prog 9 (unitElem (H := Unit)) Q n D) (x : List UInt8) (hx : x.length ≤ maxLen) :
    (Instr.lookup 67 (.map (some Q)) (.string ⟨x.toArray⟩) true).run Tryd.prog w = .ok (.tuple #[.agg #[], .bool (Maps.has D (.string x))]) w := by
  obtain ⟨v, ps, hrun, hv⟩ := h.look_ok lawStrK Tryd.underlying67 (zeroUnitK w) unitElem_mk (keyStrK x hx)
  obtain ⟨rfl, _⟩ := unitElem_inv hv
  exact hrun
theorem seen_put {w : World} {Q n : Nat} {D : DataW Unit} (h : w.ownsMap Tryd.prog 9 (unitElem (H := Unit)) Q n D) (hn : n < maxLen) (x : List UInt8) (hx : x.length ≤ maxLen) :
    ∃ w', (Instr.mapUpdate 67 (.map (some Q)) (.string ⟨x.toArray⟩) (.agg #[])).run Tryd.prog w = .ok () w' ∧ w'.ownsMap Tryd.prog 9 (unitElem (H := Unit)) Q (n + 1) (D.put (.string x) (.agg [])) ∧ ButO w.heap.size Q w w' := by
  obtain ⟨w', hrun, ho, hg⟩ := h.update lawStrK Tryd.underlying67 hn (keyStrK x hx) (unitElem_mk (H := Unit))
  exact ⟨w', hrun, ho, ⟨hg.os, hg.tape, hg.output, hg.size, fun k hk hne => hg.block k hk (fun e => hne (by injection e))⟩⟩
theorem seen_kept {w w' : World} {Q n : Nat} {D : DataW Unit} (h : w.ownsMap Tryd.prog 9 (unitElem (H := Unit)) Q n D) (hb : Below w.heap.size w w') : w'.ownsMap Tryd.prog 9 (unitElem (H := Unit)) Q n D :=
  World.ownsMap.kept (row := none) h ⟨hb.os, hb.tape, hb.output, hb.size, fun k hk _ => hb.block k hk⟩ (by simp)
end Go.Proofs.YtiofgepfcacgjaaDoor
