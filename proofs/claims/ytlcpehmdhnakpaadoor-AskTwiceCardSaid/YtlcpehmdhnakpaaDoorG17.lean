/- Texts merged by program, in build order: CliKey, SplitOne, Pair, Iter, Parse, Both, LaidPin. -/
import Derived.Test.YtlcpehmdhnakpaaDoorG02
import Derived.Test.YtlcpehmdhnakpaaDoorG01
import Derived.Test.YtlcpehmdhnakpaaDoorG05
import Derived.Deep.RegionLaw
import Derived.Deep.Cut
import Derived.Shelf.Abstract
import Derived.Test.YtlcpehmdhnakpaaDoorG03
import Derived.Lib.Split
import Derived.Lib.IndexBytes
import Derived.Lib.SplitLaws
import Derived.Lib.Builder
import Derived.RangeFuncNested
import Derived.RangeFuncBound
import Derived.RangeFuncCalls
import Derived.RangeFuncLeaves
import Derived.Shelf.RegionOpen
import Derived.OwnWalkIn
import Derived.TacticsInMore
import Derived.LoopNIn
import Derived.LoopIn
import Derived.RangeFuncBox
import Derived.Maps.AppendAt
import Derived.Lib.LaidTab
import Derived.LaidMore
import Derived.LaidSub
import Derived.OpenShut
import Derived.ProofKit
import Derived.Stop.Joined
import Derived.Stop.LaidErr
import Derived.HandedShaped
import Derived.Shelf.Vars
set_option linter.unusedVariables false
set_option linter.unusedSimpArgs false
namespace Go.Proofs.YtlcpehmdhnakpaaDoor
open Go.RowKit Go.Shelf
set_option linter.unusedVariables false
set_option linter.unusedSimpArgs false

/-- where a test first says yes; -1: nowhere -/
def HitAt (n : Nat) (p : Nat → Bool) (i : Int) : Prop := (∃ k : Nat, k < n ∧ i = k ∧ p k = true ∧ ∀ j, j < k → p j = false) ∨ (i = -1 ∧ ∀ j, j < n → p j = false)
/-- whether a test says yes somewhere -/
def hitB (n : Nat) (p : Nat → Bool) : Bool := (List.range n).any p
theorem hitB_of {n : Nat} {p : Nat → Bool} {i : Int} (h : HitAt n p i) : decide (i ≥ 0) = hitB n p := by
  rcases h with ⟨k, hk, rfl, hp, _⟩ | ⟨rfl, hn⟩
  · rw [decide_eq_true (by omega)]
    symm; unfold hitB
    rw [List.any_eq_true]
    exact ⟨k, List.mem_range.2 hk, hp⟩
  · have : hitB n p = false := by
      unfold hitB
      rw [List.any_eq_false]
      intro j hj
      rw [hn j (List.mem_range.1 hj)]; decide
    rw [this]; decide
theorem hitB_no {n : Nat} {p : Nat → Bool} (h : hitB n p = false) (j : Nat) (hj : j < n) : p j = false := by
  unfold hitB at h
  rw [List.any_eq_false] at h
  have := h j (List.mem_range.2 hj)
  cases hp : p j with
  | true => exact absurd hp this
  | false => rfl
theorem hitB_yes {n : Nat} {p : Nat → Bool} (h : hitB n p = true) : ∃ j, j < n ∧ p j = true := by
  unfold hitB at h
  rw [List.any_eq_true] at h
  obtain ⟨j, hj, hp⟩ := h
  exact ⟨j, List.mem_range.1 hj, hp⟩
theorem hit_next {p : Nat → Bool} {k : Nat} (h : ∀ j, j < k → p j = false) (hp : p k = false) : ∀ j, j < k + 1 → p j = false := fun j hj => by
  rcases Nat.lt_succ_iff_lt_or_eq.1 hj with hj | hj
  · exact h j hj
  · rw [hj]; exact hp
set_option maxRecDepth 100000 in
set_option maxHeartbeats 2000000 in
theorem clientID_any (K S : ByteArray) (A : Option Addr) (n c : Nat) (w : World) : Calls Tryd.prog 47 #[.agg #[.string K, .string S, .slice A n c]] w fun e w' => e = .returned (.string K) ∧ Below w.heap.size w w' := by
  go_enter Tryd.func47, Tryd.ntmps47
  go_wp2
  go_ret
  exact ⟨rfl, (Below.refl _ _).alloc (Nat.le_refl _) _⟩
set_option maxRecDepth 100000 in
set_option maxHeartbeats 2000000 in
theorem clientIs_any (K S : ByteArray) (A : Option Addr) (n c : Nat) (x : ByteArray) (M I : Nat) (w : World) (hM : w.cell? ⟨M, 0, none⟩ = some (.func (.func 47) #[] #[])) (hI : w.cell? ⟨I, 0, none⟩ = some (.string x)) (hMl : M < w.heap.size) (hIl : I < w.heap.size) :
    Calls Tryd.prog 57 #[.agg #[.string K, .string S, .slice A n c], .pointer (some ⟨M, 0, none⟩), .pointer (some ⟨I, 0, none⟩)] w fun e w' => e = .returned (.bool (K.toList == x.toList)) ∧ Below w.heap.size w w' := by
  have eg := enters_of Tryd.func47 (by kernel_rfl) rfl
  obtain ⟨W1, hW1⟩ : ∃ W1, W1 = w.alloc (.cells #[.string K, .string S, .slice A n c] 43) := ⟨_, rfl⟩
  have b1 : Below w.heap.size w W1 := by rw [hW1]; exact (Below.refl _ _).alloc (Nat.le_refl _) _
  have z1 : W1.heap.size = w.heap.size + 1 := by rw [hW1]; simp
  have k1 : W1.heap[w.heap.size]? = some (.cells #[.string K, .string S, .slice A n c] 43 (0, 0)) := by rw [hW1]; exact heap_alloc_last w _
  have ST : ∀ W, Below W1.heap.size W1 W → ((W.cell? ⟨w.heap.size, 0, none⟩ = some (.string K) ∧ W.cell? ⟨w.heap.size, 1, none⟩ = some (.string S) ∧ W.cell? ⟨w.heap.size, 2, none⟩ = some (.slice A n c)) ∧ W.cell? ⟨M, 0, none⟩ = some (.func (.func 47) #[] #[]) ∧ W.cell? ⟨I, 0, none⟩ = some (.string x)) ∧ Below W1.heap.size W1 W := fun W hb =>
    ⟨⟨⟨(hb.cell (p := ⟨w.heap.size, 0, none⟩) (by show w.heap.size < _; omega)).trans (cell_here k1), (hb.cell (p := ⟨w.heap.size, 1, none⟩) (by show w.heap.size < _; omega)).trans (cell_here k1), (hb.cell (p := ⟨w.heap.size, 2, none⟩) (by show w.heap.size < _; omega)).trans (cell_here k1)⟩,
      (hb.cell (p := ⟨M, 0, none⟩) (by show M < _; omega)).trans ((b1.cell (p := ⟨M, 0, none⟩) hMl).trans hM),
      (hb.cell (p := ⟨I, 0, none⟩) (by show I < _; omega)).trans ((b1.cell (p := ⟨I, 0, none⟩) hIl).trans hI)⟩, hb⟩
  have hh := fun W => clientID_any K S A n c W
  have STH := Lib.hid ST; have HH := Lib.hid hh; have HW := Lib.hid hW1; have HB1 := Lib.hid b1; have Z1 := Lib.hid z1
  clear ST hh hW1 b1 k1 z1 hM hI hMl hIl
  go_enter Tryd.func57, Tryd.ntmps57
  go_upto_region 1 with fail
  rw [← HW.out]
  go_region_held3 (fun W => ((W.cell? ⟨w.heap.size, 0, none⟩ = some (.string K) ∧ W.cell? ⟨w.heap.size, 1, none⟩ = some (.string S) ∧ W.cell? ⟨w.heap.size, 2, none⟩ = some (.slice A n c)) ∧ W.cell? ⟨M, 0, none⟩ = some (.func (.func 47) #[] #[]) ∧ W.cell? ⟨I, 0, none⟩ = some (.string x)) ∧ Below W1.heap.size W1 W)
    (first | exact STH.out _ (by repeat (first | (with_reducible exact Below.refl _ _) | (with_reducible apply Below.drew) | (with_reducible refine Below.alloc ?_ (by (first | omega | (simp only [World.size_alloc, World.size_drew, set_size]; omega) | (simp; omega))) _) | (with_reducible refine Below.setCell ?_ (by (first | omega | (simp only [World.size_alloc, World.size_drew, set_size]; omega) | (simp; omega))) _) | (with_reducible refine Below.chain ?_ hbx))))
    (first | (go_at_call 47; (with_reducible refine (HH.out _).mono ?_); rintro e wx ⟨rfl, hbx⟩))
  all_goals
    go_wp2_with fail
    go_ret
    exact ⟨rfl, HB1.out.trans (Below.mono (w := W1) (by repeat (first | (with_reducible exact Below.refl _ _) | (with_reducible apply Below.drew) | (with_reducible refine Below.alloc ?_ (by (first | omega | (simp only [World.size_alloc, World.size_drew, set_size]; omega) | (simp; omega))) _) | (with_reducible refine Below.setCell ?_ (by (first | omega | (simp only [World.size_alloc, World.size_drew, set_size]; omega) | (simp; omega))) _) | (with_reducible refine Below.chain ?_ hbx))) HB1.out.size)⟩
set_option maxRecDepth 100000 in
set_option maxHeartbeats 2000000 in
theorem clientIndex_any (A : Option Addr) (c : Nat) (l : List CliP) (hl : l.length ≤ 4611686018427387904) (g : Nat) (lb : Array Value) (eg : ∀ args w, (callFunc g args).run Tryd.prog w = .ok (.enter g args) w) (p : Nat → Bool) (B : Nat) (R : Nat → World → Prop) (w : World)
    (hrd : ∀ W, Below B w W → RdCl W (.slice A l.length c) l) (h0 : R 0 w) (hB : B ≤ w.heap.size)
    (hf : ∀ k (hk : k < l.length) (W : World) (u : Value), R k W → Below B w W → RdT W u l[k].cReds → Calls Tryd.prog g (#[.agg #[tv l[k].cID, tv l[k].cSecret, u]] ++ lb) W fun e W' => e = .returned (.bool (p k)) ∧ R (k + 1) W' ∧ Below B w W') :
    Calls Tryd.prog 56 #[.slice A l.length c, .func (.func g) #[] lb] w fun e w' => (∃ i, e = .returned (.int .i64 i) ∧ HitAt l.length p i) ∧ (∃ k, R k w') ∧ Below B w w' := by
  obtain ⟨n, hn⟩ : ∃ n, l.length = n := ⟨_, rfl⟩
  rw [hn] at hl hrd ⊢
  have HN := Lib.hid hn; have HF := Lib.hid hf; have HP := Lib.hid hrd; have H0 := Lib.hid h0
  clear hn hf hrd h0
  go_enter Tryd.func56, Tryd.ntmps56
  go_wp2
  go_loopw [8] (fun i wr => ∃ k : Nat, k ≤ n ∧ i = .int .i64 k ∧ (∀ j, j < k → p j = false) ∧ R k wr ∧ Below B w wr) (fun i _ => n - (intOf i).toNat)
  case atStart => exact ⟨0, Nat.zero_le _, rfl, fun _ h => absurd h (Nat.not_lt_zero _), H0.out, Below.refl _ _⟩
  case round =>
    obtain ⟨k, hk, rfl, hb, hR, hbw⟩ := hrel
    have HB := Lib.hid hb; have HBW := Lib.hid hbw; have HR := Lib.hid hR
    clear hb
    by_cases hlt : k < n
    · have hkl : k < l.length := by have := HN.out; omega
      obtain ⟨a, o, u, rfl, hab, h1, h2, h3, hu⟩ := (HP.out wr hbw).at k hkl
      obtain ⟨UA, uc, rfl⟩ := rdt_form hu
      have hc := HF.out k hkl wr _ hR hbw hu
      obtain ⟨V0, hV0⟩ : ∃ B : ByteArray, tv l[k].cID = .string B := ⟨_, rfl⟩
      obtain ⟨V1, hV1⟩ : ∃ B : ByteArray, tv l[k].cSecret = .string B := ⟨_, rfl⟩
      rw [hV0, hV1] at hc
      rw [hV0] at h1
      rw [hV1] at h2
      have g1 : p k = true → HitAt n p k := fun e => Or.inl ⟨k, hlt, rfl, e, HB.out⟩
      have g2 : p k = false → ∀ j, j < k + 1 → p j = false := hit_next HB.out
      have HC := Lib.hid hc; have G1 := Lib.hid g1; have G2 := Lib.hid g2
      clear hc g1 g2 hbw hR hV0 hV1
      have hk0 : (0 : Int) ≤ k := by omega
      have hk1 : (k : Int) < n := by omega
      go_wp2_with fail
      refine HC.out.mono ?_
      rintro e w1 ⟨rfl, hR1, hb1⟩
      have HR1 := Lib.hid hR1; have HB1 := Lib.hid hb1
      clear hR1 hb1
      cases hp : p k with
      | true =>
        have HE := Lib.hid (G1.out hp); clear hp
        dsimp only
        go_wp2
        go_ret
        exact ⟨⟨_, rfl, HE.out⟩, ⟨_, HR1.out⟩, HB1.out⟩
      | false =>
        have HE := Lib.hid (G2.out hp); clear hp
        dsimp only
        go_wp2
        go_roundw
        case rel => exact ⟨k + 1, by omega, by go_num, HE.out, HR1.out, HB1.out⟩
        case measure => simp [intOf]; omega
    · have hke : k = n := by omega
      subst hke
      go_wp2
      go_ret
      exact ⟨⟨_, rfl, Or.inr ⟨rfl, HB.out⟩⟩, ⟨_, HR.out⟩, HBW.out⟩
end Go.Proofs.YtlcpehmdhnakpaaDoor
namespace Go.Proofs.YtlcpehmdhnakpaaDoor
open Go.RowKit

theorem splitK_one (c : UInt8) : ∀ (n : Nat) (l : List UInt8), Lib.count l [c] = n → Lib.splitK [c] 0 n l = splitL c l := by
  intro n
  induction n with
  | zero =>
    intro l h
    by_cases hk : atL c l < l.length
    · have hi : Lib.index l [c] = (atL c l : Int) := by rw [Lib.index_one, atL_index, if_pos hk]
      have := Lib.count_hit (sub := [c]) (by simp) hi
      omega
    · exact (splitL_last (by omega)).symm
  | succ n ih =>
    intro l h
    by_cases hk : atL c l < l.length
    · have hi : Lib.index l [c] = (atL c l : Int) := by rw [Lib.index_one, atL_index, if_pos hk]
      have h2 := Lib.count_hit (sub := [c]) (by simp) hi
      have h3 := ih (l.drop (atL c l + 1)) (by simp only [List.length_singleton] at h2; omega)
      unfold Lib.splitK
      have hm : ¬ (Lib.index l [c] == -1) = true := fun e => by have := beq_iff_eq.1 e; omega
      rw [if_neg hm, hi, splitL_more hk]
      simp only [Int.toNat_natCast, Nat.add_zero, List.length_singleton]
      rw [h3]
    · have hi : Lib.index l [c] = -1 := by rw [Lib.index_one, atL_index, if_neg hk]
      have := Lib.count_miss hi
      omega
def scellsJ (l : List (List UInt8)) : List Value := l.map fun p => Value.string ⟨p.toArray⟩
theorem splitB_one (s : List UInt8) (c : UInt8) : (Lib.splitB ⟨#[c]⟩ 0 (Lib.countB ⟨s.toArray⟩ ⟨#[c]⟩) ⟨s.toArray⟩).map Value.string = scellsJ (splitL c s) := by
  have h := Lib.splitB_data ⟨#[c]⟩ 0 (Lib.countB ⟨s.toArray⟩ ⟨#[c]⟩) ⟨s.toArray⟩
  have e : (⟨s.toArray⟩ : ByteArray).data.toList = s := by simp
  have e2 : (⟨#[c]⟩ : ByteArray).data.toList = [c] := rfl
  rw [e, e2, splitK_one c _ s (by show _ = Lib.count _ _; rw [e2])] at h
  rw [← h]
  unfold scellsJ
  rw [List.map_map]
  refine List.map_congr_left fun x _ => ?_
  show Value.string x = Value.string ⟨x.data.toList.toArray⟩
  rw [← str_eta]
theorem splitB_len (s : List UInt8) (c : UInt8) : Lib.countB ⟨s.toArray⟩ ⟨#[c]⟩ + 1 = (splitL c s).length := by
  have h1 := Lib.splitB_all ⟨#[c]⟩ (Nat.le_refl 1) 0 _ ⟨s.toArray⟩ rfl
  have h2 := congrArg List.length (splitB_one s c)
  rw [List.length_map, h1] at h2
  rw [h2]; simp [scellsJ]
end Go.Proofs.YtlcpehmdhnakpaaDoor
namespace Go.Proofs.YtlcpehmdhnakpaaDoor
open Go.RowKit


theorem pair_block {w w3 : World} {u v : Value} {n : Nat} {t : TypeId} (h : Below ((w.alloc (.cells #[u, v] t)).drewN n).heap.size ((w.alloc (.cells #[u, v] t)).drewN n) w3) :
    Below w.heap.size w w3 ∧ w3.cell? ⟨w.heap.size, 0, none⟩ = some u ∧ w3.cell? ⟨w.heap.size, 1, none⟩ = some v ∧ w3.frozen? ⟨w.heap.size, 0, none⟩ = false ∧ w3.frozen? ⟨w.heap.size, 1, none⟩ = false := by
  have hk : w3.heap[w.heap.size]? = some (.cells #[u, v] t (0, 0)) := (h.block w.heap.size (by simp)).trans (heap_alloc_new w _)
  refine ⟨(belowDrewN ((Below.refl _ _).alloc (Nat.le_refl _) _) n).trans (h.mono (by simp)), ?_, ?_, ?_, ?_⟩
  · rw [Lib.cell_of_heap hk]; rfl
  · rw [Lib.cell_of_heap hk]; rfl
  · rw [Lib.frozen_of_heap hk]
  · rw [Lib.frozen_of_heap hk]

set_option maxRecDepth 100000 in
theorem pair_yes (s : ByteArray) (a b : List UInt8) (ha : unq (s.data.toList.take (atL 61 s.data.toList)) = some a) (hb : unq (s.data.toList.drop (atL 61 s.data.toList + 1)) = some b) (hs : s.size ≤ 1048576) (w : World) :
    Calls Tryd.prog 30 #[.string s] w fun e w' => e = .returned (.tuple #[.agg #[.string ⟨a.toArray⟩, .string ⟨b.toArray⟩], .int .i64 0]) ∧ Below w.heap.size w w' := by
  have h1 := atL_take 61 s.data.toList
  have h2 := atL_drop 61 s.data.toList
  have hsz : s.data.toList.length = s.size := rfl
  rw [hsz] at h1 h2
  have u1 := unquote_yes (str (s.data.toList.take (atL 61 s.data.toList))) a ha (by rw [str_size]; omega)
  have u2 := unquote_yes (str (s.data.toList.drop (atL 61 s.data.toList + 1))) b hb (by rw [str_size]; omega)
  have hc := cut1_any s 61 (by unfold maxLen; omega)
  unfold cutSays at hc
  generalize s.data.toList.take (atL 61 s.data.toList) = x at *
  generalize s.data.toList.drop (atL 61 s.data.toList + 1) = y at *
  generalize decide (atL 61 s.data.toList < s.data.toList.length) = z at *
  clear ha hb hsz h1 h2
  go_enter Tryd.func30, Tryd.ntmps30
  go_wp2_with fail
  refine (hc _).mono ?_
  rintro e w1 ⟨rfl, n, rfl⟩
  clear hc
  go_wp2_with fail
  refine (u1 _).mono ?_
  clear u1
  rintro e w2 ⟨rfl, hb2⟩
  go_wp2_with fail
  refine (u2 _).mono ?_
  clear u2
  rintro e w3 ⟨rfl, hb3⟩
  obtain ⟨hb, hc0, hc1, hf0, hf1⟩ := pair_block (hb2.chain hb3)
  go_wp2_with fail
  refine bodyPost_ret (v := .tuple #[.agg #[.string ⟨a.toArray⟩, .string ⟨b.toArray⟩], .int .i64 0]) (by simp [results, Tryd.results30, go_sem, hc0, hc1]) rfl ⟨rfl, ?_⟩
  exact (hb.setCell (p := ⟨w.heap.size, 0, none⟩) (Nat.le_refl _) _).setCell (p := ⟨w.heap.size, 1, none⟩) (Nat.le_refl _) _
set_option maxRecDepth 100000 in
theorem pair_key (s : ByteArray) (ha : unq (s.data.toList.take (atL 61 s.data.toList)) = none) (hs : s.size ≤ 1048576) (w : World) :
    Calls Tryd.prog 30 #[.string s] w fun e w' => e = .returned (.tuple #[.agg #[.string ⟨#[]⟩, .string ⟨#[]⟩], .int .i64 2]) ∧ Below w.heap.size w w' := by
  have h1 := atL_take 61 s.data.toList
  have hsz : s.data.toList.length = s.size := rfl
  rw [hsz] at h1
  have u1 := unquote_no (str (s.data.toList.take (atL 61 s.data.toList))) ha (by rw [str_size]; omega)
  have hc := cut1_any s 61 (by unfold maxLen; omega)
  unfold cutSays at hc
  generalize s.data.toList.take (atL 61 s.data.toList) = x at *
  generalize s.data.toList.drop (atL 61 s.data.toList + 1) = y at *
  generalize decide (atL 61 s.data.toList < s.data.toList.length) = z at *
  clear ha hsz h1
  go_enter Tryd.func30, Tryd.ntmps30
  go_wp2_with fail
  refine (hc _).mono ?_
  rintro e w1 ⟨rfl, n, rfl⟩
  clear hc
  go_wp2_with fail
  refine (u1 _).mono ?_
  clear u1
  rintro e w2 ⟨rfl, hb2⟩
  obtain ⟨hb, hc0, hc1, hf0, hf1⟩ := pair_block hb2
  go_wp2_with fail
  refine bodyPost_ret (v := .tuple #[.agg #[.string ⟨#[]⟩, .string ⟨#[]⟩], .int .i64 2]) (by simp [results, Tryd.results30, go_sem, hc0, hc1]) rfl ⟨rfl, ?_⟩
  exact (hb.setCell (p := ⟨w.heap.size, 0, none⟩) (Nat.le_refl _) _).setCell (p := ⟨w.heap.size, 1, none⟩) (Nat.le_refl _) _
set_option maxRecDepth 100000 in
theorem pair_val (s : ByteArray) (a : List UInt8) (ha : unq (s.data.toList.take (atL 61 s.data.toList)) = some a) (hb : unq (s.data.toList.drop (atL 61 s.data.toList + 1)) = none) (hs : s.size ≤ 1048576) (w : World) :
    Calls Tryd.prog 30 #[.string s] w fun e w' => e = .returned (.tuple #[.agg #[.string ⟨#[]⟩, .string ⟨#[]⟩], .int .i64 2]) ∧ Below w.heap.size w w' := by
  have h1 := atL_take 61 s.data.toList
  have h2 := atL_drop 61 s.data.toList
  have hsz : s.data.toList.length = s.size := rfl
  rw [hsz] at h1 h2
  have u1 := unquote_yes (str (s.data.toList.take (atL 61 s.data.toList))) a ha (by rw [str_size]; omega)
  have u2 := unquote_no (str (s.data.toList.drop (atL 61 s.data.toList + 1))) hb (by rw [str_size]; omega)
  have hc := cut1_any s 61 (by unfold maxLen; omega)
  unfold cutSays at hc
  generalize s.data.toList.take (atL 61 s.data.toList) = x at *
  generalize s.data.toList.drop (atL 61 s.data.toList + 1) = y at *
  generalize decide (atL 61 s.data.toList < s.data.toList.length) = z at *
  clear ha hb hsz h1 h2
  go_enter Tryd.func30, Tryd.ntmps30
  go_wp2_with fail
  refine (hc _).mono ?_
  rintro e w1 ⟨rfl, n, rfl⟩
  clear hc
  go_wp2_with fail
  refine (u1 _).mono ?_
  clear u1
  rintro e w2 ⟨rfl, hb2⟩
  go_wp2_with fail
  refine (u2 _).mono ?_
  clear u2
  rintro e w3 ⟨rfl, hb3⟩
  obtain ⟨hb, hc0, hc1, hf0, hf1⟩ := pair_block (hb2.chain hb3)
  go_wp2_with fail
  refine bodyPost_ret (v := .tuple #[.agg #[.string ⟨#[]⟩, .string ⟨#[]⟩], .int .i64 2]) (by simp [results, Tryd.results30, go_sem, hc0, hc1]) rfl ⟨rfl, ?_⟩
  exact (hb.setCell (p := ⟨w.heap.size, 0, none⟩) (Nat.le_refl _) _).setCell (p := ⟨w.heap.size, 1, none⟩) (Nat.le_refl _) _
/-- what pair answers -/
def PairSays (l : List UInt8) (e : Ending) : Prop :=
  (∃ x, pairL l = some x ∧ e = .returned (.tuple #[.agg #[.string ⟨x.1.toArray⟩, .string ⟨x.2.toArray⟩], .int .i64 0])) ∨ (pairL l = none ∧ e = .returned (.tuple #[.agg #[.string ⟨#[]⟩, .string ⟨#[]⟩], .int .i64 2]))
theorem pair_good (s : ByteArray) (x : List UInt8 × List UInt8) (h : pairL s.data.toList = some x) (hs : s.size ≤ 1048576) (w : World) :
    Calls Tryd.prog 30 #[.string s] w fun e w' => e = .returned (.tuple #[.agg #[.string ⟨x.1.toArray⟩, .string ⟨x.2.toArray⟩], .int .i64 0]) ∧ Below w.heap.size w w' := by
  unfold pairL at h
  split at h
  · rename_i a b ha hb
    simp at h; subst h
    exact pair_yes s a b ha hb hs w
  · cases h
theorem pair_bad (s : ByteArray) (h : pairL s.data.toList = none) (hs : s.size ≤ 1048576) (w : World) :
    Calls Tryd.prog 30 #[.string s] w fun e w' => e = .returned (.tuple #[.agg #[.string ⟨#[]⟩, .string ⟨#[]⟩], .int .i64 2]) ∧ Below w.heap.size w w' := by
  cases ha : unq (s.data.toList.take (atL 61 s.data.toList)) with
  | none => exact pair_key s ha hs w
  | some a =>
    cases hb : unq (s.data.toList.drop (atL 61 s.data.toList + 1)) with
    | none => exact pair_val s a ha hb hs w
    | some b => rw [pairL_some ha hb] at h; cases h
end Go.Proofs.YtlcpehmdhnakpaaDoor
namespace Go.Proofs.YtlcpehmdhnakpaaDoor
open Go.RowKit Go.Shelf

attribute [local go_sem] Oper.semAt_some
/-- a part of a text that is not too long -/
abbrev Part (m : Nat) := { p : List UInt8 // p.length ≤ m }
def vals {m : Nat} (l : List (Part m)) : List (List UInt8) := l.map (·.1)
theorem vals_nil (m : Nat) : vals ([] : List (Part m)) = [] := rfl
theorem vals_snoc {m : Nat} (l : List (Part m)) (p : Part m) : vals (l ++ [p]) = vals l ++ [p.1] := by simp only [vals, List.map_append, List.map_cons, List.map_nil]
theorem vals_len {m : Nat} (l : List (Part m)) : (vals l).length = l.length := by simp only [vals, List.length_map]
theorem parts_hit {l : List UInt8} {m : Nat} {pre : List (Part m)} {r : List UInt8} (h : partsL l = vals pre ++ partsL r) (hk : atL 38 r < r.length) (p : Part m) (hp : r.take (atL 38 r) = p.1) (hne : p.1 ≠ []) :
    partsL l = vals (pre ++ [p]) ++ partsL (r.drop (atL 38 r + 1)) := by
  rw [h, partsL_more hk, hp, one1, if_neg hne, vals_snoc, List.append_assoc]
theorem parts_skip {l : List UInt8} {m : Nat} {pre : List (Part m)} {r : List UInt8} (h : partsL l = vals pre ++ partsL r) (hk : atL 38 r < r.length) (he : r.take (atL 38 r) = []) :
    partsL l = vals pre ++ partsL (r.drop (atL 38 r + 1)) := by
  rw [h, partsL_more hk, one1, if_pos he, List.nil_append]
theorem take_full (r : List UInt8) (hk : ¬ atL 38 r < r.length) : r.take (atL 38 r) = r := List.take_of_length_le (by omega)
theorem parts_last {l : List UInt8} {m : Nat} {pre : List (Part m)} {r : List UInt8} (h : partsL l = vals pre ++ partsL r) (hk : ¬ atL 38 r < r.length) (p : Part m) (hp : r.take (atL 38 r) = p.1) (hne : p.1 ≠ []) :
    partsL l = vals (pre ++ [p]) := by
  rw [take_full r hk] at hp
  rw [h, partsL_last (by omega), hp, one1, if_neg hne, vals_snoc]
theorem parts_end {l : List UInt8} {m : Nat} {pre : List (Part m)} {r : List UInt8} (h : partsL l = vals pre ++ partsL r) (hk : ¬ atL 38 r < r.length) (he : r.take (atL 38 r) = []) :
    partsL l = vals pre := by
  rw [take_full r hk] at he
  rw [h, partsL_last (by omega), one1, if_pos he, List.append_nil]
theorem parts_room {l : List UInt8} {m : Nat} {pre : List (Part m)} {p : Part m} {r : List (List UInt8)} (h : partsL l = vals (pre ++ [p]) ++ r) : pre.length < (partsL l).length := by
  rw [h, vals_snoc, List.append_assoc, List.length_append, vals_len, List.length_append, List.length_cons]; omega
theorem parts_pre {l : List UInt8} {m : Nat} {pre : List (Part m)} {r : List (List UInt8)} (h : partsL l = vals pre ++ r) : vals pre <+: partsL l := ⟨r, h.symm⟩
theorem drewN_grown (w : World) (k : Nat) : w.grownBy (w.drewN k) none := ⟨rfl, rfl, rfl, Nat.le_refl _, fun _ _ _ => rfl⟩

def more1 : Value → Value → Nat
  | .string b, .bool true => b.size + 1
  | _, _ => 0

/-- what the loop holds of what is left, and of whether there is more -/
def LeftAt (l : List UInt8) (m : Nat) (pre : List (Part m)) (rv mv : Value) : Prop :=
  (∃ r : List UInt8, rv = .string ⟨r.toArray⟩ ∧ mv = .bool true ∧ r.length ≤ m ∧ partsL l = vals pre ++ partsL r) ∨ ((∃ b, rv = .string b) ∧ mv = .bool false ∧ partsL l = vals pre)

set_option maxRecDepth 100000 in
set_option maxHeartbeats 1000000 in
theorem parts1_in (n : Nat) (hn : 1 ≤ n) (l Bn n₀ : Nat) (s : List UInt8) (m : Nat) (hs : s.length ≤ m) (hm : m ≤ 1048576) (J Jx : List (Part m) → World → Prop)
    (hdJ : ∀ pre W k, J pre W → J pre (W.drewN k))
    (hY : ∀ pre x W, J pre W → pre.length < (partsL s).length → YieldAt Fence.wide (n - 1) Tryd.prog l #[.string ⟨x.1.toArray⟩] W fun e W' =>
      (e = .returned (.bool true) ∧ J (pre ++ [x]) W' ∧ Below n₀ W W') ∨ (e = .returned (.bool false) ∧ Jx (pre ++ [x]) W'))
    (W : World) (hBn : W.cell? ⟨Bn, 0, none⟩ = some (.string ⟨s.toArray⟩)) (h0 : J [] W) :
    CallsIn Fence.wide n Tryd.prog 42 #[.func (.yield l) #[] #[], .pointer (some ⟨Bn, 0, none⟩)] W fun e W' => (∃ v, e = .returned v) ∧
      ((∃ ys, vals ys = partsL s ∧ J ys W') ∨ (∃ pre, vals pre <+: partsL s ∧ Jx pre W')) := by
  refine callsIn_of_wp Tryd.func42 rfl trivial ?_ rfl
  simp only [Tryd.ntmps42, List.size_toArray, List.length_cons, List.length_nil, Nat.reduceAdd, Nat.reduceSub, Array.replicate_succ, Array.replicate_zero, List.push_toArray, List.append_toArray, List.nil_append, List.cons_append]
  gi_wp2
  gi_loopw [3, 4] (fun rv mv wr => ∃ pre : List (Part m), LeftAt s m pre rv mv ∧ J pre wr) (fun rv mv _ => more1 rv mv)
  case atStart => exact ⟨[], Or.inl ⟨s, rfl, rfl, hs, rfl⟩, h0⟩
  case round =>
    obtain ⟨pre, hl, hJ⟩ := hrel
    rcases hl with ⟨r, rfl, rfl, hr, hp⟩ | ⟨⟨b, rfl⟩, rfl, hp⟩
    · have hc := cut1_any (str r) 38 (by unfold maxLen; rw [str_size]; omega)
      unfold cutSays at hc
      rw [str_list] at hc
      have htk := Nat.le_trans (atL_take 38 r) hr
      have hdr := Nat.le_trans (atL_drop 38 r) hr
      have hsx : (r.drop (atL 38 r + 1)).length ≤ r.length := atL_drop 38 r
      by_cases hk : atL 38 r < r.length
      · have hz : (decide (atL 38 r < r.length)) = true := by simpa using hk
        have hdk : (r.drop (atL 38 r + 1)).length + 1 ≤ r.length := by rw [List.length_drop]; omega
        rw [hz] at hc
        by_cases he : r.take (atL 38 r) = []
        · have hp' := parts_skip hp hk he
          rw [he] at hc
          have HP := Lib.hid hp'; clear hp hp' hz he htk hk hsx
          generalize r.drop (atL 38 r + 1) = t at *
          gi_wp2_with (refine ⟨trivial, ?_⟩; gi_at_call 43; refine (callsIn_wide.2 (hc _)).mono ?_; rintro e w1 ⟨rfl, q, rfl⟩)
          refine ⟨fun _ h => (by cases h), ?_⟩
          gi_wp2
          go_roundw
          case rel => exact ⟨pre, Or.inl ⟨t, rfl, rfl, hdr, HP.out⟩, hdJ _ _ _ hJ⟩
          case measure => simp only [more1, str_size]; show t.length + 1 < r.length + 1; omega
        · obtain ⟨p, hpe⟩ : ∃ p : Part m, p.1 = r.take (atL 38 r) := ⟨⟨_, htk⟩, rfl⟩
          rw [← hpe] at hc he
          have hp' := parts_hit hp hk p hpe.symm he
          have hbe : (!p.1.isEmpty) = true := by simpa using he
          have HP := Lib.hid hp'; have HE := Lib.hid he; clear hp hp' hz he htk hk hsx hpe
          generalize r.drop (atL 38 r + 1) = t at *
          gi_wp2_with (refine ⟨trivial, ?_⟩; gi_at_call 43; refine (callsIn_wide.2 (hc _)).mono ?_; rintro e w1 ⟨rfl, q, rfl⟩; obtain ⟨fn, tmps, assign, body, hy, hR⟩ := hY pre p (wr.drewN q) (hdJ _ _ _ hJ) (parts_room HP.out))
          refine hR.mono ?_
          rintro e W3 (⟨rfl, hJ3, hk3⟩ | ⟨rfl, hJx3⟩)
          · gi_wp2
            go_roundw
            case rel => exact ⟨pre ++ [p], Or.inl ⟨t, rfl, rfl, hdr, HP.out⟩, hJ3⟩
            case measure => simp only [more1, str_size]; show t.length + 1 < r.length + 1; omega
          · gi_wp2
            refine bodyPost_ret (results_none rfl _ _ _) rfl ?_
            exact ⟨⟨_, rfl⟩, .inr ⟨pre ++ [p], parts_pre HP.out, hJx3⟩⟩
      · have hz : (decide (atL 38 r < r.length)) = false := by simpa using hk
        rw [hz] at hc
        by_cases he : r.take (atL 38 r) = []
        · have hp' := parts_end hp hk he
          rw [he] at hc
          have HP := Lib.hid hp'; clear hp hp' hz he htk hk hsx
          generalize r.drop (atL 38 r + 1) = t at *
          gi_wp2_with (refine ⟨trivial, ?_⟩; gi_at_call 43; refine (callsIn_wide.2 (hc _)).mono ?_; rintro e w1 ⟨rfl, q, rfl⟩)
          refine ⟨fun _ h => (by cases h), ?_⟩
          gi_wp2
          go_roundw
          case rel => exact ⟨pre, Or.inr ⟨⟨_, rfl⟩, rfl, HP.out⟩, hdJ _ _ _ hJ⟩
          case measure => simp only [more1]; omega
        · obtain ⟨p, hpe⟩ : ∃ p : Part m, p.1 = r.take (atL 38 r) := ⟨⟨_, htk⟩, rfl⟩
          rw [← hpe] at hc he
          have hp' := parts_last hp hk p hpe.symm he
          have hbe : (!p.1.isEmpty) = true := by simpa using he
          have HP := Lib.hid hp'; have HE := Lib.hid he; clear hp hp' hz he htk hk hsx hpe
          generalize r.drop (atL 38 r + 1) = t at *
          gi_wp2_with (refine ⟨trivial, ?_⟩; gi_at_call 43; refine (callsIn_wide.2 (hc _)).mono ?_; rintro e w1 ⟨rfl, q, rfl⟩; obtain ⟨fn, tmps, assign, body, hy, hR⟩ := hY pre p (wr.drewN q) (hdJ _ _ _ hJ) (parts_room (r := []) (by rw [HP.out, List.append_nil])))
          refine hR.mono ?_
          rintro e W3 (⟨rfl, hJ3, hk3⟩ | ⟨rfl, hJx3⟩)
          · gi_wp2
            go_roundw
            case rel => exact ⟨pre ++ [p], Or.inr ⟨⟨_, rfl⟩, rfl, HP.out⟩, hJ3⟩
            case measure => simp only [more1]; omega
          · gi_wp2
            refine bodyPost_ret (results_none rfl _ _ _) rfl ?_
            exact ⟨⟨_, rfl⟩, .inr ⟨pre ++ [p], parts_pre (r := []) (by rw [HP.out, List.append_nil]), hJx3⟩⟩
    · gi_wp2
      go_end0
      exact ⟨⟨_, rfl⟩, .inl ⟨pre, hp.symm, hJ⟩⟩
set_option maxHeartbeats 1000000 in
/-- parts(s): the text is boxed; the function value captures the box. -/
theorem parts_in (n : Nat) (s : ByteArray) (w : World) :
    CallsIn Fence.wide n Tryd.prog 29 #[.string s] w fun e w' => e = .returned (.func (.func 42) #[] #[.pointer (some ⟨w.heap.size, 0, none⟩)]) ∧ w' = w.alloc (.cells #[.string s] 9) := by
  refine callsIn_of_wp Tryd.func29 rfl trivial ?_ rfl
  simp only [Tryd.ntmps29, List.size_toArray, List.length_cons, List.length_nil, Nat.reduceAdd, Nat.reduceSub, Array.replicate_succ, Array.replicate_zero, List.push_toArray, List.append_toArray, List.nil_append, List.cons_append]
  gi_wp2
  go_ret
  exact ⟨rfl, rfl⟩
/-- what parts hands back gives all the parts, in order; or those ahead of where a round has said 'no more'. -/
theorem parts_stops (n : Nat) (hn : 1 ≤ n) (Bn n₀ : Nat) (s : List UInt8) (m : Nat) (hs : s.length ≤ m) (hm : m ≤ 1048576) (w : World) (hBn : Bn < w.heap.size) (hc : w.cell? ⟨Bn, 0, none⟩ = some (.string ⟨s.toArray⟩)) :
    SeqStopsK Fence.wide n Tryd.prog 42 #[.pointer (some ⟨Bn, 0, none⟩)] (fun x : Part m => #[Value.string ⟨x.1.toArray⟩]) (Below n₀) (fun ys => vals ys = partsL s) (fun pre => vals pre <+: partsL s) (partsL s).length w := fun l J Jx W hW hJ _ hY h0 =>
  parts1_in n hn l Bn n₀ s m hs hm J Jx (fun pre W k h => hJ pre W _ none h (drewN_grown W k) (fun r e => by cases e)) hY W ((hW.cell (p := ⟨Bn, 0, none⟩) hBn).trans hc) h0
end Go.Proofs.YtlcpehmdhnakpaaDoor
namespace Go.Proofs.YtlcpehmdhnakpaaDoor
open Go.RowKit Go.Shelf

attribute [local go_sem] Oper.semAt_some
/-- the pairs of the parts that have come -/
def gotL {m : Nat} (pre : List (Part m)) : PL := (pairsL (vals pre)).getD []
theorem gotL_snoc {m : Nat} {pre : List (Part m)} {p : Part m} {x : List UInt8 × List UInt8} (h : pairsL (vals pre) = some (gotL pre)) (hp : pairL p.1 = some x) :
    pairsL (vals (pre ++ [p])) = some (gotL pre ++ [x]) := by rw [vals_snoc]; exact pairsL_snoc h hp
theorem gotL_next {m : Nat} {pre : List (Part m)} {p : Part m} {x : List UInt8 × List UInt8} (h : pairsL (vals pre) = some (gotL pre)) (hp : pairL p.1 = some x) : gotL (pre ++ [p]) = gotL pre ++ [x] := by
  have := gotL_snoc h hp
  unfold gotL at this ⊢; rw [this]; rfl
theorem gotL_bad {m : Nat} {pre : List (Part m)} {p : Part m} (hp : pairL p.1 = none) : pairsL (vals (pre ++ [p])) = none := by rw [vals_snoc]; exact pairsL_bad hp
theorem gotL_len {m : Nat} {pre : List (Part m)} (h : pairsL (vals pre) = some (gotL pre)) : (gotL pre).length = pre.length := by rw [pairsL_len h, vals_len]
theorem below_keeps {w w' : World} (h : Below w.heap.size w w') : KeepsOthers w w' := KeepsOthers.of_grownBy (row := none) ⟨h.os, h.tape, h.output, h.size, fun k hk _ => h.block k hk⟩ (fun j o e _ => by cases e)

theorem new_cellsP (w : World) (o : Obj) (cs : Array Value) (e : TypeId) : ∀ j u, cs.toList[j]? = some u → ((w.alloc o).alloc (.cells cs e)).cell? ((⟨w.heap.size + 1, 0, none⟩ : Addr).add j) = some u := by
  intro j u h
  have := new_cells (w.alloc o) cs e j u h
  rwa [World.size_alloc] at this
theorem boxed_below {W W' : World} {B : Nat} {t : TypeId} {v : Value} (h : Boxed W B t v) (hb : Below W.heap.size W W') : Boxed W' B t v := (hb.block B h.lt).trans h
theorem boxed_appended {W W1 w1 : World} {o1 o2 : Obj} {n₀ B sz n : Nat} {t e : TypeId} {u v : Value} {xs : List Value} (hb : Boxed W B t u) (hW : Below W.heap.size W W1) (hte : t ≠ e) (hrow : W1.ownsRow n₀ e sz v n xs)
    (hg : ((W1.alloc o1).alloc o2).grownBy w1 v.ownBlock) : Boxed w1 B t u := (((boxed_below hb hW).alloc o1).alloc o2).kept hg ((boxed_below hb hW).not_row hte hrow)
/-- the two results' boxes, stored into -/
theorem two_setP {W : World} {b0 b1 : Nat} {t0 t1 : TypeId} {u0 u1 : Value} (hb0 : Boxed W b0 t0 u0) (hb1 : Boxed W b1 t1 u1) (hne : b0 ≠ b1) (v0 v1 : Value) :
    Boxed ((W.setCell ⟨b0, 0, none⟩ v0).setCell ⟨b1, 0, none⟩ v1) b0 t0 v0 ∧ Boxed ((W.setCell ⟨b0, 0, none⟩ v0).setCell ⟨b1, 0, none⟩ v1) b1 t1 v1 ∧ KeepsOthers W ((W.setCell ⟨b0, 0, none⟩ v0).setCell ⟨b1, 0, none⟩ v1) :=
  ⟨(hb0.set v0).other hne v1, (hb1.other hne.symm v0).set v1, (KeepsOthers.setCell _ _ _).trans (KeepsOthers.setCell _ _ _)⟩
theorem box_put {W : World} {D b : Nat} {t : TypeId} {u : Value} (hb : Boxed W b t u) (hK : W.heap[D]? = some (.deferred (some []))) : (W.putObj D (.deferred none)).cell? ⟨b, 0, none⟩ = some u :=
  cell_kept hb.cell (grownBy_putObj' _ D (.deferred none)) (fun r e => by cases e; exact ⟨_, hK, rfl⟩)

set_option maxRecDepth 100000 in
set_option maxHeartbeats 1000000 in
theorem parse_in (n : Nat) (hn : 4 ≤ n) (s : ByteArray) (w : World) :
    CallsIn Fence.wide n Tryd.prog 16 #[.string s] w fun e w' => ∃ v, e = .returned (.tuple #[v, .int .i64 (parseE s.data.toList)]) ∧ PRow w' w.heap.size v (parseP s.data.toList) ∧ Below w.heap.size w w' := by
  have h1 : 1 ≤ n := by omega
  obtain ⟨i0, hi, hz0, hz1, hz2⟩ := info_parts Tryd.infoPair
  have hsz : s.data.toList.length = s.size := rfl
  by_cases hs : 4096 < s.size
  · have hp := @parse_large s.data.toList
    rw [hsz] at hp
    have HP := Lib.hid (hp hs); clear hp
    refine callsIn_of_wp_marks Tryd.func16 rfl trivial ?_ rfl
    simp only [Tryd.ntmps16, List.size_toArray, List.length_cons, List.length_nil, Nat.reduceAdd, Nat.reduceSub, Array.replicate_succ, Array.replicate_zero, List.push_toArray, List.append_toArray, List.nil_append, List.cons_append]
    gi_wp2
    refine ⟨.tuple #[.slice none 0 0, .int .i64 3], ?_, _, by rw [HP.out.1], by rw [HP.out.2]; exact PRow.nil _ _, ?_⟩
    · simp [results, Tryd.results16, go_sem]
    · exact ((Below.refl _ w).alloc (Nat.le_refl _) _).alloc (by simp) _
  · have hP0 := @parse_none s.data.toList
    have hPm := @parse_many s.data.toList
    have hPs := @parse_some s.data.toList
    unfold formL at hP0 hPm hPs
    rw [hsz] at hP0 hPm hPs
    have hs' : s.size ≤ 4096 := by omega
    have P0 := Lib.hid (hP0 hs'); have P1 := Lib.hid (fun ps => @hPm ps hs'); have P2 := Lib.hid (fun ps => @hPs ps hs'); clear hP0 hPm hPs
    have hplen := partsL_len s.data.toList
    rw [hsz] at hplen
    have HSZ := Lib.hid hsz; clear hsz
    refine callsIn_of_wp_marks Tryd.func16 rfl trivial ?_ rfl
    simp only [Tryd.ntmps16, List.size_toArray, List.length_cons, List.length_nil, Nat.reduceAdd, Nat.reduceSub, Array.replicate_succ, Array.replicate_zero, List.push_toArray, List.append_toArray, List.nil_append, List.cons_append]
    gi_wp2_with (refine ⟨trivial, ?_⟩; gi_at_call 29; refine (parts_in _ _ _).mono ?_; rintro e w' ⟨rfl, rfl⟩)
    have b0 := Boxed.new w 37 (.slice none 0 0)
    have b1 := Boxed.new (w.alloc (.cells #[.slice none 0 0] 37)) 52 (.int .i64 0)
    have b2 := Boxed.new ((w.alloc (.cells #[.slice none 0 0] 37)).alloc (.cells #[.int .i64 0] 52)) 37 (.slice none 0 0)
    have b3 := Boxed.new (((w.alloc (.cells #[.slice none 0 0] 37)).alloc (.cells #[.int .i64 0] 52)).alloc (.cells #[.slice none 0 0] 37)) 9 (.string s)
    have hB0 : Below w.heap.size w ((((w.alloc (.cells #[.slice none 0 0] 37)).alloc (.cells #[.int .i64 0] 52)).alloc (.cells #[.slice none 0 0] 37)).alloc (.cells #[.string s] 9)) :=
      ((((Below.refl _ w).alloc (Nat.le_refl _) _).alloc (by simp) _).alloc (by simp; omega) _).alloc (by simp; omega) _
    simp only [World.size_alloc] at b1 b2 b3

    refine wpIn_rangeFunc_ownG rfl h1 (gf := 42) (lb := #[.pointer (some ⟨w.heap.size + 1 + 1 + 1, 0, none⟩)]) rfl trivial (enters_of Tryd.func42 (by kernel_rfl) rfl)
      (parts_stops (n - 1) (by omega) (w.heap.size + 1 + 1 + 1) w.heap.size s.data.toList 4096 (by rw [HSZ.out]; omega) (by omega) _ (by simp) (by rw [← str_eta]; exact b3.cell)) belowK_t (belowK_b (by simp; omega)) (Below.refl _ _) (fun _ => rfl)
      (fun pre W => ((∃ v, Boxed W (w.heap.size + 1 + 1) 37 v ∧ W.ownsRow w.heap.size 39 2 v (gotL pre).length (pcells (gotL pre)) ∧ pairsL (vals pre) = some (gotL pre)) ∧ Boxed W w.heap.size 37 (.slice none 0 0) ∧ Boxed W (w.heap.size + 1) 52 (.int .i64 0)) ∧ Below w.heap.size w W)
      (fun c pre W => ((c = .ret ∧ pairsL (vals pre) = none) ∧ Boxed W w.heap.size 37 (.slice none 0 0) ∧ Boxed W (w.heap.size + 1) 52 (.int .i64 2)) ∧ Below w.heap.size w W)
      (OwnFrom.and (OwnFrom.and (Own.from (holdsRow_own w.heap.size (w.heap.size + 1 + 1) 37 39 2 (fun pre => (gotL pre).length) (fun pre => pcells (gotL pre)) (fun pre _ => pairsL (vals pre) = some (gotL pre))) _) (OwnFrom.and (Own.from (boxed_own _ _ _) _) (Own.from (boxed_own _ _ _) _))) (ownFrom_below (Nat.le_refl _) (by simp; omega)))
      (fun c => OwnFrom.and (OwnFrom.and (ownFrom_pure _ _) (OwnFrom.and (Own.from (boxed_own _ _ _) _) (Own.from (boxed_own _ _ _) _))) (ownFrom_below (Nat.le_refl _) (by simp; omega)))
      ⟨⟨⟨_, b2.alloc _, PRow.nil _ _, rfl⟩, ((b0.alloc _).alloc _).alloc _, (b1.alloc _).alloc _⟩, hB0⟩
      (fun x => { tmps := #[.string s, undef, .pointer (some ⟨w.heap.size, 0, none⟩), .pointer (some ⟨w.heap.size + 1, 0, none⟩), .pointer (some ⟨w.heap.size + 1 + 1, 0, none⟩), .string ⟨x.1.toArray⟩, undef, undef, .string s, .int .i64 s.size, .bool (decide (4096 < (s.size : Int))), .string s, .func (.func 42) #[] #[.pointer (some ⟨w.heap.size + 1 + 1 + 1, 0, none⟩)], .string ⟨x.1.toArray⟩, undef, undef, undef, undef, undef, undef, undef, undef, undef, undef, undef, undef, undef, undef, undef, undef], defers := [] }) ?assign ?body ?done ?stop
    case assign =>
      intro l x W K hK
      gi_wp2
      exact hK
    case body =>
      rintro l pre x W ⟨⟨⟨v, hv, hrow, hgot⟩, hb0, hb1⟩, hB⟩ hlt
      have hxl := x.2
      have hgl := gotL_len hgot
      have hgl' : (gotL pre).length ≤ 4097 := by omega
      have HG := Lib.hid hgot; clear hgot hgl
      cases hp : pairL x.1 with
      | none =>
        have hc := pair_bad (str x.1) hp (by rw [str_size]; omega)
        have HX := Lib.hid (gotL_bad (pre := pre) hp); clear hp
        gi_wp2_with (refine ⟨trivial, fun _ => (by omega), ?_⟩; gi_at_call 30; refine (CallsIn.inRound l (callsIn_wide.2 (hc _))).mono ?_; rintro e W1 ⟨rfl, hW1⟩; have hb0' := boxed_below hb0 hW1; have hb1' := boxed_below hb1 hW1; have c0 := hb0'.cell; have f0 := hb0'.frozen; have c1 := hb1'.cell; have f1 := hb1'.frozen; have z0 := hb0'.lt; have z1 := hb1'.lt)
        exact ⟨((((below_keeps hW1).trans (KeepsOthers.setCell _ _ _)).trans (KeepsOthers.setCell _ _ _)).trans (KeepsOthers.alloc _ _)).from _,
          ⟨⟨rfl, HX.out⟩, (((hb0'.set _).other (B' := w.heap.size + 1) (by omega) _).alloc _), (((hb1'.other (B' := w.heap.size) (by omega) _).set _).alloc _)⟩,
          (((hB.chain hW1).setCell (p := ⟨w.heap.size, 0, none⟩) (Nat.le_refl _) _).setCell (p := ⟨w.heap.size + 1, 0, none⟩) (by simp) _).alloc (by simp; omega) _⟩
      | some y =>
        have hc := pair_good (str x.1) y hp (by rw [str_size]; omega)
        have HX := Lib.hid (gotL_snoc HG.out hp); have HN := Lib.hid (gotL_next HG.out hp); clear hp
        obtain ⟨ya, yb⟩ := y
        dsimp only at hc
        gi_wp2_with (first
          | (refine ⟨trivial, fun _ => (by omega), ?_⟩; gi_at_call 30; refine (CallsIn.inRound l (callsIn_wide.2 (hc _))).mono ?_; rintro e W1 ⟨rfl, hW1⟩; have hv' := boxed_below hv hW1; have hrow' := own_below hrow hW1; have c2 := hv'.cell; have f2 := hv'.frozen; have z2 := hv'.lt)
          | (gi_at_builtin
             refine wpListIn_append_own _ rfl (.tmp 22) (.tmp 24) 37 rfl w.heap.size 39 i0 _ 2 32 Tryd.underlying37 hi hz0 hz1 hz2 rfl (by decide) _ _ _ rfl ((hrow'.alloc _).alloc _) ⟨W1.heap.size + 1, 0, none⟩ 1 1 [.string ⟨ya.toArray⟩, .string ⟨yb.toArray⟩] rfl rfl (new_cellsP W1 _ #[_, _] _) (pair_cells _ _) (by unfold maxLen; omega) (by omega) (by have := hB.size; have := hW1.size; simp; omega) ?_
             intro v' w1 hown' hgrow _
             obtain ⟨g', cap', rfl⟩ := ownsRow_succ hown'
             obtain ⟨hv1, hv2, hr2, hk2, hb2⟩ := (hv'.alloc _).appended (by decide) (hrow'.alloc _) (by have := hB.size; have := hW1.size; simp; omega) (by omega) hown' hgrow
             have hc1 := hv1.cell; have hf1 := hv1.frozen))
        have k0 := boxed_appended hb0 hW1 (by decide) hrow' hgrow
        have k1 := boxed_appended hb1 hW1 (by decide) hrow' hgrow
        have hKp := ((hW1.mono hB.size).alloc (by have := hB.size; have := hW1.size; omega) _).trans hb2
        exact ⟨((below_keeps hW1).trans ((KeepsOthers.alloc _ _).trans hk2)).from _, hKp,
          ⟨⟨_, hv2, by rw [HN.out, List.length_append, pcells_snoc]; exact hr2, by rw [HX.out, HN.out]⟩, k0.other (B' := w.heap.size + 1 + 1) (by omega) _, k1.other (B' := w.heap.size + 1 + 1) (by omega) _⟩, hB.trans hKp⟩
    case done =>
      rintro D ys W hD hys ⟨⟨⟨v, hv, hrow, hgot⟩, hb0, hb1⟩, hB⟩ hK
      rw [hys] at hgot
      obtain ⟨A, cp, rfl⟩ : ∃ A cp, v = .slice A (gotL ys).length cp := by
        rcases hrow.2 with ⟨rfl, h0⟩ | ⟨g, cap, cur, rfl, _⟩
        · exact ⟨none, 0, by rw [h0]⟩
        · exact ⟨_, _, rfl⟩
      have c0 := hb0.cell; have f0 := hb0.frozen; have z0 := hb0.lt; have c1 := hb1.cell; have f1 := hb1.frozen; have z1 := hb1.lt; have c2 := hv.cell
      by_cases h64 : 64 < (gotL ys).length
      · have HR := Lib.hid (P1.out _ hgot h64); clear hgot
        obtain ⟨s0, s1, sk⟩ := two_setP hb0 hb1 (by omega) (.slice none 0 0) (.int .i64 3)
        have hK' := sk.same D _ hK rfl
        have r0 := box_put s0 hK'
        have r1 := box_put s1 hK'
        gi_wp2
        refine ⟨by simp, .inl ⟨_, _, rfl, run_takeDeferred hK', ?_⟩⟩
        refine ⟨.tuple #[.slice none 0 0, .int .i64 3], ?_, .slice none 0 0, by rw [HR.out.1], by rw [HR.out.2]; exact PRow.nil _ _, ?_⟩
        · simp [results, Tryd.results16, go_sem, r0, r1]
        · exact ((hB.setCell (p := ⟨w.heap.size, 0, none⟩) (Nat.le_refl _) _).setCell (p := ⟨w.heap.size + 1, 0, none⟩) (by simp) _).trans (belowK_b (w := w) (Nat.le_refl _) _ D _ _ (by simp at hD; omega) hK' rfl rfl)
      · have HR := Lib.hid (P2.out _ hgot (by omega)); clear hgot
        obtain ⟨s0, s1, sk⟩ := two_setP hb0 hb1 (by omega) (.slice A (gotL ys).length cp) (.int .i64 0)
        have hK' := sk.same D _ hK rfl
        have r0 := box_put s0 hK'
        have r1 := box_put s1 hK'
        gi_wp2
        refine ⟨by simp, .inl ⟨_, _, rfl, run_takeDeferred hK', ?_⟩⟩
        refine ⟨.tuple #[.slice A (gotL ys).length cp, .int .i64 0], ?_, .slice A (gotL ys).length cp, by rw [HR.out.1], ?_, ?_⟩
        · simp [results, Tryd.results16, go_sem, r0, r1]
        · rw [HR.out.2]
          have q0 := hrow.kept (grownBy_setCell' W w.heap.size (.slice A (gotL ys).length cp)) (.inr (hb0.not_row (by decide) hrow).symm)
          have q1 := q0.kept (grownBy_setCell' _ (w.heap.size + 1) (.int .i64 0)) (.inr ((hb1.other (B' := w.heap.size) (by omega) _).not_row (by decide) q0).symm)
          exact ownsRow_putObj q1 _ hK' rfl
        · exact ((hB.setCell (p := ⟨w.heap.size, 0, none⟩) (Nat.le_refl _) _).setCell (p := ⟨w.heap.size + 1, 0, none⟩) (by simp) _).trans (belowK_b (w := w) (Nat.le_refl _) _ D _ _ (by simp at hD; omega) hK' rfl rfl)
    case stop =>
      rintro D c pre W hD hpre ⟨⟨⟨rfl, hbad⟩, hb0, hb1⟩, hB⟩ hK
      have hnone : pairsL (partsL s.data.toList) = none := by
        obtain ⟨r, hr⟩ := hpre
        rw [← hr]; exact pairsL_app_none hbad r
      have HR := Lib.hid (P0.out hnone); clear hnone hbad
      have r0 := box_put hb0 hK
      have r1 := box_put hb1 hK
      gi_wp2
      refine ⟨by simp, .inl ⟨_, _, rfl, run_takeDeferred hK, ?_⟩⟩
      refine ⟨.tuple #[.slice none 0 0, .int .i64 2], ?_, .slice none 0 0, by rw [HR.out.1], by rw [HR.out.2]; exact PRow.nil _ _, ?_⟩
      · simp [results, Tryd.results16, go_sem, r0, r1]
      · exact hB.trans (belowK_b (w := w) (Nat.le_refl _) W D _ _ (by simp at hD; omega) hK rfl rfl)

theorem parseForm_any (s : ByteArray) (w : World) :
    Calls Tryd.prog 16 #[.string s] w fun e w' => ∃ v, e = .returned (.tuple #[v, .int .i64 (parseE s.data.toList)]) ∧ PRow w' w.heap.size v (parseP s.data.toList) ∧ Below w.heap.size w w' :=
  (callsIn_wide (n := 4)).1 (parse_in 4 (by omega) s w)
end Go.Proofs.YtlcpehmdhnakpaaDoor
namespace Go.Proofs.YtlcpehmdhnakpaaDoor
open Go.ChangeShapes Go.WideShapes Go.ChangeAt Go.RowKit

/-- the row's builder that keeps both: what is laid, and the world's shape -/
theorem returnsInHanded_of_change_both {H : Type} {enc : TypeId × Value → H} {a : Assume} {C : Checked} {os : Os} {f : FuncId} {fn : Func} {s : ChangeSpec} {conds : List PathCond} {apart fresh handsOn again : Bool} {X : World → Array Value → Prop}
    (hX : ∀ (w w' : World) (args : Array Value), w.heap = w'.heap → X w args → X w' args)
    (own : ownKnob C.prog.godebug = none) (started : os.Started) (noInit : C.prog.inits.idxOf? f = none) (hfn : C.prog.funcs[f]? = some fn)
    (witness : ∃ (w : World) (tape : Tape) (i : Input), w.os = os ∧ (w.forCall tape i).Shaped C.prog ∧ i.vars = [] ∧ Input.okWide C.prog (w.forCall tape i) .any w.heap.size f i ∧
      ((s.pre enc C.prog fn conds apart (w.forCall tape i).memory i.args ∧ X (w.forCall tape i).memory i.args) ∧ sizedMet enc C.prog fn (OpenSpec.ofChange s) apart (w.forCall tape i).memory i.args) ∧ a.holds C.prog (lone (Frame.enter C.prog f i.args .normal) [] (w.forCall tape i)))
    (contract : ∀ (W : World) (base : Nat) (args : Array Value) (ds gs : List (DataW H)) (before : List MemPlace),
      (∀ (j : Nat) t v, fn.params[j]? = some t → args[j]? = some v → Value.okWide C.prog W .any base t v) →
      DataW.Whole enc C.prog fn.params.toList s.vars apart W args.toList ds gs before →
      conds.all (PathCond.test C.prog ⟨fn.params.toList, ds, s.plain.varTypes C.prog, gs⟩) = true →
      (DataW.weightsEach C.prog (fn.params.toList ++ s.plain.varTypes C.prog) (ds ++ gs)).all (· ≤ reachBytes) = true → X W args → W.ShapedOpen C.prog →
      a.holds C.prog (lone (Frame.enter C.prog f args .normal) [] W) →
      Calls C.prog f args W fun e W' => ∃ v, e = .returned v ∧ s.post enc C.prog fn apart fresh handsOn again W args v W') :
    ReturnsInHanded a C os f .any (fun w args => (s.pre enc C.prog fn conds apart w args ∧ X w args) ∧ sizedMet enc C.prog fn (OpenSpec.ofChange s) apart w args) (s.post enc C.prog fn apart fresh handsOn again) := by
  refine returnsInHanded_of_calls own started noInit witness ?_
  intro w tape i _ hsh _ hok hpre hholds
  obtain ⟨_, _, _, fn', hfn', _, _, _, _, hval⟩ := hok
  have e : fn' = fn := Option.some.inj (hfn'.symm.trans hfn)
  subst e
  obtain ⟨⟨⟨ds, gs, before, hw, hc⟩, hx⟩, hz⟩ := hpre
  have hw' := DataW.Whole.of_heap (w' := w.forCall tape i) (by rfl) hw
  refine (contract (w.forCall tape i) w.heap.size i.args ds gs before hval hw' hc (hz.weights hw) (hX _ _ _ (by rfl) hx) hsh hholds).mono fun e W' ⟨v, he, hp⟩ => ?_
  subst he
  exact ChangeSpec.post_blind hp
end Go.Proofs.YtlcpehmdhnakpaaDoor
namespace Go.Proofs.YtlcpehmdhnakpaaDoor
open Go.ChangeShapes Go.WideShapes Go.ChangeAt Go.RowKit

/-- what the rows list -/
def listedP : List (String × DataW Unit) := [("unicode/utf8.acceptRanges", Rows.laid_unicode_utf8_acceptRanges), ("unicode/utf8.first", Rows.laid_unicode_utf8_first)]
/-- a table's letters as cells -/
def cellsOfData : DataW Unit → Array Value
  | .agg l => (l.map fun d => match d with
    | .lit (.int k z) => Value.int k z
    | _ => .nilIface).toArray
  | _ => #[]
/-- a heap in which the pinned table lies -/
def tableIn (h : Array Obj) (g : Nat) : Array Obj := match h[g]? with
  | some (.cells _ t fr) => h.setIfInBounds g (.cells (cellsOfData Rows.laid_unicode_utf8_first) t fr)
  | _ => h
noncomputable def doorJ (os : Os) : World := { World.doorLaid Tryd.prog 400 os with heap := tableIn (World.doorLaid Tryd.prog 400 os).heap 1 }
set_option maxRecDepth 100000 in
theorem doorJ_met (os : Os) (args : Array Value) : laidMetH Tryd.prog listedP ((doorJ os).forCall (fun _ _ => 0) ⟨#[], args, []⟩).memory :=
  laidMetH_of_parts3 (fuel := 8) (laidMet_of_run' 8 (by kernel_rfl) (by kernel_rfl)) (by kernel_rfl) (by kernel_rfl)
end Go.Proofs.YtlcpehmdhnakpaaDoor
