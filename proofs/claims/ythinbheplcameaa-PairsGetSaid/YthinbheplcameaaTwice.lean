/- pairs.Twice and the reference's. -/
import Derived.Test.YthinbheplcameaaGet
import Derived.Maps.OwnSet
namespace Go.Proofs.Ythinbheplcameaa
open Go.RowKit

/-- no key among the first k stands twice -/
def Sole (l : PL) (k : Nat) : Prop := ∀ i j (hi : i < l.length) (hj : j < l.length), i < k → j < i → l[i].1 ≠ l[j].1
theorem Sole.zero (l : PL) : Sole l 0 := fun _ _ _ _ h _ => absurd h (Nat.not_lt_zero _)
theorem Sole.next {l : PL} {k : Nat} (h : Sole l k) (hk : k < l.length) (hn : ∀ j (hj : j < l.length), j < k → l[k].1 ≠ l[j].1) : Sole l (k + 1) := fun i j hi hj h1 h2 => by
  rcases Nat.lt_succ_iff_lt_or_eq.1 h1 with h' | h'
  · exact h i j hi hj h' h2
  · subst h'; exact hn j hj h2
/-- whether two have the same key -/
noncomputable def twiceB (l : PL) : Bool := by classical exact !decide (Sole l l.length)
theorem twiceB_no {l : PL} (h : Sole l l.length) : twiceB l = false := by simp [twiceB, h]
theorem twiceB_yes {l : PL} {i j : Nat} (hi : i < l.length) (hji : j < i) (h : l[i].1 = (l[j]'(by omega)).1) : twiceB l = true := by
  have : ¬ Sole l l.length := fun hs => hs i j hi (by omega) hi hji h
  simp [twiceB, this]
theorem next_not {l : PL} {k i : Nat} (hi : i < l.length) (hk : k < l.length) (hb : ∀ j (hj : j < l.length), j < k → l[i].1 ≠ l[j].1) (hh : l[i].1 ≠ l[k].1) : ∀ j (hj : j < l.length), j < k + 1 → l[i].1 ≠ l[j].1 := fun j hj h => by
  rcases Nat.lt_succ_iff_lt_or_eq.1 h with h | h
  · exact hb j hj h
  · subst h; exact hh

set_option maxRecDepth 100000 in
theorem refTwice_any (A : Option Addr) (c B : Nat) (l : PL) (hl : l.length ≤ maxLen) (w : World) (hp : Prs w B A l) :
    Calls Try.prog 34 #[.slice A l.length c] w fun e w' => e = .returned (.bool (twiceB l)) ∧ ∃ q, w' = w.drewN q := by
  unfold maxLen at hl
  obtain ⟨n, hn⟩ : ∃ n, l.length = n := ⟨_, rfl⟩
  rw [hn] at hl ⊢
  have HN := Lib.hid hn; clear hn
  go_enter Try.func34, Try.ntmps34
  go_wp2
  go_loopw [3] (fun i wr => ∃ k q : Nat, k ≤ n ∧ i = .int .i64 k ∧ wr = w.drewN q ∧ Sole l k) (fun i _ => n - (intOf i).toNat)
  case atStart => exact ⟨0, 0, Nat.zero_le _, rfl, rfl, Sole.zero l⟩
  case round =>
    obtain ⟨i, q, hi, rfl, rfl, hs⟩ := hrel
    have HS := Lib.hid hs; clear hs
    by_cases hlt : i < n
    · have hil : i < l.length := by have := HN.out; omega
      go_wp2
      go_loopw [4] (fun j wr => ∃ k q : Nat, k ≤ i ∧ j = .int .i64 k ∧ wr = w.drewN q ∧ ∀ j (hj : j < l.length), j < k → l[i].1 ≠ l[j].1) (fun j _ => i - (intOf j).toNat)
      case atStart => exact ⟨0, q, Nat.zero_le _, rfl, rfl, fun _ _ h => absurd h (Nat.not_lt_zero _)⟩
      case round =>
        obtain ⟨k, q2, hk, rfl, rfl, hb⟩ := hrel
        have HB := Lib.hid hb; clear hb
        by_cases hlk : k < i
        · have hkl : k < l.length := by omega
          obtain ⟨a, hA, _, h1, _⟩ := hp i hil
          obtain ⟨b, hA', _, h3, _⟩ := hp k hkl
          obtain rfl : a = b := by rw [hA] at hA'; injection hA'
          subst hA
          clear hA'
          have g1 := @twiceB_yes l i k hil hlk
          have g2 := @next_not l k i hil hkl
          have G1 := Lib.hid g1; have G2 := Lib.hid g2; clear g1 g2
          generalize l[i] = x at *
          generalize l[k] = y at *
          obtain ⟨xa, xb⟩ := x
          obtain ⟨ya, yb⟩ := y
          dsimp only at h1 h3
          by_cases hx : xa = ya
          · have hbe : (xa == ya) = true := by simpa using hx
            have HG := Lib.hid (G1.out hx); clear hx G1 G2
            go_wp2
            go_quiet (fail)
            go_wp2
            go_ret
            exact ⟨by rw [HG.out]; rfl, q2 + nq, by rw [World.drewN_drewN]⟩
          · have hbe : (xa == ya) = false := by simpa using hx
            have HG := Lib.hid (G2.out HB.out hx); clear hx G1 G2
            go_wp2
            go_quiet (fail)
            go_wp2
            go_roundw
            case rel => exact ⟨k + 1, q2 + nq, by omega, by go_num, rfl, HG.out⟩
            case measure => simp [intOf]; omega
        · have hke : k = i := by omega
          subst hke
          go_wp2
          go_roundw
          case rel => exact ⟨k + 1, q2, by omega, by go_num, rfl, HS.out.next hil HB.out⟩
          case measure => simp [intOf]; omega
    · have hke : i = n := by omega
      subst hke
      go_wp2
      go_ret
      have hN : twiceB l = false := twiceB_no (by rw [HN.out]; exact HS.out)
      exact ⟨by rw [hN]; rfl, q, rfl⟩
open Go.Maps
theorem zeroUnit (w : World) : (zeroValue 73).run Try.prog w = .ok (.agg #[]) w := by kernel_rfl
theorem run_makeMapHint {P : Program} (t k e : TypeId) (kd : IntKind) (n : Int) (ht : P.underlying t = some (.map k e)) (w : World) :
    (Instr.makeMap t (some (.int kd n))).run P w = .ok (.map (some w.heap.size)) (w.alloc (.map #[] 0)) := by
  simp [Instr.makeMap, run_underlying ht]; rfl
theorem lawStr : Keyed Try.prog 9 := string_keyed Try.underlying9
/-- the keys of the first k, as a set -/
def seenAt (l : PL) (k : Nat) : DataW Unit := setOf (.agg []) ((l.take k).map fun p => Lit.string p.1)
theorem seen_next (l : PL) (k : Nat) (h : k < l.length) : seenAt l (k + 1) = (seenAt l k).put (.string l[k].1) (.agg []) := by
  unfold seenAt
  rw [List.take_succ_eq_append_getElem h, List.map_append, List.map_singleton, setOf_snoc]
theorem str_sameKey (a b : List UInt8) : (Lit.string a).sameKey (.string b) = decide (a = b) := by
  show (a == b) = _
  rw [Bool.eq_iff_iff]; simp
theorem seen_has (l : PL) (k : Nat) (x : List UInt8) : Maps.has (seenAt l k) (.string x) = (l.take k).any (fun p => decide (p.1 = x)) := by
  unfold seenAt
  rw [has_setOf _ _ _ (fun y hy => by obtain ⟨_, _, rfl⟩ := List.mem_map.1 hy; trivial), List.any_map]
  congr 1; funext p; exact str_sameKey _ _
theorem seen_yes {l : PL} {k : Nat} {x : List UInt8} (h : Maps.has (seenAt l k) (.string x) = true) : ∃ j, ∃ hj : j < l.length, j < k ∧ l[j].1 = x := by
  rw [seen_has, List.any_eq_true] at h
  obtain ⟨p, hp, he⟩ := h
  obtain ⟨j, hj, rfl⟩ := List.getElem_of_mem hp
  rw [List.length_take] at hj
  refine ⟨j, by omega, by omega, ?_⟩
  have : (l.take k)[j] = l[j] := List.getElem_take
  rw [this] at he
  simpa using he
theorem seen_no {l : PL} {k : Nat} {x : List UInt8} (h : Maps.has (seenAt l k) (.string x) = false) : ∀ j (hj : j < l.length), j < k → x ≠ l[j].1 := fun j hj hjk e => by
  rw [seen_has, List.any_eq_false] at h
  have hm : l[j] ∈ l.take k := by
    rw [List.mem_iff_getElem]
    exact ⟨j, by rw [List.length_take]; omega, List.getElem_take⟩
  exact h _ hm (by simp [e])

set_option maxRecDepth 100000 in
set_option maxHeartbeats 1000000 in
theorem twice_any (A : Option Addr) (c B : Nat) (l : PL) (hl : l.length ≤ 1048576) (hz : ∀ p ∈ l, p.1.length ≤ maxLen) (w : World) (hB : B ≤ w.heap.size) (hp : Prs w B A l) :
    Calls Try.prog 33 #[.slice A l.length c] w fun e w' => e = .returned (.bool (twiceB l)) ∧ Below w.heap.size w w' := by
  have hmm := fun n => @run_makeMapHint Try.prog 72 9 73 .i64 n Try.underlying72
  obtain ⟨n, hn⟩ : ∃ n, l.length = n := ⟨_, rfl⟩
  rw [hn] at hl ⊢
  have HN := Lib.hid hn; have HZ := Lib.hid hz; clear hn hz
  go_enter Try.func33, Try.ntmps33
  go_wp2
  go_loopw [13] (fun i wr => ∃ k : Nat, k ≤ n ∧ i = .int .i64 k ∧ wr.ownsMap Try.prog 9 (unitElem (H := Unit)) w.heap.size k (seenAt l k) ∧ Sole l k ∧ Below w.heap.size w wr) (fun i _ => n - (intOf i).toNat)
  case atStart => exact ⟨0, Nat.zero_le _, rfl, World.ownsMap_made _ _ _ _, Sole.zero l, (Below.refl _ _).alloc (Nat.le_refl _) _⟩
  case round =>
    obtain ⟨k, hk, rfl, hown, hs, hbw⟩ := hrel
    have HS := Lib.hid hs; clear hs
    have hbs := hbw.size
    by_cases hlt : k < n
    · have hkl : k < l.length := by have := HN.out; omega
      obtain ⟨a, rfl, hab, h1, h2⟩ := (hp.below (hbw.mono hB)) k hkl
      have hsz := HZ.out l[k] (List.getElem_mem hkl)
      have g3 := seen_next l k hkl
      have g5 := fun h => HS.out.next hkl h
      have G3 := Lib.hid g3; have G5 := Lib.hid g5; clear g3 g5
      generalize hx : l[k] = x at *
      have HX := Lib.hid hx; clear hx
      obtain ⟨xa, xb⟩ := x
      dsimp only at h1 h2 hsz
      have hkey : keyOf Try.prog 9 (.string ⟨xa.toArray⟩) = some (.string xa) := WideMaps.keyOf_string_mk Try.underlying9 hsz
      cases hh : Maps.has (seenAt l k) (.string xa) with
      | true =>
        obtain ⟨j, hj, hjk, he⟩ := seen_yes hh
        have HT := Lib.hid (twiceB_yes hkl hjk (by rw [HX.out, he])); clear he hj
        go_wp2_with (at_lookup; refine wpList_lookup_own_unit _ rfl _ _ 72 rfl 9 73 lawStr Try.underlying72 (zeroUnit _) w.heap.size k _ rfl (hown.alloc _) _ _ rfl hkey ?_)
        go_ret
        exact ⟨by rw [HT.out]; rfl, (hbw.alloc hbs _).alloc (by simp; omega) _⟩
      | false =>
        have HS1 := Lib.hid (G5.out (seen_no hh))
        go_wp2_with (first
          | (at_lookup; refine wpList_lookup_own_unit _ rfl _ _ 72 rfl 9 73 lawStr Try.underlying72 (zeroUnit _) w.heap.size k _ rfl (hown.alloc _) _ _ rfl hkey ?_)
          | (at_mapUpdate; refine wpList_mapUpdate_own _ rfl _ _ _ 72 rfl 9 73 lawStr Try.underlying72 (unitElem (H := Unit)) w.heap.size k _ rfl ((hown.alloc _).alloc _) (by unfold maxLen; omega) _ _ _ rfl rfl hkey _ [] unitElem_mk ?_; intro w1 hown1 hgrow1))
        go_roundw
        case rel => exact ⟨k + 1, by omega, by go_num, by rw [G3.out]; exact hown1, HS1.out, ((hbw.alloc hbs _).alloc (by simp; omega) _).grown hgrow1 (by simp; omega) (fun j hj => by cases hj; exact Nat.le_refl _)⟩
        case measure => simp [intOf]; omega
    · have hke : k = n := by omega
      subst hke
      go_wp2
      go_ret
      have hN : twiceB l = false := twiceB_no (by rw [HN.out]; exact HS.out)
      exact ⟨by rw [hN]; rfl, hbw⟩
end Go.Proofs.Ythinbheplcameaa
