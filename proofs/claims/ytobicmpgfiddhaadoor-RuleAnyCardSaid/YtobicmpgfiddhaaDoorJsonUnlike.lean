/- JSON: whether no two keys are alike, as the code asks it. -/
import Derived.Test.YtobicmpgfiddhaaDoorJsonGood
import Derived.Maps.OwnSet
namespace Go.Proofs.YtobicmpgfiddhaaDoor
open Go.RowKit Go.Maps

theorem Tryd.zeroUnit (w : World) : (zeroValue 98).run Tryd.prog w = .ok (.agg #[]) w := by kernel_rfl
theorem run_makeMapN {P : Program} (t k e : TypeId) (kd : IntKind) (n : Int) (ht : P.underlying t = some (.map k e)) (w : World) :
    (Instr.makeMap t (some (.int kd n))).run P w = .ok (.map (some w.heap.size)) (w.alloc (.map #[] 0)) := by
  simp [Instr.makeMap, run_underlying ht]; rfl
theorem Tryd.lawKey : Keyed Tryd.prog 9 := string_keyed Tryd.underlying9
def litsOf (ks : List (List UInt8)) : List Lit := ks.map Lit.string
theorem lits_key (ks : List (List UInt8)) : ∀ x ∈ litsOf ks, WideAt.IsKeyLit x := by
  intro x hx; obtain ⟨_, _, rfl⟩ := List.mem_map.1 hx; trivial
def keysAt (ks : List (List UInt8)) (k : Nat) : DataW Unit := setOf (.agg []) (litsOf (ks.take k))
theorem keysAt_next (ks : List (List UInt8)) (k : Nat) (h : k < ks.length) : keysAt ks (k + 1) = (keysAt ks k).put (.string ks[k]) (.agg []) := by
  unfold keysAt litsOf
  rw [List.take_succ_eq_append_getElem h, List.map_append, List.map_singleton, setOf_snoc]
theorem lit_same (a b : List UInt8) : (Lit.string a).sameKey (.string b) = decide (a = b) := by
  show (a == b) = _
  rw [Bool.eq_iff_iff]; simp
theorem keysAt_has (ks : List (List UInt8)) (k : Nat) (x : List UInt8) : Maps.has (keysAt ks k) (.string x) = decide (x ∈ ks.take k) := by
  unfold keysAt
  rw [has_setOf _ _ _ (lits_key _)]
  unfold litsOf
  rw [List.any_map, Bool.eq_iff_iff, List.any_eq_true, decide_eq_true_eq]
  constructor
  · rintro ⟨y, hy, he⟩
    have : y = x := by simpa [lit_same] using he
    rwa [← this]
  · intro h
    exact ⟨x, h, by simp [lit_same]⟩
/-- how many different keys there are -/
theorem keysAt_size (ks : List (List UInt8)) : ∀ k, k ≤ ks.length → Maps.size (keysAt ks k) ≤ k ∧ (Maps.size (keysAt ks k) = k ↔ (ks.take k).Nodup)
  | 0, _ => by
    have : Maps.size (keysAt ks 0) = 0 := rfl
    rw [this]; simp
  | k + 1, h => by
    have hk : k < ks.length := by omega
    obtain ⟨h1, h2⟩ := keysAt_size ks k (by omega)
    rw [keysAt_next ks k hk, size_put (show Tidy (keysAt ks k) from tidy_setOf _ _ (lits_key _)), keysAt_has, List.take_succ_eq_append_getElem hk, List.nodup_append]
    by_cases hm : ks[k] ∈ ks.take k
    · rw [if_pos (by simpa using hm)]
      refine ⟨by omega, ⟨fun h => by omega, fun h => ?_⟩⟩
      exact absurd rfl (h.2.2 _ hm _ (by simp))
    · rw [if_neg (by simpa using hm)]
      refine ⟨by omega, ⟨fun h => ⟨h2.1 (by omega), by simp, fun a ha b hb e => ?_⟩, fun h => by rw [h2.2 h.1]⟩⟩
      have : b = ks[k] := by simpa using hb
      subst this; subst e
      exact hm ha
theorem keysAt_all (ks : List (List UInt8)) : ((Maps.size (keysAt ks ks.length) : Int) == (ks.length : Int)) = unlikeB ks := by
  obtain ⟨h1, h2⟩ := keysAt_size ks ks.length (Nat.le_refl _)
  rw [List.take_length, ← unlike_nodup] at h2
  rw [Bool.eq_iff_iff, ← h2]
  simp; omega
set_option maxRecDepth 100000 in
set_option maxHeartbeats 1000000 in
theorem unlike_any (A : Option Addr) (c L N : Nat) (ks : List (List UInt8)) (hl : ks.length ≤ 9223372036854775807) (hz : ∀ x ∈ ks, x.length ≤ 9223372036854775807) (w : World) (hN : N ≤ w.heap.size) (hk : ks = [] ∨ ∃ b o, A = some ⟨b, o, none⟩ ∧ KIs w L N ks b o) :
    Calls Tryd.prog 70 #[.slice A ks.length c] w fun e w' => e = .returned (.bool (unlikeB ks)) ∧ Below w.heap.size w w' := by
  have hmm := fun n => @run_makeMapN Tryd.prog 97 9 98 .i64 n Tryd.underlying97
  have hall := keysAt_all ks
  obtain ⟨n, hn⟩ : ∃ n, ks.length = n := ⟨_, rfl⟩
  obtain ⟨R, hR⟩ : ∃ R, unlikeB ks = R := ⟨_, rfl⟩
  rw [hR] at hall ⊢
  rw [hn] at hl hall ⊢
  have HN := Lib.hid hn; have HZ := Lib.hid hz; have HA := Lib.hid hall; have HK := Lib.hid hk; clear hn hz hall hR hk
  go_enter Tryd.func70, Tryd.ntmps70
  go_wp2
  go_loopw [11] (fun i wr => ∃ k : Nat, k ≤ n ∧ i = .int .i64 k ∧ wr.ownsMap Tryd.prog 9 (unitElem (H := Unit)) w.heap.size k (keysAt ks k) ∧ Below w.heap.size w wr) (fun i _ => n - (intOf i).toNat)
  case atStart => exact ⟨0, Nat.zero_le _, rfl, World.ownsMap_made _ _ _ _, (Below.refl _ _).alloc (Nat.le_refl _) _⟩
  case round =>
    obtain ⟨k, hk, rfl, hown, hbw⟩ := hrel
    have hbs := hbw.size
    by_cases hlt : k < n
    · have hkl : k < ks.length := by have := HN.out; omega
      obtain ⟨b, o, rfl, _, hbN, h1⟩ := VIs.key HK.out k hkl
      have h1 := (hbw.cell (p := ⟨b, o + k, none⟩) (by show b < _; omega)).trans h1
      have hsz := HZ.out ks[k] (List.getElem_mem hkl)
      have g3 := keysAt_next ks k hkl
      have G3 := Lib.hid g3; clear g3 HK
      generalize ks[k] = x at *
      have hkey : keyOf Tryd.prog 9 (.string ⟨x.toArray⟩) = some (.string x) := WideMaps.keyOf_string_mk Tryd.underlying9 hsz
      go_wp2_with (at_mapUpdate; refine wpList_mapUpdate_own _ rfl _ _ _ 97 rfl 9 98 Tryd.lawKey Tryd.underlying97 (unitElem (H := Unit)) w.heap.size k _ rfl hown (by unfold maxLen; omega) _ _ _ rfl rfl hkey _ [] unitElem_mk ?_; intro w1 hown1 hgrow1)
      go_roundw
      case rel => exact ⟨k + 1, by omega, by go_num, by rw [G3.out]; exact hown1, hbw.grown hgrow1 (by omega) (fun j hj => by cases hj; exact Nat.le_refl _)⟩
      case measure => simp [intOf]; omega
    · obtain rfl : n = k := by omega
      go_wp2_with (at_len; go_loud (refine wpList_len_own _ rfl _ 97 rfl 9 98 Tryd.underlying97 _ w.heap.size n _ rfl hown ?_))
      go_ret
      exact ⟨ret_bool HA.out, hbw⟩
end Go.Proofs.YtobicmpgfiddhaaDoor
