/- pairs.parts: an iterator over the parts between & that are not empty. -/
import Derived.Test.YthinbheplcameaaPair
import Derived.RangeFuncNested
import Derived.RangeFuncBound
import Derived.RangeFuncCalls
import Derived.RangeFuncLeaves
import Derived.Shelf.Abstract
import Derived.Shelf.RegionOpen
import Derived.OwnWalkIn
import Derived.TacticsInMore
import Derived.LoopNIn
import Derived.LoopIn
namespace Go.Proofs.Ythinbheplcameaa
open Go.RowKit Go.Shelf

attribute [local go_sem] Oper.semAt_some
/-- a part of a text that is not too long -/
abbrev Part (m : Nat) := { p : List UInt8 // p.length ≤ m }
def vals {m : Nat} (l : List (Part m)) : List (List UInt8) := l.map (·.1)
theorem vals_nil (m : Nat) : vals ([] : List (Part m)) = [] := rfl
theorem vals_snoc {m : Nat} (l : List (Part m)) (p : Part m) : vals (l ++ [p]) = vals l ++ [p.1] := by simp only [vals, List.map_append, List.map_cons, List.map_nil]
theorem vals_len {m : Nat} (l : List (Part m)) : (vals l).length = l.length := by simp only [vals, List.length_map]
theorem parts_hit {l : List UInt8} {m : Nat} {pre : List (Part m)} {r : List UInt8} (h : partsL l = vals pre ++ partsL r) (hk : atL 38 r < r.length) (p : Part m) (hp : r.take (atL 38 r) = p.1) (hne : p.1 ≠ []) :
    partsL l = vals (pre ++ [p]) ++ partsL (r.drop (atL 38 r + 1)) := by
  rw [h, partsL_more hk, hp, one1, if_neg hne, vals_snoc, List.append_assoc]
theorem parts_skip {l : List UInt8} {m : Nat} {pre : List (Part m)} {r : List UInt8} (h : partsL l = vals pre ++ partsL r) (hk : atL 38 r < r.length) (he : r.take (atL 38 r) = []) :
    partsL l = vals pre ++ partsL (r.drop (atL 38 r + 1)) := by
  rw [h, partsL_more hk, one1, if_pos he, List.nil_append]
theorem take_full (r : List UInt8) (hk : ¬ atL 38 r < r.length) : r.take (atL 38 r) = r := List.take_of_length_le (by omega)
theorem parts_last {l : List UInt8} {m : Nat} {pre : List (Part m)} {r : List UInt8} (h : partsL l = vals pre ++ partsL r) (hk : ¬ atL 38 r < r.length) (p : Part m) (hp : r.take (atL 38 r) = p.1) (hne : p.1 ≠ []) :
    partsL l = vals (pre ++ [p]) := by
  rw [take_full r hk] at hp
  rw [h, partsL_last (by omega), hp, one1, if_neg hne, vals_snoc]
theorem parts_end {l : List UInt8} {m : Nat} {pre : List (Part m)} {r : List UInt8} (h : partsL l = vals pre ++ partsL r) (hk : ¬ atL 38 r < r.length) (he : r.take (atL 38 r) = []) :
    partsL l = vals pre := by
  rw [take_full r hk] at he
  rw [h, partsL_last (by omega), one1, if_pos he, List.append_nil]
theorem parts_room {l : List UInt8} {m : Nat} {pre : List (Part m)} {p : Part m} {r : List (List UInt8)} (h : partsL l = vals (pre ++ [p]) ++ r) : pre.length < (partsL l).length := by
  rw [h, vals_snoc, List.append_assoc, List.length_append, vals_len, List.length_append, List.length_cons]; omega
theorem parts_pre {l : List UInt8} {m : Nat} {pre : List (Part m)} {r : List (List UInt8)} (h : partsL l = vals pre ++ r) : vals pre <+: partsL l := ⟨r, h.symm⟩
theorem drewN_grown (w : World) (k : Nat) : w.grownBy (w.drewN k) none := ⟨rfl, rfl, rfl, Nat.le_refl _, fun _ _ _ => rfl⟩

def more1 : Value → Value → Nat
  | .string b, .bool true => b.size + 1
  | _, _ => 0

/-- what the loop holds of what is left, and of whether there is more -/
def LeftAt (l : List UInt8) (m : Nat) (pre : List (Part m)) (rv mv : Value) : Prop :=
  (∃ r : List UInt8, rv = .string ⟨r.toArray⟩ ∧ mv = .bool true ∧ r.length ≤ m ∧ partsL l = vals pre ++ partsL r) ∨ ((∃ b, rv = .string b) ∧ mv = .bool false ∧ partsL l = vals pre)

set_option maxRecDepth 100000 in
set_option maxHeartbeats 1000000 in
theorem parts1_in (n : Nat) (hn : 1 ≤ n) (l Bn n₀ : Nat) (s : List UInt8) (m : Nat) (hs : s.length ≤ m) (hm : m ≤ 1048576) (J Jx : List (Part m) → World → Prop)
    (hdJ : ∀ pre W k, J pre W → J pre (W.drewN k))
    (hY : ∀ pre x W, J pre W → pre.length < (partsL s).length → YieldAt Fence.wide (n - 1) Try.prog l #[.string ⟨x.1.toArray⟩] W fun e W' =>
      (e = .returned (.bool true) ∧ J (pre ++ [x]) W' ∧ Below n₀ W W') ∨ (e = .returned (.bool false) ∧ Jx (pre ++ [x]) W'))
    (W : World) (hBn : W.cell? ⟨Bn, 0, none⟩ = some (.string ⟨s.toArray⟩)) (h0 : J [] W) :
    CallsIn Fence.wide n Try.prog 51 #[.func (.yield l) #[] #[], .pointer (some ⟨Bn, 0, none⟩)] W fun e W' => (∃ v, e = .returned v) ∧
      ((∃ ys, vals ys = partsL s ∧ J ys W') ∨ (∃ pre, vals pre <+: partsL s ∧ Jx pre W')) := by
  refine callsIn_of_wp Try.func51 rfl trivial ?_ rfl
  simp only [Try.ntmps51, List.size_toArray, List.length_cons, List.length_nil, Nat.reduceAdd, Nat.reduceSub, Array.replicate_succ, Array.replicate_zero, List.push_toArray, List.append_toArray, List.nil_append, List.cons_append]
  gi_wp2
  gi_loopw [3, 4] (fun rv mv wr => ∃ pre : List (Part m), LeftAt s m pre rv mv ∧ J pre wr) (fun rv mv _ => more1 rv mv)
  case atStart => exact ⟨[], Or.inl ⟨s, rfl, rfl, hs, rfl⟩, h0⟩
  case round =>
    obtain ⟨pre, hl, hJ⟩ := hrel
    rcases hl with ⟨r, rfl, rfl, hr, hp⟩ | ⟨⟨b, rfl⟩, rfl, hp⟩
    · have hc := cut1_any (str r) 38 (by unfold maxLen; rw [str_size]; omega)
      unfold cutSays at hc
      rw [str_list] at hc
      have htk := Nat.le_trans (atL_take 38 r) hr
      have hdr := Nat.le_trans (atL_drop 38 r) hr
      have hsx : (r.drop (atL 38 r + 1)).length ≤ r.length := atL_drop 38 r
      by_cases hk : atL 38 r < r.length
      · have hz : (decide (atL 38 r < r.length)) = true := by simpa using hk
        have hdk : (r.drop (atL 38 r + 1)).length + 1 ≤ r.length := by rw [List.length_drop]; omega
        rw [hz] at hc
        by_cases he : r.take (atL 38 r) = []
        · have hp' := parts_skip hp hk he
          rw [he] at hc
          have HP := Lib.hid hp'; clear hp hp' hz he htk hk hsx
          generalize r.drop (atL 38 r + 1) = t at *
          gi_wp2_with (refine ⟨trivial, ?_⟩; gi_at_call 52; refine (callsIn_wide.2 (hc _)).mono ?_; rintro e w1 ⟨rfl, q, rfl⟩)
          refine ⟨fun _ h => (by cases h), ?_⟩
          gi_wp2
          go_roundw
          case rel => exact ⟨pre, Or.inl ⟨t, rfl, rfl, hdr, HP.out⟩, hdJ _ _ _ hJ⟩
          case measure => simp only [more1, str_size]; show t.length + 1 < r.length + 1; omega
        · obtain ⟨p, hpe⟩ : ∃ p : Part m, p.1 = r.take (atL 38 r) := ⟨⟨_, htk⟩, rfl⟩
          rw [← hpe] at hc he
          have hp' := parts_hit hp hk p hpe.symm he
          have hbe : (!p.1.isEmpty) = true := by simpa using he
          have HP := Lib.hid hp'; have HE := Lib.hid he; clear hp hp' hz he htk hk hsx hpe
          generalize r.drop (atL 38 r + 1) = t at *
          gi_wp2_with (refine ⟨trivial, ?_⟩; gi_at_call 52; refine (callsIn_wide.2 (hc _)).mono ?_; rintro e w1 ⟨rfl, q, rfl⟩; obtain ⟨fn, tmps, assign, body, hy, hR⟩ := hY pre p (wr.drewN q) (hdJ _ _ _ hJ) (parts_room HP.out))
          refine hR.mono ?_
          rintro e W3 (⟨rfl, hJ3, hk3⟩ | ⟨rfl, hJx3⟩)
          · gi_wp2
            go_roundw
            case rel => exact ⟨pre ++ [p], Or.inl ⟨t, rfl, rfl, hdr, HP.out⟩, hJ3⟩
            case measure => simp only [more1, str_size]; show t.length + 1 < r.length + 1; omega
          · gi_wp2
            refine bodyPost_ret (results_none rfl _ _ _) rfl ?_
            exact ⟨⟨_, rfl⟩, .inr ⟨pre ++ [p], parts_pre HP.out, hJx3⟩⟩
      · have hz : (decide (atL 38 r < r.length)) = false := by simpa using hk
        rw [hz] at hc
        by_cases he : r.take (atL 38 r) = []
        · have hp' := parts_end hp hk he
          rw [he] at hc
          have HP := Lib.hid hp'; clear hp hp' hz he htk hk hsx
          generalize r.drop (atL 38 r + 1) = t at *
          gi_wp2_with (refine ⟨trivial, ?_⟩; gi_at_call 52; refine (callsIn_wide.2 (hc _)).mono ?_; rintro e w1 ⟨rfl, q, rfl⟩)
          refine ⟨fun _ h => (by cases h), ?_⟩
          gi_wp2
          go_roundw
          case rel => exact ⟨pre, Or.inr ⟨⟨_, rfl⟩, rfl, HP.out⟩, hdJ _ _ _ hJ⟩
          case measure => simp only [more1]; omega
        · obtain ⟨p, hpe⟩ : ∃ p : Part m, p.1 = r.take (atL 38 r) := ⟨⟨_, htk⟩, rfl⟩
          rw [← hpe] at hc he
          have hp' := parts_last hp hk p hpe.symm he
          have hbe : (!p.1.isEmpty) = true := by simpa using he
          have HP := Lib.hid hp'; have HE := Lib.hid he; clear hp hp' hz he htk hk hsx hpe
          generalize r.drop (atL 38 r + 1) = t at *
          gi_wp2_with (refine ⟨trivial, ?_⟩; gi_at_call 52; refine (callsIn_wide.2 (hc _)).mono ?_; rintro e w1 ⟨rfl, q, rfl⟩; obtain ⟨fn, tmps, assign, body, hy, hR⟩ := hY pre p (wr.drewN q) (hdJ _ _ _ hJ) (parts_room (r := []) (by rw [HP.out, List.append_nil])))
          refine hR.mono ?_
          rintro e W3 (⟨rfl, hJ3, hk3⟩ | ⟨rfl, hJx3⟩)
          · gi_wp2
            go_roundw
            case rel => exact ⟨pre ++ [p], Or.inr ⟨⟨_, rfl⟩, rfl, HP.out⟩, hJ3⟩
            case measure => simp only [more1]; omega
          · gi_wp2
            refine bodyPost_ret (results_none rfl _ _ _) rfl ?_
            exact ⟨⟨_, rfl⟩, .inr ⟨pre ++ [p], parts_pre (r := []) (by rw [HP.out, List.append_nil]), hJx3⟩⟩
    · gi_wp2
      go_end0
      exact ⟨⟨_, rfl⟩, .inl ⟨pre, hp.symm, hJ⟩⟩
set_option maxHeartbeats 1000000 in
/-- parts(s): the text is boxed; the function value captures the box. -/
theorem parts_in (n : Nat) (s : ByteArray) (w : World) :
    CallsIn Fence.wide n Try.prog 41 #[.string s] w fun e w' => e = .returned (.func (.func 51) #[] #[.pointer (some ⟨w.heap.size, 0, none⟩)]) ∧ w' = w.alloc (.cells #[.string s] 9) := by
  refine callsIn_of_wp Try.func41 rfl trivial ?_ rfl
  simp only [Try.ntmps41, List.size_toArray, List.length_cons, List.length_nil, Nat.reduceAdd, Nat.reduceSub, Array.replicate_succ, Array.replicate_zero, List.push_toArray, List.append_toArray, List.nil_append, List.cons_append]
  gi_wp2
  go_ret
  exact ⟨rfl, rfl⟩
/-- what parts hands back gives all the parts, in order; or those ahead of where a round has said 'no more'. -/
theorem parts_stops (n : Nat) (hn : 1 ≤ n) (Bn n₀ : Nat) (s : List UInt8) (m : Nat) (hs : s.length ≤ m) (hm : m ≤ 1048576) (w : World) (hBn : Bn < w.heap.size) (hc : w.cell? ⟨Bn, 0, none⟩ = some (.string ⟨s.toArray⟩)) :
    SeqStopsK Fence.wide n Try.prog 51 #[.pointer (some ⟨Bn, 0, none⟩)] (fun x : Part m => #[Value.string ⟨x.1.toArray⟩]) (Below n₀) (fun ys => vals ys = partsL s) (fun pre => vals pre <+: partsL s) (partsL s).length w := fun l J Jx W hW hJ _ hY h0 =>
  parts1_in n hn l Bn n₀ s m hs hm J Jx (fun pre W k h => hJ pre W _ none h (drewN_grown W k) (fun r e => by cases e)) hY W ((hW.cell (p := ⟨Bn, 0, none⟩) hBn).trans hc) h0
end Go.Proofs.Ythinbheplcameaa
