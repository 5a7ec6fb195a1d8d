/- The library's SplitSeq at one byte, as an iterator that keeps what is left in a cell. -/
import Derived.Test.YtobicmpgfiddhaaDoorRuleSeq
import Derived.Test.YtobicmpgfiddhaaDoorRuleSplit
import Derived.Shelf.Abstract
import Derived.Shelf.RegionOpen
import Derived.WalkKit
import Derived.OwnWalkIn
import Derived.TacticsInMore
import Derived.LoopNIn
import Derived.LoopIn
namespace Go.Proofs.YtobicmpgfiddhaaDoor
open Go.RowKit Go.Shelf
set_option linter.unusedVariables false
set_option linter.unusedSimpArgs false
attribute [local go_sem] Oper.semAt_some

theorem extP14 (s : List UInt8) (k : Nat) : (⟨s.toArray⟩ : ByteArray).extract 0 k = ⟨(s.take k).toArray⟩ := by
  apply ByteArray.ext
  rw [ByteArray.data_extract]
  simp
theorem extS14 (s : List UInt8) (k : Nat) : (⟨s.toArray⟩ : ByteArray).extract k (⟨s.toArray⟩ : ByteArray).size = ⟨(s.drop k).toArray⟩ := by
  apply ByteArray.ext
  rw [ByteArray.data_extract]
  show Array.extract s.toArray k s.toArray.size = _
  simp
  rw [← List.length_drop, List.take_length]
/-- a part of a text that is not too long -/
abbrev PartR (m : Nat) := { p : List UInt8 // p.length ≤ m }
def valsR {m : Nat} (l : List (PartR m)) : List (List UInt8) := l.map (·.1)
theorem valsR_snoc {m : Nat} (l : List (PartR m)) (p : PartR m) : valsR (l ++ [p]) = valsR l ++ [p.1] := by simp only [valsR, List.map_append, List.map_cons, List.map_nil]
theorem valsR_len {m : Nat} (l : List (PartR m)) : (valsR l).length = l.length := by simp only [valsR, List.length_map]
def cellSize (w : World) (b : Nat) : Nat := match w.cell? ⟨b, 0, none⟩ with
  | some (.string s) => s.size
  | _ => 0
set_option maxRecDepth 100000 in
set_option maxHeartbeats 2000000 in
theorem seq1_in (n : Nat) (hn : 1 ≤ n) (l Bs Bp Bv : Nat) (s : List UInt8) (m : Nat) (hs : s.length ≤ m) (hm : m ≤ 1000000000) (h1 : Bs ≠ Bp) (h2 : Bs ≠ Bv) (J Jx : List (PartR m) → World → Prop)
    (hdJ : ∀ pre A B, J pre A → ButO A.heap.size Bs A B → J pre B)
    (hY : ∀ pre x W, J pre W → pre.length < (splitL 59 s).length → YieldAt Fence.wide (n - 1) Tryd.prog l #[.string ⟨x.1.toArray⟩] W fun e W' =>
      (e = .returned (.bool true) ∧ J (pre ++ [x]) W' ∧ ∀ k, (k = Bs ∨ k = Bp ∨ k = Bv) → W'.heap[k]? = W.heap[k]?) ∨ (e = .returned (.bool false) ∧ Jx (pre ++ [x]) W'))
    (W : World) (c1 : W.heap[Bs]? = some (.cells #[.string ⟨s.toArray⟩] 9 (0, 0))) (c2 : W.heap[Bp]? = some (.cells #[.string ⟨#[59]⟩] 9 (0, 0))) (c3 : W.heap[Bv]? = some (.cells #[.int .i64 0] 3 (0, 0))) (h0 : J [] W) :
    CallsIn Fence.wide n Tryd.prog 50 #[.func (.yield l) #[] #[], .pointer (some ⟨Bp, 0, none⟩), .pointer (some ⟨Bs, 0, none⟩), .pointer (some ⟨Bv, 0, none⟩)] W fun e W' => (∃ v, e = .returned v) ∧
      ((∃ ys, valsR ys = splitL 59 s ∧ J ys W') ∨ (∃ pre, valsR pre <+: splitL 59 s ∧ Jx pre W')) := by
  have hix := fun S W => Tryd.strings_Index_one S 59 W
  have HI := Lib.hid hix; have HDJ := Lib.hid hdJ; have HY := Lib.hid hY
  obtain ⟨SP, hSP⟩ : ∃ z : ByteArray, z = ⟨#[59]⟩ := ⟨_, rfl⟩
  have hps : SP.size = 1 := by rw [hSP]; rfl
  have C1 := Lib.hid c1; have C2 := Lib.hid c2; have C3 := Lib.hid c3
  have p0 : W.cell? ⟨Bp, 0, none⟩ = some (.string ⟨#[59]⟩) := by rw [cell_here c2]; rfl
  clear hix hdJ hY c1 c2 c3 hSP hps
  refine callsIn_of_wp Tryd.func50 rfl trivial ?_ rfl
  simp only [Tryd.ntmps50, List.size_toArray, List.length_cons, List.length_nil, Nat.reduceAdd, Nat.reduceSub, Array.replicate_succ, Array.replicate_zero, List.push_toArray, List.append_toArray, List.nil_append, List.cons_append]
  gi_wp2
  gi_loopw [7] (fun _ wr => ∃ (pre : List (PartR m)) (r : List UInt8), wr.heap[Bs]? = some (.cells #[.string ⟨r.toArray⟩] 9 (0, 0)) ∧ wr.heap[Bp]? = some (.cells #[.string ⟨#[59]⟩] 9 (0, 0)) ∧ wr.heap[Bv]? = some (.cells #[.int .i64 0] 3 (0, 0)) ∧ r.length ≤ m ∧ Hid (splitL 59 s = valsR pre ++ splitL 59 r) ∧ J pre wr) (fun _ wr => cellSize wr Bs)
  case atStart => exact ⟨[], s, C1.out, C2.out, C3.out, hs, Lib.hid rfl, h0⟩
  case round =>
    obtain ⟨pre, r, d1, d2, d3, hr, HP, hJ⟩ := hrel
    obtain ⟨R, hR0⟩ : ∃ R : ByteArray, (⟨r.toArray⟩ : ByteArray) = R := ⟨_, rfl⟩
    have hRs : R.size = r.length := by rw [← hR0]; show r.toArray.size = _; simp
    have hRl : R.data.toList = r := by rw [← hR0]
    have hc := HI.out R wr
    rw [hRl, atL_index] at hc
    rw [hR0] at d1
    have e1 : wr.cell? ⟨Bs, 0, none⟩ = some (.string R) := by rw [cell_here d1]; rfl
    have e2 : wr.cell? ⟨Bp, 0, none⟩ = some (.string ⟨#[59]⟩) := by rw [cell_here d2]; rfl
    have e3 : wr.cell? ⟨Bv, 0, none⟩ = some (.int .i64 0) := by rw [cell_here d3]; rfl
    have D1 := Lib.hid d1; have D2 := Lib.hid d2; have D3 := Lib.hid d3
    clear d1 d2 d3
    by_cases hk : atL 59 r < r.length
    · rw [if_pos hk] at hc
      have hsp := splitL_more hk
      obtain ⟨k, hkk⟩ : ∃ k, atL 59 r = k := ⟨_, rfl⟩
      rw [hkk] at hc hsp hk
      obtain ⟨p, hp⟩ : ∃ p : PartR m, p.1 = r.take k := ⟨⟨r.take k, by rw [List.length_take]; omega⟩, rfl⟩
      obtain ⟨t, ht⟩ : ∃ t, r.drop (k + 1) = t := ⟨_, rfl⟩
      have htl : t.length + 1 ≤ r.length := by rw [← ht, List.length_drop]; omega
      rw [ht, ← hp] at hsp
      have hP2 : splitL 59 s = valsR (pre ++ [p]) ++ splitL 59 t := by rw [HP.out, hsp, valsR_snoc, List.append_assoc]; rfl
      have hroom : pre.length < (splitL 59 s).length := by rw [HP.out, hsp, List.length_append, valsR_len, List.length_cons]; omega
      have x1 : R.extract 0 k = ⟨p.1.toArray⟩ := by rw [← hR0, extP14, hp]
      have x2 : R.extract (k + 1) R.size = ⟨t.toArray⟩ := by rw [← ht, ← hR0, extS14]
      obtain ⟨fn, tmps, assign, body, hy, hRr⟩ := HY.out pre p wr hJ hroom
      obtain ⟨TT, hTT⟩ : ∃ T : ByteArray, (⟨t.toArray⟩ : ByteArray) = T := ⟨_, rfl⟩
      rw [hTT] at x2
      have hb1 : (k : Int) ≤ R.size := by omega
      have hb2 : (k : Int) + 1 ≤ R.size := by omega
      have hb0 : (0 : Int) ≤ k := by omega
      have HP2 := Lib.hid hP2; have HC := Lib.hid hc; have HRS := Lib.hid hRs
      clear hP2 hc hsp hroom hp ht hkk hR0 hRl hRs
      gi_wp2_with (refine ⟨trivial, ?_⟩; gi_at_call 29; refine (callsIn_wide.2 HC.out).mono ?_; rintro e w1 ⟨rfl, rfl⟩)
      refine hRr.mono ?_
      rintro e W3 (⟨rfl, hJ3, hk3⟩ | ⟨rfl, hJx3⟩)
      · have g1 := (hk3 Bs (.inl rfl)).trans D1.out
        have g2 := (hk3 Bp (.inr (.inl rfl))).trans D2.out
        have g3 := (hk3 Bv (.inr (.inr rfl))).trans D3.out
        have q1 : W3.cell? ⟨Bs, 0, none⟩ = some (.string R) := by rw [cell_here g1]; rfl
        have q2 : W3.cell? ⟨Bp, 0, none⟩ = some (.string ⟨#[59]⟩) := by rw [cell_here g2]; rfl
        have q4 := frozen_here g1 0
        have G1 := Lib.hid g1; have G2 := Lib.hid g2; have G3 := Lib.hid g3
        clear g1 g2 g3 hk3
        gi_wp2
        go_roundw
        case rel =>
          have hg : (W3.setCell ⟨Bs, 0, none⟩ (.string TT)).heap[Bs]? = some (.cells #[.string TT] 9 (0, 0)) := by have := set_here (o := 0) G1.out (.string TT); simpa using this
          exact ⟨pre ++ [p], t, by rw [hTT]; exact hg, (set_there _ (Ne.symm h1)).trans G2.out, (set_there _ (Ne.symm h2)).trans G3.out, by omega, HP2, HDJ.out _ _ _ hJ3 ((ButO.refl _ _ _).set (.inr rfl) _)⟩
        case measure =>
          have hg : (W3.setCell ⟨Bs, 0, none⟩ (.string TT)).cell? ⟨Bs, 0, none⟩ = some (.string TT) := by
            rw [cell_here (set_here (o := 0) G1.out (.string TT))]; rfl
          have hts : TT.size = t.length := by rw [← hTT]; show t.toArray.size = _; simp
          have := HRS.out
          unfold cellSize
          rw [hg, e1]
          show TT.size < R.size
          omega
      · gi_wp2
        refine bodyPost_ret (results_none rfl _ _ _) rfl ?_
        exact ⟨⟨_, rfl⟩, .inr ⟨pre ++ [p], ⟨_, HP2.out.symm⟩, hJx3⟩⟩
    · rw [if_neg hk] at hc
      have hsp := splitL_last (Nat.le_of_not_lt hk)
      obtain ⟨p, hp⟩ : ∃ p : PartR m, p.1 = r := ⟨⟨r, hr⟩, rfl⟩
      have hP2 : splitL 59 s = valsR (pre ++ [p]) := by rw [HP.out, hsp, valsR_snoc, hp]
      have hroom : pre.length < (splitL 59 s).length := by rw [HP.out, hsp, List.length_append, valsR_len, List.length_cons]; omega
      obtain ⟨fn, tmps, assign, body, hy, hRr⟩ := HY.out pre p wr hJ hroom
      rw [hp, hR0] at hy
      have HP2 := Lib.hid hP2; have HC := Lib.hid hc
      clear hP2 hc hsp hroom hp hR0 hRl hRs
      gi_wp2_with (refine ⟨trivial, ?_⟩; gi_at_call 29; refine (callsIn_wide.2 HC.out).mono ?_; rintro e w1 ⟨rfl, rfl⟩)
      refine hRr.mono ?_
      rintro e W3 (⟨rfl, hJ3, hk3⟩ | ⟨rfl, hJx3⟩)
      · gi_wp2
        go_end0
        exact ⟨⟨_, rfl⟩, .inl ⟨pre ++ [p], HP2.out.symm, hJ3⟩⟩
      · gi_wp2
        go_end0
        exact ⟨⟨_, rfl⟩, .inr ⟨pre ++ [p], by rw [HP2.out]; exact List.prefix_refl _, hJx3⟩⟩
set_option maxHeartbeats 1000000 in
theorem splitSeq_in (n : Nat) (hn : 1 ≤ n) (s : ByteArray) (w : World) :
    CallsIn Fence.wide n Tryd.prog 19 #[.string s, .string ⟨#[59]⟩] w fun e w' => e = .returned (.func (.func 50) #[] #[.pointer (some ⟨w.heap.size + 1, 0, none⟩), .pointer (some ⟨w.heap.size, 0, none⟩), .pointer (some ⟨w.heap.size + 1 + 1, 0, none⟩)]) ∧
      w' = ((w.alloc (.cells #[.string s] 9)).alloc (.cells #[.string ⟨#[59]⟩] 9)).alloc (.cells #[.int .i64 0] 3) := by
  have h : ∀ (n : Nat) W, CallsIn Fence.wide n Tryd.prog 30 #[.string s, .string ⟨#[59]⟩, .int .i64 0] W fun e w' => e = .returned (.func (.func 50) #[] #[.pointer (some ⟨W.heap.size + 1, 0, none⟩), .pointer (some ⟨W.heap.size, 0, none⟩), .pointer (some ⟨W.heap.size + 1 + 1, 0, none⟩)]) ∧
      w' = ((W.alloc (.cells #[.string s] 9)).alloc (.cells #[.string ⟨#[59]⟩] 9)).alloc (.cells #[.int .i64 0] 3) := fun n W => by
    refine callsIn_of_wp Tryd.func30 rfl trivial ?_ rfl
    simp only [Tryd.ntmps30, List.size_toArray, List.length_cons, List.length_nil, Nat.reduceAdd, Nat.reduceSub, Array.replicate_succ, Array.replicate_zero, List.push_toArray, List.append_toArray, List.nil_append, List.cons_append]
    have hmf : ∀ (fn : Fn) (first cap : Array Value) (w : World), (Instr.makeFunc fn first cap).run Tryd.prog w = .ok (.func fn first cap) w := fun _ _ _ _ => rfl
    gi_wp2
    go_ret
    exact ⟨rfl, rfl⟩
  have H := Lib.hid h
  clear h
  refine callsIn_of_wp Tryd.func19 rfl trivial ?_ rfl
  simp only [Tryd.ntmps19, List.size_toArray, List.length_cons, List.length_nil, Nat.reduceAdd, Nat.reduceSub, Array.replicate_succ, Array.replicate_zero, List.push_toArray, List.append_toArray, List.nil_append, List.cons_append]
  gi_wp2_with (refine ⟨trivial, ?_⟩; gi_at_call 30; refine (H.out _ _).mono ?_; rintro e w1 ⟨rfl, rfl⟩)
  go_ret
  exact ⟨rfl, rfl⟩
/-- what SplitSeq hands back gives all the parts, in order; or those ahead of where a round has said no more -/
theorem seq_stops (n : Nat) (hn : 1 ≤ n) (Bs Bp Bv : Nat) (s : List UInt8) (m : Nat) (hs : s.length ≤ m) (hm : m ≤ 1000000000) (h1 : Bs ≠ Bp) (h2 : Bs ≠ Bv) (w : World)
    (c1 : w.heap[Bs]? = some (.cells #[.string ⟨s.toArray⟩] 9 (0, 0))) (c2 : w.heap[Bp]? = some (.cells #[.string ⟨#[59]⟩] 9 (0, 0))) (c3 : w.heap[Bv]? = some (.cells #[.int .i64 0] 3 (0, 0))) :
    SeqC Fence.wide n Tryd.prog 50 #[.pointer (some ⟨Bp, 0, none⟩), .pointer (some ⟨Bs, 0, none⟩), .pointer (some ⟨Bv, 0, none⟩)] (fun x : PartR m => #[Value.string ⟨x.1.toArray⟩]) Bs (fun k => k = Bs ∨ k = Bp ∨ k = Bv)
      (fun ys => valsR ys = splitL 59 s) (fun pre => valsR pre <+: splitL 59 s) (splitL 59 s).length w := fun l J Jx W hW hJ _ hY h0 =>
  seq1_in n hn l Bs Bp Bv s m hs hm h1 h2 J Jx hJ hY W (blk_below c1 hW) (blk_below c2 hW) (blk_below c3 hW) h0
end Go.Proofs.YtobicmpgfiddhaaDoor
