/- Texts merged by program, in build order: StoreReadR, TapePure, StorePure, TextRef. -/
import Derived.Test.YtklhdffbaglkdaaDoorG10
import Derived.Test.YtklhdffbaglkdaaDoorRows
import Derived.Test.YtklhdffbaglkdaaDoorG09
import Derived.Test.YtklhdffbaglkdaaDoorG05
namespace Go.Proofs.YtklhdffbaglkdaaDoor
open Go.RowKit
set_option linter.unusedVariables false
set_option linter.unusedSimpArgs false

theorem chgsC_few : ∀ (n : Nat) (r : List UInt8) (l : List Ch) (r2 : List UInt8), chgsC n r = some (l, r2) → l.length + r2.length ≤ r.length
  | 0, r, l, r2, h => by
    have h : some (([] : List Ch), r) = some (l, r2) := h
    injection h with h
    injection h with h1 h2
    subst h1; subst h2
    simp
  | n + 1, r, l, r2, h => by
    have h1 := (chgsC_inv _ _ _ _ h).2.1
    have h2 := recAll_len l
    rw [← h1, List.length_append]
    omega
/-- what is read so far, and what is left -/
def RestIs (n : Nat) (D : List UInt8) (k : Nat) (pre : List Ch) (rest : List UInt8) : Prop := k ≤ n ∧ pre.length + rest.length ≤ D.length ∧ pre.length = k ∧
  chgsC n D = match chgsC (n - k) rest with
    | none => none
    | some (m, r) => some (pre ++ m, r)
theorem rest_start (n : Nat) (D : List UInt8) : RestIs n D 0 [] D := ⟨Nat.zero_le _, by simp, rfl, by
  rw [Nat.sub_zero]
  cases chgsC n D with
  | none => rfl
  | some x => rfl⟩
theorem rest_fail {n : Nat} {D : List UInt8} {k : Nat} {pre : List Ch} {rest : List UInt8} (h : RestIs n D k pre rest) (hk : k < n) (ho : chgC rest = none) : chgsC n D = none := by
  obtain ⟨_, _, _, he⟩ := h
  rw [he, show n - k = (n - k - 1) + 1 by omega, chgsC_succ, ho]
theorem rest_step {n : Nat} {D : List UInt8} {k : Nat} {pre : List Ch} {rest : List UInt8} (h : RestIs n D k pre rest) (hk : k < n) {x : Ch} {r : List UInt8} (ho : chgC rest = some (x, r)) : RestIs n D (k + 1) (pre ++ [x]) r := by
  obtain ⟨h1, h2, h3, he⟩ := h
  have hi := (chgC_inv ho).2.2
  refine ⟨hk, by rw [List.length_append, List.length_singleton]; omega, by rw [List.length_append, List.length_singleton, h3], ?_⟩
  rw [he, show n - k = (n - (k + 1)) + 1 by omega, chgsC_succ, ho]
  dsimp only
  cases chgsC (n - (k + 1)) r with
  | none => rfl
  | some y => simp
theorem rest_end {n : Nat} {D : List UInt8} {pre : List Ch} {rest : List UInt8} (h : RestIs n D n pre rest) : chgsC n D = some (pre, rest) := by
  obtain ⟨_, _, _, he⟩ := h
  rw [he, Nat.sub_self]
  simp [chgsC]
theorem readC_none {b D : List UInt8} {N : Nat} (h4 : 4 ≤ b.length) (hn : num4 b = N) (hd : b.drop 4 = D) (h : chgsC N D = none) : readC b = none := by
  unfold readC
  rw [if_pos h4, hn, hd, h]
theorem readC_all {b D : List UInt8} {N : Nat} {m : List Ch} (h4 : 4 ≤ b.length) (hn : num4 b = N) (hd : b.drop 4 = D) (h : chgsC N D = some (m, [])) : readC b = some m := by
  unfold readC
  rw [if_pos h4, hn, hd, h]
theorem readC_more {b D r : List UInt8} {N : Nat} {m : List Ch} (h4 : 4 ≤ b.length) (hn : num4 b = N) (hd : b.drop 4 = D) (h : chgsC N D = some (m, r)) (hr : r.length ≠ 0) : readC b = none := by
  unfold readC
  rw [if_pos h4, hn, hd, h]
  cases r with
  | nil => exact absurd rfl hr
  | cons x r => rfl
/-- what a record is -/
def ReadIs (w : World) (l : List UInt8) (e : Ending) : Prop :=
  (readC l = none ∧ e = .returned (.tuple #[.slice none 0 0, .bool false])) ∨ ∃ m A c, readC l = some m ∧ e = .returned (.tuple #[.slice A m.length c, .bool true]) ∧ RdC w (.slice A m.length c) m
theorem Tryd.infoChg : (Tryd.prog.info? 61).map (fun i => (i.zero, i.size, i.bytes)) = some (some (.agg #[.string ⟨#[]⟩, .string ⟨#[]⟩, .bool false]), 3, 40) := by kernel_rfl
set_option maxRecDepth 100000 in
set_option maxHeartbeats 4000000 in
theorem sread_any (A : Option Addr) (n c : Nat) (l : List UInt8) (hn : l.length = n) (hl : n ≤ 1000000) (w : World) (h : RdW w (.slice A n c) l) :
    Calls Tryd.prog 31 #[.slice A n c] w fun e w' => ReadIs w' l e ∧ Below w.heap.size w w' := by
  obtain ⟨i0, hi, hz0, hz1, hz2⟩ := info_parts Tryd.infoChg
  have hnum := snumber_any A n c l hn hl w h
  have HNUM := Lib.hid hnum; have HN := Lib.hid hn; have HL := Lib.hid hl; have HRDA := Lib.hid h
  clear hnum hn hl h
  go_enter Tryd.func31, Tryd.ntmps31
  go_wp2_with fail
  refine HNUM.out.mono ?_
  rintro e w1 ⟨hN, hb1⟩
  have B1 := Lib.hid hb1
  clear hb1
  rcases hN with ⟨h4, rfl⟩ | ⟨h4, PA, rfl, hr⟩
  · have hno : ReadIs w1 l (.returned (.tuple #[.slice none 0 0, .bool false])) := .inl ⟨by
      unfold readC
      rw [if_neg (by rw [HN.out]; omega)], rfl⟩
    have HNO := Lib.hid hno
    clear hno h4
    dsimp only
    go_wp2
    refine wp_loop_rounds 1 ?_
    rw [rounds_succ]
    go_wp2
    go_ret2
    exact ⟨HNO.out, B1.out⟩
  · obtain ⟨N, hNN⟩ : ∃ s, num4 l = s := ⟨_, rfl⟩
    have hN32 : N < 4294967296 := by rw [← hNN]; exact num4_lt l
    obtain ⟨D, hD⟩ : ∃ D, l.drop 4 = D := ⟨_, rfl⟩
    have hDl : D.length = n - 4 := by rw [← hD, List.length_drop, HN.out]
    have hnone := readC_none (by rw [HN.out]; exact h4) hNN hD
    have hall := fun m => readC_all (m := m) (by rw [HN.out]; exact h4) hNN hD
    have hmore := fun m r => readC_more (m := m) (r := r) (by rw [HN.out]; exact h4) hNN hD
    rw [hNN]
    rw [hD, ← hDl] at hr
    rw [← hDl]
    have HNONE := Lib.hid hnone; have HALL := Lib.hid hall; have HMORE := Lib.hid hmore; have HR := Lib.hid hr; have HDL := Lib.hid hDl
    clear hnone hall hmore hr hDl hD hNN h4
    dsimp only
    go_wp2
    go_loopw [0, 5, 6, 7, 15] (fun b ok v x i W => ∃ (k : Nat) (pre : List Ch) (rest : List UInt8) (PB : Option Addr) (cb m : Nat), rest.length = m ∧ i = .int .u32 (k : Int) ∧ b = .slice PB m cb ∧ ok = .bool true ∧ k ≤ N ∧
      Hid (RestIs N D k pre rest ∧ (∀ W, RdW W (.slice A n c) l → RdW W (.slice PB m cb) rest) ∧ CRow W w.heap.size 61 v pre ∧ Below w.heap.size w W)) (fun _ _ _ _ i _ => N - (intOf i).toNat)
    case atStart => exact ⟨0, [], D, PA, c - 4, D.length, rfl, rfl, rfl, rfl, Nat.zero_le _, Lib.hid ⟨rest_start N D, HR.out, World.ownsRow_nil _ _ _ _, B1.out⟩⟩
    case round =>
      obtain ⟨k, pre, rest, PB, cb, m, hm, rfl, rfl, rfl, hk, hT⟩ := hrel
      have hml : m ≤ 1000000 := by
        have := hT.out.1.2.1; have := HDL.out; have := HL.out
        omega
      by_cases hlt : k < N
      · have hkr : decide ((k : Int) < (N : Int)) = true := by simp; omega
        have hk1 : (k : Int) < N := by omega
        obtain ⟨W0, hW0⟩ : ∃ W, W = wr.alloc (.cells #[.string ⟨#[]⟩, .string ⟨#[]⟩, .bool false] 61 (0, 0)) := ⟨_, rfl⟩
        have hb0 : Below wr.heap.size wr W0 := by rw [hW0]; exact (Below.refl _ _).alloc (Nat.le_refl _) _
        have k0 : W0.heap[wr.heap.size]? = some (.cells #[.string ⟨#[]⟩, .string ⟨#[]⟩, .bool false] 61 (0, 0)) := by rw [hW0]; exact heap_alloc_last wr _
        have hone := sone_any PB m cb rest hm hml W0 (hT.out.2.1 W0 (HRDA.out.below (hT.out.2.2.2.chain hb0)))
        have HONE := Lib.hid hone; have B0 := Lib.hid hb0; have K0 := Lib.hid k0; have HW0 := Lib.hid hW0; have HM := Lib.hid hm
        clear hone hb0 k0 hW0 hm
        go_wp2_with fail
        rw [← HW0.out]
        refine HONE.out.mono ?_
        rintro e w2 ⟨hO, hb2⟩
        have B2 := Lib.hid (B0.out.trans (hb2.mono B0.out.size))
        have hk2 := blk_below K0.out hb2
        have K2 := Lib.hid hk2
        clear hb2 hk2
        obtain ⟨⟨c0, c1, c2⟩, f0, f1, f2⟩ := box3_of K2.out
        rcases hO with ⟨hno, rfl⟩ | ⟨x1, r, PC, cc, hx, rfl, hr⟩
        · have hno := HNONE.out (rest_fail hT.out.1 hlt hno)
          have hp : ∀ W, Below wr.heap.size wr W → ReadIs W l (.returned (.tuple #[.slice none 0 0, .bool false])) ∧ Below w.heap.size w W := fun W hb => ⟨.inl ⟨hno, rfl⟩, hT.out.2.2.2.chain hb⟩
          have HP := Lib.hid hp
          clear hno hp
          dsimp only
          go_wp2
          go_ret2
          exact HP.out _ (set3_below B2.out (Nat.le_refl _) _ _ _)
        · have hnext := rest_step hT.out.1 hlt hx
          obtain ⟨S1, hS1⟩ : ∃ S : ByteArray, S = ⟨x1.key.toArray⟩ := ⟨_, rfl⟩
          obtain ⟨S2, hS2⟩ : ∃ S : ByteArray, S = ⟨x1.value.toArray⟩ := ⟨_, rfl⟩
          obtain ⟨G, hG⟩ : ∃ G, x1.gone = G := ⟨_, rfl⟩
          unfold chV tv
          rw [← hS1, ← hS2, hG]
          have hcc : ccells [x1] = [.string S1, .string S2, .bool G] := by rw [hS1, hS2, ← hG]; rfl
          obtain ⟨rl, hrl⟩ : ∃ m, r.length = m := ⟨_, rfl⟩
          rw [hrl] at hr ⊢
          have hr2 : ∀ W, RdW W (.slice A n c) l → RdW W (.slice PC rl cc) r := fun W h => hr W (by have := hT.out.2.1 W h; exact this)
          have HNX := Lib.hid hnext; have HCC := Lib.hid hcc; have HR2 := Lib.hid hr2; have HRL := Lib.hid hrl
          clear hnext hcc hr2 hrl hr hS1 hS2 hG hx
          have hW3 : (set3 w2 wr.heap.size (.string S1) (.string S2) (.bool G)).heap[wr.heap.size]? = _ := set3_here K2.out
          have hb3 := set3_below B2.out (Nat.le_refl _) (.string S1) (.string S2) (.bool G)
          dsimp only
          go_upto_region 9 with fail
          obtain ⟨W7, hW7⟩ : ∃ W7, W7 = set3 w2 wr.heap.size (.string S1) (.string S2) (.bool G) := ⟨_, rfl⟩
          rw [← hW7] at hW3 hb3
          have hown7 : W7.ownsRow w.heap.size 61 3 u6 pre.length (ccells pre) := own_below hT.out.2.2.1 hb3
          obtain ⟨⟨e0, e1, e2⟩, -⟩ := box3_of hW3
          have hz7 : w.heap.size ≤ W7.heap.size := Nat.le_trans hT.out.2.2.2.size hb3.size
          have hpl : pre.length ≤ 1000000 := by
            have := hT.out.1.2.1; have := HDL.out; have := HL.out
            omega
          have OWN7 := Lib.hid hown7; have LOW7 := Lib.hid hb3
          unfold set3 at hW7
          rw [← hW7]
          clear hW7 hW3 hown7 hb3 c0 c1 c2 f0 f1 f2
          have hkw : IntKind.u32.wrap ((k : Int) + 1) = (k : Int) + 1 := by rw [IntKind.wrap_u32]; omega
          go_wp2_with (at_builtin; refine wpList_append_opt rfl (.tmp 25) (.tmp 27) 35 rfl w.heap.size 61 i0 _ 3 40 Tryd.underlying35 hi hz0 hz1 hz2 rfl (by decide) _ _ _ rfl (World.ownsRow.alloc OWN7.out _) (some ⟨_, 0, none⟩) 1 1 [.string S1, .string S2, .bool G] rfl rfl (.inr ⟨_, rfl, new_cells _ #[_, _, _] _⟩) (by intro u hu; simp at hu; rcases hu with rfl | rfl | rfl <;> rfl) (by unfold maxLen; omega) (by omega) (by simp; omega) ?_)
          intro v8 w8 hown8 hg8 _
          have hb8 : Below w.heap.size w w8 := ((hT.out.2.2.2.chain LOW7.out).alloc hz7 _).grown hg8 (by simp; omega) (fun x hx => (OWN7.out.lt x hx).1)
          go_wp2
          go_roundw
          case rel =>
            refine ⟨k + 1, pre ++ [x1], r, PC, cc, rl, HRL.out, by go_num, rfl, rfl, by omega, Lib.hid ⟨HNX.out, HR2.out, CRow.cut hown8 (by rw [List.length_append]; rfl) (by rw [ccells_app, HCC.out]), hb8⟩⟩
          case measure => simp [intOf]; omega
      · obtain rfl : k = N := by omega
        have hkr : decide ((k : Int) < (k : Int)) = false := by simp
        have hend := rest_end hT.out.1
        by_cases hm0 : m = 0
        · subst hm0
          have hr0 : rest = [] := List.length_eq_zero_iff.1 hm
          rw [hr0] at hend
          have hyes := HALL.out pre hend
          have hrd := hT.out.2.2.1.rd
          obtain ⟨Ao, co, rfl⟩ := own_form hT.out.2.2.1
          have hp : ∀ W, Below wr.heap.size wr W → ReadIs W l (.returned (.tuple #[.slice Ao pre.length co, .bool true])) ∧ Below w.heap.size w W := fun W hb => ⟨.inr ⟨pre, Ao, co, hyes, rfl, hrd.below hb⟩, hT.out.2.2.2.chain hb⟩
          have HP := Lib.hid hp
          clear hend hr0 hyes hrd hp hm
          go_wp2
          go_ret2
          exact HP.out _ (Below.refl _ _)
        · have hq : (0 : Int) < m := by omega
          have hno := HMORE.out pre rest hend (by rw [hm]; exact hm0)
          have hp : ∀ W, Below wr.heap.size wr W → ReadIs W l (.returned (.tuple #[.slice none 0 0, .bool false])) ∧ Below w.heap.size w W := fun W hb => ⟨.inl ⟨hno, rfl⟩, hT.out.2.2.2.chain hb⟩
          have HP := Lib.hid hp
          clear hend hno hp hm
          go_wp2
          go_ret2
          exact HP.out _ (Below.refl _ _)
end Go.Proofs.YtklhdffbaglkdaaDoor
namespace Go.Proofs.YtklhdffbaglkdaaDoor

/-- a tape: its bytes, how many are sure, how many more may be done (below 0: no fuse), whether the power is gone -/
structure TP where
  b : List UInt8
  sure : Nat
  fuse : Int
  down : Bool
  deriving DecidableEq
def TP.new : TP := ⟨[], 0, -1, false⟩
/-- how many of so many bytes may be done -/
def TP.left (t : TP) (n : Nat) : Nat := if t.down = true then 0 else if t.fuse < 0 ∨ (n : Int) ≤ t.fuse then n else t.fuse.toNat
/-- so many are done of so many -/
def TP.use (t : TP) (k n : Nat) : TP × Int := if t.down = true then (t, 8) else if k < n then (⟨t.b, t.sure, 0, true⟩, 8) else if 0 < t.fuse then (⟨t.b, t.sure, t.fuse - n, t.down⟩, 0) else (t, 0)
def TP.write (t : TP) (l : List UInt8) : TP × Int := TP.use ⟨t.b ++ l.take (t.left l.length), t.sure, t.fuse, t.down⟩ (t.left l.length) l.length
def TP.sync (t : TP) : TP × Int := if (t.use (t.left 1) 1).2 = 0 then (⟨(t.use (t.left 1) 1).1.b, (t.use (t.left 1) 1).1.b.length, (t.use (t.left 1) 1).1.fuse, (t.use (t.left 1) 1).1.down⟩, 0) else t.use (t.left 1) 1
def TP.swap (t : TP) (l : List UInt8) : TP × Int := if (t.use (t.left (l.length + 1)) (l.length + 1)).2 = 0 then (⟨l, l.length, (t.use (t.left (l.length + 1)) (l.length + 1)).1.fuse, (t.use (t.left (l.length + 1)) (l.length + 1)).1.down⟩, 0) else t.use (t.left (l.length + 1)) (l.length + 1)
def TP.setFuse (t : TP) (n : Int) : TP := ⟨t.b, t.sure, if n < 0 then 0 else n, t.down⟩
/-- how many loose bytes stay -/
def TP.kept (t : TP) (keep : Int) : Nat := if keep < 0 then 0 else if ((t.b.length - t.sure : Nat) : Int) < keep then t.b.length - t.sure else keep.toNat
def TP.crash (t : TP) (keep : Int) : TP := ⟨t.b.take (t.sure + t.kept keep), t.sure + t.kept keep, -1, false⟩

/-- no more is sure than there is -/
structure TP.Ok (t : TP) : Prop where
  sure : t.sure ≤ t.b.length
  fuse : -1 ≤ t.fuse ∧ t.fuse ≤ 9223372036854775807
theorem TP.new_ok : TP.new.Ok := ⟨Nat.le_refl _, by decide, by decide⟩
theorem TP.left_le (t : TP) (n : Nat) : t.left n ≤ n := by
  unfold TP.left
  split
  · omega
  · split <;> omega
theorem TP.use_b (t : TP) (k n : Nat) : (t.use k n).1.b = t.b ∧ (t.use k n).1.sure = t.sure := by
  unfold TP.use
  split
  · exact ⟨rfl, rfl⟩
  · split
    · exact ⟨rfl, rfl⟩
    · split <;> exact ⟨rfl, rfl⟩
theorem TP.use_fuse {t : TP} (h : -1 ≤ t.fuse ∧ t.fuse ≤ 9223372036854775807) (n : Nat) : -1 ≤ (t.use (t.left n) n).1.fuse ∧ (t.use (t.left n) n).1.fuse ≤ 9223372036854775807 := by
  unfold TP.use
  split
  · exact h
  · rename_i hd
    split
    · exact ⟨show (-1 : Int) ≤ 0 by decide, show (0 : Int) ≤ 9223372036854775807 by decide⟩
    · rename_i hk
      split
      · rename_i hf
        show -1 ≤ t.fuse - n ∧ t.fuse - n ≤ _
        have : (n : Int) ≤ t.fuse := by
          unfold TP.left at hk
          rw [if_neg hd] at hk
          split at hk
          · omega
          · omega
        omega
      · exact h
theorem TP.use_err (t : TP) (k n : Nat) : (t.use k n).2 = 0 ∨ (t.use k n).2 = 8 := by
  unfold TP.use
  split
  · exact .inr rfl
  · split
    · exact .inr rfl
    · split <;> exact .inl rfl
theorem TP.write_ok {t : TP} (h : t.Ok) (l : List UInt8) : (t.write l).1.Ok ∧ (t.write l).1.b.length ≤ t.b.length + l.length := by
  unfold TP.write
  have hb := TP.use_b ⟨t.b ++ l.take (t.left l.length), t.sure, t.fuse, t.down⟩ (t.left l.length) l.length
  have hf := TP.use_fuse (t := ⟨t.b ++ l.take (t.left l.length), t.sure, t.fuse, t.down⟩) h.fuse l.length
  refine ⟨⟨?_, hf⟩, ?_⟩
  · rw [hb.1, hb.2]; simp only [List.length_append]; have := h.sure; omega
  · rw [hb.1]; simp only [List.length_append, List.length_take]; omega
theorem TP.sync_ok {t : TP} (h : t.Ok) : t.sync.1.Ok ∧ t.sync.1.b = t.b := by
  unfold TP.sync
  have hb := TP.use_b t (t.left 1) 1
  have hf := TP.use_fuse h.fuse 1
  split
  · exact ⟨⟨Nat.le_refl _, hf⟩, hb.1⟩
  · exact ⟨⟨by rw [hb.1, hb.2]; exact h.sure, hf⟩, hb.1⟩
theorem TP.swap_ok {t : TP} (h : t.Ok) (l : List UInt8) : (t.swap l).1.Ok ∧ (t.swap l).1.b.length ≤ t.b.length + l.length := by
  unfold TP.swap
  have hb := TP.use_b t (t.left (l.length + 1)) (l.length + 1)
  have hf := TP.use_fuse h.fuse (l.length + 1)
  split
  · exact ⟨⟨Nat.le_refl _, hf⟩, by show l.length ≤ _; omega⟩
  · exact ⟨⟨by rw [hb.1, hb.2]; exact h.sure, hf⟩, by rw [hb.1]; omega⟩
theorem TP.fuse_ok {t : TP} (h : t.Ok) (n : Int) (hn : n ≤ 9223372036854775807) : (t.setFuse n).Ok := by
  refine ⟨h.sure, ?_⟩
  show -1 ≤ (if n < 0 then (0 : Int) else n) ∧ (if n < 0 then (0 : Int) else n) ≤ _
  split <;> omega
theorem TP.kept_le (t : TP) (keep : Int) : t.kept keep ≤ t.b.length - t.sure := by
  unfold TP.kept
  split
  · omega
  · split <;> omega
theorem TP.crash_ok {t : TP} (h : t.Ok) (keep : Int) : (t.crash keep).Ok ∧ (t.crash keep).b.length = t.sure + t.kept keep ∧ t.sure + t.kept keep ≤ t.b.length := by
  have h1 := t.kept_le keep
  have h2 := h.sure
  have h3 : (t.b.take (t.sure + t.kept keep)).length = t.sure + t.kept keep := by rw [List.length_take]; omega
  exact ⟨⟨by show _ ≤ (t.b.take _).length; rw [h3]; exact Nat.le_refl _, show (-1 : Int) ≤ -1 by decide, show (-1 : Int) ≤ 9223372036854775807 by decide⟩, h3, by omega⟩
end Go.Proofs.YtklhdffbaglkdaaDoor
namespace Go.Proofs.YtklhdffbaglkdaaDoor

/-- what records come to; none: one is no record -/
def foldR : RowL → List (List UInt8) → Option RowL
  | rows, [] => some rows
  | rows, b :: r => match changesL b with
    | none => none
    | some l => foldR (turnL rows l) r
theorem foldR_cons (rows : RowL) (b : List UInt8) (r : List (List UInt8)) : foldR rows (b :: r) = match changesL b with
    | none => none
    | some l => foldR (turnL rows l) r := rfl
theorem foldR_snoc : ∀ (r : List (List UInt8)) (rows : RowL) (b : List UInt8), foldR rows (r ++ [b]) = match foldR rows r with
    | none => none
    | some x => match changesL b with
      | none => none
      | some l => some (turnL x l)
  | [], rows, b => by
    show (match changesL b with | none => none | some l => foldR (turnL rows l) []) = _
    show _ = (match some rows with | none => none | some x => match changesL b with | none => none | some l => some (turnL x l))
    dsimp only
    cases changesL b <;> rfl
  | c :: r, rows, b => by
    rw [List.cons_append, foldR_cons, foldR_cons]
    cases changesL c with
    | none => rfl
    | some l => exact foldR_snoc r (turnL rows l) b
theorem foldR_app : ∀ (r s : List (List UInt8)) (rows : RowL), foldR rows (r ++ s) = match foldR rows r with
    | none => none
    | some x => foldR x s
  | [], s, rows => rfl
  | c :: r, s, rows => by
    rw [List.cons_append, foldR_cons, foldR_cons]
    cases changesL c with
    | none => rfl
    | some l => exact foldR_app r s (turnL rows l)
theorem foldR_rising : ∀ (r : List (List UInt8)) (rows x : RowL), Rising rows → foldR rows r = some x → Rising x
  | [], rows, x, h, e => by
    have e : some rows = some x := e
    injection e with e
    rw [← e]; exact h
  | b :: r, rows, x, h, e => by
    rw [foldR_cons] at e
    cases hb : changesL b with
    | none => rw [hb] at e; cases e
    | some l =>
      rw [hb] at e
      exact foldR_rising r _ x (turnL_rising l h) e
/-- opened: the error, the rows, the tape -/
def openS (t : TP) : Int × RowL × TP := match foldR [] (splitL t.b).1 with
  | none => (2, [], t)
  | some rows => if (splitL t.b).2 < t.b.length then
      (if (t.swap (t.b.take (splitL t.b).2)).2 = 0 then (0, rows, (t.swap (t.b.take (splitL t.b).2)).1) else ((t.swap (t.b.take (splitL t.b).2)).2, [], (t.swap (t.b.take (splitL t.b).2)).1))
    else (0, rows, t)
/-- changed: the error, the rows, the tape -/
def doS (t : TP) (rows : RowL) (l : List Ch) : Int × RowL × TP :=
  if l.length = 0 then (0, rows, t)
  else if 32768 < (recL l).length then (3, rows, t)
  else if 65536 < t.b.length + (recL l).length + 8 then
    (if 32768 < (recL (allR (turnL rows l))).length then (7, rows, t)
     else ((t.swap (frameL (recL (allR (turnL rows l))))).2, (if (t.swap (frameL (recL (allR (turnL rows l))))).2 = 0 then turnL rows l else rows), (t.swap (frameL (recL (allR (turnL rows l))))).1))
  else if (t.write (frameL (recL l))).2 = 0 then ((t.write (frameL (recL l))).1.sync.2, (if (t.write (frameL (recL l))).1.sync.2 = 0 then turnL rows l else rows), (t.write (frameL (recL l))).1.sync.1)
  else ((t.write (frameL (recL l))).2, rows, (t.write (frameL (recL l))).1)
theorem doS_rising {t : TP} {rows : RowL} (h : Rising rows) (l : List Ch) : Rising (doS t rows l).2.1 := by
  have ht := turnL_rising l h
  unfold doS
  split
  · exact h
  · split
    · exact h
    · split
      · split
        · exact h
        · show Rising (if _ then _ else _)
          split
          · exact ht
          · exact h
      · split
        · show Rising (if _ then _ else _)
          split
          · exact ht
          · exact h
        · exact h
end Go.Proofs.YtklhdffbaglkdaaDoor
namespace Go.Proofs.YtklhdffbaglkdaaDoor
open Go.RowKit
set_option linter.unusedVariables false
set_option linter.unusedSimpArgs false

/-- a text at a place, and where it ends -/
def textP (b : List UInt8) (p : Nat) : Option (List UInt8 × Nat) := if p + 4 ≤ b.length ∧ num4 (b.drop p) ≤ b.length - p - 4 then some ((b.drop (p + 4)).take (num4 (b.drop p)), p + 4 + num4 (b.drop p)) else none
theorem txt_textP (b : List UInt8) (p : Nat) : txtL (b.drop p) = match textP b p with
    | some (s, q) => some (s, b.drop q)
    | none => none := by
  unfold txtL textP
  by_cases h : p + 4 ≤ b.length ∧ num4 (b.drop p) ≤ b.length - p - 4
  · rw [if_pos h, if_pos ⟨by rw [List.length_drop]; omega, by rw [List.length_drop]; omega⟩]
    dsimp only
    rw [List.drop_drop, List.drop_drop, show p + (4 + num4 (b.drop p)) = p + 4 + num4 (b.drop p) by omega]
  · rw [if_neg h, if_neg (fun e => h (by rw [List.length_drop] at e; omega))]
theorem textP_le {b s : List UInt8} {p q : Nat} (h : textP b p = some (s, q)) : q = p + 4 + s.length ∧ q ≤ b.length := by
  unfold textP at h
  split at h
  · rename_i hc
    injection h with h
    injection h with h1 h2
    have hs : s.length = num4 (b.drop p) := by rw [← h1, List.length_take, List.length_drop]; omega
    omega
  · cases h
def textV (r : Option (List UInt8 × Nat)) : Value := match r with
  | some (s, q) => .tuple #[.string ⟨s.toArray⟩, .int .i64 (q : Nat)]
  | none => .tuple #[.string ⟨#[]⟩, .int .i64 (-1)]
set_option maxRecDepth 100000 in
theorem refText_neg (v : Value) (w : World) : Calls Tryd.prog 55 #[v, .int .i64 (-1)] w fun e w' => e = .returned (textV none) ∧ Below w.heap.size w w' := by
  have d : decide ((-1 : Int) < 0) = true := by decide
  go_enter Tryd.func55, Tryd.ntmps55
  go_wp2
  go_ret2
  exact ⟨rfl, Below.refl _ _⟩
set_option maxRecDepth 100000 in
set_option maxHeartbeats 4000000 in
theorem refText_any (A : Option Addr) (c : Nat) (b : List UInt8) (hl : b.length ≤ 1000000) (p : Nat) (hp : p ≤ 1000000000) (w : World) (h : RdW w (.slice A b.length c) b) :
    Calls Tryd.prog 55 #[.slice A b.length c, .int .i64 p] w fun e w' => e = .returned (textV (textP b p)) ∧ Below w.heap.size w w' := by
  obtain ⟨m, hm⟩ : ∃ m, b.length = m := ⟨_, rfl⟩
  have hp0 : decide ((p : Int) < 0) = false := by simp
  have hcm : m ≤ c ∧ c ≤ 9223372036854775807 := by
    obtain ⟨A', c', e, h1, h2, h3⟩ := h
    cases e
    exact ⟨by omega, h2⟩
  by_cases h4 : p + 4 ≤ m
  · have d4 : decide ((m : Int) < (p : Int) + 4) = false := by simp; omega
    obtain ⟨g, o, rfl, hg, -⟩ := rdw_at h (by omega)
    have hsub := RdW.sub h (by omega) p b.length (by omega) (Nat.le_refl _)
    obtain ⟨D, hD⟩ : ∃ D, b.drop p = D := ⟨_, rfl⟩
    have hDl : D.length = m - p := by rw [← hD, List.length_drop, hm]
    rw [List.take_of_length_le (by rw [List.length_drop]; omega), hD, hm] at hsub
    have hnum := refNumber_any (some ⟨g, o + p, none⟩) (c - p) D (by omega) w (by rw [hDl]; exact hsub) (by omega)
    rw [hDl] at hnum
    obtain ⟨n, hn⟩ : ∃ n, num4 D = n := ⟨_, rfl⟩
    rw [hn] at hnum
    have hn32 : n < 4294967296 := by rw [← hn]; exact num4_lt D
    have HNUM := Lib.hid hnum
    by_cases hok : n ≤ m - p - 4
    · have dn : decide ((m : Int) - p - 4 < n) = false := by simp; omega
      have hres : textP b p = some ((b.drop (p + 4)).take n, p + 4 + n) := by
        unfold textP
        rw [hD, hn, hm, if_pos ⟨h4, hok⟩]
      obtain ⟨S, hS⟩ : ∃ S, (b.drop (p + 4)).take n = S := ⟨_, rfl⟩
      by_cases hc : c = p + 4
      · subst hc
        rw [show p + 4 - p = 4 by omega] at hnum
        have HNUM := Lib.hid hnum
        have hcv : ∀ W, Below w.heap.size w W → (convert 40 9 (.slice (some ⟨g, o, none⟩) n 0)).run Tryd.prog W = .ok (.string ⟨S.toArray⟩) W := fun W hb => by
          have h2 := RdW.subIf (h.below hb) (by omega) (p + 4) (p + 4 + n) (by omega) (by omega)
          rw [show p + 4 + n - (p + 4) = n by omega] at h2
          rw [if_pos rfl, Nat.sub_self, hS] at h2
          exact h2.text
        rw [hres, hS, hm]
        have HCV := Lib.hid hcv
        have q1 : (p : Int) + 4 + n ≤ ((p + 4 : Nat) : Int) := by omega
        clear hsub hnum hcv hres hS hD hDl hn h hm hg hl
        go_enter Tryd.func55, Tryd.ntmps55
        go_wp2_with fail
        refine HNUM.out.mono ?_
        rintro e w1 ⟨rfl, hb1⟩
        have B1 := Lib.hid hb1
        have hcv1 := HCV.out w1 hb1
        clear hb1
        dsimp only
        go_wp2
        go_ret2
        exact ⟨rfl, B1.out⟩
      · skip
        have hcv : ∀ W, Below w.heap.size w W → (convert 40 9 (.slice (some ⟨g, o + (p + 4), none⟩) n (c - (p + 4)))).run Tryd.prog W = .ok (.string ⟨S.toArray⟩) W := fun W hb => by
          have h2 := RdW.subIf (h.below hb) (by omega) (p + 4) (p + 4 + n) (by omega) (by omega)
          rw [show p + 4 + n - (p + 4) = n by omega] at h2
          rw [if_neg hc, hS] at h2
          exact h2.text
        rw [hres, hS, hm]
        have HCV := Lib.hid hcv
        have q1 : (p : Int) + 4 + n ≤ c := by omega
        clear hsub hnum hcv hres hS hD hDl hn h hm hg hl
        go_enter Tryd.func55, Tryd.ntmps55
        go_wp2_with fail
        refine HNUM.out.mono ?_
        rintro e w1 ⟨rfl, hb1⟩
        have B1 := Lib.hid hb1
        have hcv1 := HCV.out w1 hb1
        clear hb1
        dsimp only
        go_wp2
        go_ret2
        exact ⟨rfl, B1.out⟩
    · have dn : decide ((m : Int) - p - 4 < n) = true := by simp; omega
      have hres : textP b p = none := by
        unfold textP
        rw [hD, hn, hm, if_neg (fun e => hok e.2)]
      rw [hres, hm]
      clear hsub hnum hres hD hDl hn h hm hg hl
      go_enter Tryd.func55, Tryd.ntmps55
      go_wp2_with fail
      refine HNUM.out.mono ?_
      rintro e w1 ⟨rfl, hb1⟩
      have B1 := Lib.hid hb1
      clear hb1
      dsimp only
      go_wp2
      go_ret2
      exact ⟨rfl, B1.out⟩
  · have d4 : decide ((m : Int) < (p : Int) + 4) = true := by simp; omega
    have hres : textP b p = none := by
      unfold textP
      rw [hm, if_neg (fun e => h4 e.1)]
    rw [hres, hm]
    clear hres h hm
    go_enter Tryd.func55, Tryd.ntmps55
    go_wp2
    go_ret2
    exact ⟨rfl, Below.refl _ _⟩
end Go.Proofs.YtklhdffbaglkdaaDoor
