/- Texts merged by program, in build order: StoreReadR, TapePure, StorePure, TextRef, ChangesRef, TapeRef, TapeRefW, TapeRefS, StoreRef, DoRef, OpenRef, TapeLaw, TapeTwo, TapeTri, StoreLaw. -/
import Derived.Test.YtkbjpgfdmkmbmaaGreatDoorG08
import Derived.Test.YtkbjpgfdmkmbmaaGreatDoorRows
import Derived.Test.YtkbjpgfdmkmbmaaGreatDoorG07
import Derived.Test.YtkbjpgfdmkmbmaaGreatDoorG03
import Derived.Test.YtkbjpgfdmkmbmaaGreatDoorG09
import Derived.Test.YtkbjpgfdmkmbmaaGreatDoorG02
import Derived.Deep.RegionLaw
import Derived.Deep.RegionWith
import Derived.Deep.Cut
import Derived.BigQuiet
import Derived.Lib.SlBytesConst
import Derived.Test.YtkbjpgfdmkmbmaaGreatDoorG04
set_option linter.unusedVariables false
set_option linter.unusedSimpArgs false
namespace Go.Proofs.YtkbjpgfdmkmbmaaGreatDoor
open Go.RowKit
set_option linter.unusedVariables false
set_option linter.unusedSimpArgs false

theorem chgsC_few : ∀ (n : Nat) (r : List UInt8) (l : List Ch) (r2 : List UInt8), chgsC n r = some (l, r2) → l.length + r2.length ≤ r.length
  | 0, r, l, r2, h => by
    have h : some (([] : List Ch), r) = some (l, r2) := h
    injection h with h
    injection h with h1 h2
    subst h1; subst h2
    simp
  | n + 1, r, l, r2, h => by
    have h1 := (chgsC_inv _ _ _ _ h).2.1
    have h2 := recAll_len l
    rw [← h1, List.length_append]
    omega
/-- what is read so far, and what is left -/
def RestIs (n : Nat) (D : List UInt8) (k : Nat) (pre : List Ch) (rest : List UInt8) : Prop := k ≤ n ∧ pre.length + rest.length ≤ D.length ∧ pre.length = k ∧
  chgsC n D = match chgsC (n - k) rest with
    | none => none
    | some (m, r) => some (pre ++ m, r)
theorem rest_start (n : Nat) (D : List UInt8) : RestIs n D 0 [] D := ⟨Nat.zero_le _, by simp, rfl, by
  rw [Nat.sub_zero]
  cases chgsC n D with
  | none => rfl
  | some x => rfl⟩
theorem rest_fail {n : Nat} {D : List UInt8} {k : Nat} {pre : List Ch} {rest : List UInt8} (h : RestIs n D k pre rest) (hk : k < n) (ho : chgC rest = none) : chgsC n D = none := by
  obtain ⟨_, _, _, he⟩ := h
  rw [he, show n - k = (n - k - 1) + 1 by omega, chgsC_succ, ho]
theorem rest_step {n : Nat} {D : List UInt8} {k : Nat} {pre : List Ch} {rest : List UInt8} (h : RestIs n D k pre rest) (hk : k < n) {x : Ch} {r : List UInt8} (ho : chgC rest = some (x, r)) : RestIs n D (k + 1) (pre ++ [x]) r := by
  obtain ⟨h1, h2, h3, he⟩ := h
  have hi := (chgC_inv ho).2.2
  refine ⟨hk, by rw [List.length_append, List.length_singleton]; omega, by rw [List.length_append, List.length_singleton, h3], ?_⟩
  rw [he, show n - k = (n - (k + 1)) + 1 by omega, chgsC_succ, ho]
  dsimp only
  cases chgsC (n - (k + 1)) r with
  | none => rfl
  | some y => simp
theorem rest_end {n : Nat} {D : List UInt8} {pre : List Ch} {rest : List UInt8} (h : RestIs n D n pre rest) : chgsC n D = some (pre, rest) := by
  obtain ⟨_, _, _, he⟩ := h
  rw [he, Nat.sub_self]
  simp [chgsC]
theorem readC_none {b D : List UInt8} {N : Nat} (h4 : 4 ≤ b.length) (hn : num4 b = N) (hd : b.drop 4 = D) (h : chgsC N D = none) : readC b = none := by
  unfold readC
  rw [if_pos h4, hn, hd, h]
theorem readC_all {b D : List UInt8} {N : Nat} {m : List Ch} (h4 : 4 ≤ b.length) (hn : num4 b = N) (hd : b.drop 4 = D) (h : chgsC N D = some (m, [])) : readC b = some m := by
  unfold readC
  rw [if_pos h4, hn, hd, h]
theorem readC_more {b D r : List UInt8} {N : Nat} {m : List Ch} (h4 : 4 ≤ b.length) (hn : num4 b = N) (hd : b.drop 4 = D) (h : chgsC N D = some (m, r)) (hr : r.length ≠ 0) : readC b = none := by
  unfold readC
  rw [if_pos h4, hn, hd, h]
  cases r with
  | nil => exact absurd rfl hr
  | cons x r => rfl
/-- what a record is -/
def ReadIs (w : World) (l : List UInt8) (e : Ending) : Prop :=
  (readC l = none ∧ e = .returned (.tuple #[.slice none 0 0, .bool false])) ∨ ∃ m A c, readC l = some m ∧ e = .returned (.tuple #[.slice A m.length c, .bool true]) ∧ RdC w (.slice A m.length c) m
theorem Tryz.infoChg : (Tryz.prog.info? 37).map (fun i => (i.zero, i.size, i.bytes)) = some (some (.agg #[.string ⟨#[]⟩, .string ⟨#[]⟩, .bool false]), 3, 40) := by kernel_rfl
set_option maxRecDepth 100000 in
set_option maxHeartbeats 4000000 in
theorem sread_any (A : Option Addr) (n c : Nat) (l : List UInt8) (hn : l.length = n) (hl : n ≤ 1000000) (w : World) (h : RdW w (.slice A n c) l) :
    Calls Tryz.prog 27 #[.slice A n c] w fun e w' => ReadIs w' l e ∧ Below w.heap.size w w' := by
  obtain ⟨i0, hi, hz0, hz1, hz2⟩ := info_parts Tryz.infoChg
  have hnum := snumber_any A n c l hn hl w h
  have HNUM := Lib.hid hnum; have HN := Lib.hid hn; have HL := Lib.hid hl; have HRDA := Lib.hid h
  clear hnum hn hl h
  go_enter Tryz.func27, Tryz.ntmps27
  go_wp2_with fail
  refine HNUM.out.mono ?_
  rintro e w1 ⟨hN, hb1⟩
  have B1 := Lib.hid hb1
  clear hb1
  rcases hN with ⟨h4, rfl⟩ | ⟨h4, PA, rfl, hr⟩
  · have hno : ReadIs w1 l (.returned (.tuple #[.slice none 0 0, .bool false])) := .inl ⟨by
      unfold readC
      rw [if_neg (by rw [HN.out]; omega)], rfl⟩
    have HNO := Lib.hid hno
    clear hno h4
    dsimp only
    go_wp2
    refine wp_loop_rounds 1 ?_
    rw [rounds_succ]
    go_wp2
    go_ret2
    exact ⟨HNO.out, B1.out⟩
  · obtain ⟨N, hNN⟩ : ∃ s, num4 l = s := ⟨_, rfl⟩
    have hN32 : N < 4294967296 := by rw [← hNN]; exact num4_lt l
    obtain ⟨D, hD⟩ : ∃ D, l.drop 4 = D := ⟨_, rfl⟩
    have hDl : D.length = n - 4 := by rw [← hD, List.length_drop, HN.out]
    have hnone := readC_none (by rw [HN.out]; exact h4) hNN hD
    have hall := fun m => readC_all (m := m) (by rw [HN.out]; exact h4) hNN hD
    have hmore := fun m r => readC_more (m := m) (r := r) (by rw [HN.out]; exact h4) hNN hD
    rw [hNN]
    rw [hD, ← hDl] at hr
    rw [← hDl]
    have HNONE := Lib.hid hnone; have HALL := Lib.hid hall; have HMORE := Lib.hid hmore; have HR := Lib.hid hr; have HDL := Lib.hid hDl
    clear hnone hall hmore hr hDl hD hNN h4
    dsimp only
    go_wp2
    go_loopw [0, 5, 6, 7, 15] (fun b ok v x i W => ∃ (k : Nat) (pre : List Ch) (rest : List UInt8) (PB : Option Addr) (cb m : Nat), rest.length = m ∧ i = .int .u32 (k : Int) ∧ b = .slice PB m cb ∧ ok = .bool true ∧ k ≤ N ∧
      Hid (RestIs N D k pre rest ∧ (∀ W, RdW W (.slice A n c) l → RdW W (.slice PB m cb) rest) ∧ CRow W w.heap.size 37 v pre ∧ Below w.heap.size w W)) (fun _ _ _ _ i _ => N - (intOf i).toNat)
    case atStart => exact ⟨0, [], D, PA, c - 4, D.length, rfl, rfl, rfl, rfl, Nat.zero_le _, Lib.hid ⟨rest_start N D, HR.out, World.ownsRow_nil _ _ _ _, B1.out⟩⟩
    case round =>
      obtain ⟨k, pre, rest, PB, cb, m, hm, rfl, rfl, rfl, hk, hT⟩ := hrel
      have hml : m ≤ 1000000 := by
        have := hT.out.1.2.1; have := HDL.out; have := HL.out
        omega
      by_cases hlt : k < N
      · have hkr : decide ((k : Int) < (N : Int)) = true := by simp; omega
        have hk1 : (k : Int) < N := by omega
        obtain ⟨W0, hW0⟩ : ∃ W, W = wr.alloc (.cells #[.string ⟨#[]⟩, .string ⟨#[]⟩, .bool false] 37 (0, 0)) := ⟨_, rfl⟩
        have hb0 : Below wr.heap.size wr W0 := by rw [hW0]; exact (Below.refl _ _).alloc (Nat.le_refl _) _
        have k0 : W0.heap[wr.heap.size]? = some (.cells #[.string ⟨#[]⟩, .string ⟨#[]⟩, .bool false] 37 (0, 0)) := by rw [hW0]; exact heap_alloc_last wr _
        have hone := sone_any PB m cb rest hm hml W0 (hT.out.2.1 W0 (HRDA.out.below (hT.out.2.2.2.chain hb0)))
        have HONE := Lib.hid hone; have B0 := Lib.hid hb0; have K0 := Lib.hid k0; have HW0 := Lib.hid hW0; have HM := Lib.hid hm
        clear hone hb0 k0 hW0 hm
        go_wp2_with fail
        rw [← HW0.out]
        refine HONE.out.mono ?_
        rintro e w2 ⟨hO, hb2⟩
        have B2 := Lib.hid (B0.out.trans (hb2.mono B0.out.size))
        have hk2 := blk_below K0.out hb2
        have K2 := Lib.hid hk2
        clear hb2 hk2
        obtain ⟨⟨c0, c1, c2⟩, f0, f1, f2⟩ := box3_of K2.out
        rcases hO with ⟨hno, rfl⟩ | ⟨x1, r, PC, cc, hx, rfl, hr⟩
        · have hno := HNONE.out (rest_fail hT.out.1 hlt hno)
          have hp : ∀ W, Below wr.heap.size wr W → ReadIs W l (.returned (.tuple #[.slice none 0 0, .bool false])) ∧ Below w.heap.size w W := fun W hb => ⟨.inl ⟨hno, rfl⟩, hT.out.2.2.2.chain hb⟩
          have HP := Lib.hid hp
          clear hno hp
          dsimp only
          go_wp2
          go_ret2
          exact HP.out _ (set3_below B2.out (Nat.le_refl _) _ _ _)
        · have hnext := rest_step hT.out.1 hlt hx
          obtain ⟨S1, hS1⟩ : ∃ S : ByteArray, S = ⟨x1.key.toArray⟩ := ⟨_, rfl⟩
          obtain ⟨S2, hS2⟩ : ∃ S : ByteArray, S = ⟨x1.value.toArray⟩ := ⟨_, rfl⟩
          obtain ⟨G, hG⟩ : ∃ G, x1.gone = G := ⟨_, rfl⟩
          unfold chV tv
          rw [← hS1, ← hS2, hG]
          have hcc : ccells [x1] = [.string S1, .string S2, .bool G] := by rw [hS1, hS2, ← hG]; rfl
          obtain ⟨rl, hrl⟩ : ∃ m, r.length = m := ⟨_, rfl⟩
          rw [hrl] at hr ⊢
          have hr2 : ∀ W, RdW W (.slice A n c) l → RdW W (.slice PC rl cc) r := fun W h => hr W (by have := hT.out.2.1 W h; exact this)
          have HNX := Lib.hid hnext; have HCC := Lib.hid hcc; have HR2 := Lib.hid hr2; have HRL := Lib.hid hrl
          clear hnext hcc hr2 hrl hr hS1 hS2 hG hx
          have hW3 : (set3 w2 wr.heap.size (.string S1) (.string S2) (.bool G)).heap[wr.heap.size]? = _ := set3_here K2.out
          have hb3 := set3_below B2.out (Nat.le_refl _) (.string S1) (.string S2) (.bool G)
          dsimp only
          go_upto_region 9 with fail
          obtain ⟨W7, hW7⟩ : ∃ W7, W7 = set3 w2 wr.heap.size (.string S1) (.string S2) (.bool G) := ⟨_, rfl⟩
          rw [← hW7] at hW3 hb3
          have hown7 : W7.ownsRow w.heap.size 37 3 u6 pre.length (ccells pre) := own_below hT.out.2.2.1 hb3
          obtain ⟨⟨e0, e1, e2⟩, -⟩ := box3_of hW3
          have hz7 : w.heap.size ≤ W7.heap.size := Nat.le_trans hT.out.2.2.2.size hb3.size
          have hpl : pre.length ≤ 1000000 := by
            have := hT.out.1.2.1; have := HDL.out; have := HL.out
            omega
          have OWN7 := Lib.hid hown7; have LOW7 := Lib.hid hb3
          unfold set3 at hW7
          rw [← hW7]
          clear hW7 hW3 hown7 hb3 c0 c1 c2 f0 f1 f2
          have hkw : IntKind.u32.wrap ((k : Int) + 1) = (k : Int) + 1 := by rw [IntKind.wrap_u32]; omega
          go_wp2_with (at_builtin; refine wpList_append_opt rfl (.tmp 25) (.tmp 27) 22 rfl w.heap.size 37 i0 _ 3 40 Tryz.underlying22 hi hz0 hz1 hz2 rfl (by decide) _ _ _ rfl (World.ownsRow.alloc OWN7.out _) (some ⟨_, 0, none⟩) 1 1 [.string S1, .string S2, .bool G] rfl rfl (.inr ⟨_, rfl, new_cells _ #[_, _, _] _⟩) (by intro u hu; simp at hu; rcases hu with rfl | rfl | rfl <;> rfl) (by unfold maxLen; omega) (by omega) (by simp; omega) ?_)
          intro v8 w8 hown8 hg8 _
          have hb8 : Below w.heap.size w w8 := ((hT.out.2.2.2.chain LOW7.out).alloc hz7 _).grown hg8 (by simp; omega) (fun x hx => (OWN7.out.lt x hx).1)
          go_wp2
          go_roundw
          case rel =>
            refine ⟨k + 1, pre ++ [x1], r, PC, cc, rl, HRL.out, by go_num, rfl, rfl, by omega, Lib.hid ⟨HNX.out, HR2.out, CRow.cut hown8 (by rw [List.length_append]; rfl) (by rw [ccells_app, HCC.out]), hb8⟩⟩
          case measure => simp [intOf]; omega
      · obtain rfl : k = N := by omega
        have hkr : decide ((k : Int) < (k : Int)) = false := by simp
        have hend := rest_end hT.out.1
        by_cases hm0 : m = 0
        · subst hm0
          have hr0 : rest = [] := List.length_eq_zero_iff.1 hm
          rw [hr0] at hend
          have hyes := HALL.out pre hend
          have hrd := hT.out.2.2.1.rd
          obtain ⟨Ao, co, rfl⟩ := own_form hT.out.2.2.1
          have hp : ∀ W, Below wr.heap.size wr W → ReadIs W l (.returned (.tuple #[.slice Ao pre.length co, .bool true])) ∧ Below w.heap.size w W := fun W hb => ⟨.inr ⟨pre, Ao, co, hyes, rfl, hrd.below hb⟩, hT.out.2.2.2.chain hb⟩
          have HP := Lib.hid hp
          clear hend hr0 hyes hrd hp hm
          go_wp2
          go_ret2
          exact HP.out _ (Below.refl _ _)
        · have hq : (0 : Int) < m := by omega
          have hno := HMORE.out pre rest hend (by rw [hm]; exact hm0)
          have hp : ∀ W, Below wr.heap.size wr W → ReadIs W l (.returned (.tuple #[.slice none 0 0, .bool false])) ∧ Below w.heap.size w W := fun W hb => ⟨.inl ⟨hno, rfl⟩, hT.out.2.2.2.chain hb⟩
          have HP := Lib.hid hp
          clear hend hno hp hm
          go_wp2
          go_ret2
          exact HP.out _ (Below.refl _ _)
end Go.Proofs.YtkbjpgfdmkmbmaaGreatDoor
namespace Go.Proofs.YtkbjpgfdmkmbmaaGreatDoor

/-- a tape: its bytes, how many are sure, how many more may be done (below 0: no fuse), whether the power is gone -/
structure TP where
  b : List UInt8
  sure : Nat
  fuse : Int
  down : Bool
  deriving DecidableEq
def TP.new : TP := ⟨[], 0, -1, false⟩
/-- how many of so many bytes may be done -/
def TP.left (t : TP) (n : Nat) : Nat := if t.down = true then 0 else if t.fuse < 0 ∨ (n : Int) ≤ t.fuse then n else t.fuse.toNat
/-- so many are done of so many -/
def TP.use (t : TP) (k n : Nat) : TP × Int := if t.down = true then (t, 8) else if k < n then (⟨t.b, t.sure, 0, true⟩, 8) else if 0 < t.fuse then (⟨t.b, t.sure, t.fuse - n, t.down⟩, 0) else (t, 0)
def TP.write (t : TP) (l : List UInt8) : TP × Int := TP.use ⟨t.b ++ l.take (t.left l.length), t.sure, t.fuse, t.down⟩ (t.left l.length) l.length
def TP.sync (t : TP) : TP × Int := if (t.use (t.left 1) 1).2 = 0 then (⟨(t.use (t.left 1) 1).1.b, (t.use (t.left 1) 1).1.b.length, (t.use (t.left 1) 1).1.fuse, (t.use (t.left 1) 1).1.down⟩, 0) else t.use (t.left 1) 1
def TP.swap (t : TP) (l : List UInt8) : TP × Int := if (t.use (t.left (l.length + 1)) (l.length + 1)).2 = 0 then (⟨l, l.length, (t.use (t.left (l.length + 1)) (l.length + 1)).1.fuse, (t.use (t.left (l.length + 1)) (l.length + 1)).1.down⟩, 0) else t.use (t.left (l.length + 1)) (l.length + 1)
def TP.setFuse (t : TP) (n : Int) : TP := ⟨t.b, t.sure, if n < 0 then 0 else n, t.down⟩
/-- how many loose bytes stay -/
def TP.kept (t : TP) (keep : Int) : Nat := if keep < 0 then 0 else if ((t.b.length - t.sure : Nat) : Int) < keep then t.b.length - t.sure else keep.toNat
def TP.crash (t : TP) (keep : Int) : TP := ⟨t.b.take (t.sure + t.kept keep), t.sure + t.kept keep, -1, false⟩

/-- no more is sure than there is -/
structure TP.Ok (t : TP) : Prop where
  sure : t.sure ≤ t.b.length
  fuse : -1 ≤ t.fuse ∧ t.fuse ≤ 9223372036854775807
theorem TP.new_ok : TP.new.Ok := ⟨Nat.le_refl _, by decide, by decide⟩
theorem TP.left_le (t : TP) (n : Nat) : t.left n ≤ n := by
  unfold TP.left
  split
  · omega
  · split <;> omega
theorem TP.use_b (t : TP) (k n : Nat) : (t.use k n).1.b = t.b ∧ (t.use k n).1.sure = t.sure := by
  unfold TP.use
  split
  · exact ⟨rfl, rfl⟩
  · split
    · exact ⟨rfl, rfl⟩
    · split <;> exact ⟨rfl, rfl⟩
theorem TP.use_fuse {t : TP} (h : -1 ≤ t.fuse ∧ t.fuse ≤ 9223372036854775807) (n : Nat) : -1 ≤ (t.use (t.left n) n).1.fuse ∧ (t.use (t.left n) n).1.fuse ≤ 9223372036854775807 := by
  unfold TP.use
  split
  · exact h
  · rename_i hd
    split
    · exact ⟨show (-1 : Int) ≤ 0 by decide, show (0 : Int) ≤ 9223372036854775807 by decide⟩
    · rename_i hk
      split
      · rename_i hf
        show -1 ≤ t.fuse - n ∧ t.fuse - n ≤ _
        have : (n : Int) ≤ t.fuse := by
          unfold TP.left at hk
          rw [if_neg hd] at hk
          split at hk
          · omega
          · omega
        omega
      · exact h
theorem TP.use_err (t : TP) (k n : Nat) : (t.use k n).2 = 0 ∨ (t.use k n).2 = 8 := by
  unfold TP.use
  split
  · exact .inr rfl
  · split
    · exact .inr rfl
    · split <;> exact .inl rfl
theorem TP.write_ok {t : TP} (h : t.Ok) (l : List UInt8) : (t.write l).1.Ok ∧ (t.write l).1.b.length ≤ t.b.length + l.length := by
  unfold TP.write
  have hb := TP.use_b ⟨t.b ++ l.take (t.left l.length), t.sure, t.fuse, t.down⟩ (t.left l.length) l.length
  have hf := TP.use_fuse (t := ⟨t.b ++ l.take (t.left l.length), t.sure, t.fuse, t.down⟩) h.fuse l.length
  refine ⟨⟨?_, hf⟩, ?_⟩
  · rw [hb.1, hb.2]; simp only [List.length_append]; have := h.sure; omega
  · rw [hb.1]; simp only [List.length_append, List.length_take]; omega
theorem TP.sync_ok {t : TP} (h : t.Ok) : t.sync.1.Ok ∧ t.sync.1.b = t.b := by
  unfold TP.sync
  have hb := TP.use_b t (t.left 1) 1
  have hf := TP.use_fuse h.fuse 1
  split
  · exact ⟨⟨Nat.le_refl _, hf⟩, hb.1⟩
  · exact ⟨⟨by rw [hb.1, hb.2]; exact h.sure, hf⟩, hb.1⟩
theorem TP.swap_ok {t : TP} (h : t.Ok) (l : List UInt8) : (t.swap l).1.Ok ∧ (t.swap l).1.b.length ≤ t.b.length + l.length := by
  unfold TP.swap
  have hb := TP.use_b t (t.left (l.length + 1)) (l.length + 1)
  have hf := TP.use_fuse h.fuse (l.length + 1)
  split
  · exact ⟨⟨Nat.le_refl _, hf⟩, by show l.length ≤ _; omega⟩
  · exact ⟨⟨by rw [hb.1, hb.2]; exact h.sure, hf⟩, by rw [hb.1]; omega⟩
theorem TP.fuse_ok {t : TP} (h : t.Ok) (n : Int) (hn : n ≤ 9223372036854775807) : (t.setFuse n).Ok := by
  refine ⟨h.sure, ?_⟩
  show -1 ≤ (if n < 0 then (0 : Int) else n) ∧ (if n < 0 then (0 : Int) else n) ≤ _
  split <;> omega
theorem TP.kept_le (t : TP) (keep : Int) : t.kept keep ≤ t.b.length - t.sure := by
  unfold TP.kept
  split
  · omega
  · split <;> omega
theorem TP.crash_ok {t : TP} (h : t.Ok) (keep : Int) : (t.crash keep).Ok ∧ (t.crash keep).b.length = t.sure + t.kept keep ∧ t.sure + t.kept keep ≤ t.b.length := by
  have h1 := t.kept_le keep
  have h2 := h.sure
  have h3 : (t.b.take (t.sure + t.kept keep)).length = t.sure + t.kept keep := by rw [List.length_take]; omega
  exact ⟨⟨by show _ ≤ (t.b.take _).length; rw [h3]; exact Nat.le_refl _, show (-1 : Int) ≤ -1 by decide, show (-1 : Int) ≤ 9223372036854775807 by decide⟩, h3, by omega⟩
end Go.Proofs.YtkbjpgfdmkmbmaaGreatDoor
namespace Go.Proofs.YtkbjpgfdmkmbmaaGreatDoor

/-- what records come to; none: one is no record -/
def foldR : RowL → List (List UInt8) → Option RowL
  | rows, [] => some rows
  | rows, b :: r => match changesL b with
    | none => none
    | some l => foldR (turnL rows l) r
theorem foldR_cons (rows : RowL) (b : List UInt8) (r : List (List UInt8)) : foldR rows (b :: r) = match changesL b with
    | none => none
    | some l => foldR (turnL rows l) r := rfl
theorem foldR_snoc : ∀ (r : List (List UInt8)) (rows : RowL) (b : List UInt8), foldR rows (r ++ [b]) = match foldR rows r with
    | none => none
    | some x => match changesL b with
      | none => none
      | some l => some (turnL x l)
  | [], rows, b => by
    show (match changesL b with | none => none | some l => foldR (turnL rows l) []) = _
    show _ = (match some rows with | none => none | some x => match changesL b with | none => none | some l => some (turnL x l))
    dsimp only
    cases changesL b <;> rfl
  | c :: r, rows, b => by
    rw [List.cons_append, foldR_cons, foldR_cons]
    cases changesL c with
    | none => rfl
    | some l => exact foldR_snoc r (turnL rows l) b
theorem foldR_app : ∀ (r s : List (List UInt8)) (rows : RowL), foldR rows (r ++ s) = match foldR rows r with
    | none => none
    | some x => foldR x s
  | [], s, rows => rfl
  | c :: r, s, rows => by
    rw [List.cons_append, foldR_cons, foldR_cons]
    cases changesL c with
    | none => rfl
    | some l => exact foldR_app r s (turnL rows l)
theorem foldR_rising : ∀ (r : List (List UInt8)) (rows x : RowL), Rising rows → foldR rows r = some x → Rising x
  | [], rows, x, h, e => by
    have e : some rows = some x := e
    injection e with e
    rw [← e]; exact h
  | b :: r, rows, x, h, e => by
    rw [foldR_cons] at e
    cases hb : changesL b with
    | none => rw [hb] at e; cases e
    | some l =>
      rw [hb] at e
      exact foldR_rising r _ x (turnL_rising l h) e
/-- opened: the error, the rows, the tape -/
def openS (t : TP) : Int × RowL × TP := match foldR [] (splitL t.b).1 with
  | none => (2, [], t)
  | some rows => if (splitL t.b).2 < t.b.length then
      (if (t.swap (t.b.take (splitL t.b).2)).2 = 0 then (0, rows, (t.swap (t.b.take (splitL t.b).2)).1) else ((t.swap (t.b.take (splitL t.b).2)).2, [], (t.swap (t.b.take (splitL t.b).2)).1))
    else (0, rows, t)
/-- changed: the error, the rows, the tape -/
def doS (t : TP) (rows : RowL) (l : List Ch) : Int × RowL × TP :=
  if l.length = 0 then (0, rows, t)
  else if 32768 < (recL l).length then (3, rows, t)
  else if 65536 < t.b.length + (recL l).length + 8 then
    (if 32768 < (recL (allR (turnL rows l))).length then (7, rows, t)
     else ((t.swap (frameL (recL (allR (turnL rows l))))).2, (if (t.swap (frameL (recL (allR (turnL rows l))))).2 = 0 then turnL rows l else rows), (t.swap (frameL (recL (allR (turnL rows l))))).1))
  else if (t.write (frameL (recL l))).2 = 0 then ((t.write (frameL (recL l))).1.sync.2, (if (t.write (frameL (recL l))).1.sync.2 = 0 then turnL rows l else rows), (t.write (frameL (recL l))).1.sync.1)
  else ((t.write (frameL (recL l))).2, rows, (t.write (frameL (recL l))).1)
theorem doS_rising {t : TP} {rows : RowL} (h : Rising rows) (l : List Ch) : Rising (doS t rows l).2.1 := by
  have ht := turnL_rising l h
  unfold doS
  split
  · exact h
  · split
    · exact h
    · split
      · split
        · exact h
        · show Rising (if _ then _ else _)
          split
          · exact ht
          · exact h
      · split
        · show Rising (if _ then _ else _)
          split
          · exact ht
          · exact h
        · exact h
end Go.Proofs.YtkbjpgfdmkmbmaaGreatDoor
namespace Go.Proofs.YtkbjpgfdmkmbmaaGreatDoor
open Go.RowKit
set_option linter.unusedVariables false
set_option linter.unusedSimpArgs false

/-- a text at a place, and where it ends -/
def textP (b : List UInt8) (p : Nat) : Option (List UInt8 × Nat) := if p + 4 ≤ b.length ∧ num4 (b.drop p) ≤ b.length - p - 4 then some ((b.drop (p + 4)).take (num4 (b.drop p)), p + 4 + num4 (b.drop p)) else none
theorem txt_textP (b : List UInt8) (p : Nat) : txtL (b.drop p) = match textP b p with
    | some (s, q) => some (s, b.drop q)
    | none => none := by
  unfold txtL textP
  by_cases h : p + 4 ≤ b.length ∧ num4 (b.drop p) ≤ b.length - p - 4
  · rw [if_pos h, if_pos ⟨by rw [List.length_drop]; omega, by rw [List.length_drop]; omega⟩]
    dsimp only
    rw [List.drop_drop, List.drop_drop, show p + (4 + num4 (b.drop p)) = p + 4 + num4 (b.drop p) by omega]
  · rw [if_neg h, if_neg (fun e => h (by rw [List.length_drop] at e; omega))]
theorem textP_le {b s : List UInt8} {p q : Nat} (h : textP b p = some (s, q)) : q = p + 4 + s.length ∧ q ≤ b.length := by
  unfold textP at h
  split at h
  · rename_i hc
    injection h with h
    injection h with h1 h2
    have hs : s.length = num4 (b.drop p) := by rw [← h1, List.length_take, List.length_drop]; omega
    omega
  · cases h
def textV (r : Option (List UInt8 × Nat)) : Value := match r with
  | some (s, q) => .tuple #[.string ⟨s.toArray⟩, .int .i64 (q : Nat)]
  | none => .tuple #[.string ⟨#[]⟩, .int .i64 (-1)]
end Go.Proofs.YtkbjpgfdmkmbmaaGreatDoor
namespace Go.Proofs.YtkbjpgfdmkmbmaaGreatDoor
open Go.RowKit
set_option linter.unusedVariables false
set_option linter.unusedSimpArgs false

theorem chgL_P (b : List UInt8) (p : Nat) : chgL (b.drop p) = if p + 4 ≤ b.length then (match textP b (p + 4) with
    | none => none
    | some (k, q) => match textP b q with
      | none => none
      | some (v, q2) => some (⟨k, v, decide (num4 (b.drop p) = 1)⟩, b.drop q2)) else none := by
  unfold chgL
  by_cases h : p + 4 ≤ b.length
  · rw [if_pos h, if_pos (by rw [List.length_drop]; omega), List.drop_drop, txt_textP]
    cases textP b (p + 4) with
    | none => rfl
    | some x =>
      obtain ⟨k, q⟩ := x
      dsimp only
      rw [txt_textP]
      cases textP b q with
      | none => rfl
      | some y => rfl
  · rw [if_neg h, if_neg (by rw [List.length_drop]; omega)]
theorem chgs_step (b : List UInt8) (N j p : Nat) (done : List Ch) (hj : j < N) (h : chgsL N (b.drop 4) = (chgsL (N - j) (b.drop p)).map (done ++ ·)) (c : Ch) (q : Nat) (hc : chgL (b.drop p) = some (c, b.drop q)) :
    chgsL N (b.drop 4) = (chgsL (N - (j + 1)) (b.drop q)).map ((done ++ [c]) ++ ·) := by
  rw [h, show N - j = (N - (j + 1)) + 1 by omega, chgsL_succ, hc]
  dsimp only
  cases chgsL (N - (j + 1)) (b.drop q) with
  | none => rfl
  | some l => simp
theorem chgs_fail (b : List UInt8) (N j p : Nat) (done : List Ch) (hj : j < N) (h4 : 4 ≤ b.length) (hn : num4 b = N) (h : chgsL N (b.drop 4) = (chgsL (N - j) (b.drop p)).map (done ++ ·)) (hc : chgL (b.drop p) = none) : changesL b = none := by
  unfold changesL
  rw [if_pos h4, hn, h, show N - j = (N - (j + 1)) + 1 by omega, chgsL_succ, hc]
  rfl
theorem chgs_end (b : List UInt8) (N p : Nat) (done : List Ch) (h4 : 4 ≤ b.length) (hn : num4 b = N) (h : chgsL N (b.drop 4) = (chgsL 0 (b.drop p)).map (done ++ ·)) : changesL b = if recL done = b then some done else none := by
  unfold changesL
  rw [if_pos h4, hn, h]
  show (match some (done ++ []) with | none => none | some l => if recL l = b then some l else none) = _
  rw [List.append_nil]
end Go.Proofs.YtkbjpgfdmkmbmaaGreatDoor
namespace Go.Proofs.YtkbjpgfdmkmbmaaGreatDoor
open Go.RowKit
set_option linter.unusedVariables false
set_option linter.unusedSimpArgs false

theorem box4_of {w : World} {b : Nat} {c0 c1 c2 c3 : Value} {t : TypeId} (h : w.heap[b]? = some (.cells #[c0, c1, c2, c3] t (0, 0))) :
    (w.cell? ⟨b, 0, none⟩ = some c0 ∧ w.cell? ⟨b, 1, none⟩ = some c1 ∧ w.cell? ⟨b, 2, none⟩ = some c2 ∧ w.cell? ⟨b, 3, none⟩ = some c3) ∧ w.frozen? ⟨b, 0, none⟩ = false ∧ w.frozen? ⟨b, 1, none⟩ = false ∧ w.frozen? ⟨b, 2, none⟩ = false ∧ w.frozen? ⟨b, 3, none⟩ = false :=
  ⟨⟨cell_here h, cell_here h, cell_here h, cell_here h⟩, frozen_here h _, frozen_here h _, frozen_here h _, frozen_here h _⟩
end Go.Proofs.YtkbjpgfdmkmbmaaGreatDoor
namespace Go.Proofs.YtkbjpgfdmkmbmaaGreatDoor
open Go.RowKit
set_option linter.unusedVariables false
set_option linter.unusedSimpArgs false

end Go.Proofs.YtkbjpgfdmkmbmaaGreatDoor
namespace Go.Proofs.YtkbjpgfdmkmbmaaGreatDoor
open Go.RowKit
set_option linter.unusedVariables false
set_option linter.unusedSimpArgs false

end Go.Proofs.YtkbjpgfdmkmbmaaGreatDoor
namespace Go.Proofs.YtkbjpgfdmkmbmaaGreatDoor
open Go.RowKit
set_option linter.unusedVariables false
set_option linter.unusedSimpArgs false

theorem RdR.only {S : Nat → Prop} {w w' : World} {v : Value} {l : RowL} (h : RdR w v l) (ho : Only S w w') (hb : ∀ g, v.ownBlock = some g → ¬ S g) : RdR w' v l := by
  obtain ⟨A, c, rfl, hc, hz, h⟩ := h
  refine ⟨A, c, rfl, hc, hz, fun k r hk => ?_⟩
  obtain ⟨g, o, rfl, hg, h1, h2⟩ := h k r hk
  have he := ho.block g hg (hb g rfl)
  exact ⟨g, o, rfl, Nat.lt_of_lt_of_le hg ho.size, (World.cell?_of_block he).trans h1, (World.cell?_of_block he).trans h2⟩
theorem rdr_form {w : World} {v : Value} {l : RowL} (h : RdR w v l) : ∃ A c, v = .slice A l.length c := by
  obtain ⟨A, c, rfl, _⟩ := h
  exact ⟨A, c, rfl⟩
end Go.Proofs.YtkbjpgfdmkmbmaaGreatDoor
namespace Go.Proofs.YtkbjpgfdmkmbmaaGreatDoor
open Go.RowKit
set_option linter.unusedVariables false
set_option linter.unusedSimpArgs false

end Go.Proofs.YtkbjpgfdmkmbmaaGreatDoor
namespace Go.Proofs.YtkbjpgfdmkmbmaaGreatDoor
open Go.RowKit
set_option linter.unusedVariables false
set_option linter.unusedSimpArgs false

theorem splitF_sum : ∀ (f : Nat) (l : List UInt8), (splitF f l).1.flatten.length ≤ l.length
  | 0, _ => Nat.zero_le _
  | f + 1, l => by
    unfold splitF
    cases h : firstL l with
    | none => exact Nat.zero_le _
    | some n =>
      have h1 := (firstL_some h).1
      have h2 := splitF_sum f (l.drop (8 + n))
      rw [List.length_drop] at h2
      show (((l.drop 8).take n) :: (splitF f (l.drop (8 + n))).1).flatten.length ≤ _
      rw [List.flatten_cons, List.length_append, List.length_take, List.length_drop]
      omega
theorem splitL_sum (l : List UInt8) : (splitL l).1.flatten.length ≤ l.length := splitF_sum _ _
theorem splitF_eat : ∀ (f : Nat) (l : List UInt8), (splitF f l).2 ≤ l.length
  | 0, _ => Nat.zero_le _
  | f + 1, l => by
    unfold splitF
    cases h : firstL l with
    | none => exact Nat.zero_le _
    | some n =>
      have h1 := (firstL_some h).1
      have h2 := splitF_eat f (l.drop (8 + n))
      rw [List.length_drop] at h2
      show 8 + n + (splitF f (l.drop (8 + n))).2 ≤ _
      omega
theorem splitL_eat (l : List UInt8) : (splitL l).2 ≤ l.length := splitF_eat _ _
theorem changes_len {b : List UInt8} {l : List Ch} (h : changesL b = some l) : l.length ≤ b.length := by
  unfold changesL at h
  split at h
  · split at h
    · cases h
    · split at h
      · rename_i he
        injection h with h
        subst h
        rw [← he, recL_len]
        have := recAll_len (by assumption)
        omega
      · cases h
  · cases h
theorem mem_flat : ∀ (r : List (List UInt8)) (b : List UInt8), b ∈ r → b.length ≤ r.flatten.length
  | x :: r, b, h => by
    rw [List.flatten_cons, List.length_append]
    rcases List.mem_cons.1 h with rfl | h
    · omega
    · have := mem_flat r b h; omega
theorem foldR_none (r s : List (List UInt8)) (b : List UInt8) (rows x : RowL) (h : foldR rows r = some x) (hb : changesL b = none) : foldR rows (r ++ b :: s) = none := by
  rw [foldR_app, h]
  dsimp only
  rw [foldR_cons, hb]
theorem turnL_len' : ∀ (l : List Ch) (rows : RowL), (turnL rows l).length ≤ rows.length + l.length := turnL_len
theorem foldR_len : ∀ (r : List (List UInt8)) (rows x : RowL), foldR rows r = some x → x.length ≤ rows.length + r.flatten.length
  | [], rows, x, h => by
    have h : some rows = some x := h
    injection h with h
    rw [h]; exact Nat.le_add_right _ _
  | b :: r, rows, x, h => by
    rw [foldR_cons] at h
    cases hb : changesL b with
    | none => rw [hb] at h; cases h
    | some l =>
      rw [hb] at h
      have h1 := foldR_len r _ x h
      have h2 := turnL_len l rows
      have h3 := changes_len hb
      rw [List.flatten_cons, List.length_append]
      omega
end Go.Proofs.YtkbjpgfdmkmbmaaGreatDoor
namespace Go.Proofs.YtkbjpgfdmkmbmaaGreatDoor
open Go.RowKit
set_option linter.unusedVariables false
set_option linter.unusedSimpArgs false

end Go.Proofs.YtkbjpgfdmkmbmaaGreatDoor
namespace Go.Proofs.YtkbjpgfdmkmbmaaGreatDoor
open Go.RowKit
set_option linter.unusedVariables false
set_option linter.unusedSimpArgs false

/-- what stays where its blocks stay -/
structure Kept (CT : World → (Nat → Prop) → Nat → TP → Prop) : Prop where
  keep : ∀ {w w' : World} {S : Nat → Prop} {p : Nat} {t : TP}, CT w S p t → w.heap.size ≤ w'.heap.size → (∀ b, S b → w'.heap[b]? = w.heap[b]?) → CT w' S p t
  lt : ∀ {w : World} {S : Nat → Prop} {p : Nat} {t : TP}, CT w S p t → ∀ b, S b → b < w.heap.size
/-- two tapes, apart from each other and from all that lay there -/
def Two (CT CT' : World → (Nat → Prop) → Nat → TP → Prop) (w0 w : World) (p q : Nat) (t u : TP) : Prop :=
  ∃ S X : Nat → Prop, CT w S p t ∧ CT' w X q u ∧ (∀ b, S b → ¬ X b) ∧ (∀ b, S b → w0.heap.size ≤ b) ∧ (∀ b, X b → w0.heap.size ≤ b) ∧ Below w0.heap.size w0 w
theorem Two.low {CT CT' : World → (Nat → Prop) → Nat → TP → Prop} {w0 w : World} {p q : Nat} {t u : TP} (h : Two CT CT' w0 w p q t u) : Below w0.heap.size w0 w := by obtain ⟨_, _, _, _, _, _, _, h⟩ := h; exact h
theorem Two.later {CT CT' : World → (Nat → Prop) → Nat → TP → Prop} (K : Kept CT) (K' : Kept CT') {w0 w w' : World} {p q : Nat} {t u : TP} (h : Two CT CT' w0 w p q t u) (hb : Below w.heap.size w w') : Two CT CT' w0 w' p q t u := by
  obtain ⟨S, X, h1, h2, h3, h4, h5, h6⟩ := h
  exact ⟨S, X, K.keep h1 hb.size fun b hs => hb.block b (K.lt h1 b hs), K'.keep h2 hb.size fun b hs => hb.block b (K'.lt h2 b hs), h3, h4, h5, h6.trans (hb.mono h6.size)⟩
/-- blocks that are neither tape's were written -/
theorem Two.other {CT CT' : World → (Nat → Prop) → Nat → TP → Prop} (K : Kept CT) (K' : Kept CT') {w0 w w' : World} {p q : Nat} {t u : TP} {S X Y : Nat → Prop} (h1 : CT w S p t) (h2 : CT' w X q u) (h3 : ∀ b, S b → ¬ X b) (h4 : ∀ b, S b → w0.heap.size ≤ b) (h5 : ∀ b, X b → w0.heap.size ≤ b) (h6 : Below w0.heap.size w0 w)
    (ho : Only Y w w') (hy : ∀ b, Y b → w0.heap.size ≤ b ∧ ¬ S b ∧ ¬ X b) : CT w' S p t ∧ CT' w' X q u ∧ Below w0.heap.size w0 w' :=
  ⟨K.keep h1 ho.size fun b hs => ho.block b (K.lt h1 b hs) (fun e => (hy b e).2.1 hs), K'.keep h2 ho.size fun b hs => ho.block b (K'.lt h2 b hs) (fun e => (hy b e).2.2 hs), h6.trans (ho.below h6.size fun b hb => (hy b hb).1)⟩
theorem Two.fst {P : Program} {CT CT' : World → (Nat → Prop) → Nat → TP → Prop} (K : Kept CT) (K' : Kept CT') {w0 w : World} {p q : Nat} {t t' u : TP} {f : FuncId} {args : Array Value} {E : Ending} (h : Two CT CT' w0 w p q t u)
    (op : ∀ S, CT w S p t → (∀ b, S b → w0.heap.size ≤ b) → Calls P f args w fun e w' => e = E ∧ (∃ S' : Nat → Prop, CT w' S' p t' ∧ ∀ b, S' b → S b ∨ w.heap.size ≤ b) ∧ Only S w w') :
    Calls P f args w fun e w' => e = E ∧ Two CT CT' w0 w' p q t' u := by
  obtain ⟨S, X, h1, h2, h3, h4, h5, h6⟩ := h
  refine (op S h1 h4).mono fun e w' ⟨he, ⟨S', c, hs⟩, ho⟩ => ⟨he, S', X, c, K'.keep h2 ho.size fun b hb => ho.block b (K'.lt h2 b hb) (fun e => h3 b e hb), fun b hb hx => ?_, fun b hb => ?_, h5, h6.trans (ho.below h6.size h4)⟩
  · rcases hs b hb with h | h
    · exact h3 b h hx
    · have := K'.lt h2 b hx; omega
  · rcases hs b hb with h | h
    · exact h4 b h
    · exact Nat.le_trans h6.size h
theorem Two.symm {CT CT' : World → (Nat → Prop) → Nat → TP → Prop} {w0 w : World} {p q : Nat} {t u : TP} (h : Two CT CT' w0 w p q t u) : Two CT' CT w0 w q p u t := by
  obtain ⟨S, X, h1, h2, h3, h4, h5, h6⟩ := h
  exact ⟨X, S, h2, h1, fun b hx hs => h3 b hs hx, h5, h4, h6⟩
theorem Two.snd {P : Program} {CT CT' : World → (Nat → Prop) → Nat → TP → Prop} (K : Kept CT) (K' : Kept CT') {w0 w : World} {p q : Nat} {t u u' : TP} {f : FuncId} {args : Array Value} {E : Ending} (h : Two CT CT' w0 w p q t u)
    (op : ∀ S, CT' w S q u → (∀ b, S b → w0.heap.size ≤ b) → Calls P f args w fun e w' => e = E ∧ (∃ S' : Nat → Prop, CT' w' S' q u' ∧ ∀ b, S' b → S b ∨ w.heap.size ≤ b) ∧ Only S w w') :
    Calls P f args w fun e w' => e = E ∧ Two CT CT' w0 w' p q t u' :=
  (h.symm.fst K' K op).mono fun e w' ⟨he, h'⟩ => ⟨he, h'.symm⟩
/-- two that have been made one behind the other -/
theorem Two.start {CT CT' : World → (Nat → Prop) → Nat → TP → Prop} (K : Kept CT) {w0 w1 w2 : World} {p q : Nat} {t u : TP} {S X : Nat → Prop} (h1 : CT w1 S p t) (hs : ∀ b, S b → w0.heap.size ≤ b) (hb1 : Below w0.heap.size w0 w1) (h2 : CT' w2 X q u) (hx : ∀ b, X b → w1.heap.size ≤ b) (hb2 : Below w1.heap.size w1 w2) : Two CT CT' w0 w2 p q t u :=
  ⟨S, X, K.keep h1 hb2.size fun b hb => hb2.block b (K.lt h1 b hb), h2, fun b hb hx' => by have := K.lt h1 b hb; have := hx b hx'; omega, hs, fun b hb => Nat.le_trans hb1.size (hx b hb), hb1.chain hb2⟩
end Go.Proofs.YtkbjpgfdmkmbmaaGreatDoor
namespace Go.Proofs.YtkbjpgfdmkmbmaaGreatDoor
open Go.RowKit
set_option linter.unusedVariables false
set_option linter.unusedSimpArgs false

/-- two tapes; the blocks F lie as in wF, and are neither's -/
def Tri (CT CT' : World → (Nat → Prop) → Nat → TP → Prop) (w0 wF : World) (F : Nat → Prop) (w : World) (p q : Nat) (t u : TP) : Prop :=
  ∃ S X : Nat → Prop, CT w S p t ∧ CT' w X q u ∧ (∀ b, S b → ¬ X b) ∧ (∀ b, S b → w0.heap.size ≤ b) ∧ (∀ b, X b → w0.heap.size ≤ b) ∧ Below w0.heap.size w0 w ∧ (∀ b, F b → ¬ S b) ∧ (∀ b, F b → ¬ X b) ∧ (∀ b, F b → b < w.heap.size ∧ w.heap[b]? = wF.heap[b]?)
theorem Tri.mk {CT CT' : World → (Nat → Prop) → Nat → TP → Prop} (K : Kept CT) (K' : Kept CT') {w0 w wF : World} {F : Nat → Prop} {p q : Nat} {t u : TP} (h : Two CT CT' w0 w p q t u) (hb : Below w.heap.size w wF) (hF : ∀ b, F b → w.heap.size ≤ b ∧ b < wF.heap.size) : Tri CT CT' w0 wF F wF p q t u := by
  obtain ⟨S, X, h1, h2, h3, h4, h5, h6⟩ := h
  exact ⟨S, X, K.keep h1 hb.size fun b hs => hb.block b (K.lt h1 b hs), K'.keep h2 hb.size fun b hs => hb.block b (K'.lt h2 b hs), h3, h4, h5, h6.trans (hb.mono h6.size),
    fun b hf hs => by have := K.lt h1 b hs; have := (hF b hf).1; omega, fun b hf hs => by have := K'.lt h2 b hs; have := (hF b hf).1; omega, fun b hf => ⟨(hF b hf).2, rfl⟩⟩
theorem Tri.two {CT CT' : World → (Nat → Prop) → Nat → TP → Prop} {w0 wF w : World} {F : Nat → Prop} {p q : Nat} {t u : TP} (h : Tri CT CT' w0 wF F w p q t u) : Two CT CT' w0 w p q t u := by
  obtain ⟨S, X, h1, h2, h3, h4, h5, h6, _⟩ := h
  exact ⟨S, X, h1, h2, h3, h4, h5, h6⟩
theorem Tri.low {CT CT' : World → (Nat → Prop) → Nat → TP → Prop} {w0 wF w : World} {F : Nat → Prop} {p q : Nat} {t u : TP} (h : Tri CT CT' w0 wF F w p q t u) : Below w0.heap.size w0 w := h.two.low
theorem Tri.at {CT CT' : World → (Nat → Prop) → Nat → TP → Prop} {w0 wF w : World} {F : Nat → Prop} {p q : Nat} {t u : TP} (h : Tri CT CT' w0 wF F w p q t u) {b : Nat} (hb : F b) : b < w.heap.size ∧ w.heap[b]? = wF.heap[b]? := by
  obtain ⟨S, X, h1, h2, h3, h4, h5, h6, h7, h8, h9⟩ := h
  exact h9 b hb
theorem Tri.symm {CT CT' : World → (Nat → Prop) → Nat → TP → Prop} {w0 wF w : World} {F : Nat → Prop} {p q : Nat} {t u : TP} (h : Tri CT CT' w0 wF F w p q t u) : Tri CT' CT w0 wF F w q p u t := by
  obtain ⟨S, X, h1, h2, h3, h4, h5, h6, h7, h8, h9⟩ := h
  exact ⟨X, S, h2, h1, fun b hx hs => h3 b hs hx, h5, h4, h6, h8, h7, h9⟩
/-- what is done to the first one -/
theorem Tri.step {CT CT' : World → (Nat → Prop) → Nat → TP → Prop} (K : Kept CT) (K' : Kept CT') {w0 wF w w' : World} {F : Nat → Prop} {p q : Nat} {t t' u : TP} {S X : Nat → Prop} (h1 : CT w S p t) (h2 : CT' w X q u) (h3 : ∀ b, S b → ¬ X b) (h4 : ∀ b, S b → w0.heap.size ≤ b) (h5 : ∀ b, X b → w0.heap.size ≤ b) (h6 : Below w0.heap.size w0 w)
    (h7 : ∀ b, F b → ¬ S b) (h8 : ∀ b, F b → ¬ X b) (h9 : ∀ b, F b → b < w.heap.size ∧ w.heap[b]? = wF.heap[b]?) (hc : ∃ S' : Nat → Prop, CT w' S' p t' ∧ ∀ b, S' b → S b ∨ w.heap.size ≤ b) (ho : Only S w w') : Tri CT CT' w0 wF F w' p q t' u := by
  obtain ⟨S', c, hs⟩ := hc
  refine ⟨S', X, c, K'.keep h2 ho.size fun b hb => ho.block b (K'.lt h2 b hb) (fun e => h3 b e hb), fun b hb hx => ?_, fun b hb => ?_, h5, h6.trans (ho.below h6.size h4), fun b hf hb => ?_, h8, fun b hf => ⟨Nat.lt_of_lt_of_le (h9 b hf).1 ho.size, (ho.block b (h9 b hf).1 (h7 b hf)).trans (h9 b hf).2⟩⟩
  · rcases hs b hb with h | h
    · exact h3 b h hx
    · have := K'.lt h2 b hx; omega
  · rcases hs b hb with h | h
    · exact h4 b h
    · exact Nat.le_trans h6.size h
  · rcases hs b hb with h | h
    · exact h7 b hf h
    · have := (h9 b hf).1; omega
theorem Tri.fst {P : Program} {CT CT' : World → (Nat → Prop) → Nat → TP → Prop} (K : Kept CT) (K' : Kept CT') {w0 wF w : World} {F : Nat → Prop} {p q : Nat} {t t' u : TP} {f : FuncId} {args : Array Value} {E : Ending} (h : Tri CT CT' w0 wF F w p q t u)
    (op : ∀ S, CT w S p t → (∀ b, S b → w0.heap.size ≤ b) → (∀ b, F b → ¬ S b) → Calls P f args w fun e w' => e = E ∧ (∃ S' : Nat → Prop, CT w' S' p t' ∧ ∀ b, S' b → S b ∨ w.heap.size ≤ b) ∧ Only S w w') :
    Calls P f args w fun e w' => e = E ∧ Tri CT CT' w0 wF F w' p q t' u := by
  obtain ⟨S, X, h1, h2, h3, h4, h5, h6, h7, h8, h9⟩ := h
  exact (op S h1 h4 h7).mono fun e w' ⟨he, hc, ho⟩ => ⟨he, Tri.step K K' h1 h2 h3 h4 h5 h6 h7 h8 h9 hc ho⟩
theorem Tri.snd {P : Program} {CT CT' : World → (Nat → Prop) → Nat → TP → Prop} (K : Kept CT) (K' : Kept CT') {w0 wF w : World} {F : Nat → Prop} {p q : Nat} {t u u' : TP} {f : FuncId} {args : Array Value} {E : Ending} (h : Tri CT CT' w0 wF F w p q t u)
    (op : ∀ X, CT' w X q u → (∀ b, X b → w0.heap.size ≤ b) → (∀ b, F b → ¬ X b) → Calls P f args w fun e w' => e = E ∧ (∃ X' : Nat → Prop, CT' w' X' q u' ∧ ∀ b, X' b → X b ∨ w.heap.size ≤ b) ∧ Only X w w') :
    Calls P f args w fun e w' => e = E ∧ Tri CT CT' w0 wF F w' p q t u' :=
  (h.symm.fst K' K op).mono fun e w' ⟨he, h'⟩ => ⟨he, h'.symm⟩
/-- a store into the second one -/
theorem Tri.put {CT CT' : World → (Nat → Prop) → Nat → TP → Prop} (K : Kept CT) (K' : Kept CT') {w0 wF w w' : World} {F : Nat → Prop} {p q : Nat} {t u u' : TP} (h : Tri CT CT' w0 wF F w p q t u)
    (op : ∀ X, CT' w X q u → (∃ X' : Nat → Prop, CT' w' X' q u' ∧ ∀ b, X' b → X b ∨ w.heap.size ≤ b) ∧ Only X w w') : Tri CT CT' w0 wF F w' p q t u' := by
  obtain ⟨S, X, h1, h2, h3, h4, h5, h6, h7, h8, h9⟩ := h.symm
  obtain ⟨hc, ho⟩ := op S h1
  exact (Tri.step K' K h1 h2 h3 h4 h5 h6 h7 h8 h9 hc ho).symm
/-- blocks of F are written -/
theorem Tri.mark {CT CT' : World → (Nat → Prop) → Nat → TP → Prop} (K : Kept CT) (K' : Kept CT') {w0 wF w w' : World} {F : Nat → Prop} {p q : Nat} {t u : TP} (h : Tri CT CT' w0 wF F w p q t u) (hF : ∀ b, F b → w0.heap.size ≤ b) (ho : Only F w w') : Tri CT CT' w0 w' F w' p q t u := by
  obtain ⟨S, X, h1, h2, h3, h4, h5, h6, h7, h8, h9⟩ := h
  exact ⟨S, X, K.keep h1 ho.size fun b hs => ho.block b (K.lt h1 b hs) (fun e => h7 b e hs), K'.keep h2 ho.size fun b hs => ho.block b (K'.lt h2 b hs) (fun e => h8 b e hs), h3, h4, h5, h6.trans (ho.below h6.size hF), h7, h8, fun b hf => ⟨Nat.lt_of_lt_of_le (h9 b hf).1 ho.size, rfl⟩⟩
theorem Tri.later {CT CT' : World → (Nat → Prop) → Nat → TP → Prop} (K : Kept CT) (K' : Kept CT') {w0 wF w w' : World} {F : Nat → Prop} {p q : Nat} {t u : TP} (h : Tri CT CT' w0 wF F w p q t u) (hb : Below w.heap.size w w') : Tri CT CT' w0 wF F w' p q t u := by
  obtain ⟨S, X, h1, h2, h3, h4, h5, h6, h7, h8, h9⟩ := h
  exact ⟨S, X, K.keep h1 hb.size fun b hs => hb.block b (K.lt h1 b hs), K'.keep h2 hb.size fun b hs => hb.block b (K'.lt h2 b hs), h3, h4, h5, h6.trans (hb.mono h6.size), h7, h8, fun b hf => ⟨Nat.lt_of_lt_of_le (h9 b hf).1 hb.size, (hb.block b (h9 b hf).1).trans (h9 b hf).2⟩⟩

end Go.Proofs.YtkbjpgfdmkmbmaaGreatDoor
namespace Go.Proofs.YtkbjpgfdmkmbmaaGreatDoor
open Go.RowKit
set_option linter.unusedVariables false
set_option linter.unusedSimpArgs false

/-- how large changes are -/
def sumC : List Ch → Nat
  | [] => 0
  | x :: l => x.key.length + x.value.length + sumC l
theorem sumC_snoc (l : List Ch) (x : Ch) : sumC (l ++ [x]) = sumC l + (x.key.length + x.value.length) := by
  induction l with
  | nil => simp [sumC]
  | cons y l ih => rw [List.cons_append]; simp only [sumC]; rw [ih]; omega
theorem sumC_take (l : List Ch) (k : Nat) : sumC (l.take k) ≤ sumC l := by
  induction l generalizing k with
  | nil => simp
  | cons y l ih =>
    cases k with
    | zero => simp [sumC]
    | succ k => rw [List.take_succ_cons]; simp only [sumC]; have := ih k; omega
def smallB (l : List Ch) : Bool := decide (l.length + sumC l < 40000) && decide (l.length < 100)
end Go.Proofs.YtkbjpgfdmkmbmaaGreatDoor
