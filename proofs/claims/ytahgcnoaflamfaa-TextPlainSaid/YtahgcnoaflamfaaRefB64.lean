/- The reference's B64 by its loops. -/
import Derived.Test.YtahgcnoaflamfaaEncode
namespace Go.Proofs.Ytahgcnoaflamfaa
open Go.RowKit

def ltrI (n : Int) : Int := ((ltr n.toNat).toNat : Int)
theorem ltrI_of {n : Int} {m : Nat} (h : n = m) : ltrI n = ((ltr m).toNat : Int) := by subst h; rfl
theorem sixtyI_any (n : Int) (h0 : 0 ≤ n) (h1 : n < 64) (w : World) :
    Calls Try.prog 21 #[.int .i64 n] w fun e w' => e = .returned (.int .u8 (ltrI n)) ∧ w = w' := sixty_any n h0 h1 w
theorem new_cells_take (w : World) (cs : Array Value) (e : TypeId) (m : Nat) : ∀ j u, (cs.toList.take m)[j]? = some u → (w.alloc (.cells cs e)).cell? ((⟨w.heap.size, 0, none⟩ : Addr).add j) = some u := by
  intro j u h
  rw [List.getElem?_take] at h
  split at h
  · exact new_cells w cs e j u h
  · cases h

def RefAt (l : List UInt8) (k : Nat) (acc : List UInt8) : Prop := enc l = acc ++ enc (l.drop k)

theorem two_cells (x y : Int) : ∀ u ∈ [Value.int .u8 x, Value.int .u8 y], u.oneCell' = true := by
  intro u hu; simp at hu; rcases hu with rfl | rfl <;> rfl
theorem four_cells (x y z t : Int) : ∀ u ∈ [Value.int .u8 x, Value.int .u8 y, Value.int .u8 z, Value.int .u8 t], u.oneCell' = true := by
  intro u hu; simp at hu; rcases hu with rfl | rfl | rfl | rfl <;> rfl

theorem refAt_end {l acc : List UInt8} {k : Nat} (h : RefAt l k acc) (hk : l.length ≤ k) : acc = enc l := by
  unfold RefAt at h; rw [h, List.drop_eq_nil_of_le hk]; simp [enc]
theorem refAt_3 {l acc : List UInt8} {k : Nat} (h : RefAt l k acc) (hk : k + 2 < l.length) : RefAt l (k + 3) (acc ++ chunk (l[k].toNat * 65536 + l[k + 1].toNat * 256 + l[k + 2].toNat)) := by
  unfold RefAt at h ⊢
  rw [h, List.drop_eq_getElem_cons (show k < l.length by omega), List.drop_eq_getElem_cons (show k + 1 < l.length by omega), List.drop_eq_getElem_cons (show k + 2 < l.length by omega), enc, List.append_assoc]
theorem refAt_2 {l acc : List UInt8} {k : Nat} (h : RefAt l k acc) (hk : k + 2 = l.length) : RefAt l (k + 3) (acc ++ (chunk (l[k].toNat * 65536 + l[k + 1].toNat * 256)).take 3) := by
  unfold RefAt at h ⊢
  rw [h, List.drop_eq_getElem_cons (show k < l.length by omega), List.drop_eq_getElem_cons (show k + 1 < l.length by omega), List.drop_eq_nil_of_le (show l.length ≤ k + 1 + 1 by omega), List.drop_eq_nil_of_le (show l.length ≤ k + 3 by omega)]
  simp [enc]
theorem refAt_1 {l acc : List UInt8} {k : Nat} (h : RefAt l k acc) (hk : k + 1 = l.length) : RefAt l (k + 3) (acc ++ (chunk (l[k].toNat * 65536)).take 2) := by
  unfold RefAt at h ⊢
  rw [h, List.drop_eq_getElem_cons (show k < l.length by omega), List.drop_eq_nil_of_le (show l.length ≤ k + 1 by omega), List.drop_eq_nil_of_le (show l.length ≤ k + 3 by omega)]
  simp [enc]

theorem four_ltr (l : List UInt8) (V : Nat) (v : Int) (h : v = V) : cells l ++ [Value.int .u8 (ltrI (v / 262144)), .int .u8 (ltrI (v / 4096 % 64)), .int .u8 (ltrI (v / 64 % 64)), .int .u8 (ltrI (v % 64))] = cells (l ++ chunk V) := by
  subst h
  rw [cells_app, ltrI_of (m := V / 262144) (by omega), ltrI_of (m := V / 4096 % 64) (by omega), ltrI_of (m := V / 64 % 64) (by omega), ltrI_of (m := V % 64) (by omega)]; rfl
theorem three_ltr (l : List UInt8) (V : Nat) (v : Int) (h : v = V) : cells l ++ [Value.int .u8 (ltrI (v / 262144)), .int .u8 (ltrI (v / 4096 % 64)), .int .u8 (ltrI (v / 64 % 64))] = cells (l ++ (chunk V).take 3) := by
  subst h
  rw [cells_app, ltrI_of (m := V / 262144) (by omega), ltrI_of (m := V / 4096 % 64) (by omega), ltrI_of (m := V / 64 % 64) (by omega)]; rfl
theorem two_ltr (l : List UInt8) (V : Nat) (v : Int) (h : v = V) : cells l ++ [Value.int .u8 (ltrI (v / 262144)), .int .u8 (ltrI (v / 4096 % 64))] = cells (l ++ (chunk V).take 2) := by
  subst h
  rw [cells_app, ltrI_of (m := V / 262144) (by omega), ltrI_of (m := V / 4096 % 64) (by omega)]; rfl

set_option maxHeartbeats 1000000 in
set_option maxRecDepth 100000 in
theorem refB64_any (s : ByteArray) (hs : s.size ≤ 46912496117759) (w : World) :
    Calls Try.prog 13 #[.string s] w fun e w' => e = .returned (.string ⟨(enc s.data.toList).toArray⟩) ∧ Below w.heap.size w w' := by
  obtain ⟨i0, hi, hz0, hz1, hz2⟩ := info_parts Try.infoByte
  go_enter Try.func13, Try.ntmps13
  go_wp2
  go_loopw [3, 4] (fun v i wr => ∃ (k : Nat) (acc : List UInt8), k ≤ s.size + 2 ∧ i = .int .i64 k ∧ Buf wr w.heap.size v acc ∧ acc.length ≤ 2 * k ∧ RefAt s.data.toList k acc ∧ Below w.heap.size w wr) (fun _ i _ => s.size - (intOf i).toNat)
  case atStart => exact ⟨0, [], Nat.zero_le _, rfl, World.ownsRow_nil _ _ _ _, Nat.zero_le _, rfl, Below.refl _ _⟩
  case round =>
    obtain ⟨k, acc, hk, rfl, hown, hal, hat, hb⟩ := hrel
    have HA := Lib.hid hat; clear hat
    have hbs := hb.size
    by_cases hlt : k < s.size
    · by_cases h3 : k + 2 < s.size
      · have ha := s[k].toNat_lt
        have hb' := s[k + 1].toNat_lt
        have hc := s[k + 2].toNat_lt
        go_wp2
        refine wp_loop_rounds 4 ?_
        rw [rounds_succ]
        go_wp2
        rw [rounds_succ]
        go_wp2
        rw [rounds_succ]
        go_wp2
        rw [rounds_succ]
        go_wp2_with (first
          | (go_at_call 21; refine (sixtyI_any _ (by omega) (by omega) _).mono ?_; rintro e w' ⟨rfl, rfl⟩)
          | (at_builtin; refine wpList_append_own _ rfl (.tmp 52) (.tmp 56) 31 rfl w.heap.size 5 i0 _ 1 1 Try.underlying31 hi hz0 hz1 hz2 rfl (by decide) _ _ _ rfl (World.ownsRow.alloc hown _) ⟨_, 0, none⟩ 4 4 [.int .u8 _, .int .u8 _, .int .u8 _, .int .u8 _] rfl rfl (new_cells_take _ #[_, _, _, _] _ 4) (four_cells _ _ _ _) (by unfold maxLen; omega) (by omega) (by simp; omega) ?_))
        intro v' w1 hown' hg' _
        have hb1 : Below w.heap.size w w1 := (hb.alloc hbs _).grown hg' (by simp; omega) (fun j hj => (hown.lt j hj).1)
        go_wp2
        go_roundw
        case rel => exact ⟨k + 3, _, by omega, by go_num, Buf.cut hown' (by simp [chunk]) (four_ltr _ (s[k].toNat * 65536 + s[k + 1].toNat * 256 + s[k + 2].toNat) _ (by omega)), by simp [chunk]; omega, refAt_3 HA.out h3, hb1⟩
        case measure => simp [intOf]; omega
      · by_cases h2 : k + 1 < s.size
        · have ha := s[k].toNat_lt
          have hb' := s[k + 1].toNat_lt
          go_wp2
          refine wp_loop_rounds 4 ?_
          rw [rounds_succ]
          go_wp2
          rw [rounds_succ]
          go_wp2
          rw [rounds_succ]
          go_wp2
          rw [rounds_succ]
          go_wp2_with (first
            | (go_at_call 21; refine (sixtyI_any _ (by omega) (by omega) _).mono ?_; rintro e w' ⟨rfl, rfl⟩)
            | (at_builtin; refine wpList_append_own _ rfl (.tmp 52) (.tmp 56) 31 rfl w.heap.size 5 i0 _ 1 1 Try.underlying31 hi hz0 hz1 hz2 rfl (by decide) _ _ _ rfl (World.ownsRow.alloc hown _) ⟨_, 0, none⟩ 3 4 [.int .u8 _, .int .u8 _, .int .u8 _] rfl rfl (new_cells_take _ #[_, _, _, _] _ 3) (three_cells _ _ _) (by unfold maxLen; omega) (by omega) (by simp; omega) ?_))
          intro v' w1 hown' hg' _
          have hb1 : Below w.heap.size w w1 := (hb.alloc hbs _).grown hg' (by simp; omega) (fun j hj => (hown.lt j hj).1)
          go_wp2
          go_roundw
          case rel => exact ⟨k + 3, _, by omega, by go_num, Buf.cut hown' (by simp [chunk]) (three_ltr _ (s[k].toNat * 65536 + s[k + 1].toNat * 256) _ (by omega)), by simp [chunk]; omega, refAt_2 HA.out (by show _ = s.size; omega), hb1⟩
          case measure => simp [intOf]; omega
        · have ha := s[k].toNat_lt
          go_wp2
          refine wp_loop_rounds 4 ?_
          rw [rounds_succ]
          go_wp2
          rw [rounds_succ]
          go_wp2
          rw [rounds_succ]
          go_wp2
          rw [rounds_succ]
          go_wp2_with (first
            | (go_at_call 21; refine (sixtyI_any _ (by omega) (by omega) _).mono ?_; rintro e w' ⟨rfl, rfl⟩)
            | (at_builtin; refine wpList_append_own _ rfl (.tmp 52) (.tmp 56) 31 rfl w.heap.size 5 i0 _ 1 1 Try.underlying31 hi hz0 hz1 hz2 rfl (by decide) _ _ _ rfl (World.ownsRow.alloc hown _) ⟨_, 0, none⟩ 2 4 [.int .u8 _, .int .u8 _] rfl rfl (new_cells_take _ #[_, _, _, _] _ 2) (two_cells _ _) (by unfold maxLen; omega) (by omega) (by simp; omega) ?_))
          intro v' w1 hown' hg' _
          have hb1 : Below w.heap.size w w1 := (hb.alloc hbs _).grown hg' (by simp; omega) (fun j hj => (hown.lt j hj).1)
          go_wp2
          go_roundw
          case rel => exact ⟨k + 3, _, by omega, by go_num, Buf.cut hown' (by simp [chunk]) (two_ltr _ (s[k].toNat * 65536) _ (by omega)), by simp [chunk]; omega, refAt_1 HA.out (by show _ = s.size; omega), hb1⟩
          case measure => simp [intOf]; omega
    · have hcv := hown.text
      go_wp2
      go_ret
      exact ⟨ret_str (refAt_end HA.out (by show s.size ≤ k; omega)), hb⟩
end Go.Proofs.Ytahgcnoaflamfaa
