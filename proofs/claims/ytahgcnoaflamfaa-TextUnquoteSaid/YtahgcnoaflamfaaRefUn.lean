/- The reference's UnB64 by its loops. -/
import Derived.Test.YtahgcnoaflamfaaDecode
import Derived.Test.YtahgcnoaflamfaaRefB64
namespace Go.Proofs.Ytahgcnoaflamfaa
open Go.RowKit

theorem sixtyN_quiet (j : Nat) (h : j < 64) (w : World) :
    Calls Try.prog 21 #[.int .i64 j] w fun e w' => e = .returned (.int .u8 ((ltr j).toNat : Int)) ∧ w' = w := (sixty_any j (by omega) (by omega) w).mono fun _ _ h => ⟨h.1, h.2.symm⟩

theorem int_eq {k : IntKind} {a b : Int} (h : a = b) : Value.int k a = .int k b := by rw [h]
theorem ret_sb {x : ByteArray} {a b : Bool} (h : a = b) : Ending.returned (.tuple #[.string x, .bool a]) = .returned (.tuple #[.string x, .bool b]) := by rw [h]
def UnAt (l : List UInt8) (k : Nat) (v n : Nat) (acc : List UInt8) : Prop := unS 0 0 l = (unS v n (l.drop k)).map (acc ++ ·)
theorem unAt_start (l : List UInt8) : UnAt l 0 0 0 [] := by unfold UnAt; simp
theorem unAt_bad {l acc : List UInt8} {k v n : Nat} (h : UnAt l k v n acc) (hk : k < l.length) (hc : ix l[k] < 0) : unS 0 0 l = none := by
  unfold UnAt at h; rw [h, List.drop_eq_getElem_cons hk, unS, if_pos hc]; rfl
theorem unAt_0 {l acc : List UInt8} {k v : Nat} (h : UnAt l k v 0 acc) (hk : k < l.length) (hc : 0 ≤ ix l[k]) : UnAt l (k + 1) (v * 64 + (ix l[k]).toNat) 6 acc := by
  unfold UnAt at h ⊢; rw [h, List.drop_eq_getElem_cons hk, unS, if_neg (by omega), if_pos (by decide)]
theorem unAt_s {l acc : List UInt8} {k v n : Nat} (h : UnAt l k v n acc) (hb : 2 ≤ n) (hk : k < l.length) (hc : 0 ≤ ix l[k]) :
    UnAt l (k + 1) ((v * 64 + (ix l[k]).toNat) % 2 ^ (n - 2)) (n - 2) (acc ++ [UInt8.ofNat ((v * 64 + (ix l[k]).toNat) / 2 ^ (n - 2))]) := by
  unfold UnAt at h ⊢; rw [h, List.drop_eq_getElem_cons hk, unS, if_neg (by omega), if_neg (by omega), Option.map_map]; congr 1; funext x; simp
theorem unAt_end {l acc : List UInt8} {v n : Nat} (h : UnAt l l.length v n acc) : unS 0 0 l = some acc := by
  unfold UnAt at h; rw [h, List.drop_length, unS]; simp

theorem Buf.below {w w' : World} {B : Nat} {v : Value} {l : List UInt8} (h : Buf w B v l) (hb : Below w.heap.size w w') : Buf w' B v l :=
  World.ownsRow.kept (row := none) h ⟨hb.os, hb.tape, hb.output, hb.size, fun k hk _ => hb.block k hk⟩ (by
    rcases h.2 with ⟨rfl, _⟩ | ⟨g, cap, cur, rfl, _⟩
    · exact .inl rfl
    · exact .inr (by simp [Value.ownBlock]))

/-- what UnB64 answers -/
def UnSays (l : List UInt8) (e : Ending) : Prop :=
  (∃ o, unS 0 0 l = some o ∧ e = .returned (.tuple #[.string ⟨o.toArray⟩, .bool (decide (enc o = l))])) ∨ (unS 0 0 l = none ∧ e = .returned (.tuple #[.string ⟨#[]⟩, .bool false]))

set_option maxHeartbeats 2000000 in
set_option maxRecDepth 100000 in
theorem refUn_says (s : ByteArray) (hs : s.size ≤ 46912496117759) (w : World) :
    Calls Try.prog 14 #[.string s] w fun e w' => UnSays s.data.toList e ∧ Below w.heap.size w w' := by
  obtain ⟨i0, hi, hz0, hz1, hz2⟩ := info_parts Try.infoByte
  go_enter Try.func14, Try.ntmps14
  go_wp2
  go_loopw [4, 5, 6, 7] (fun o v n i wr => ∃ (k V N : Nat) (acc : List UInt8), k ≤ s.size ∧ i = .int .i64 k ∧ v = .int .i64 V ∧ V < 2 ^ N ∧ n = .int .i64 N ∧ (N = 0 ∨ N = 6 ∨ N = 4 ∨ N = 2) ∧ Buf wr w.heap.size o acc ∧ acc.length ≤ k ∧ UnAt s.data.toList k V N acc ∧ Below w.heap.size w wr) (fun _ _ _ i _ => s.size - (intOf i).toNat)
  case atStart => exact ⟨0, 0, 0, [], Nat.zero_le _, rfl, rfl, by decide, rfl, .inl rfl, World.ownsRow_nil _ _ _ _, Nat.zero_le _, unAt_start _, Below.refl _ _⟩
  case round =>
    obtain ⟨k, V, N, acc, hk, rfl, rfl, hV, rfl, h0642, hown, hal, hat, hb⟩ := hrel
    have HA := Lib.hid hat; clear hat
    have HO := Lib.hid h0642; clear h0642
    by_cases hlt : k < s.size
    · go_wp2
      go_loopw [8, 9] (fun d j wx => ∃ jj : Nat, jj ≤ 64 ∧ j = .int .i64 jj ∧ d = .int .i64 (ixTo s[k] jj) ∧ Buf wx w.heap.size u4 acc ∧ Below w.heap.size w wx) (fun _ j _ => 64 - (intOf j).toNat)
      case atStart => exact ⟨0, Nat.zero_le _, rfl, rfl, hown, hb⟩
      case round =>
        obtain ⟨jj, hj, rfl, rfl, hownx, hbx⟩ := hrel
        have hbsx := hbx.size
        by_cases hlj : jj < 64
        · by_cases hc : (ltr jj).toNat = s[k].toNat
          · have c1 : (((ltr jj).toNat : Int) == (s[k].toNat : Int)) = true := by simp; omega
            have hx : ixTo s[k] (jj + 1) = jj := by rw [ixTo, if_pos hc]
            have HX := Lib.hid hx; clear hx hc
            go_wp2
            go_quiet ((go_at_call 21; exact Calls.quiet_of_same (sixtyN_quiet _ hlj _)))
            go_wp2
            go_roundw
            case rel => exact ⟨jj + 1, by omega, by go_num, int_eq HX.out.symm, hownx, ⟨hbx.os, hbx.tape, hbx.output, hbx.size, hbx.block⟩⟩
            case measure => simp [intOf]; omega
          · have c1 : (((ltr jj).toNat : Int) == (s[k].toNat : Int)) = false := by simp; omega
            have hx : ixTo s[k] (jj + 1) = ixTo s[k] jj := by rw [ixTo, if_neg hc]
            have HX := Lib.hid hx; clear hx hc
            go_wp2
            go_quiet ((go_at_call 21; exact Calls.quiet_of_same (sixtyN_quiet _ hlj _)))
            go_wp2
            go_roundw
            case rel => exact ⟨jj + 1, by omega, by go_num, int_eq HX.out.symm, hownx, ⟨hbx.os, hbx.tape, hbx.output, hbx.size, hbx.block⟩⟩
            case measure => simp [intOf]; omega
        · have hj64 : jj = 64 := by omega
          subst hj64
          rw [ixTo_ix]
          by_cases hc : ix s[k] < 0
          · have HC := Lib.hid hc
            go_wp2
            go_ret2
            exact ⟨Or.inr ⟨unAt_bad HA.out hlt HC.out, rfl⟩, hbx⟩
          · have hc : 0 ≤ ix s[k] := by omega
            have hix : ix s[k] < 64 := by rcases ix_cases s[k] with h | h <;> omega
            have HC := Lib.hid hc
            have h0642 := HO.out
            rcases h0642 with rfl | rfl | rfl | rfl
            · go_wp2
              go_roundw
              case rel => exact ⟨k + 1, V * 64 + (ix s[k]).toNat, 6, acc, by omega, by go_num, int_eq (by omega), by omega, rfl, .inr (.inl rfl), hownx, by omega, unAt_0 HA.out hlt HC.out, hbx⟩
              case measure => simp [intOf]; omega
            · go_wp2_with (at_builtin; refine wpList_append_own _ rfl (.tmp 39) (.tmp 45) 31 rfl w.heap.size 5 i0 _ 1 1 Try.underlying31 hi hz0 hz1 hz2 rfl (by decide) _ _ _ rfl (World.ownsRow.alloc hownx _) ⟨_, 0, none⟩ 1 1 [.int .u8 _] rfl rfl (new_cells _ #[_] _) (one_cell _) (by unfold maxLen; omega) (by omega) (by simp; omega) ?_)
              intro v' w1 hown' hg' _
              have hb1 : Below w.heap.size w w1 := (hbx.alloc hbsx _).grown hg' (by simp; omega) (fun j hj => (hownx.lt j hj).1)
              go_wp2
              go_roundw
              case rel => exact ⟨k + 1, (V * 64 + (ix s[k]).toNat) % 16, 4, acc ++ [UInt8.ofNat ((V * 64 + (ix s[k]).toNat) / 16)], by omega, by go_num, int_eq (by omega), by omega, rfl, .inr (.inr (.inl rfl)), Buf.cut hown' (by simp) (cells_byte _ ((V * 64 + (ix s[k]).toNat) / 16) _ _ (by omega) rfl), by simp; omega, unAt_s HA.out (by decide) hlt HC.out, hb1⟩
              case measure => simp [intOf]; omega
            · go_wp2_with (at_builtin; refine wpList_append_own _ rfl (.tmp 39) (.tmp 45) 31 rfl w.heap.size 5 i0 _ 1 1 Try.underlying31 hi hz0 hz1 hz2 rfl (by decide) _ _ _ rfl (World.ownsRow.alloc hownx _) ⟨_, 0, none⟩ 1 1 [.int .u8 _] rfl rfl (new_cells _ #[_] _) (one_cell _) (by unfold maxLen; omega) (by omega) (by simp; omega) ?_)
              intro v' w1 hown' hg' _
              have hb1 : Below w.heap.size w w1 := (hbx.alloc hbsx _).grown hg' (by simp; omega) (fun j hj => (hownx.lt j hj).1)
              go_wp2
              go_roundw
              case rel => exact ⟨k + 1, (V * 64 + (ix s[k]).toNat) % 4, 2, acc ++ [UInt8.ofNat ((V * 64 + (ix s[k]).toNat) / 4)], by omega, by go_num, int_eq (by omega), by omega, rfl, .inr (.inr (.inr rfl)), Buf.cut hown' (by simp) (cells_byte _ ((V * 64 + (ix s[k]).toNat) / 4) _ _ (by omega) rfl), by simp; omega, unAt_s HA.out (by decide) hlt HC.out, hb1⟩
              case measure => simp [intOf]; omega
            · go_wp2_with (at_builtin; refine wpList_append_own _ rfl (.tmp 39) (.tmp 45) 31 rfl w.heap.size 5 i0 _ 1 1 Try.underlying31 hi hz0 hz1 hz2 rfl (by decide) _ _ _ rfl (World.ownsRow.alloc hownx _) ⟨_, 0, none⟩ 1 1 [.int .u8 _] rfl rfl (new_cells _ #[_] _) (one_cell _) (by unfold maxLen; omega) (by omega) (by simp; omega) ?_)
              intro v' w1 hown' hg' _
              have hb1 : Below w.heap.size w w1 := (hbx.alloc hbsx _).grown hg' (by simp; omega) (fun j hj => (hownx.lt j hj).1)
              go_wp2
              go_roundw
              case rel => exact ⟨k + 1, (V * 64 + (ix s[k]).toNat) % 1, 0, acc ++ [UInt8.ofNat ((V * 64 + (ix s[k]).toNat) / 1)], by omega, by go_num, int_eq (by omega), by omega, rfl, .inl rfl, Buf.cut hown' (by simp) (cells_byte _ ((V * 64 + (ix s[k]).toNat) / 1) _ _ (by omega) rfl), by simp; omega, unAt_s HA.out (by decide) hlt HC.out, hb1⟩
              case measure => simp [intOf]; omega
    · have hke : k = s.size := by omega
      subst hke
      have hcv := hown.text
      have hbs := hb.size
      have hlen : (ByteArray.mk acc.toArray).size ≤ 46912496117759 := by show acc.length ≤ _; omega
      have hownd : Buf wr.drew w.heap.size u4 acc := hown
      go_wp2_with fail
      go_region_held3 (fun w' => (convert 31 9 u4).run Try.prog w' = .ok (.string ⟨acc.toArray⟩) w') (first | exact hcv | exact hownd.text | exact (hownd.below (by assumption)).text) (first | (go_at_call 13; refine (refB64_any _ hlen _).mono ?_; rintro e w2 ⟨rfl, hb2⟩))
      go_wp2
      go_ret2
      refine ⟨Or.inl ⟨acc, unAt_end HA.out, ?_⟩, hb.drew.trans (hb2.mono hbs)⟩
      exact ret_sb (by rw [Lib.toList_data, Bool.eq_iff_iff]; simp)
end Go.Proofs.Ytahgcnoaflamfaa
