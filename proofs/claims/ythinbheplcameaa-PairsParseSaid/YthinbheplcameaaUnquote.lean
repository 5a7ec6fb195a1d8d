/- text.Unquote by its loop. -/
import Derived.Test.YthinbheplcameaaQuoted
namespace Go.Proofs.Ythinbheplcameaa
open Go.RowKit
theorem ret_byte {c : UInt8} {a : Int} {x : Bool} (h : a = c.toNat) : Ending.returned (.tuple #[.int .u8 a, .bool x]) = .returned (.tuple #[.int .u8 c.toNat, .bool x]) := by rw [h]

theorem quotedT_yes (s : ByteArray) (k : Nat) (h : k + 2 < s.size) (hs : s.size ≤ maxLen) (ha : digB s[k + 1] = true) (hb : digB s[k + 2] = true) (w : World) :
    Calls Try.prog 38 #[.string (s.extract (k + 1) s.size)] w fun e w' => e = .returned (.tuple #[.int .u8 ((hexByte s[k + 1] s[k + 2]).toNat : Int), .bool true]) ∧ w = w' := by
  have hz : 2 ≤ (s.extract (k + 1) s.size).size := by rw [ext_size]; omega
  have e0 : (s.extract (k + 1) s.size)[0] = s[k + 1] := ext_get s (k + 1) 0 _ _
  have e1 : (s.extract (k + 1) s.size)[1] = s[k + 2] := ext_get s (k + 1) 1 _ _
  refine (quoted_yes _ hz (by rw [e0]; exact ha) (by rw [e1]; exact hb) (by rw [ext_size]; omega) w).mono fun e w' ⟨he, hw⟩ => ⟨?_, hw⟩
  rw [he, e0, e1]
  exact ret_byte (hexByte_toNat _ _).symm
theorem quotedT_no (s : ByteArray) (k : Nat) (h : k + 2 < s.size) (hs : s.size ≤ maxLen) (ha : digB s[k + 1] = false ∨ digB s[k + 2] = false) (w : World) :
    Calls Try.prog 38 #[.string (s.extract (k + 1) s.size)] w fun e w' => e = .returned (.tuple #[.int .u8 0, .bool false]) ∧ w = w' := by
  have hz : 2 ≤ (s.extract (k + 1) s.size).size := by rw [ext_size]; omega
  have e0 : (s.extract (k + 1) s.size)[0] = s[k + 1] := ext_get s (k + 1) 0 _ _
  have e1 : (s.extract (k + 1) s.size)[1] = s[k + 2] := ext_get s (k + 1) 1 _ _
  exact quoted_no _ hz (by rw [e0, e1]; exact ha) (by rw [ext_size]; omega) w
theorem quotedT_short (s : ByteArray) (k : Nat) (h : s.size ≤ k + 2) (w : World) :
    Calls Try.prog 38 #[.string (s.extract (k + 1) s.size)] w fun e w' => e = .returned (.tuple #[.int .u8 0, .bool false]) ∧ w = w' :=
  quoted_short _ (by rw [ext_size]; omega) w

/-- what Unquote answers -/
def UnqSays (l : List UInt8) (e : Ending) : Prop :=
  (∃ o, unq l = some o ∧ e = .returned (.tuple #[.string ⟨o.toArray⟩, .int .i64 0])) ∨ (unq l = none ∧ e = .returned (.tuple #[.string ⟨#[]⟩, .int .i64 2]))

set_option maxRecDepth 100000 in
theorem unquote_says (s : ByteArray) (hs : s.size ≤ 140737488351232) (w : World) :
    Calls Try.prog 22 #[.string s] w fun e w' => UnqSays s.data.toList e ∧ Below w.heap.size w w' := by
  obtain ⟨i0, hi, hz0, hz1, hz2⟩ := info_parts Try.infoByte
  go_enter Try.func22, Try.ntmps22
  go_wp2_with (at_make; refine wpList_make_own _ rfl _ _ 31 rfl w.heap.size 5 i0 _ 1 Try.underlying31 hi hz0 hz1 _ _ _ s.size rfl rfl (by omega) (by rw [hz2]; omega) (by unfold maxLen; omega) (Nat.le_refl _) ?_)
  intro w0 hown0 hg0
  have hb0 : Below w.heap.size w w0 := (Below.refl _ _).grown hg0 (Nat.le_refl _) (by simp)
  go_wp2
  go_loopw [4, 5] (fun v i wr => ∃ (k : Nat) (acc : List UInt8), k ≤ s.size ∧ i = .int .i64 k ∧ Buf wr w.heap.size v acc ∧ acc.length ≤ k ∧ UnqAt s.data.toList k acc ∧ Below w.heap.size w wr) (fun _ i _ => s.size - (intOf i).toNat)
  case atStart => exact ⟨0, [], Nat.zero_le _, rfl, hown0, Nat.zero_le _, unqAt_start _, hb0⟩
  case round =>
    obtain ⟨k, acc, hk, rfl, hown, hal, hat, hb⟩ := hrel
    have HA := Lib.hid hat; clear hat
    have hbs := hb.size
    by_cases hlt : k < s.size
    · by_cases h43 : s[k].toNat = 43
      · have c43 : ((s[k].toNat : Int) == 43) = true := by simp; omega
        have H43 := Lib.hid h43; clear h43
        go_wp2_with (at_builtin; refine wpList_append_own _ rfl (.tmp 28) (.tmp 29) 31 rfl w.heap.size 5 i0 _ 1 1 Try.underlying31 hi hz0 hz1 hz2 rfl (by decide) _ _ _ rfl (World.ownsRow.alloc hown _) ⟨_, 0, none⟩ 1 1 [.int .u8 32] rfl rfl (new_cells _ #[_] _) (one_cell _) (by unfold maxLen; omega) (by omega) (by simp; omega) ?_)
        intro v' w1 hown' hg' _
        have hb1 : Below w.heap.size w w1 := (hb.alloc hbs _).grown hg' (by simp; omega) (fun j hj => (hown.lt j hj).1)
        go_wp2
        go_roundw
        case rel => exact ⟨k + 1, acc ++ [32], by omega, by go_num, Buf.cut hown' (by simp) (by rw [cells_app]; rfl), by simp; omega, unqAt_plus HA.out hlt H43.out, hb1⟩
        case measure => simp [intOf]; omega
      · have c43 : ((s[k].toNat : Int) == 43) = false := by simp; omega
        have H43 := Lib.hid h43; clear h43
        by_cases h37 : s[k].toNat = 37
        · have c37 : ((s[k].toNat : Int) == 37) = true := by simp; omega
          have H37 := Lib.hid h37; clear h37
          have hmx : s.size ≤ maxLen := by unfold maxLen; omega
          by_cases h2 : k + 2 < s.size
          · by_cases hd : digB s[k + 1] = true ∧ digB s[k + 2] = true
            · have HD := Lib.hid hd; clear hd
              go_wp2_with (first
                | (go_at_call 38; refine (quotedT_yes s k h2 hmx HD.out.1 HD.out.2 _).mono ?_; rintro e w' ⟨rfl, rfl⟩)
                | (at_builtin; refine wpList_append_own _ rfl (.tmp 43) (.tmp 45) 31 rfl w.heap.size 5 i0 _ 1 1 Try.underlying31 hi hz0 hz1 hz2 rfl (by decide) _ _ _ rfl (World.ownsRow.alloc hown _) ⟨_, 0, none⟩ 1 1 [.int .u8 (hexByte s[k + 1] s[k + 2]).toNat] rfl rfl (new_cells _ #[_] _) (one_cell _) (by unfold maxLen; omega) (by omega) (by simp; omega) ?_))
              intro v' w1 hown' hg' _
              have hb1 : Below w.heap.size w w1 := (hb.alloc hbs _).grown hg' (by simp; omega) (fun j hj => (hown.lt j hj).1)
              go_wp2
              go_roundw
              case rel => exact ⟨k + 3, acc ++ [hexByte s[k + 1] s[k + 2]], by omega, by go_num, Buf.cut hown' (by simp) (by rw [cells_app]; rfl), by simp; omega, unqAt_hex HA.out h2 H37.out HD.out.1 HD.out.2, hb1⟩
              case measure => simp [intOf]; omega
            · have hd' : digB s[k + 1] = false ∨ digB s[k + 2] = false := by
                rcases Bool.eq_false_or_eq_true (digB s[k + 1]) with h | h
                · rcases Bool.eq_false_or_eq_true (digB s[k + 2]) with h' | h'
                  · exact absurd ⟨h, h'⟩ hd
                  · exact Or.inr h'
                · exact Or.inl h
              have HD := Lib.hid hd'; clear hd hd'
              go_wp2_with (go_at_call 38; refine (quotedT_no s k h2 hmx HD.out _).mono ?_; rintro e w' ⟨rfl, rfl⟩)
              go_ret2
              exact ⟨Or.inr ⟨unqAt_bad HA.out h2 H37.out HD.out, rfl⟩, hb⟩
          · go_wp2_with (go_at_call 38; refine (quotedT_short s k (by omega) _).mono ?_; rintro e w' ⟨rfl, rfl⟩)
            go_ret2
            exact ⟨Or.inr ⟨unqAt_short HA.out hlt (by show s.size ≤ k + 2; omega) H37.out, rfl⟩, hb⟩
        · have c37 : ((s[k].toNat : Int) == 37) = false := by simp; omega
          have H37 := Lib.hid h37; clear h37
          go_wp2_with (at_builtin; refine wpList_append_own _ rfl (.tmp 22) (.tmp 24) 31 rfl w.heap.size 5 i0 _ 1 1 Try.underlying31 hi hz0 hz1 hz2 rfl (by decide) _ _ _ rfl (World.ownsRow.alloc hown _) ⟨_, 0, none⟩ 1 1 [.int .u8 s[k].toNat] rfl rfl (new_cells _ #[_] _) (one_cell _) (by unfold maxLen; omega) (by omega) (by simp; omega) ?_)
          intro v' w1 hown' hg' _
          have hb1 : Below w.heap.size w w1 := (hb.alloc hbs _).grown hg' (by simp; omega) (fun j hj => (hown.lt j hj).1)
          go_wp2
          go_roundw
          case rel => exact ⟨k + 1, acc ++ [s[k]], by omega, by go_num, Buf.cut hown' (by simp) (by rw [cells_app]; rfl), by simp; omega, unqAt_same HA.out hlt H43.out H37.out, hb1⟩
          case measure => simp [intOf]; omega
    · have hke : k = s.size := by omega
      subst hke
      have hcv := hown.text
      go_wp2
      go_ret2
      exact ⟨Or.inl ⟨acc, unqAt_end HA.out, rfl⟩, hb⟩
theorem UnqSays.yes {l o : List UInt8} {e : Ending} (hd : UnqSays l e) (h : unq l = some o) : e = .returned (.tuple #[.string ⟨o.toArray⟩, .int .i64 0]) := by
  rcases hd with ⟨o', h', he⟩ | ⟨h', _⟩
  · rw [h] at h'; injection h' with h'; rw [he, h']
  · rw [h] at h'; cases h'
theorem UnqSays.no {l : List UInt8} {e : Ending} (hd : UnqSays l e) (h : unq l = none) : e = .returned (.tuple #[.string ⟨#[]⟩, .int .i64 2]) := by
  rcases hd with ⟨o', h', he⟩ | ⟨h', he⟩
  · rw [h] at h'; cases h'
  · exact he
theorem unquote_yes (s : ByteArray) (o : List UInt8) (h : unq s.data.toList = some o) (hs : s.size ≤ 140737488351232) (w : World) :
    Calls Try.prog 22 #[.string s] w fun e w' => e = .returned (.tuple #[.string ⟨o.toArray⟩, .int .i64 0]) ∧ Below w.heap.size w w' :=
  (unquote_says s hs w).mono fun _ _ ⟨hd, hw⟩ => ⟨hd.yes h, hw⟩
theorem unquote_no (s : ByteArray) (h : unq s.data.toList = none) (hs : s.size ≤ 140737488351232) (w : World) :
    Calls Try.prog 22 #[.string s] w fun e w' => e = .returned (.tuple #[.string ⟨#[]⟩, .int .i64 2]) ∧ Below w.heap.size w w' :=
  (unquote_says s hs w).mono fun _ _ ⟨hd, hw⟩ => ⟨hd.no h, hw⟩
end Go.Proofs.Ythinbheplcameaa
