/- Texts merged by program, in build order: Form2, Encode, Decode, RefB64, RefUn. -/
import Derived.Test.YtlcpehmdhnakpaaDoorG03
import Derived.Test.YtlcpehmdhnakpaaDoorG05
import Derived.Test.YtlcpehmdhnakpaaDoorG02
set_option linter.unusedVariables false
set_option linter.unusedSimpArgs false
namespace Go.Proofs.YtlcpehmdhnakpaaDoor
open Go.RowKit

theorem own_below_ {w w' : World} {B sz n : Nat} {e : TypeId} {v : Value} {xs : List Value} (h : w.ownsRow B e sz v n xs) (hb : Below w.heap.size w w') : w'.ownsRow B e sz v n xs :=
  World.ownsRow.kept (row := none) h ⟨hb.os, hb.tape, hb.output, hb.size, fun k hk _ => hb.block k hk⟩ (by
    rcases h.2 with ⟨rfl, _⟩ | ⟨g, cap, cur, rfl, _⟩
    · exact .inl rfl
    · exact .inr (by simp [Value.ownBlock]))
theorem own_ne {w : World} {B B' sz sz' n n' : Nat} {e e' : TypeId} {v v' : Value} {xs xs' : List Value} (h : w.ownsRow B e sz v n xs) (h' : w.ownsRow B' e' sz' v' n' xs') (hne : e ≠ e') : v.ownBlock = none ∨ v.ownBlock ≠ v'.ownBlock := by
  rcases h.2 with ⟨rfl, _⟩ | ⟨g, cap, cur, rfl, _, hg, _⟩
  · exact .inl rfl
  · rcases h'.2 with ⟨rfl, _⟩ | ⟨g', cap', cur', rfl, _, hg', _⟩
    · exact .inr (by simp [Value.ownBlock])
    · refine .inr ?_
      intro hh
      have hgg : g = g' := by simpa [Value.ownBlock] using hh
      subst hgg
      rw [hg] at hg'
      injection hg' with hg'
      injection hg' with _ ht
      exact hne ht
theorem own_cell {w : World} {B n : Nat} {e : TypeId} {v : Value} {xs : List Value} (h : w.ownsRow B e 1 v n xs) {g : Nat} (hg : v.ownBlock = some g) (k : Nat) (u : Value) (hk : xs[k]? = some u) : w.cell? ⟨g, k, none⟩ = some u := by
  have := h.cells hg k u hk
  rwa [Addr.add_lit, Nat.zero_add] at this
theorem splitL_ne (c : UInt8) (l : List UInt8) : splitL c l ≠ [] := by
  rw [splitL_at]; split <;> simp
theorem scells_at (l : List (List UInt8)) (k : Nat) (h : k < l.length) : (scells l)[k]? = some (.string ⟨l[k].toArray⟩) := by simp [scells, h]

def unqV (l : List UInt8) : List UInt8 := (unq l).getD []
def unqO (l : List UInt8) : Bool := (unq l).isSome
theorem refUnq_any (s : ByteArray) (hs : s.size ≤ 140737488351232) (w : World) :
    Calls Tryd.prog 39 #[.string s] w fun e w' => e = .returned (.tuple #[.string ⟨(unqV s.data.toList).toArray⟩, .bool (unqO s.data.toList)]) ∧ Below w.heap.size w w' :=
  (refUnquote_says s hs w).mono fun _ _ ⟨hd, hw⟩ => ⟨by
    rcases hd with ⟨o, h, he⟩ | ⟨h, he⟩
    · rw [he]; simp [unqV, unqO, h]
    · rw [he]; simp [unqV, unqO, h], hw⟩
theorem pairL_both {p : List UInt8} (h : unqO (p.take (atL 61 p)) = true) (h' : unqO (p.drop (atL 61 p + 1)) = true) : pairL p = some (unqV (p.take (atL 61 p)), unqV (p.drop (atL 61 p + 1))) := by
  unfold unqO at h h'
  obtain ⟨a, ha⟩ := Option.isSome_iff_exists.1 h
  obtain ⟨b, hb⟩ := Option.isSome_iff_exists.1 h'
  rw [pairL_some ha hb]; simp [unqV, ha, hb]
theorem pairL_not {p : List UInt8} (h : unqO (p.take (atL 61 p)) = false ∨ unqO (p.drop (atL 61 p + 1)) = false) : pairL p = none := by
  unfold unqO at h
  rcases h with h | h
  · exact pairL_key (by simpa using h)
  · exact pairL_val (by simpa using h)

/-- the parts that are not empty -/
def solid (l : List (List UInt8)) : List (List UInt8) := l.filter (fun p => !p.isEmpty)
theorem solid_skip {l : List (List UInt8)} {k : Nat} (h : k < l.length) (he : l[k] = []) : solid (l.take (k + 1)) = solid (l.take k) := by
  unfold solid; rw [List.take_succ_eq_append_getElem h, List.filter_append, he]; simp
theorem solid_hit {l : List (List UInt8)} {k : Nat} (h : k < l.length) (he : l[k] ≠ []) : solid (l.take (k + 1)) = solid (l.take k) ++ [l[k]] := by
  unfold solid; rw [List.take_succ_eq_append_getElem h, List.filter_append]; simp [he]
theorem solid_all (l : List UInt8) : solid ((splitL 38 l).take (splitL 38 l).length) = partsL l := by rw [List.take_length]; rfl
theorem solid_split (l : List (List UInt8)) (k : Nat) : solid l = solid (l.take k) ++ solid (l.drop k) := by
  unfold solid; rw [← List.filter_append, List.take_append_drop]
theorem form_bad {l : List UInt8} {k : Nat} (h : k < (splitL 38 l).length) (he : (splitL 38 l)[k] ≠ []) (hp : pairL (splitL 38 l)[k] = none) : pairsL (partsL l) = none := by
  have : partsL l = solid (splitL 38 l) := rfl
  rw [this, solid_split _ (k + 1), solid_hit h he]
  exact pairsL_app_none (pairsL_bad hp) _

set_option maxRecDepth 100000 in
set_option maxHeartbeats 1000000 in
theorem form_any (s : ByteArray) (w : World) :
    Calls Tryd.prog 22 #[.string s] w fun e w' => ∃ v, e = .returned (.tuple #[v, .int .i64 (parseE s.data.toList)]) ∧ PRow w' w.heap.size v (parseP s.data.toList) ∧ Below w.heap.size w w' := by
  obtain ⟨i0, hi, hz0, hz1, hz2⟩ := info_parts Tryd.infoPair
  have hsz : s.data.toList.length = s.size := rfl
  by_cases hs : 4096 < s.size
  · have hp := @parse_large s.data.toList
    rw [hsz] at hp
    have HP := Lib.hid (hp hs); clear hp
    go_enter Tryd.func22, Tryd.ntmps22
    go_wp2
    go_ret2
    exact ⟨.slice none 0 0, by rw [HP.out.1]; rfl, by rw [HP.out.2]; exact PRow.nil _ _, Below.refl _ _⟩
  · have hs' : s.size ≤ 4096 := by omega
    have hP0 := @parse_none s.data.toList
    have hPm := @parse_many s.data.toList
    have hPs := @parse_some s.data.toList
    unfold formL at hP0 hPm hPs
    rw [hsz] at hP0 hPm hPs
    have P0 := Lib.hid (hP0 hs'); have P1 := Lib.hid (fun ps => @hPm ps hs'); have P2 := Lib.hid (fun ps => @hPs ps hs'); clear hP0 hPm hPs
    have hsl := splitL_len 38 s.data.toList
    have hse := splitL_each 38 s.data.toList
    have hsn := splitL_ne 38 s.data.toList
    have hsa := solid_all s.data.toList
    have hsb := @form_bad s.data.toList
    have hcall := split_any s 38 (by omega)
    rw [hsz] at hsl hse
    generalize splitL 38 s.data.toList = L at *
    have HSN := Lib.hid hsn; have HSA := Lib.hid hsa; have HSB := Lib.hid (fun k => @hsb k); have HSE := Lib.hid hse; have HSZ := Lib.hid hsz; clear hsn hsa hsb hse hsz
    go_enter Tryd.func22, Tryd.ntmps22
    go_wp2_with fail
    refine (hcall _).mono ?_
    clear hcall
    rintro e w1 ⟨lv, rfl, hL, hb1⟩
    obtain ⟨g, cp, rfl⟩ : ∃ g cp, lv = .slice (some ⟨g, 0, none⟩) L.length cp := by
      rcases hL.2 with ⟨_, h0⟩ | ⟨g, cap, cur, rfl, _⟩
      · exact absurd (List.length_eq_zero_iff.1 h0) HSN.out
      · exact ⟨_, _, rfl⟩
    go_wp2
    go_loopw [4, 6] (fun v i wr => ∃ (k : Nat) (acc : PL), k ≤ L.length ∧ i = .int .i64 k ∧ PRow wr w.heap.size v acc ∧ acc.length ≤ k ∧ pairsL (solid (L.take k)) = some acc ∧ Strs wr w.heap.size (.slice (some ⟨g, 0, none⟩) L.length cp) L ∧ Below w.heap.size w wr) (fun _ i _ => L.length - (intOf i).toNat)
    case atStart => exact ⟨0, [], Nat.zero_le _, rfl, PRow.nil _ _, Nat.le_refl _, rfl, hL, hb1⟩
    case round =>
      obtain ⟨k, acc, hk, rfl, hown, hal, hat, hst, hb⟩ := hrel
      have HA := Lib.hid hat; clear hat
      have hbs := hb.size
      by_cases hlt : k < L.length
      · have hcell := own_cell hst (g := g) rfl k _ (scells_at L k hlt)
        have hpl := HSE.out L[k] (List.getElem_mem hlt)
        have hB := HSB.out k hlt
        have hskip := @solid_skip L k hlt
        have hhit := @solid_hit L k hlt
        generalize L[k] = p at *
        by_cases hpe : p = []
        · have HK := Lib.hid (hskip hpe); clear hskip hhit hB
          subst hpe
          go_wp2
          go_roundw
          case rel => exact ⟨k + 1, acc, by omega, by go_num, hown, by omega, by rw [HK.out]; exact HA.out, hst, hb⟩
          case measure => simp [intOf]; omega
        · have HHIT := Lib.hid (hhit hpe); have HB := Lib.hid (hB hpe); have HPE := Lib.hid hpe
          have hbe : (p == []) = false := by simpa using hpe
          clear hskip hhit hB
          have hat := at_any (str p) 61 (by unfold maxLen; rw [str_size]; omega)
          rw [str_list] at hat
          have hx := atL_take 61 p
          have hy := atL_drop 61 p
          have hle := atL_le 61 p
          have u1 := refUnq_any ((str p).extract 0 (atL 61 p)) (by rw [ext_pre]; show (p.take (atL 61 p)).length ≤ _; omega)
          have e1 : ((str p).extract 0 (atL 61 p)).data.toList = p.take (atL 61 p) := by rw [ext_pre]
          rw [e1] at u1
          have hpb := @pairL_both p
          have hpn := @pairL_not p
          have PB := Lib.hid hpb; have PN := Lib.hid hpn; clear hpb hpn e1
          obtain ⟨V, hV, u2⟩ : ∃ V : ByteArray, V = (if atL 61 p < p.length then (str p).extract (atL 61 p + 1) p.length else ⟨#[]⟩) ∧ ∀ w, Calls Tryd.prog 39 #[.string V] w fun e w' => e = .returned (.tuple #[.string ⟨(unqV (p.drop (atL 61 p + 1))).toArray⟩, .bool (unqO (p.drop (atL 61 p + 1)))]) ∧ Below w.heap.size w w' := by
            refine ⟨_, rfl, fun w => ?_⟩
            have := refUnq_any (str (p.drop (atL 61 p + 1))) (by rw [str_size]; omega) w
            rw [str_list] at this
            split
            · have e2 : (str p).extract (atL 61 p + 1) p.length = str (p.drop (atL 61 p + 1)) := ext_suf (str p) (atL 61 p + 1)
              rw [e2]; exact this
            · rename_i hn
              have e2 : p.drop (atL 61 p + 1) = [] := List.drop_eq_nil_of_le (by omega)
              rw [e2] at this ⊢; exact this
          generalize unqV (p.take (atL 61 p)) = a at *
          generalize unqV (p.drop (atL 61 p + 1)) = b at *
          generalize unqO (p.take (atL 61 p)) = oa at *
          generalize unqO (p.drop (atL 61 p + 1)) = ob at *
          clear hx hy
          by_cases hj : atL 61 p < p.length
          all_goals
            first | rw [if_pos hj] at hV | rw [if_neg hj] at hV
            subst hV
            go_wp2_with (go_at_call 38; refine (hat _).mono ?_; rintro e w' ⟨rfl, rfl⟩)
            refine (u1 _).mono ?_
            rintro e w2 ⟨rfl, hb2⟩
            go_wp2_with fail
            refine (u2 _).mono ?_
            rintro e w3 ⟨rfl, hb3⟩
            have hb23 := hb2.chain hb3
            have hown3 := own_below_ hown hb23
            have hst3 := own_below_ hst hb23
            have hb03 := hb.chain hb23
            have hbs3 := hb03.size
            clear hat u1 u2 hcell hown hst hb2 hb3
            cases oa
            · go_wp2
              go_ret2
              have HR := P0.out (HB.out (PN.out (by simp)))
              exact ⟨.slice none 0 0, by rw [HR.1]; rfl, by rw [HR.2]; exact PRow.nil _ _, hb03⟩
            · cases ob
              · go_wp2
                go_ret2
                have HR := P0.out (HB.out (PN.out (by simp)))
                exact ⟨.slice none 0 0, by rw [HR.1]; rfl, by rw [HR.2]; exact PRow.nil _ _, hb03⟩
              · have HP := Lib.hid (PB.out (by simp) (by simp))
                go_wp2_with (at_builtin; refine wpList_append_own _ rfl (.tmp 69) (.tmp 73) 37 rfl w.heap.size 39 i0 _ 2 32 Tryd.underlying37 hi hz0 hz1 hz2 rfl (by decide) _ _ _ rfl (World.ownsRow.alloc hown3 _) ⟨_, 0, none⟩ 1 1 [.string ⟨a.toArray⟩, .string ⟨b.toArray⟩] rfl rfl (new_cells _ #[_, _] _) (pair_cells _ _) (by unfold maxLen; omega) (by omega) (by simp; omega) ?_)
                intro v' w4 hown' hg' _
                have hb4 : Below w.heap.size w w4 := (hb03.alloc hbs3 _).grown hg' (by simp; omega) (fun j hj => (hown3.lt j hj).1)
                have hst4 : Strs w4 w.heap.size (.slice (some ⟨g, 0, none⟩) L.length cp) L := World.ownsRow.kept (World.ownsRow.alloc hst3 _) hg' (own_ne hst3 hown3 (by decide))
                go_wp2
                go_roundw
                case rel => exact ⟨k + 1, acc ++ [(a, b)], by omega, by go_num, PRow.cut hown' (by simp) (by rw [pcells_snoc]), by simp; omega, by rw [HHIT.out]; exact pairsL_snoc HA.out HP.out, hst4, hb4⟩
                case measure => simp [intOf]; omega
      · have hke : k = L.length := by omega
        subst hke
        have hall := HA.out
        rw [HSA.out] at hall
        obtain ⟨A, cq, rfl⟩ := prow_form hown
        by_cases h64 : 64 < acc.length
        · have HR := Lib.hid (P1.out _ hall h64); clear hall
          go_wp2
          go_ret2
          exact ⟨.slice none 0 0, by rw [HR.out.1]; rfl, by rw [HR.out.2]; exact PRow.nil _ _, hb⟩
        · have HR := Lib.hid (P2.out _ hall (by omega)); clear hall
          go_wp2
          go_ret2
          exact ⟨.slice A acc.length cq, by rw [HR.out.1]; rfl, by rw [HR.out.2]; exact hown, hb⟩
end Go.Proofs.YtlcpehmdhnakpaaDoor
namespace Go.Proofs.YtlcpehmdhnakpaaDoor
open Go.RowKit

theorem push8_lt (H : Nat) (b : UInt8) : push8 H b < 4294967296 := by have := b.toNat_lt; unfold push8; omega
theorem or_push8 (H : Nat) (b : UInt8) : bits .or .u32 ((H : Int) * 256 % 4294967296) ((b.toNat : Int) % 4294967296) = (push8 H b : Int) := by
  have := b.toNat_lt
  rw [show (b.toNat : Int) % 4294967296 = b.toNat by omega]
  rw [bits_join .u32 32 (by decide) (fun n h0 h1 => by rw [IntKind.wrap_u32]; omega) 8 _ _ (by omega) (by omega) (by omega) (by omega) (by omega) (by omega)]
  unfold push8; omega
theorem and63 (x : Int) (h0 : 0 ≤ x) (h1 : x < 4294967296) : bits .and .u32 x 63 = x % 64 :=
  bits_mask .u32 32 (by decide) (fun n h0 h1 => by rw [IntKind.wrap_u32]; omega) 6 (by decide) x h0 h1

theorem cells_ltr (l : List UInt8) (n m : Nat) (hn : n = m) (h : n < (ByteArray.mk ltrs).size) : cells l ++ [Value.int .u8 ((ByteArray.mk ltrs)[n].toNat : Int)] = cells (l ++ [ltr m]) := by
  subst hn
  rw [ltr_at h, cells_app]; rfl

def EncAt (l : List UInt8) (k : Nat) (H bits : Nat) (acc : List UInt8) : Prop := enc l = acc ++ encS H bits (l.drop k)

theorem encAt_0 {l acc : List UInt8} {k H : Nat} (h : EncAt l k H 0 acc) (hk : k < l.length) : EncAt l (k + 1) (push8 H l[k]) 2 (acc ++ [ltr (push8 H l[k] / 4 % 64)]) := by
  unfold EncAt at h ⊢; rw [h, List.drop_eq_getElem_cons hk, encS_0]; simp
theorem encAt_2 {l acc : List UInt8} {k H : Nat} (h : EncAt l k H 2 acc) (hk : k < l.length) : EncAt l (k + 1) (push8 H l[k]) 4 (acc ++ [ltr (push8 H l[k] / 16 % 64)]) := by
  unfold EncAt at h ⊢; rw [h, List.drop_eq_getElem_cons hk, encS_2]; simp
theorem encAt_4 {l acc : List UInt8} {k H : Nat} (h : EncAt l k H 4 acc) (hk : k < l.length) : EncAt l (k + 1) (push8 H l[k]) 0 (acc ++ [ltr (push8 H l[k] / 64 % 64)] ++ [ltr (push8 H l[k] % 64)]) := by
  unfold EncAt at h ⊢; rw [h, List.drop_eq_getElem_cons hk, encS_4]; simp
theorem encAt_end0 {l acc : List UInt8} {H : Nat} (h : EncAt l l.length H 0 acc) : acc = enc l := by
  unfold EncAt at h; rw [h, List.drop_length]; simp [encS]
theorem encAt_end2 {l acc : List UInt8} {H : Nat} (h : EncAt l l.length H 2 acc) : acc ++ [ltr (H * 16 % 64)] = enc l := by
  unfold EncAt at h; rw [h, List.drop_length, encS_end2, show H * 16 % 4294967296 % 64 = H * 16 % 64 by omega]
theorem encAt_end4 {l acc : List UInt8} {H : Nat} (h : EncAt l l.length H 4 acc) : acc ++ [ltr (H * 4 % 64)] = enc l := by
  unfold EncAt at h; rw [h, List.drop_length, encS_end4, show H * 4 % 4294967296 % 64 = H * 4 % 64 by omega]

end Go.Proofs.YtlcpehmdhnakpaaDoor
namespace Go.Proofs.YtlcpehmdhnakpaaDoor
open Go.RowKit

theorem ix_any (c : UInt8) (w : World) :
    Calls Tryd.prog 58 #[.string ⟨#[65, 66, 67, 68, 69, 70, 71, 72, 73, 74, 75, 76, 77, 78, 79, 80, 81, 82, 83, 84, 85, 86, 87, 88, 89, 90, 97, 98, 99, 100, 101, 102, 103, 104, 105, 106, 107, 108, 109, 110, 111, 112, 113, 114, 115, 116, 117, 118, 119, 120, 121, 122, 48, 49, 50, 51, 52, 53, 54, 55, 56, 57, 45, 95]⟩, .int .u8 c.toNat] w fun e w' => e = .returned (.int .i64 (ix c)) ∧ w = w' := by
  refine (indexByte_any _ _ w).mono fun e w' ⟨he, hw⟩ => ⟨?_, hw⟩
  rw [he]
  refine ret_int ?_
  have : (c.toNat : Int).toNat.toUInt8 = c := by simp
  rw [this]; rfl

theorem push6_lt (H : Nat) (d : Nat) (hd : d < 64) : push6 H d < 4294967296 := by unfold push6; omega
theorem or_push6 (H : Nat) (d : Int) (h0 : 0 ≤ d) (h1 : d < 64) : bits .or .u32 ((H : Int) * 64 % 4294967296) d = (push6 H d.toNat : Int) := by
  rw [bits_join .u32 32 (by decide) (fun n h0 h1 => by rw [IntKind.wrap_u32]; omega) 6 _ _ (by omega) (by omega) (by omega) (by omega) (by omega) (by omega)]
  unfold push6; omega
def DecAt (l : List UInt8) (k : Nat) (H bits : Nat) (acc : List UInt8) : Prop := dec l = (decS H bits (l.drop k)).map (acc ++ ·)
theorem decAt_start (l : List UInt8) : DecAt l 0 0 0 [] := by unfold DecAt; rw [List.drop_zero, decS_dec]; simp
theorem decAt_bad {l acc : List UInt8} {k H bits : Nat} (h : DecAt l k H bits acc) (hk : k < l.length) (hc : ix l[k] < 0) : dec l = none := by
  unfold DecAt at h; rw [h, List.drop_eq_getElem_cons hk, decS, if_pos hc]; rfl
theorem decAt_0 {l acc : List UInt8} {k H : Nat} (h : DecAt l k H 0 acc) (hk : k < l.length) (hc : 0 ≤ ix l[k]) : DecAt l (k + 1) (push6 H (ix l[k]).toNat) 6 acc := by
  unfold DecAt at h ⊢; rw [h, List.drop_eq_getElem_cons hk, decS, if_neg (by omega), if_pos (by decide)]
theorem decAt_s {l acc : List UInt8} {k H bits : Nat} (h : DecAt l k H bits acc) (hb : 2 ≤ bits) (hk : k < l.length) (hc : 0 ≤ ix l[k]) :
    DecAt l (k + 1) (push6 H (ix l[k]).toNat) (bits - 2) (acc ++ [UInt8.ofNat (push6 H (ix l[k]).toNat / 2 ^ (bits - 2))]) := by
  unfold DecAt at h ⊢; rw [h, List.drop_eq_getElem_cons hk, decS, if_neg (by omega), if_neg (by omega), Option.map_map]; congr 1; funext x; simp
theorem decAt_end {l acc : List UInt8} {H bits : Nat} (h : DecAt l l.length H bits acc) (hb : bits < 6) (hm : H % 2 ^ bits = 0) : dec l = some acc := by
  unfold DecAt at h; rw [h, List.drop_length, decS, if_pos ⟨hb, hm⟩]; simp
theorem decAt_not {l acc : List UInt8} {H bits : Nat} (h : DecAt l l.length H bits acc) (hb : bits = 6 ∨ H % 2 ^ bits ≠ 0) : dec l = none := by
  unfold DecAt at h; rw [h, List.drop_length, decS, if_neg (by omega)]; rfl

/-- what Decode answers -/
def DecSays (l : List UInt8) (e : Ending) : Prop :=
  (∃ o, dec l = some o ∧ e = .returned (.tuple #[.string ⟨o.toArray⟩, .int .i64 0])) ∨ (dec l = none ∧ e = .returned (.tuple #[.string ⟨#[]⟩, .int .i64 2]))

set_option maxHeartbeats 1000000 in
set_option maxRecDepth 100000 in
theorem decode_says (s : ByteArray) (hs : s.size ≤ 46912496117759) (w : World) :
    Calls Tryd.prog 49 #[.string s] w fun e w' => DecSays s.data.toList e ∧ Below w.heap.size w w' := by
  obtain ⟨i0, hi, hz0, hz1, hz2⟩ := info_parts Tryd.infoByte
  go_enter Tryd.func49, Tryd.ntmps49
  go_wp2_with (at_make; refine wpList_make_own _ rfl _ _ 62 rfl w.heap.size 5 i0 _ 1 Tryd.underlying62 hi hz0 hz1 _ _ _ (s.size / 4 * 3 + 3) rfl rfl (by omega) (by rw [hz2]; omega) (by unfold maxLen; omega) (Nat.le_refl _) ?_)
  intro w0 hown0 hg0
  have hb0 : Below w.heap.size w w0 := (Below.refl _ _).grown hg0 (Nat.le_refl _) (by simp)
  go_wp2
  go_loopw [4, 5, 6, 17] (fun v h b i wr => ∃ (k H bits : Nat) (acc : List UInt8), k ≤ s.size ∧ i = .int .i64 k ∧ h = .int .u32 H ∧ H < 4294967296 ∧ b = .int .i64 bits ∧ (bits = 0 ∨ bits = 6 ∨ bits = 4 ∨ bits = 2) ∧ Buf wr w.heap.size v acc ∧ acc.length ≤ k ∧ DecAt s.data.toList k H bits acc ∧ Below w.heap.size w wr) (fun _ _ _ i _ => s.size - (intOf i).toNat)
  case atStart => exact ⟨0, 0, 0, [], Nat.zero_le _, rfl, rfl, by decide, rfl, .inl rfl, hown0, Nat.zero_le _, decAt_start _, hb0⟩
  case round =>
    obtain ⟨k, H, bts, acc, hk, rfl, rfl, hH, rfl, h0642, hown, hal, hat, hb⟩ := hrel
    have HA := Lib.hid hat; clear hat
    have hbs := hb.size
    by_cases hlt : k < s.size
    · by_cases hc : ix s[k] < 0
      · have HC := Lib.hid hc
        have HO := Lib.hid h0642; clear h0642
        go_wp2_with (go_at_call 58; refine (ix_any _ _).mono ?_; rintro e w' ⟨rfl, rfl⟩)
        go_ret2
        exact ⟨Or.inr ⟨decAt_bad HA.out hlt HC.out, rfl⟩, hb⟩
      · have hc : 0 ≤ ix s[k] := by omega
        have hix : ix s[k] < 64 := by rcases ix_cases s[k] with h | h <;> omega
        have HC := Lib.hid hc
        have hp := push6_lt H (ix s[k]).toNat (by omega)
        have ho := or_push6 H (ix s[k]) (by omega) hix
        rcases h0642 with rfl | rfl | rfl | rfl
        · go_wp2_with (go_at_call 58; refine (ix_any _ _).mono ?_; rintro e w' ⟨rfl, rfl⟩)
          go_roundw
          case rel => exact ⟨k + 1, push6 H (ix s[k]).toNat, 6, acc, by omega, by go_num, rfl, hp, rfl, .inr (.inl rfl), hown, by omega, decAt_0 HA.out hlt HC.out, hb⟩
          case measure => simp [intOf]; omega
        · go_wp2_with (first
            | (go_at_call 58; refine (ix_any _ _).mono ?_; rintro e w' ⟨rfl, rfl⟩)
            | (at_builtin; refine wpList_append_own _ rfl (.tmp 37) (.tmp 42) 62 rfl w.heap.size 5 i0 _ 1 1 Tryd.underlying62 hi hz0 hz1 hz2 rfl (by decide) _ _ _ rfl (World.ownsRow.alloc hown _) ⟨_, 0, none⟩ 1 1 [.int .u8 _] rfl rfl (new_cells _ #[_] _) (one_cell _) (by unfold maxLen; omega) (by omega) (by simp; omega) ?_))
          intro v' w1 hown' hg' _
          have hb1 : Below w.heap.size w w1 := (hb.alloc hbs _).grown hg' (by simp; omega) (fun j hj => (hown.lt j hj).1)
          go_wp2
          go_roundw
          case rel => exact ⟨k + 1, push6 H (ix s[k]).toNat, 4, acc ++ [UInt8.ofNat (push6 H (ix s[k]).toNat / 16)], by omega, by go_num, rfl, hp, rfl, .inr (.inr (.inl rfl)), Buf.cut hown' (by simp) (cells_byte _ (push6 H (ix s[k]).toNat / 16) _ _ (by omega) rfl), by simp; omega, decAt_s HA.out (by decide) hlt HC.out, hb1⟩
          case measure => simp [intOf]; omega
        · go_wp2_with (first
            | (go_at_call 58; refine (ix_any _ _).mono ?_; rintro e w' ⟨rfl, rfl⟩)
            | (at_builtin; refine wpList_append_own _ rfl (.tmp 37) (.tmp 42) 62 rfl w.heap.size 5 i0 _ 1 1 Tryd.underlying62 hi hz0 hz1 hz2 rfl (by decide) _ _ _ rfl (World.ownsRow.alloc hown _) ⟨_, 0, none⟩ 1 1 [.int .u8 _] rfl rfl (new_cells _ #[_] _) (one_cell _) (by unfold maxLen; omega) (by omega) (by simp; omega) ?_))
          intro v' w1 hown' hg' _
          have hb1 : Below w.heap.size w w1 := (hb.alloc hbs _).grown hg' (by simp; omega) (fun j hj => (hown.lt j hj).1)
          go_wp2
          go_roundw
          case rel => exact ⟨k + 1, push6 H (ix s[k]).toNat, 2, acc ++ [UInt8.ofNat (push6 H (ix s[k]).toNat / 4)], by omega, by go_num, rfl, hp, rfl, .inr (.inr (.inr rfl)), Buf.cut hown' (by simp) (cells_byte _ (push6 H (ix s[k]).toNat / 4) _ _ (by omega) rfl), by simp; omega, decAt_s HA.out (by decide) hlt HC.out, hb1⟩
          case measure => simp [intOf]; omega
        · go_wp2_with (first
            | (go_at_call 58; refine (ix_any _ _).mono ?_; rintro e w' ⟨rfl, rfl⟩)
            | (at_builtin; refine wpList_append_own _ rfl (.tmp 37) (.tmp 42) 62 rfl w.heap.size 5 i0 _ 1 1 Tryd.underlying62 hi hz0 hz1 hz2 rfl (by decide) _ _ _ rfl (World.ownsRow.alloc hown _) ⟨_, 0, none⟩ 1 1 [.int .u8 _] rfl rfl (new_cells _ #[_] _) (one_cell _) (by unfold maxLen; omega) (by omega) (by simp; omega) ?_))
          intro v' w1 hown' hg' _
          have hb1 : Below w.heap.size w w1 := (hb.alloc hbs _).grown hg' (by simp; omega) (fun j hj => (hown.lt j hj).1)
          go_wp2
          go_roundw
          case rel => exact ⟨k + 1, push6 H (ix s[k]).toNat, 0, acc ++ [UInt8.ofNat (push6 H (ix s[k]).toNat / 1)], by omega, by go_num, rfl, hp, rfl, .inl rfl, Buf.cut hown' (by simp) (cells_byte _ (push6 H (ix s[k]).toNat / 1) _ _ (by omega) rfl), by simp; omega, decAt_s HA.out (by decide) hlt HC.out, hb1⟩
          case measure => simp [intOf]; omega
    · have hke : k = s.size := by omega
      subst hke
      have hcv := hown.text
      rcases h0642 with rfl | rfl | rfl | rfl
      · have hq : bits .and .u32 (H : Int) 0 = 0 := by have := and_mask H (by omega) (by omega) 0 (by decide); simpa using this
        go_wp2
        go_ret2
        exact ⟨Or.inl ⟨acc, decAt_end HA.out (by decide) (by omega), rfl⟩, hb⟩
      · go_wp2
        go_ret2
        exact ⟨Or.inr ⟨decAt_not HA.out (.inl rfl), rfl⟩, hb⟩
      · have hq : bits .and .u32 (H : Int) 15 = (H : Int) % 16 := and_mask H (by omega) (by omega) 4 (by decide)
        by_cases hm : H % 16 = 0
        · have ht : ((H : Int) % 16 != 0) = false := by simp; omega
          have HM := Lib.hid hm; clear hm
          go_wp2
          go_ret2
          exact ⟨Or.inl ⟨acc, decAt_end HA.out (by decide) HM.out, rfl⟩, hb⟩
        · have ht : ((H : Int) % 16 != 0) = true := by simp; omega
          have HM := Lib.hid hm; clear hm
          go_wp2
          go_ret2
          exact ⟨Or.inr ⟨decAt_not HA.out (.inr HM.out), rfl⟩, hb⟩
      · have hq : bits .and .u32 (H : Int) 3 = (H : Int) % 4 := and_mask H (by omega) (by omega) 2 (by decide)
        by_cases hm : H % 4 = 0
        · have ht : ((H : Int) % 4 != 0) = false := by simp; omega
          have HM := Lib.hid hm; clear hm
          go_wp2
          go_ret2
          exact ⟨Or.inl ⟨acc, decAt_end HA.out (by decide) HM.out, rfl⟩, hb⟩
        · have ht : ((H : Int) % 4 != 0) = true := by simp; omega
          have HM := Lib.hid hm; clear hm
          go_wp2
          go_ret2
          exact ⟨Or.inr ⟨decAt_not HA.out (.inr HM.out), rfl⟩, hb⟩
end Go.Proofs.YtlcpehmdhnakpaaDoor
namespace Go.Proofs.YtlcpehmdhnakpaaDoor
open Go.RowKit

def ltrI (n : Int) : Int := ((ltr n.toNat).toNat : Int)
theorem ltrI_of {n : Int} {m : Nat} (h : n = m) : ltrI n = ((ltr m).toNat : Int) := by subst h; rfl
theorem sixtyI_any (n : Int) (h0 : 0 ≤ n) (h1 : n < 64) (w : World) :
    Calls Tryd.prog 27 #[.int .i64 n] w fun e w' => e = .returned (.int .u8 (ltrI n)) ∧ w = w' := sixty_any n h0 h1 w
def RefAt (l : List UInt8) (k : Nat) (acc : List UInt8) : Prop := enc l = acc ++ enc (l.drop k)

theorem refAt_end {l acc : List UInt8} {k : Nat} (h : RefAt l k acc) (hk : l.length ≤ k) : acc = enc l := by
  unfold RefAt at h; rw [h, List.drop_eq_nil_of_le hk]; simp [enc]
theorem refAt_3 {l acc : List UInt8} {k : Nat} (h : RefAt l k acc) (hk : k + 2 < l.length) : RefAt l (k + 3) (acc ++ chunk (l[k].toNat * 65536 + l[k + 1].toNat * 256 + l[k + 2].toNat)) := by
  unfold RefAt at h ⊢
  rw [h, List.drop_eq_getElem_cons (show k < l.length by omega), List.drop_eq_getElem_cons (show k + 1 < l.length by omega), List.drop_eq_getElem_cons (show k + 2 < l.length by omega), enc, List.append_assoc]
theorem refAt_2 {l acc : List UInt8} {k : Nat} (h : RefAt l k acc) (hk : k + 2 = l.length) : RefAt l (k + 3) (acc ++ (chunk (l[k].toNat * 65536 + l[k + 1].toNat * 256)).take 3) := by
  unfold RefAt at h ⊢
  rw [h, List.drop_eq_getElem_cons (show k < l.length by omega), List.drop_eq_getElem_cons (show k + 1 < l.length by omega), List.drop_eq_nil_of_le (show l.length ≤ k + 1 + 1 by omega), List.drop_eq_nil_of_le (show l.length ≤ k + 3 by omega)]
  simp [enc]
theorem refAt_1 {l acc : List UInt8} {k : Nat} (h : RefAt l k acc) (hk : k + 1 = l.length) : RefAt l (k + 3) (acc ++ (chunk (l[k].toNat * 65536)).take 2) := by
  unfold RefAt at h ⊢
  rw [h, List.drop_eq_getElem_cons (show k < l.length by omega), List.drop_eq_nil_of_le (show l.length ≤ k + 1 by omega), List.drop_eq_nil_of_le (show l.length ≤ k + 3 by omega)]
  simp [enc]

theorem four_ltr (l : List UInt8) (V : Nat) (v : Int) (h : v = V) : cells l ++ [Value.int .u8 (ltrI (v / 262144)), .int .u8 (ltrI (v / 4096 % 64)), .int .u8 (ltrI (v / 64 % 64)), .int .u8 (ltrI (v % 64))] = cells (l ++ chunk V) := by
  subst h
  rw [cells_app, ltrI_of (m := V / 262144) (by omega), ltrI_of (m := V / 4096 % 64) (by omega), ltrI_of (m := V / 64 % 64) (by omega), ltrI_of (m := V % 64) (by omega)]; rfl
theorem three_ltr (l : List UInt8) (V : Nat) (v : Int) (h : v = V) : cells l ++ [Value.int .u8 (ltrI (v / 262144)), .int .u8 (ltrI (v / 4096 % 64)), .int .u8 (ltrI (v / 64 % 64))] = cells (l ++ (chunk V).take 3) := by
  subst h
  rw [cells_app, ltrI_of (m := V / 262144) (by omega), ltrI_of (m := V / 4096 % 64) (by omega), ltrI_of (m := V / 64 % 64) (by omega)]; rfl
theorem two_ltr (l : List UInt8) (V : Nat) (v : Int) (h : v = V) : cells l ++ [Value.int .u8 (ltrI (v / 262144)), .int .u8 (ltrI (v / 4096 % 64))] = cells (l ++ (chunk V).take 2) := by
  subst h
  rw [cells_app, ltrI_of (m := V / 262144) (by omega), ltrI_of (m := V / 4096 % 64) (by omega)]; rfl

set_option maxHeartbeats 1000000 in
set_option maxRecDepth 100000 in
theorem refB64_any (s : ByteArray) (hs : s.size ≤ 46912496117759) (w : World) :
    Calls Tryd.prog 14 #[.string s] w fun e w' => e = .returned (.string ⟨(enc s.data.toList).toArray⟩) ∧ Below w.heap.size w w' := by
  obtain ⟨i0, hi, hz0, hz1, hz2⟩ := info_parts Tryd.infoByte
  go_enter Tryd.func14, Tryd.ntmps14
  go_wp2
  go_loopw [3, 4] (fun v i wr => ∃ (k : Nat) (acc : List UInt8), k ≤ s.size + 2 ∧ i = .int .i64 k ∧ Buf wr w.heap.size v acc ∧ acc.length ≤ 2 * k ∧ RefAt s.data.toList k acc ∧ Below w.heap.size w wr) (fun _ i _ => s.size - (intOf i).toNat)
  case atStart => exact ⟨0, [], Nat.zero_le _, rfl, World.ownsRow_nil _ _ _ _, Nat.zero_le _, rfl, Below.refl _ _⟩
  case round =>
    obtain ⟨k, acc, hk, rfl, hown, hal, hat, hb⟩ := hrel
    have HA := Lib.hid hat; clear hat
    have hbs := hb.size
    by_cases hlt : k < s.size
    · by_cases h3 : k + 2 < s.size
      · have ha := s[k].toNat_lt
        have hb' := s[k + 1].toNat_lt
        have hc := s[k + 2].toNat_lt
        go_wp2
        refine wp_loop_rounds 4 ?_
        rw [rounds_succ]
        go_wp2
        rw [rounds_succ]
        go_wp2
        rw [rounds_succ]
        go_wp2
        rw [rounds_succ]
        go_wp2_with (first
          | (go_at_call 27; refine (sixtyI_any _ (by omega) (by omega) _).mono ?_; rintro e w' ⟨rfl, rfl⟩)
          | (at_builtin; refine wpList_append_own _ rfl (.tmp 52) (.tmp 56) 62 rfl w.heap.size 5 i0 _ 1 1 Tryd.underlying62 hi hz0 hz1 hz2 rfl (by decide) _ _ _ rfl (World.ownsRow.alloc hown _) ⟨_, 0, none⟩ 4 4 [.int .u8 _, .int .u8 _, .int .u8 _, .int .u8 _] rfl rfl (new_cells_take _ #[_, _, _, _] _ 4) (four_cells _ _ _ _) (by unfold maxLen; omega) (by omega) (by simp; omega) ?_))
        intro v' w1 hown' hg' _
        have hb1 : Below w.heap.size w w1 := (hb.alloc hbs _).grown hg' (by simp; omega) (fun j hj => (hown.lt j hj).1)
        go_wp2
        go_roundw
        case rel => exact ⟨k + 3, _, by omega, by go_num, Buf.cut hown' (by simp [chunk]) (four_ltr _ (s[k].toNat * 65536 + s[k + 1].toNat * 256 + s[k + 2].toNat) _ (by omega)), by simp [chunk]; omega, refAt_3 HA.out h3, hb1⟩
        case measure => simp [intOf]; omega
      · by_cases h2 : k + 1 < s.size
        · have ha := s[k].toNat_lt
          have hb' := s[k + 1].toNat_lt
          go_wp2
          refine wp_loop_rounds 4 ?_
          rw [rounds_succ]
          go_wp2
          rw [rounds_succ]
          go_wp2
          rw [rounds_succ]
          go_wp2
          rw [rounds_succ]
          go_wp2_with (first
            | (go_at_call 27; refine (sixtyI_any _ (by omega) (by omega) _).mono ?_; rintro e w' ⟨rfl, rfl⟩)
            | (at_builtin; refine wpList_append_own _ rfl (.tmp 52) (.tmp 56) 62 rfl w.heap.size 5 i0 _ 1 1 Tryd.underlying62 hi hz0 hz1 hz2 rfl (by decide) _ _ _ rfl (World.ownsRow.alloc hown _) ⟨_, 0, none⟩ 3 4 [.int .u8 _, .int .u8 _, .int .u8 _] rfl rfl (new_cells_take _ #[_, _, _, _] _ 3) (three_cells _ _ _) (by unfold maxLen; omega) (by omega) (by simp; omega) ?_))
          intro v' w1 hown' hg' _
          have hb1 : Below w.heap.size w w1 := (hb.alloc hbs _).grown hg' (by simp; omega) (fun j hj => (hown.lt j hj).1)
          go_wp2
          go_roundw
          case rel => exact ⟨k + 3, _, by omega, by go_num, Buf.cut hown' (by simp [chunk]) (three_ltr _ (s[k].toNat * 65536 + s[k + 1].toNat * 256) _ (by omega)), by simp [chunk]; omega, refAt_2 HA.out (by show _ = s.size; omega), hb1⟩
          case measure => simp [intOf]; omega
        · have ha := s[k].toNat_lt
          go_wp2
          refine wp_loop_rounds 4 ?_
          rw [rounds_succ]
          go_wp2
          rw [rounds_succ]
          go_wp2
          rw [rounds_succ]
          go_wp2
          rw [rounds_succ]
          go_wp2_with (first
            | (go_at_call 27; refine (sixtyI_any _ (by omega) (by omega) _).mono ?_; rintro e w' ⟨rfl, rfl⟩)
            | (at_builtin; refine wpList_append_own _ rfl (.tmp 52) (.tmp 56) 62 rfl w.heap.size 5 i0 _ 1 1 Tryd.underlying62 hi hz0 hz1 hz2 rfl (by decide) _ _ _ rfl (World.ownsRow.alloc hown _) ⟨_, 0, none⟩ 2 4 [.int .u8 _, .int .u8 _] rfl rfl (new_cells_take _ #[_, _, _, _] _ 2) (two_cells _ _) (by unfold maxLen; omega) (by omega) (by simp; omega) ?_))
          intro v' w1 hown' hg' _
          have hb1 : Below w.heap.size w w1 := (hb.alloc hbs _).grown hg' (by simp; omega) (fun j hj => (hown.lt j hj).1)
          go_wp2
          go_roundw
          case rel => exact ⟨k + 3, _, by omega, by go_num, Buf.cut hown' (by simp [chunk]) (two_ltr _ (s[k].toNat * 65536) _ (by omega)), by simp [chunk]; omega, refAt_1 HA.out (by show _ = s.size; omega), hb1⟩
          case measure => simp [intOf]; omega
    · have hcv := hown.text
      go_wp2
      go_ret
      exact ⟨ret_str (refAt_end HA.out (by show s.size ≤ k; omega)), hb⟩
end Go.Proofs.YtlcpehmdhnakpaaDoor
namespace Go.Proofs.YtlcpehmdhnakpaaDoor
open Go.RowKit

theorem sixtyN_quiet (j : Nat) (h : j < 64) (w : World) :
    Calls Tryd.prog 27 #[.int .i64 j] w fun e w' => e = .returned (.int .u8 ((ltr j).toNat : Int)) ∧ w' = w := (sixty_any j (by omega) (by omega) w).mono fun _ _ h => ⟨h.1, h.2.symm⟩

def UnAt (l : List UInt8) (k : Nat) (v n : Nat) (acc : List UInt8) : Prop := unS 0 0 l = (unS v n (l.drop k)).map (acc ++ ·)
theorem unAt_start (l : List UInt8) : UnAt l 0 0 0 [] := by unfold UnAt; simp
theorem unAt_bad {l acc : List UInt8} {k v n : Nat} (h : UnAt l k v n acc) (hk : k < l.length) (hc : ix l[k] < 0) : unS 0 0 l = none := by
  unfold UnAt at h; rw [h, List.drop_eq_getElem_cons hk, unS, if_pos hc]; rfl
theorem unAt_0 {l acc : List UInt8} {k v : Nat} (h : UnAt l k v 0 acc) (hk : k < l.length) (hc : 0 ≤ ix l[k]) : UnAt l (k + 1) (v * 64 + (ix l[k]).toNat) 6 acc := by
  unfold UnAt at h ⊢; rw [h, List.drop_eq_getElem_cons hk, unS, if_neg (by omega), if_pos (by decide)]
theorem unAt_s {l acc : List UInt8} {k v n : Nat} (h : UnAt l k v n acc) (hb : 2 ≤ n) (hk : k < l.length) (hc : 0 ≤ ix l[k]) :
    UnAt l (k + 1) ((v * 64 + (ix l[k]).toNat) % 2 ^ (n - 2)) (n - 2) (acc ++ [UInt8.ofNat ((v * 64 + (ix l[k]).toNat) / 2 ^ (n - 2))]) := by
  unfold UnAt at h ⊢; rw [h, List.drop_eq_getElem_cons hk, unS, if_neg (by omega), if_neg (by omega), Option.map_map]; congr 1; funext x; simp
theorem unAt_end {l acc : List UInt8} {v n : Nat} (h : UnAt l l.length v n acc) : unS 0 0 l = some acc := by
  unfold UnAt at h; rw [h, List.drop_length, unS]; simp

/-- what UnB64 answers -/
def UnSays (l : List UInt8) (e : Ending) : Prop :=
  (∃ o, unS 0 0 l = some o ∧ e = .returned (.tuple #[.string ⟨o.toArray⟩, .bool (decide (enc o = l))])) ∨ (unS 0 0 l = none ∧ e = .returned (.tuple #[.string ⟨#[]⟩, .bool false]))

set_option maxHeartbeats 2000000 in
set_option maxRecDepth 100000 in
theorem refUn_says (s : ByteArray) (hs : s.size ≤ 46912496117759) (w : World) :
    Calls Tryd.prog 40 #[.string s] w fun e w' => UnSays s.data.toList e ∧ Below w.heap.size w w' := by
  obtain ⟨i0, hi, hz0, hz1, hz2⟩ := info_parts Tryd.infoByte
  go_enter Tryd.func40, Tryd.ntmps40
  go_wp2
  go_loopw [4, 5, 6, 7] (fun o v n i wr => ∃ (k V N : Nat) (acc : List UInt8), k ≤ s.size ∧ i = .int .i64 k ∧ v = .int .i64 V ∧ V < 2 ^ N ∧ n = .int .i64 N ∧ (N = 0 ∨ N = 6 ∨ N = 4 ∨ N = 2) ∧ Buf wr w.heap.size o acc ∧ acc.length ≤ k ∧ UnAt s.data.toList k V N acc ∧ Below w.heap.size w wr) (fun _ _ _ i _ => s.size - (intOf i).toNat)
  case atStart => exact ⟨0, 0, 0, [], Nat.zero_le _, rfl, rfl, by decide, rfl, .inl rfl, World.ownsRow_nil _ _ _ _, Nat.zero_le _, unAt_start _, Below.refl _ _⟩
  case round =>
    obtain ⟨k, V, N, acc, hk, rfl, rfl, hV, rfl, h0642, hown, hal, hat, hb⟩ := hrel
    have HA := Lib.hid hat; clear hat
    have HO := Lib.hid h0642; clear h0642
    by_cases hlt : k < s.size
    · go_wp2
      go_loopw [8, 9] (fun d j wx => ∃ jj : Nat, jj ≤ 64 ∧ j = .int .i64 jj ∧ d = .int .i64 (ixTo s[k] jj) ∧ Buf wx w.heap.size u4 acc ∧ Below w.heap.size w wx) (fun _ j _ => 64 - (intOf j).toNat)
      case atStart => exact ⟨0, Nat.zero_le _, rfl, rfl, hown, hb⟩
      case round =>
        obtain ⟨jj, hj, rfl, rfl, hownx, hbx⟩ := hrel
        have hbsx := hbx.size
        by_cases hlj : jj < 64
        · by_cases hc : (ltr jj).toNat = s[k].toNat
          · have c1 : (((ltr jj).toNat : Int) == (s[k].toNat : Int)) = true := by simp; omega
            have hx : ixTo s[k] (jj + 1) = jj := by rw [ixTo, if_pos hc]
            have HX := Lib.hid hx; clear hx hc
            go_wp2
            go_quiet ((go_at_call 27; exact Calls.quiet_of_same (sixtyN_quiet _ hlj _)))
            go_wp2
            go_roundw
            case rel => exact ⟨jj + 1, by omega, by go_num, int_eq HX.out.symm, hownx, ⟨hbx.os, hbx.tape, hbx.output, hbx.size, hbx.block⟩⟩
            case measure => simp [intOf]; omega
          · have c1 : (((ltr jj).toNat : Int) == (s[k].toNat : Int)) = false := by simp; omega
            have hx : ixTo s[k] (jj + 1) = ixTo s[k] jj := by rw [ixTo, if_neg hc]
            have HX := Lib.hid hx; clear hx hc
            go_wp2
            go_quiet ((go_at_call 27; exact Calls.quiet_of_same (sixtyN_quiet _ hlj _)))
            go_wp2
            go_roundw
            case rel => exact ⟨jj + 1, by omega, by go_num, int_eq HX.out.symm, hownx, ⟨hbx.os, hbx.tape, hbx.output, hbx.size, hbx.block⟩⟩
            case measure => simp [intOf]; omega
        · have hj64 : jj = 64 := by omega
          subst hj64
          rw [ixTo_ix]
          by_cases hc : ix s[k] < 0
          · have HC := Lib.hid hc
            go_wp2
            go_ret2
            exact ⟨Or.inr ⟨unAt_bad HA.out hlt HC.out, rfl⟩, hbx⟩
          · have hc : 0 ≤ ix s[k] := by omega
            have hix : ix s[k] < 64 := by rcases ix_cases s[k] with h | h <;> omega
            have HC := Lib.hid hc
            have h0642 := HO.out
            rcases h0642 with rfl | rfl | rfl | rfl
            · go_wp2
              go_roundw
              case rel => exact ⟨k + 1, V * 64 + (ix s[k]).toNat, 6, acc, by omega, by go_num, int_eq (by omega), by omega, rfl, .inr (.inl rfl), hownx, by omega, unAt_0 HA.out hlt HC.out, hbx⟩
              case measure => simp [intOf]; omega
            · go_wp2_with (at_builtin; refine wpList_append_own _ rfl (.tmp 39) (.tmp 45) 62 rfl w.heap.size 5 i0 _ 1 1 Tryd.underlying62 hi hz0 hz1 hz2 rfl (by decide) _ _ _ rfl (World.ownsRow.alloc hownx _) ⟨_, 0, none⟩ 1 1 [.int .u8 _] rfl rfl (new_cells _ #[_] _) (one_cell _) (by unfold maxLen; omega) (by omega) (by simp; omega) ?_)
              intro v' w1 hown' hg' _
              have hb1 : Below w.heap.size w w1 := (hbx.alloc hbsx _).grown hg' (by simp; omega) (fun j hj => (hownx.lt j hj).1)
              go_wp2
              go_roundw
              case rel => exact ⟨k + 1, (V * 64 + (ix s[k]).toNat) % 16, 4, acc ++ [UInt8.ofNat ((V * 64 + (ix s[k]).toNat) / 16)], by omega, by go_num, int_eq (by omega), by omega, rfl, .inr (.inr (.inl rfl)), Buf.cut hown' (by simp) (cells_byte _ ((V * 64 + (ix s[k]).toNat) / 16) _ _ (by omega) rfl), by simp; omega, unAt_s HA.out (by decide) hlt HC.out, hb1⟩
              case measure => simp [intOf]; omega
            · go_wp2_with (at_builtin; refine wpList_append_own _ rfl (.tmp 39) (.tmp 45) 62 rfl w.heap.size 5 i0 _ 1 1 Tryd.underlying62 hi hz0 hz1 hz2 rfl (by decide) _ _ _ rfl (World.ownsRow.alloc hownx _) ⟨_, 0, none⟩ 1 1 [.int .u8 _] rfl rfl (new_cells _ #[_] _) (one_cell _) (by unfold maxLen; omega) (by omega) (by simp; omega) ?_)
              intro v' w1 hown' hg' _
              have hb1 : Below w.heap.size w w1 := (hbx.alloc hbsx _).grown hg' (by simp; omega) (fun j hj => (hownx.lt j hj).1)
              go_wp2
              go_roundw
              case rel => exact ⟨k + 1, (V * 64 + (ix s[k]).toNat) % 4, 2, acc ++ [UInt8.ofNat ((V * 64 + (ix s[k]).toNat) / 4)], by omega, by go_num, int_eq (by omega), by omega, rfl, .inr (.inr (.inr rfl)), Buf.cut hown' (by simp) (cells_byte _ ((V * 64 + (ix s[k]).toNat) / 4) _ _ (by omega) rfl), by simp; omega, unAt_s HA.out (by decide) hlt HC.out, hb1⟩
              case measure => simp [intOf]; omega
            · go_wp2_with (at_builtin; refine wpList_append_own _ rfl (.tmp 39) (.tmp 45) 62 rfl w.heap.size 5 i0 _ 1 1 Tryd.underlying62 hi hz0 hz1 hz2 rfl (by decide) _ _ _ rfl (World.ownsRow.alloc hownx _) ⟨_, 0, none⟩ 1 1 [.int .u8 _] rfl rfl (new_cells _ #[_] _) (one_cell _) (by unfold maxLen; omega) (by omega) (by simp; omega) ?_)
              intro v' w1 hown' hg' _
              have hb1 : Below w.heap.size w w1 := (hbx.alloc hbsx _).grown hg' (by simp; omega) (fun j hj => (hownx.lt j hj).1)
              go_wp2
              go_roundw
              case rel => exact ⟨k + 1, (V * 64 + (ix s[k]).toNat) % 1, 0, acc ++ [UInt8.ofNat ((V * 64 + (ix s[k]).toNat) / 1)], by omega, by go_num, int_eq (by omega), by omega, rfl, .inl rfl, Buf.cut hown' (by simp) (cells_byte _ ((V * 64 + (ix s[k]).toNat) / 1) _ _ (by omega) rfl), by simp; omega, unAt_s HA.out (by decide) hlt HC.out, hb1⟩
              case measure => simp [intOf]; omega
    · have hke : k = s.size := by omega
      subst hke
      have hcv := hown.text
      have hbs := hb.size
      have hlen : (ByteArray.mk acc.toArray).size ≤ 46912496117759 := by show acc.length ≤ _; omega
      have hownd : Buf wr.drew w.heap.size u4 acc := hown
      go_wp2_with fail
      go_region_held3 (fun w' => (convert 62 9 u4).run Tryd.prog w' = .ok (.string ⟨acc.toArray⟩) w') (first | exact hcv | exact hownd.text | exact (hownd.below (by assumption)).text) (first | (go_at_call 14; refine (refB64_any _ hlen _).mono ?_; rintro e w2 ⟨rfl, hb2⟩))
      go_wp2
      go_ret2
      refine ⟨Or.inl ⟨acc, unAt_end HA.out, ?_⟩, hb.drew.trans (hb2.mono hbs)⟩
      exact ret_sb (by rw [Lib.toList_data, Bool.eq_iff_iff]; simp)
end Go.Proofs.YtlcpehmdhnakpaaDoor
