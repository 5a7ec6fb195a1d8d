/- The reference's Form by its loop. -/
import Derived.Test.YthinbheplcameaaPrs
import Derived.Test.YthinbheplcameaaRefUnquote
import Derived.Test.YthinbheplcameaaWords
namespace Go.Proofs.Ythinbheplcameaa
open Go.RowKit

theorem own_below_ {w w' : World} {B sz n : Nat} {e : TypeId} {v : Value} {xs : List Value} (h : w.ownsRow B e sz v n xs) (hb : Below w.heap.size w w') : w'.ownsRow B e sz v n xs :=
  World.ownsRow.kept (row := none) h ⟨hb.os, hb.tape, hb.output, hb.size, fun k hk _ => hb.block k hk⟩ (by
    rcases h.2 with ⟨rfl, _⟩ | ⟨g, cap, cur, rfl, _⟩
    · exact .inl rfl
    · exact .inr (by simp [Value.ownBlock]))
theorem own_ne {w : World} {B B' sz sz' n n' : Nat} {e e' : TypeId} {v v' : Value} {xs xs' : List Value} (h : w.ownsRow B e sz v n xs) (h' : w.ownsRow B' e' sz' v' n' xs') (hne : e ≠ e') : v.ownBlock = none ∨ v.ownBlock ≠ v'.ownBlock := by
  rcases h.2 with ⟨rfl, _⟩ | ⟨g, cap, cur, rfl, _, hg, _⟩
  · exact .inl rfl
  · rcases h'.2 with ⟨rfl, _⟩ | ⟨g', cap', cur', rfl, _, hg', _⟩
    · exact .inr (by simp [Value.ownBlock])
    · refine .inr ?_
      intro hh
      have hgg : g = g' := by simpa [Value.ownBlock] using hh
      subst hgg
      rw [hg] at hg'
      injection hg' with hg'
      injection hg' with _ ht
      exact hne ht
theorem own_cell {w : World} {B n : Nat} {e : TypeId} {v : Value} {xs : List Value} (h : w.ownsRow B e 1 v n xs) {g : Nat} (hg : v.ownBlock = some g) (k : Nat) (u : Value) (hk : xs[k]? = some u) : w.cell? ⟨g, k, none⟩ = some u := by
  have := h.cells hg k u hk
  rwa [Addr.add_lit, Nat.zero_add] at this
theorem splitL_ne (c : UInt8) (l : List UInt8) : splitL c l ≠ [] := by
  rw [splitL_at]; split <;> simp
theorem scells_at (l : List (List UInt8)) (k : Nat) (h : k < l.length) : (scells l)[k]? = some (.string ⟨l[k].toArray⟩) := by simp [scells, h]

def unqV (l : List UInt8) : List UInt8 := (unq l).getD []
def unqO (l : List UInt8) : Bool := (unq l).isSome
theorem refUnq_any (s : ByteArray) (hs : s.size ≤ 140737488351232) (w : World) :
    Calls Try.prog 24 #[.string s] w fun e w' => e = .returned (.tuple #[.string ⟨(unqV s.data.toList).toArray⟩, .bool (unqO s.data.toList)]) ∧ Below w.heap.size w w' :=
  (refUnquote_says s hs w).mono fun _ _ ⟨hd, hw⟩ => ⟨by
    rcases hd with ⟨o, h, he⟩ | ⟨h, he⟩
    · rw [he]; simp [unqV, unqO, h]
    · rw [he]; simp [unqV, unqO, h], hw⟩
theorem pairL_both {p : List UInt8} (h : unqO (p.take (atL 61 p)) = true) (h' : unqO (p.drop (atL 61 p + 1)) = true) : pairL p = some (unqV (p.take (atL 61 p)), unqV (p.drop (atL 61 p + 1))) := by
  unfold unqO at h h'
  obtain ⟨a, ha⟩ := Option.isSome_iff_exists.1 h
  obtain ⟨b, hb⟩ := Option.isSome_iff_exists.1 h'
  rw [pairL_some ha hb]; simp [unqV, ha, hb]
theorem pairL_not {p : List UInt8} (h : unqO (p.take (atL 61 p)) = false ∨ unqO (p.drop (atL 61 p + 1)) = false) : pairL p = none := by
  unfold unqO at h
  rcases h with h | h
  · exact pairL_key (by simpa using h)
  · exact pairL_val (by simpa using h)

/-- the parts that are not empty -/
def solid (l : List (List UInt8)) : List (List UInt8) := l.filter (fun p => !p.isEmpty)
theorem solid_skip {l : List (List UInt8)} {k : Nat} (h : k < l.length) (he : l[k] = []) : solid (l.take (k + 1)) = solid (l.take k) := by
  unfold solid; rw [List.take_succ_eq_append_getElem h, List.filter_append, he]; simp
theorem solid_hit {l : List (List UInt8)} {k : Nat} (h : k < l.length) (he : l[k] ≠ []) : solid (l.take (k + 1)) = solid (l.take k) ++ [l[k]] := by
  unfold solid; rw [List.take_succ_eq_append_getElem h, List.filter_append]; simp [he]
theorem solid_all (l : List UInt8) : solid ((splitL 38 l).take (splitL 38 l).length) = partsL l := by rw [List.take_length]; rfl
theorem solid_split (l : List (List UInt8)) (k : Nat) : solid l = solid (l.take k) ++ solid (l.drop k) := by
  unfold solid; rw [← List.filter_append, List.take_append_drop]
theorem form_bad {l : List UInt8} {k : Nat} (h : k < (splitL 38 l).length) (he : (splitL 38 l)[k] ≠ []) (hp : pairL (splitL 38 l)[k] = none) : pairsL (partsL l) = none := by
  have : partsL l = solid (splitL 38 l) := rfl
  rw [this, solid_split _ (k + 1), solid_hit h he]
  exact pairsL_app_none (pairsL_bad hp) _

set_option maxRecDepth 100000 in
set_option maxHeartbeats 1000000 in
theorem form_any (s : ByteArray) (w : World) :
    Calls Try.prog 26 #[.string s] w fun e w' => ∃ v, e = .returned (.tuple #[v, .int .i64 (parseE s.data.toList)]) ∧ PRow w' w.heap.size v (parseP s.data.toList) ∧ Below w.heap.size w w' := by
  obtain ⟨i0, hi, hz0, hz1, hz2⟩ := info_parts Try.infoPair
  have hsz : s.data.toList.length = s.size := rfl
  by_cases hs : 4096 < s.size
  · have hp := @parse_large s.data.toList
    rw [hsz] at hp
    have HP := Lib.hid (hp hs); clear hp
    go_enter Try.func26, Try.ntmps26
    go_wp2
    go_ret2
    exact ⟨.slice none 0 0, by rw [HP.out.1]; rfl, by rw [HP.out.2]; exact PRow.nil _ _, Below.refl _ _⟩
  · have hs' : s.size ≤ 4096 := by omega
    have hP0 := @parse_none s.data.toList
    have hPm := @parse_many s.data.toList
    have hPs := @parse_some s.data.toList
    unfold formL at hP0 hPm hPs
    rw [hsz] at hP0 hPm hPs
    have P0 := Lib.hid (hP0 hs'); have P1 := Lib.hid (fun ps => @hPm ps hs'); have P2 := Lib.hid (fun ps => @hPs ps hs'); clear hP0 hPm hPs
    have hsl := splitL_len 38 s.data.toList
    have hse := splitL_each 38 s.data.toList
    have hsn := splitL_ne 38 s.data.toList
    have hsa := solid_all s.data.toList
    have hsb := @form_bad s.data.toList
    have hcall := split_any s 38 (by omega)
    rw [hsz] at hsl hse
    generalize splitL 38 s.data.toList = L at *
    have HSN := Lib.hid hsn; have HSA := Lib.hid hsa; have HSB := Lib.hid (fun k => @hsb k); have HSE := Lib.hid hse; have HSZ := Lib.hid hsz; clear hsn hsa hsb hse hsz
    go_enter Try.func26, Try.ntmps26
    go_wp2_with fail
    refine (hcall _).mono ?_
    clear hcall
    rintro e w1 ⟨lv, rfl, hL, hb1⟩
    obtain ⟨g, cp, rfl⟩ : ∃ g cp, lv = .slice (some ⟨g, 0, none⟩) L.length cp := by
      rcases hL.2 with ⟨_, h0⟩ | ⟨g, cap, cur, rfl, _⟩
      · exact absurd (List.length_eq_zero_iff.1 h0) HSN.out
      · exact ⟨_, _, rfl⟩
    go_wp2
    go_loopw [4, 6] (fun v i wr => ∃ (k : Nat) (acc : PL), k ≤ L.length ∧ i = .int .i64 k ∧ PRow wr w.heap.size v acc ∧ acc.length ≤ k ∧ pairsL (solid (L.take k)) = some acc ∧ Strs wr w.heap.size (.slice (some ⟨g, 0, none⟩) L.length cp) L ∧ Below w.heap.size w wr) (fun _ i _ => L.length - (intOf i).toNat)
    case atStart => exact ⟨0, [], Nat.zero_le _, rfl, PRow.nil _ _, Nat.le_refl _, rfl, hL, hb1⟩
    case round =>
      obtain ⟨k, acc, hk, rfl, hown, hal, hat, hst, hb⟩ := hrel
      have HA := Lib.hid hat; clear hat
      have hbs := hb.size
      by_cases hlt : k < L.length
      · have hcell := own_cell hst (g := g) rfl k _ (scells_at L k hlt)
        have hpl := HSE.out L[k] (List.getElem_mem hlt)
        have hB := HSB.out k hlt
        have hskip := @solid_skip L k hlt
        have hhit := @solid_hit L k hlt
        generalize L[k] = p at *
        by_cases hpe : p = []
        · have HK := Lib.hid (hskip hpe); clear hskip hhit hB
          subst hpe
          go_wp2
          go_roundw
          case rel => exact ⟨k + 1, acc, by omega, by go_num, hown, by omega, by rw [HK.out]; exact HA.out, hst, hb⟩
          case measure => simp [intOf]; omega
        · have HHIT := Lib.hid (hhit hpe); have HB := Lib.hid (hB hpe); have HPE := Lib.hid hpe
          have hbe : (p == []) = false := by simpa using hpe
          clear hskip hhit hB
          have hat := at_any (str p) 61 (by unfold maxLen; rw [str_size]; omega)
          rw [str_list] at hat
          have hx := atL_take 61 p
          have hy := atL_drop 61 p
          have hle := atL_le 61 p
          have u1 := refUnq_any ((str p).extract 0 (atL 61 p)) (by rw [ext_pre]; show (p.take (atL 61 p)).length ≤ _; omega)
          have e1 : ((str p).extract 0 (atL 61 p)).data.toList = p.take (atL 61 p) := by rw [ext_pre]
          rw [e1] at u1
          have hpb := @pairL_both p
          have hpn := @pairL_not p
          have PB := Lib.hid hpb; have PN := Lib.hid hpn; clear hpb hpn e1
          obtain ⟨V, hV, u2⟩ : ∃ V : ByteArray, V = (if atL 61 p < p.length then (str p).extract (atL 61 p + 1) p.length else ⟨#[]⟩) ∧ ∀ w, Calls Try.prog 24 #[.string V] w fun e w' => e = .returned (.tuple #[.string ⟨(unqV (p.drop (atL 61 p + 1))).toArray⟩, .bool (unqO (p.drop (atL 61 p + 1)))]) ∧ Below w.heap.size w w' := by
            refine ⟨_, rfl, fun w => ?_⟩
            have := refUnq_any (str (p.drop (atL 61 p + 1))) (by rw [str_size]; omega) w
            rw [str_list] at this
            split
            · have e2 : (str p).extract (atL 61 p + 1) p.length = str (p.drop (atL 61 p + 1)) := ext_suf (str p) (atL 61 p + 1)
              rw [e2]; exact this
            · rename_i hn
              have e2 : p.drop (atL 61 p + 1) = [] := List.drop_eq_nil_of_le (by omega)
              rw [e2] at this ⊢; exact this
          generalize unqV (p.take (atL 61 p)) = a at *
          generalize unqV (p.drop (atL 61 p + 1)) = b at *
          generalize unqO (p.take (atL 61 p)) = oa at *
          generalize unqO (p.drop (atL 61 p + 1)) = ob at *
          clear hx hy
          by_cases hj : atL 61 p < p.length
          all_goals
            first | rw [if_pos hj] at hV | rw [if_neg hj] at hV
            subst hV
            go_wp2_with (go_at_call 44; refine (hat _).mono ?_; rintro e w' ⟨rfl, rfl⟩)
            refine (u1 _).mono ?_
            rintro e w2 ⟨rfl, hb2⟩
            go_wp2_with fail
            refine (u2 _).mono ?_
            rintro e w3 ⟨rfl, hb3⟩
            have hb23 := hb2.chain hb3
            have hown3 := own_below_ hown hb23
            have hst3 := own_below_ hst hb23
            have hb03 := hb.chain hb23
            have hbs3 := hb03.size
            clear hat u1 u2 hcell hown hst hb2 hb3
            cases oa
            · go_wp2
              go_ret2
              have HR := P0.out (HB.out (PN.out (by simp)))
              exact ⟨.slice none 0 0, by rw [HR.1]; rfl, by rw [HR.2]; exact PRow.nil _ _, hb03⟩
            · cases ob
              · go_wp2
                go_ret2
                have HR := P0.out (HB.out (PN.out (by simp)))
                exact ⟨.slice none 0 0, by rw [HR.1]; rfl, by rw [HR.2]; exact PRow.nil _ _, hb03⟩
              · have HP := Lib.hid (PB.out (by simp) (by simp))
                go_wp2_with (at_builtin; refine wpList_append_own _ rfl (.tmp 69) (.tmp 73) 33 rfl w.heap.size 38 i0 _ 2 32 Try.underlying33 hi hz0 hz1 hz2 rfl (by decide) _ _ _ rfl (World.ownsRow.alloc hown3 _) ⟨_, 0, none⟩ 1 1 [.string ⟨a.toArray⟩, .string ⟨b.toArray⟩] rfl rfl (new_cells _ #[_, _] _) (pair_cells _ _) (by unfold maxLen; omega) (by omega) (by simp; omega) ?_)
                intro v' w4 hown' hg' _
                have hb4 : Below w.heap.size w w4 := (hb03.alloc hbs3 _).grown hg' (by simp; omega) (fun j hj => (hown3.lt j hj).1)
                have hst4 : Strs w4 w.heap.size (.slice (some ⟨g, 0, none⟩) L.length cp) L := World.ownsRow.kept (World.ownsRow.alloc hst3 _) hg' (own_ne hst3 hown3 (by decide))
                go_wp2
                go_roundw
                case rel => exact ⟨k + 1, acc ++ [(a, b)], by omega, by go_num, PRow.cut hown' (by simp) (by rw [pcells_snoc]), by simp; omega, by rw [HHIT.out]; exact pairsL_snoc HA.out HP.out, hst4, hb4⟩
                case measure => simp [intOf]; omega
      · have hke : k = L.length := by omega
        subst hke
        have hall := HA.out
        rw [HSA.out] at hall
        obtain ⟨A, cq, rfl⟩ := prow_form hown
        by_cases h64 : 64 < acc.length
        · have HR := Lib.hid (P1.out _ hall h64); clear hall
          go_wp2
          go_ret2
          exact ⟨.slice none 0 0, by rw [HR.out.1]; rfl, by rw [HR.out.2]; exact PRow.nil _ _, hb⟩
        · have HR := Lib.hid (P2.out _ hall (by omega)); clear hall
          go_wp2
          go_ret2
          exact ⟨.slice A acc.length cq, by rw [HR.out.1]; rfl, by rw [HR.out.2]; exact hown, hb⟩
end Go.Proofs.Ythinbheplcameaa
