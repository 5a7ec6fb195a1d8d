/- uri.Parse. -/
import Derived.Test.YtdogcnlcefklkaaUriLeaf
import Derived.Test.YtdogcnlcefklkaaCut
import Derived.Test.YtdogcnlcefklkaaShelf
import Derived.Laws.StructEq
namespace Go.Proofs.Ytdogcnlcefklkaa
open Go.RowKit

theorem Try.infoUri : (Try.prog.info? 23).map (fun i => (i.zero, i.size, i.bytes)) = some (some (.agg #[.string ⟨#[]⟩, .string ⟨#[]⟩, .string ⟨#[]⟩, .string ⟨#[]⟩]), 4, 64) := by kernel_rfl
/-- the library's own variable holds some number -/
def VarIn (w : World) : Prop := ∃ m, w.cell? ⟨0, 0, none⟩ = some (.int .i64 m)
theorem VarIn.lt {w : World} (h : VarIn w) : 0 < w.heap.size := by
  obtain ⟨m, h⟩ := h
  rcases Nat.eq_zero_or_pos w.heap.size with h0 | h0
  · exfalso
    have : w.heap[0]? = none := Array.getElem?_eq_none (by omega)
    simp [World.cell?, this] at h
  · exact h0
theorem VarIn.below {w w' : World} (h : VarIn w) (hb : Below w.heap.size w w') : VarIn w' := by
  have h0 := h.lt
  obtain ⟨m, h⟩ := h
  exact ⟨m, (hb.cell (p := ⟨0, 0, none⟩) h0).trans h⟩
def uval (q : Quad) : Value := .agg #[.string (str q.1), .string (str q.2.1), .string (str q.2.2.1), .string (str q.2.2.2)]
def uriSays (l : List UInt8) : Ending := .returned (.tuple #[uval (uriV l), .int .i64 (uriE l)])

/-- a world in which draws alone have been made -/
def Drawn (w w' : World) : Prop := w'.heap.size = w.heap.size ∧ Below w.heap.size w w'
theorem Drawn.of (w : World) (n : Nat) : Drawn w (w.drewN n) := ⟨rfl, belowDrewN (Below.refl _ _) n⟩
theorem Drawn.trans {w w' w'' : World} (h : Drawn w w') (h' : Drawn w' w'') : Drawn w w'' := ⟨h'.1.trans h.1, h.2.chain h'.2⟩
theorem cutFront_any (S : ByteArray) (hs : S.size ≤ maxLen) (w : World) (o : Obj) :
    Calls Try.prog 16 #[.string S, .string ⟨#[63]⟩] (w.alloc o) fun e w' => (∃ f, e = .returned (.tuple #[.string (str (frontL S.data.toList)), .string (str (queryL S.data.toList)), .bool f])) ∧ ∃ w1, w' = w1.alloc o ∧ Drawn w w1 :=
  (cut1_any S 63 hs _).mono fun _ _ ⟨he, n, hw⟩ => ⟨⟨_, he⟩, w.drewN n, hw, Drawn.of w n⟩
theorem cutScheme_any (S : ByteArray) (hs : S.size ≤ 4096) (w : World) (o : Obj) (hv : VarIn w) :
    Calls Try.prog 16 #[.string S, .string ⟨#[58, 47, 47]⟩] (w.alloc o) fun e w' => e = .returned (.tuple #[.string (str (Lib.cut S.data.toList [58, 47, 47]).1), .string (str (Lib.cut S.data.toList [58, 47, 47]).2.1), .bool (Lib.cut S.data.toList [58, 47, 47]).2.2]) ∧
      ∃ w1, w' = w1.alloc o ∧ Drawn w w1 := by
  obtain ⟨m, hm⟩ := hv.below ((Below.refl w.heap.size w).alloc (Nat.le_refl _) o)
  exact (Try.strings_Cut S ⟨#[58, 47, 47]⟩ m _ (by omega) hm).mono fun _ _ ⟨he, n, hw⟩ => ⟨he, w.drewN n, hw, Drawn.of w n⟩

set_option maxRecDepth 100000 in
set_option maxHeartbeats 2000000 in
theorem parse_any (s : ByteArray) (hs : s.size ≤ maxLen) (w : World) (hv : VarIn w) :
    Calls Try.prog 8 #[.string s] w fun e w' => e = uriSays s.data.toList ∧ Below w.heap.size w w' := by
  have hs' := hs
  unfold maxLen at hs
  have hsz : s.data.toList.length = s.size := rfl
  by_cases hl : 4096 < s.size
  · obtain ⟨hE, hV⟩ := uri_large (l := s.data.toList) hl
    have HE := Lib.hid hE; have HV := Lib.hid hV; clear hE hV
    go_enter Try.func8, Try.ntmps8
    go_wp2
    refine bodyPost_ret (v := .tuple #[uval noU, .int .i64 3]) (by simp [results, Try.results8, go_sem, uval, noU, str]) rfl ⟨?_, ?_⟩
    · unfold uriSays; rw [HE.out, HV.out]
    · exact (Below.refl _ _).alloc (Nat.le_refl _) _
  have hl4 : s.data.toList.length ≤ 4096 := by omega
  have hbadP : uriL s.data.toList = none → Ending.returned (.tuple #[uval noU, .int .i64 2]) = uriSays s.data.toList := fun h => by
    unfold uriSays; rw [(uri_bad hl4 h).1, (uri_bad hl4 h).2]
  have hgoodP : ∀ q, uriL s.data.toList = some q → Ending.returned (.tuple #[uval q, .int .i64 0]) = uriSays s.data.toList := fun q h => by
    unfold uriSays; rw [(uri_good hl4 h).1, (uri_good hl4 h).2]
  have hall := allowed_any s hs'
  cases hok : okL s.data.toList with
  | false =>
    rw [hok] at hall
    have HB := Lib.hid (hbadP (uri_char hok)); clear hbadP hgoodP hok
    go_enter Try.func8, Try.ntmps8
    go_wp2_with fail
    refine (hall _).mono ?_
    rintro e w' ⟨rfl, rfl⟩
    go_wp2
    refine bodyPost_ret (v := .tuple #[uval noU, .int .i64 2]) (by simp [results, Try.results8, go_sem, uval, noU, str]) rfl ⟨HB.out, ?_⟩
    exact (Below.refl _ _).alloc (Nat.le_refl _) _
  | true =>
    rw [hok] at hall
    have hcutc := cutScheme_any s (by omega)
    have hother := @uri_other s.data.toList
    have hh := fun a r => @uri_http s.data.toList a r hok
    have hhs := fun a r => @uri_https s.data.toList a r hok
    have hfound := @cut_found s.data.toList [58, 47, 47]
    obtain ⟨a, r, f, hcr⟩ : ∃ a r f, Lib.cut s.data.toList [58, 47, 47] = (a, r, f) := ⟨_, _, _, rfl⟩
    rw [hcr] at hcutc hfound
    dsimp only at hcutc hfound
    cases f with
    | false =>
      have HB := Lib.hid (hbadP (hother hcr (Or.inl rfl))); clear hbadP hgoodP hok hcr hh hhs hother hfound
      go_enter Try.func8, Try.ntmps8
      go_wp2_with fail
      refine (hall _).mono ?_
      rintro e w' ⟨rfl, rfl⟩
      go_wp2_with fail
      refine (hcutc w _ hv).mono ?_
      rintro e w' ⟨rfl, w1, rfl, hd1⟩
      rw [← hd1.1]
      go_wp2
      refine bodyPost_ret (v := .tuple #[uval noU, .int .i64 2]) (by simp [results, Try.results8, go_sem, uval, noU, str]) rfl ⟨HB.out, ?_⟩
      exact hd1.2.alloc (by rw [hd1.1]; exact Nat.le_refl _) _
    | true =>
      have hlen := congrArg List.length (hfound rfl)
      rw [List.length_append, List.length_append] at hlen
      have hr : r.length ≤ 4096 := by omega
      have ha : a.length ≤ 4096 := by omega
      by_cases hsch : a = httpL ∨ a = httpsL
      · have hu : uriL s.data.toList = restU a r := by
          rcases hsch with h | h
          · rw [h]; exact hh a r hcr h
          · rw [h]; exact hhs a r hcr h
        have hcutr := cutFront_any (str r) (by rw [str_size]; unfold maxLen; omega)
        rw [str_list] at hcutr
        have hF : (frontL r).length ≤ 4096 := by unfold frontL; rw [List.length_take]; omega
        have hend := hostEnd_any (str (frontL r)) (by rw [str_size]; unfold maxLen; omega)
        rw [str_list] at hend
        have hrn := @restU_none r a
        have hrs := @restU_some r a
        rw [← hu] at hrn hrs
        have hle := endL_le (frontL r)
        have H2 := Lib.hid hbadP; have H3 := Lib.hid hgoodP; have H4 := Lib.hid hrn; have H5 := Lib.hid hrs; clear hbadP hgoodP hrn hrs hok hcr hh hhs hother hfound hu
        have h12 : (!a == [104, 116, 116, 112]) = false ∨ ((!a == [104, 116, 116, 112]) = true ∧ (!a == [104, 116, 116, 112, 115]) = false) := by
          rcases hsch with h | h
          · left; rw [h]; rfl
          · right; rw [h]; exact ⟨rfl, rfl⟩
        clear hsch
        generalize frontL r = F at *
        generalize queryL r = Q at *
        obtain ⟨S, rfl⟩ : ∃ S : ByteArray, F = S.data.toList := ⟨str F, rfl⟩
        have heta : str S.data.toList = S := (str_eta S).symm
        rw [heta] at hcutr hend
        obtain ⟨k, hk⟩ : ∃ k, endL S.data.toList = k := ⟨_, rfl⟩
        rw [hk] at hend hle
        have hFs : S.data.toList.length = S.size := rfl
        rw [hFs] at hF hle
        have HK := Lib.hid hk; clear hk hFs heta
        rcases h12 with h1 | ⟨h1, h2⟩
        all_goals
          by_cases hk0 : k = 0
          · have HB := Lib.hid (H2.out (H4.out (Or.inl (HK.out.trans hk0)))); clear H2 H3 H4 H5 HK
            subst hk0
            go_enter Try.func8, Try.ntmps8
            go_wp2_with fail
            refine (hall _).mono ?_
            rintro e w' ⟨rfl, rfl⟩
            go_wp2_with fail
            refine (hcutc w _ hv).mono ?_
            rintro e w' ⟨rfl, w1, rfl, hd1⟩
            rw [← hd1.1]
            go_wp2_with fail
            refine (hcutr w1 _).mono ?_
            rintro e w' ⟨⟨f, rfl⟩, w2, rfl, hd2⟩
            rw [← hd2.1]
            go_wp2_with fail
            refine (hend _).mono ?_
            rintro e w' ⟨rfl, rfl⟩
            go_wp2
            refine bodyPost_ret (v := .tuple #[uval noU, .int .i64 2]) (by simp [results, Try.results8, go_sem, uval, noU, str]) rfl ⟨HB.out, ?_⟩
            exact (hd1.trans hd2).2.alloc (by rw [(hd1.trans hd2).1]; exact Nat.le_refl _) _
          · have hk1 : ((k : Int) == 0) = false := by simp; omega
            by_cases hlt : k < S.size
            · have hk2 : decide ((k : Int) < (S.size : Int)) = true := by simp; omega
              by_cases h47 : S[k] = 47
              · have h48 : ((S[k].toNat : Int) != 47) = false := by rw [h47]; rfl
                have HB := Lib.hid (H3.out _ (H5.out (fun h => hk0 (HK.out.symm.trans h)) (Or.inr (by rw [HK.out]; exact ⟨hlt, h47⟩)))); rw [HK.out] at HB; clear H2 H3 H4 H5 HK
                go_enter Try.func8, Try.ntmps8
                go_wp2_with fail
                refine (hall _).mono ?_
                rintro e w' ⟨rfl, rfl⟩
                go_wp2_with fail
                refine (hcutc w _ hv).mono ?_
                rintro e w' ⟨rfl, w1, rfl, hd1⟩
                rw [← hd1.1]
                go_wp2_with fail
                refine (hcutr w1 _).mono ?_
                rintro e w' ⟨⟨f, rfl⟩, w2, rfl, hd2⟩
                rw [← hd2.1]
                go_wp2_with fail
                refine (hend _).mono ?_
                rintro e w' ⟨rfl, rfl⟩
                go_wp2
                go_region
                go_wp2
                refine bodyPost_ret (v := .tuple #[.agg #[.string (str a), .string (S.extract 0 k), .string (S.extract k S.size), .string (str Q)], .int .i64 0]) (by simp [results, Try.results8, go_sem, str]) rfl ⟨?_, ?_⟩
                · rw [← HB.out]; unfold uval; rw [ext_pre, ext_suf]
                · exact ((hd1.trans hd2).2.alloc (by rw [(hd1.trans hd2).1]; exact Nat.le_refl _) _).drew
              · have h48 : ((S[k].toNat : Int) != 47) = true := by
                  have : S[k].toNat ≠ 47 := fun e => h47 (UInt8.toNat_inj.1 e)
                  simp; omega
                have HB := Lib.hid (H2.out (H4.out (Or.inr (by rw [HK.out]; exact ⟨hlt, h47⟩)))); clear H2 H3 H4 H5 HK h47
                go_enter Try.func8, Try.ntmps8
                go_wp2_with fail
                refine (hall _).mono ?_
                rintro e w' ⟨rfl, rfl⟩
                go_wp2_with fail
                refine (hcutc w _ hv).mono ?_
                rintro e w' ⟨rfl, w1, rfl, hd1⟩
                rw [← hd1.1]
                go_wp2_with fail
                refine (hcutr w1 _).mono ?_
                rintro e w' ⟨⟨f, rfl⟩, w2, rfl, hd2⟩
                rw [← hd2.1]
                go_wp2_with fail
                refine (hend _).mono ?_
                rintro e w' ⟨rfl, rfl⟩
                go_wp2
                refine bodyPost_ret (v := .tuple #[uval noU, .int .i64 2]) (by simp [results, Try.results8, go_sem, uval, noU, str]) rfl ⟨HB.out, ?_⟩
                exact (hd1.trans hd2).2.alloc (by rw [(hd1.trans hd2).1]; exact Nat.le_refl _) _
            · have hk2 : decide ((k : Int) < (S.size : Int)) = false := by simp; omega
              have HB := Lib.hid (H3.out _ (H5.out (fun h => hk0 (HK.out.symm.trans h)) (Or.inl (HK.out.trans (by show k = S.size; omega))))); rw [HK.out] at HB; clear H2 H3 H4 H5 HK
              go_enter Try.func8, Try.ntmps8
              go_wp2_with fail
              refine (hall _).mono ?_
              rintro e w' ⟨rfl, rfl⟩
              go_wp2_with fail
              refine (hcutc w _ hv).mono ?_
              rintro e w' ⟨rfl, w1, rfl, hd1⟩
              rw [← hd1.1]
              go_wp2_with fail
              refine (hcutr w1 _).mono ?_
              rintro e w' ⟨⟨f, rfl⟩, w2, rfl, hd2⟩
              rw [← hd2.1]
              go_wp2_with fail
              refine (hend _).mono ?_
              rintro e w' ⟨rfl, rfl⟩
              go_wp2
              go_region
              go_wp2
              refine bodyPost_ret (v := .tuple #[.agg #[.string (str a), .string (S.extract 0 k), .string (S.extract k S.size), .string (str Q)], .int .i64 0]) (by simp [results, Try.results8, go_sem, str]) rfl ⟨?_, ?_⟩
              · rw [← HB.out]; unfold uval; rw [ext_pre, ext_suf]
              · exact ((hd1.trans hd2).2.alloc (by rw [(hd1.trans hd2).1]; exact Nat.le_refl _) _).drew
      · have hsch' : a ≠ httpL ∧ a ≠ httpsL := ⟨fun h => hsch (Or.inl h), fun h => hsch (Or.inr h)⟩
        have h1 : (!a == [104, 116, 116, 112]) = true := by have := hsch'.1; unfold httpL at this; simpa using this
        have h2 : (!a == [104, 116, 116, 112, 115]) = true := by have := hsch'.2; unfold httpsL at this; simpa using this
        have HB := Lib.hid (hbadP (hother hcr (Or.inr hsch'))); clear hbadP hgoodP hok hcr hh hhs hother hfound hsch hsch'
        go_enter Try.func8, Try.ntmps8
        go_wp2_with fail
        refine (hall _).mono ?_
        rintro e w' ⟨rfl, rfl⟩
        go_wp2_with fail
        refine (hcutc w _ hv).mono ?_
        rintro e w' ⟨rfl, w1, rfl, hd1⟩
        rw [← hd1.1]
        go_wp2
        refine bodyPost_ret (v := .tuple #[uval noU, .int .i64 2]) (by simp [results, Try.results8, go_sem, uval, noU, str]) rfl ⟨HB.out, ?_⟩
        exact hd1.2.alloc (by rw [hd1.1]; exact Nat.le_refl _) _
end Go.Proofs.Ytdogcnlcefklkaa
