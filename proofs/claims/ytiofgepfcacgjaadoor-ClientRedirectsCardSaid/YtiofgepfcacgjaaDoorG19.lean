/- Texts merged by program, in build order: CliSmall, CliGoodC. -/
import Derived.Test.YtiofgepfcacgjaaDoorG12
import Derived.Test.YtiofgepfcacgjaaDoorG13
import Derived.Test.YtiofgepfcacgjaaDoorG18
import Derived.Test.YtiofgepfcacgjaaDoorG03
set_option linter.unusedVariables false
set_option linter.unusedSimpArgs false
namespace Go.Proofs.YtiofgepfcacgjaaDoor
open Go.RowKit Go.Shelf
set_option linter.unusedVariables false
set_option linter.unusedSimpArgs false

theorem Var0.var {w : World} (h : Var0 w) : VarIn w := h
theorem ba_size (s : List UInt8) : (ByteArray.mk s.toArray).size = s.length := by show s.toArray.size = _; simp
theorem allB_texts (f : List UInt8 → Bool) (l : List (List UInt8)) : allB l.length (fun k => f (l.getD k [])) = l.all f := by
  rw [Bool.eq_iff_iff, allB_iff, List.all_eq_true]
  constructor
  · intro h x hx
    obtain ⟨k, hk, rfl⟩ := List.mem_iff_getElem.1 hx
    have := h k hk
    simpa [List.getD_eq_getElem?_getD, hk] using this
  · intro h k hk
    simp only [List.getD_eq_getElem?_getD, List.getElem?_eq_getElem hk, Option.getD_some]
    exact h _ (List.getElem_mem hk)
set_option maxRecDepth 100000 in
theorem brief_any (s : List UInt8) (hs : s.length ≤ 200000000000000) (w : World) : Calls Tryd.prog 40 #[.string ⟨s.toArray⟩] w fun e w' => e = .returned (.bool (decide (s.length ≤ 256))) ∧ Below w.heap.size w w' := by
  obtain ⟨B, hB⟩ : ∃ B : ByteArray, (⟨s.toArray⟩ : ByteArray) = B := ⟨_, rfl⟩
  have hz : B.size = s.length := by rw [← hB]; exact ba_size s
  rw [hB, ← hz] at *
  go_enter Tryd.func40, Tryd.ntmps40
  go_wp2
  go_ret
  exact ⟨congrArg (fun b => Ending.returned (.bool b)) (decide_eq_decide.2 (by omega)), by first | exact Below.refl _ _ | exact (Below.refl _ _).alloc (Nat.le_refl _) _⟩
set_option maxRecDepth 100000 in
theorem short_any (s : List UInt8) (hs : s.length ≤ 200000000000000) (w : World) : Calls Tryd.prog 43 #[.string ⟨s.toArray⟩] w fun e w' => e = .returned (.bool (shortP s)) ∧ Below w.heap.size w w' := by
  have hb := brief_any s hs w
  by_cases h0 : s = []
  · subst h0
    go_enter Tryd.func43, Tryd.ntmps43
    go_wp2
    go_ret
    exact ⟨by rfl, Below.refl _ _⟩
  · have h1 : shortP s = decide (s.length ≤ 256) := by unfold shortP; simp [h0]
    rw [h1]
    have ht : (!s.isEmpty) = true := by simpa using h0
    have ht2 : (!s == []) = true := by simpa using h0
    generalize decide (s.length ≤ 256) = b at *
    have HB := Lib.hid hb
    clear hb h1 hs h0
    go_enter Tryd.func43, Tryd.ntmps43
    go_wp2_with fail
    refine HB.out.mono ?_
    rintro e w1 ⟨rfl, hb1⟩
    have HB1 := Lib.hid hb1
    clear hb1
    dsimp only
    go_wp2
    go_ret
    exact ⟨rfl, HB1.out⟩
set_option maxRecDepth 100000 in
theorem full_any (A : Option Addr) (c : Nat) (l : List (List UInt8)) (hl : l.length ≤ 100) (hz : ∀ s ∈ l, s.length ≤ 200000000000000) (w : World) (hrd : RdT w (.slice A l.length c) l) :
    Calls Tryd.prog 21 #[.slice A l.length c] w fun e w' => e = .returned (.bool (l.all shortP)) ∧ Below w.heap.size w w' := by
  have h := textAll_any A c l (by omega) 43 (enters_of Tryd.func43 (by kernel_rfl) rfl) (fun k => shortP (l.getD k [])) w hrd (fun k hk W hb => by
    have := short_any l[k] (hz _ (List.getElem_mem hk)) W
    simp only [List.getD_eq_getElem?_getD, List.getElem?_eq_getElem hk, Option.getD_some]
    exact this)
  rw [allB_texts] at h
  generalize l.all shortP = b at *
  generalize l.length = n at *
  have H := Lib.hid h
  clear h hz hrd hl
  go_enter Tryd.func21, Tryd.ntmps21
  go_wp2_with fail
  refine H.out.mono ?_
  rintro e w1 ⟨rfl, hb1⟩
  have HB1 := Lib.hid hb1
  clear hb1
  dsimp only
  go_wp2
  go_ret
  exact ⟨rfl, HB1.out⟩
set_option maxRecDepth 100000 in
set_option maxHeartbeats 2000000 in
theorem isURI_any (s : List UInt8) (hs : s.length ≤ 200000000000000) (w : World) (hv : Var0 w) : Calls Tryd.prog 47 #[.string ⟨s.toArray⟩] w fun e w' => e = .returned (.bool (addrP s)) ∧ Below w.heap.size w w' := by
  have hp := parse_any ⟨s.toArray⟩ (by rw [ba_size]; unfold maxLen; omega) w hv.var
  have hsl : (⟨s.toArray⟩ : ByteArray).data.toList = s := by simp
  rw [hsl] at hp
  unfold uriSays uval at hp
  obtain ⟨V0, h0⟩ : ∃ B, str (uriV s).1 = B := ⟨_, rfl⟩
  obtain ⟨V1, h1⟩ : ∃ B, str (uriV s).2.1 = B := ⟨_, rfl⟩
  obtain ⟨V2, h2⟩ : ∃ B, str (uriV s).2.2.1 = B := ⟨_, rfl⟩
  obtain ⟨V3, h3⟩ : ∃ B, str (uriV s).2.2.2 = B := ⟨_, rfl⟩
  rw [h0, h1, h2, h3] at hp
  clear h0 h1 h2 h3 hsl
  have hb := fun W => brief_any s hs W
  unfold addrP
  obtain ⟨E, hE⟩ : ∃ E, uriE s = E := ⟨_, rfl⟩
  rw [hE] at hp ⊢
  generalize decide (s.length ≤ 256) = b at *
  have HP := Lib.hid hp; have HB := Lib.hid hb
  clear hp hb hs hE hv
  by_cases he : E = 0
  · subst he
    go_enter Tryd.func47, Tryd.ntmps47
    go_wp2_with fail
    refine HP.out.mono ?_
    rintro e w1 ⟨rfl, hb1⟩
    have HB1 := Lib.hid hb1
    clear hb1
    dsimp only
    go_wp2_with fail
    refine (HB.out _).mono ?_
    rintro e w2 ⟨rfl, hb2⟩
    have HB2 := Lib.hid hb2
    clear hb2
    dsimp only
    go_wp2
    go_ret
    exact ⟨by simp, (HB1.out.alloc HB1.out.size _).chain HB2.out⟩
  · have he2 : (E == 0) = false := by simpa using he
    go_enter Tryd.func47, Tryd.ntmps47
    go_wp2_with fail
    refine HP.out.mono ?_
    rintro e w1 ⟨rfl, hb1⟩
    have HB1 := Lib.hid hb1
    clear hb1
    dsimp only
    go_wp2
    go_ret
    exact ⟨by simp [he], HB1.out.alloc HB1.out.size _⟩
/-- what an issuer is -/
def issuerP (s : List UInt8) : Bool := decide (uriE s = 0) && decide (s.length ≤ 256) && decide (printL ((uriV s).1, (uriV s).2.1, [], []) = s)
theorem issuer_iff (s : List UInt8) (hs : s ≠ [] ∨ True) : issuerP s = true ↔ uriE s = 0 ∧ (uriV s).2.2.1 = [] ∧ s = (uriV s).1 ++ [58, 47, 47] ++ (uriV s).2.1 ∧ shortP s = true := by
  have hpr : printL ((uriV s).1, (uriV s).2.1, [], []) = (uriV s).1 ++ [58, 47, 47] ++ (uriV s).2.1 := by unfold printL; simp
  unfold issuerP shortP
  rw [hpr]
  simp only [Bool.and_eq_true, decide_eq_true_eq]
  constructor
  · rintro ⟨⟨h1, h2⟩, h3⟩
    have hne : s ≠ [] := fun e => by
      rw [e] at h3
      have := congrArg List.length h3
      simp at this
    refine ⟨h1, ?_, h3.symm, hne, h2⟩
    have h4 := uri_again h1
    have h5 : printL (uriV s) = (uriV s).1 ++ [58, 47, 47] ++ (uriV s).2.1 ++ (uriV s).2.2.1 ++ (if (uriV s).2.2.2 = [] then [] else 63 :: (uriV s).2.2.2) := rfl
    have h6 := congrArg List.length h3
    rcases h4 with h4 | h4
    · rw [h5] at h4
      have := congrArg List.length h4
      simp only [List.length_append] at this h6
      exact List.eq_nil_of_length_eq_zero (by omega)
    · rw [h5] at h4
      have := congrArg List.length h4
      simp only [List.length_append, List.length_cons, List.length_nil] at this h6
      omega
  · rintro ⟨h1, h2, h3, h4, h5⟩
    exact ⟨⟨h1, h5⟩, h3.symm⟩
set_option maxRecDepth 100000 in
set_option maxHeartbeats 2000000 in
theorem isIssuer_any (s : List UInt8) (hs : s.length ≤ 200000000000000) (w : World) (hv : Var0 w) : Calls Tryd.prog 20 #[.string ⟨s.toArray⟩] w fun e w' => e = .returned (.bool (issuerP s)) ∧ Below w.heap.size w w' := by
  have hp := parse_any ⟨s.toArray⟩ (by rw [ba_size]; unfold maxLen; omega) w hv.var
  have hsl : (⟨s.toArray⟩ : ByteArray).data.toList = s := by simp
  rw [hsl] at hp
  unfold uriSays uval at hp
  have hul := uri_len s
  have hpr := fun W => print_any ((uriV s).1, (uriV s).2.1, [], []) ⟨by show (uriV s).1.length ≤ _; omega, by show (uriV s).2.1.length ≤ _; omega, by simp, by simp⟩ W
  unfold uval at hpr
  dsimp only at hpr
  obtain ⟨V0, h0⟩ : ∃ B, str (uriV s).1 = B := ⟨_, rfl⟩
  obtain ⟨V1, h1⟩ : ∃ B, str (uriV s).2.1 = B := ⟨_, rfl⟩
  obtain ⟨V2, h2⟩ : ∃ B, str (uriV s).2.2.1 = B := ⟨_, rfl⟩
  obtain ⟨V3, h3⟩ : ∃ B, str (uriV s).2.2.2 = B := ⟨_, rfl⟩
  have hn0 : str [] = ⟨#[]⟩ := rfl
  rw [h0, h1, h2, h3] at hp
  rw [h0, h1, hn0] at hpr
  clear h0 h1 h2 h3 hsl hul
  have hb := fun W => brief_any s hs W
  unfold issuerP
  obtain ⟨R, hR⟩ : ∃ R, printL ((uriV s).1, (uriV s).2.1, [], []) = R := ⟨_, rfl⟩
  obtain ⟨E, hE⟩ : ∃ E, uriE s = E := ⟨_, rfl⟩
  rw [hE] at hp ⊢
  rw [hR] at hpr ⊢
  obtain ⟨RB, hRB⟩ : ∃ B, str R = B := ⟨_, rfl⟩
  obtain ⟨SB, hSB⟩ : ∃ B : ByteArray, (⟨s.toArray⟩ : ByteArray) = B := ⟨_, rfl⟩
  have hq : (RB.toList == SB.toList) = decide (R = s) := by
    rw [← hRB, ← hSB]
    rw [ByteArray.toList_eq, ByteArray.toList_eq, Bool.eq_iff_iff]
    unfold str
    simp
  rw [hRB] at hpr
  rw [hSB] at hp ⊢
  simp only [hSB] at hb
  generalize decide (s.length ≤ 256) = b at *
  rw [← hq]
  have HP := Lib.hid hp; have HB := Lib.hid hb; have HPR := Lib.hid hpr
  clear hp hb hs hE hv hpr hR hRB hSB hq hn0
  by_cases he : E = 0
  · subst he
    cases b with
    | false =>
      go_enter Tryd.func20, Tryd.ntmps20
      go_wp2_with fail
      refine HP.out.mono ?_
      rintro e w1 ⟨rfl, hb1⟩
      have HB1 := Lib.hid hb1
      clear hb1
      dsimp only
      go_wp2_with fail
      refine (HB.out _).mono ?_
      rintro e w2 ⟨rfl, hb2⟩
      have HB2 := Lib.hid hb2
      clear hb2
      dsimp only
      go_wp2
      go_ret
      exact ⟨by simp, (HB1.out.alloc HB1.out.size _).chain HB2.out⟩
    | true =>
      obtain ⟨X, hX⟩ : ∃ X : World → World, X = fun w1 => w1.alloc (.cells #[.string V0, .string V1, .string V2, .string V3] 54) := ⟨_, rfl⟩
      go_enter Tryd.func20, Tryd.ntmps20
      go_wp2_with fail
      refine HP.out.mono ?_
      rintro e w1 ⟨rfl, hb1⟩
      have HB1 := Lib.hid hb1
      clear hb1
      dsimp only
      have k1 : (w1.alloc (.cells #[.string V0, .string V1, .string V2, .string V3] 54)).heap[w1.heap.size]? = some (.cells #[.string V0, .string V1, .string V2, .string V3] 54 (0, 0)) := heap_alloc_last w1 _
      have K1 := Lib.hid k1
      clear k1
      go_wp2_with fail
      refine (HB.out _).mono ?_
      rintro e w2 ⟨rfl, hb2⟩
      have HB2 := Lib.hid hb2
      have k2 := blk_below K1.out hb2
      have e0 : w2.cell? ⟨w1.heap.size, 0, none⟩ = some (.string V0) := cell_here k2
      have e1 : w2.cell? ⟨w1.heap.size, 1, none⟩ = some (.string V1) := cell_here k2
      clear hb2 k2
      dsimp only
      go_wp2_with fail
      refine (HPR.out _).mono ?_
      rintro e w3 ⟨rfl, hb3⟩
      have HB3 := Lib.hid hb3
      clear hb3 e0 e1
      dsimp only
      go_wp2
      go_ret
      exact ⟨by simp, ((HB1.out.alloc HB1.out.size _).chain HB2.out).chain HB3.out⟩
  · have he2 : (E == 0) = false := by simpa using he
    go_enter Tryd.func20, Tryd.ntmps20
    go_wp2_with fail
    refine HP.out.mono ?_
    rintro e w1 ⟨rfl, hb1⟩
    have HB1 := Lib.hid hb1
    clear hb1
    dsimp only
    go_wp2
    go_ret
    exact ⟨by simp [he], HB1.out.alloc HB1.out.size _⟩
set_option maxRecDepth 100000 in
set_option maxHeartbeats 2000000 in
theorem areRules_any (s : List UInt8) (hs : s.length ≤ 1000000000) (w : World) (hv : Var0 w) : Calls Tryd.prog 51 #[.string ⟨s.toArray⟩] w fun e w' => e = .returned (.bool (decide (rulesE s = 0) && decide (s.length ≤ 256))) ∧ Below w.heap.size w w' := by
  have hp := (parse_any14 s hs w hv).mono (fun e w' (h : ParseSays w s e w') => show (∃ A n c k, e = .returned (.tuple #[.slice A n c, .int .i64 k, .int .i64 (rulesE s)])) ∧ Below w.heap.size w w' from by
    obtain ⟨A, n, c, k, he, _, hb⟩ := h
    exact ⟨⟨A, n, c, k, by rw [rulesE_parse]; exact he⟩, hb⟩)
  have hb := fun W => brief_any s (by omega) W
  obtain ⟨E, hE⟩ : ∃ E, rulesE s = E := ⟨_, rfl⟩
  rw [hE] at hp ⊢
  generalize decide (s.length ≤ 256) = b at *
  have HP := Lib.hid hp; have HB := Lib.hid hb
  clear hp hb hs hE hv
  by_cases he : E = 0
  · subst he
    go_enter Tryd.func51, Tryd.ntmps51
    go_wp2_with fail
    refine HP.out.mono ?_
    rintro e w1 ⟨⟨A, n, c, k, rfl⟩, hb1⟩
    have HB1 := Lib.hid hb1
    clear hb1
    dsimp only
    go_wp2_with fail
    refine (HB.out _).mono ?_
    rintro e w2 ⟨rfl, hb2⟩
    have HB2 := Lib.hid (HB1.out.chain hb2)
    clear hb2
    dsimp only
    go_wp2
    go_ret
    exact ⟨by simp, HB2.out⟩
  · have he2 : (E == 0) = false := by simpa using he
    go_enter Tryd.func51, Tryd.ntmps51
    go_wp2_with fail
    refine HP.out.mono ?_
    rintro e w1 ⟨⟨A, n, c, k, rfl⟩, hb1⟩
    have HB1 := Lib.hid hb1
    clear hb1
    dsimp only
    go_wp2
    go_ret
    exact ⟨by simp [he], HB1.out⟩
end Go.Proofs.YtiofgepfcacgjaaDoor
namespace Go.Proofs.YtiofgepfcacgjaaDoor
open Go.RowKit Go.Shelf
set_option linter.unusedVariables false
set_option linter.unusedSimpArgs false

/-- what goodClient, and goodConn, answer -/
def cliB (r : CliP) : Bool := shortP r.cID && (decide (r.cSecret.length ≤ 256) && (decide (0 < r.cReds.length) && (decide (r.cReds.length ≤ 64) && r.cReds.all addrP)))
theorem cliB_iff (r : CliP) : cliB r = true ↔ cliP r := by
  unfold cliB cliP
  simp only [Bool.and_eq_true, decide_eq_true_eq, List.all_eq_true]
  constructor
  · rintro ⟨h1, h2, h3, h4, h5⟩
    exact ⟨h1, h2, h3, h4, fun k hk => h5 _ (List.getElem_mem hk)⟩
  · rintro ⟨h1, h2, h3, h4, h5⟩
    refine ⟨h1, h2, h3, h4, fun x hx => ?_⟩
    obtain ⟨k, hk, rfl⟩ := List.mem_iff_getElem.1 hx
    exact h5 k hk
def cnB (r : ConnP) : Bool := [r.fID, r.fIssuer, r.fClient, r.fSecret].all shortP && (addrP r.fAuth && (decide (rulesE r.fRules = 0) && decide (r.fRules.length ≤ 256)))
theorem cnB_iff (r : ConnP) : cnB r = true ↔ cnP r := by
  unfold cnB cnP
  simp only [Bool.and_eq_true, decide_eq_true_eq, List.all_cons, List.all_nil]
  constructor
  · rintro ⟨⟨h1, h2, h3, h4, _⟩, h5, h6, h7⟩
    exact ⟨h6, h7, h1, h2, h3, h4, h5⟩
  · rintro ⟨h6, h7, h1, h2, h3, h4, h5⟩
    exact ⟨⟨h1, h2, h3, h4, trivial⟩, h5, h6, h7⟩
set_option maxRecDepth 100000 in
set_option maxHeartbeats 4000000 in
theorem goodClient_any (r : CliP) (hf : r.fit) (u : Value) (w : World) (hv : Var0 w) (hu : RdT w u r.cReds) :
    Calls Tryd.prog 25 #[.agg #[tv r.cID, tv r.cSecret, u]] w fun e w' => e = .returned (.bool (cliB r)) ∧ Below w.heap.size w w' := by
  obtain ⟨h1, h2, h3, h4⟩ := hf
  have hful := fun W A (h : RdT W (.slice A 1 1) [r.cID]) => full_any A 1 [r.cID] (by simp) (fun s hs => by rw [List.mem_singleton.1 hs]; exact h1) W h
  have hbr := fun W => brief_any r.cSecret h2 W
  have hall : ∀ W A c, RdT W (.slice A r.cReds.length c) r.cReds → Var0 W → Calls Tryd.prog 42 #[.slice A r.cReds.length c, .func (.func 47) #[] #[]] W fun e w' => e = .returned (.bool (r.cReds.all addrP)) ∧ Below W.heap.size W w' := fun W A c h hv => by
    have := textAll_any A c r.cReds (by omega) 47 (enters_of Tryd.func47 (by kernel_rfl) rfl) (fun k => addrP (r.cReds.getD k [])) W h (fun k hk W2 hb => by
      have := isURI_any r.cReds[k] (h4 _ (List.getElem_mem hk)) W2 (hv.var.below hb)
      simp only [List.getD_eq_getElem?_getD, List.getElem?_eq_getElem hk, Option.getD_some]
      exact this)
    rwa [allB_texts] at this
  obtain ⟨A, c, rfl⟩ := rdt_form hu
  unfold cliB
  obtain ⟨K, hK⟩ : ∃ B : ByteArray, B = ⟨r.cID.toArray⟩ := ⟨_, rfl⟩
  obtain ⟨S, hS⟩ : ∃ B : ByteArray, B = ⟨r.cSecret.toArray⟩ := ⟨_, rfl⟩
  have hC : tcells [r.cID] = [.string K] := by rw [hK]; rfl
  unfold tv
  rw [← hK, ← hS]
  rw [← hS] at hbr
  obtain ⟨W1, hW1⟩ : ∃ W1, W1 = w.alloc (.cells #[.string K, .string S, .slice A r.cReds.length c] 32) := ⟨_, rfl⟩
  have b1 : Below w.heap.size w W1 := by rw [hW1]; exact (Below.refl _ _).alloc (Nat.le_refl _) _
  have k1 : W1.heap[w.heap.size]? = some (.cells #[.string K, .string S, .slice A r.cReds.length c] 32 (0, 0)) := by rw [hW1]; exact heap_alloc_last w _
  have v1 := hv.var.below b1
  have u1 := hu.below b1
  have hful1 : [r.cID].all shortP = shortP r.cID := by simp
  rw [hful1] at hful
  have hcl : ∀ W, Below W1.heap.size W1 W → Var0 W ∧ RdT W (.slice A r.cReds.length c) r.cReds ∧ W.cell? ⟨w.heap.size, 0, none⟩ = some (.string K) ∧ W.cell? ⟨w.heap.size, 1, none⟩ = some (.string S) ∧ W.cell? ⟨w.heap.size, 2, none⟩ = some (.slice A r.cReds.length c) := fun W hb =>
    ⟨VarIn.below v1 hb, u1.below hb, cell_here (blk_below k1 hb), cell_here (blk_below k1 hb), cell_here (blk_below k1 hb)⟩
  obtain ⟨B1, hB1⟩ : ∃ b, shortP r.cID = b := ⟨_, rfl⟩
  obtain ⟨B2, hB2⟩ : ∃ b, decide (r.cSecret.length ≤ 256) = b := ⟨_, rfl⟩
  obtain ⟨B5, hB5⟩ : ∃ b, r.cReds.all addrP = b := ⟨_, rfl⟩
  rw [hB1] at hful ⊢
  rw [hB2] at hbr ⊢
  rw [hB5] at hall ⊢
  obtain ⟨n, hn⟩ : ∃ n, r.cReds.length = n := ⟨_, rfl⟩
  have e0 := hcl W1 (Below.refl _ _)
  rw [hn] at hall hcl hW1 e0 ⊢
  obtain ⟨-, -, e0, e1, e2⟩ := e0
  have HF := Lib.hid hful; have HR := Lib.hid hbr; have HA := Lib.hid hall; have HW := Lib.hid hW1; have HC := Lib.hid hC; have HCL := Lib.hid hcl; have BW := Lib.hid b1
  have hn64 : n * 16 ≤ 140737488355328 := by omega
  clear hful hbr hall hW1 hC hcl b1 k1 v1 u1 hu hv hK hS hB1 hB2 hB5 hn h1 h2 h3 h4 hful1
  cases B1 with
  | false =>
    go_enter Tryd.func25, Tryd.ntmps25
    go_upto_region 1 with fail
    rw [← HW.out]
    go_wp2_with fail
    refine (HF.out _ _ (rdt_new (heap_alloc_last W1 _) (by rw [HC.out]))).mono ?_
    rintro e w2 ⟨rfl, hb2⟩
    have Q2 := Lib.hid (((Below.refl W1.heap.size W1).alloc (Nat.le_refl _) _).chain hb2)
    clear hb2 e0 e1 e2
    obtain ⟨-, -, e0, e1, e2⟩ := HCL.out w2 Q2.out
    dsimp only
    go_wp2
    go_ret
    exact ⟨by simp, BW.out.chain Q2.out⟩
  | true =>
    cases B2 with
    | false =>
      go_enter Tryd.func25, Tryd.ntmps25
      go_upto_region 1 with fail
      rw [← HW.out]
      go_wp2_with fail
      refine (HF.out _ _ (rdt_new (heap_alloc_last W1 _) (by rw [HC.out]))).mono ?_
      rintro e w2 ⟨rfl, hb2⟩
      have Q2 := Lib.hid (((Below.refl W1.heap.size W1).alloc (Nat.le_refl _) _).chain hb2)
      clear hb2 e0 e1 e2
      obtain ⟨-, -, e0, e1, e2⟩ := HCL.out w2 Q2.out
      dsimp only
      go_wp2_with fail
      refine (HR.out _).mono ?_
      rintro e w3 ⟨rfl, hb3⟩
      have Q3 := Lib.hid (Q2.out.chain hb3)
      clear hb3 e0 e1 e2
      obtain ⟨-, -, e0, e1, e2⟩ := HCL.out w3 Q3.out
      dsimp only
      go_wp2
      go_ret
      exact ⟨by simp, BW.out.chain Q3.out⟩
    | true =>
      by_cases g1 : 0 < n
      · have g1' : decide (0 < (n : Int)) = true := by simp; omega
        by_cases g2 : n ≤ 64
        · have g2' : decide ((n : Int) ≤ 64) = true := by simp; omega
          go_enter Tryd.func25, Tryd.ntmps25
          go_upto_region 1 with fail
          rw [← HW.out]
          go_wp2_with fail
          refine (HF.out _ _ (rdt_new (heap_alloc_last W1 _) (by rw [HC.out]))).mono ?_
          rintro e w2 ⟨rfl, hb2⟩
          have Q2 := Lib.hid (((Below.refl W1.heap.size W1).alloc (Nat.le_refl _) _).chain hb2)
          clear hb2 e0 e1 e2
          obtain ⟨-, -, e0, e1, e2⟩ := HCL.out w2 Q2.out
          dsimp only
          go_wp2_with fail
          refine (HR.out _).mono ?_
          rintro e w3 ⟨rfl, hb3⟩
          have Q3 := Lib.hid (Q2.out.chain hb3)
          clear hb3 e0 e1 e2
          obtain ⟨-, -, e0, e1, e2⟩ := HCL.out w3 Q3.out
          dsimp only
          go_wp2_with fail
          refine (HA.out _ _ _ (HCL.out w3 Q3.out).2.1 (HCL.out w3 Q3.out).1).mono ?_
          rintro e w4 ⟨rfl, hb4⟩
          have Q4 := Lib.hid (Q3.out.chain hb4)
          clear hb4 e0 e1 e2
          dsimp only
          go_wp2
          go_ret
          exact ⟨by simp [g1, g2], BW.out.chain Q4.out⟩
        · have g2' : decide ((n : Int) ≤ 64) = false := by simp; omega
          go_enter Tryd.func25, Tryd.ntmps25
          go_upto_region 1 with fail
          rw [← HW.out]
          go_wp2_with fail
          refine (HF.out _ _ (rdt_new (heap_alloc_last W1 _) (by rw [HC.out]))).mono ?_
          rintro e w2 ⟨rfl, hb2⟩
          have Q2 := Lib.hid (((Below.refl W1.heap.size W1).alloc (Nat.le_refl _) _).chain hb2)
          clear hb2 e0 e1 e2
          obtain ⟨-, -, e0, e1, e2⟩ := HCL.out w2 Q2.out
          dsimp only
          go_wp2_with fail
          refine (HR.out _).mono ?_
          rintro e w3 ⟨rfl, hb3⟩
          have Q3 := Lib.hid (Q2.out.chain hb3)
          clear hb3 e0 e1 e2
          obtain ⟨-, -, e0, e1, e2⟩ := HCL.out w3 Q3.out
          dsimp only
          go_wp2
          go_ret
          exact ⟨by simp [g2], BW.out.chain Q3.out⟩
      · have g1' : decide (0 < (n : Int)) = false := by simp; omega
        go_enter Tryd.func25, Tryd.ntmps25
        go_upto_region 1 with fail
        rw [← HW.out]
        go_wp2_with fail
        refine (HF.out _ _ (rdt_new (heap_alloc_last W1 _) (by rw [HC.out]))).mono ?_
        rintro e w2 ⟨rfl, hb2⟩
        have Q2 := Lib.hid (((Below.refl W1.heap.size W1).alloc (Nat.le_refl _) _).chain hb2)
        clear hb2 e0 e1 e2
        obtain ⟨-, -, e0, e1, e2⟩ := HCL.out w2 Q2.out
        dsimp only
        go_wp2_with fail
        refine (HR.out _).mono ?_
        rintro e w3 ⟨rfl, hb3⟩
        have Q3 := Lib.hid (Q2.out.chain hb3)
        clear hb3 e0 e1 e2
        obtain ⟨-, -, e0, e1, e2⟩ := HCL.out w3 Q3.out
        dsimp only
        go_wp2
        go_ret
        exact ⟨by simp [g1], BW.out.chain Q3.out⟩
set_option maxRecDepth 100000 in
set_option maxHeartbeats 4000000 in
theorem goodConn_any (r : ConnP) (hf : r.fit) (hr5 : r.fRules.length ≤ 5000) (w : World) (hv : Var0 w) :
    Calls Tryd.prog 29 #[r.val] w fun e w' => e = .returned (.bool (cnB r)) ∧ Below w.heap.size w w' := by
  obtain ⟨h1, h2, h3, h4, h5, h6⟩ := hf
  have hful := fun W A (h : RdT W (.slice A 4 4) [r.fID, r.fIssuer, r.fClient, r.fSecret]) => full_any A 4 [r.fID, r.fIssuer, r.fClient, r.fSecret] (by simp) (fun s hs => by simp at hs; rcases hs with rfl | rfl | rfl | rfl <;> assumption) W h
  have huri := fun W (hv : Var0 W) => isURI_any r.fAuth h4 W hv
  have hrul := fun W (hv : Var0 W) => areRules_any r.fRules (by omega) W hv
  unfold cnB ConnP.val
  obtain ⟨V0, hV0⟩ : ∃ B : ByteArray, B = ⟨r.fID.toArray⟩ := ⟨_, rfl⟩
  obtain ⟨V1, hV1⟩ : ∃ B : ByteArray, B = ⟨r.fIssuer.toArray⟩ := ⟨_, rfl⟩
  obtain ⟨V2, hV2⟩ : ∃ B : ByteArray, B = ⟨r.fClient.toArray⟩ := ⟨_, rfl⟩
  obtain ⟨V3, hV3⟩ : ∃ B : ByteArray, B = ⟨r.fAuth.toArray⟩ := ⟨_, rfl⟩
  obtain ⟨V4, hV4⟩ : ∃ B : ByteArray, B = ⟨r.fSecret.toArray⟩ := ⟨_, rfl⟩
  obtain ⟨V6, hV6⟩ : ∃ B : ByteArray, B = ⟨r.fRules.toArray⟩ := ⟨_, rfl⟩
  obtain ⟨b, hb⟩ : ∃ b, r.fOpen = b := ⟨_, rfl⟩
  have hC : tcells [r.fID, r.fIssuer, r.fClient, r.fSecret] = [.string V0, .string V1, .string V2, .string V4] := by rw [hV0, hV1, hV2, hV4]; rfl
  unfold tv
  rw [← hV0, ← hV1, ← hV2, ← hV3, ← hV4, ← hV6, hb]
  rw [← hV3] at huri
  rw [← hV6] at hrul
  obtain ⟨W1, hW1⟩ : ∃ W1, W1 = w.alloc (.cells #[.string V0, .string V1, .string V2, .string V3, .string V4, .bool b, .string V6] 36) := ⟨_, rfl⟩
  have b1 : Below w.heap.size w W1 := by rw [hW1]; exact (Below.refl _ _).alloc (Nat.le_refl _) _
  have k1 : W1.heap[w.heap.size]? = some (.cells #[.string V0, .string V1, .string V2, .string V3, .string V4, .bool b, .string V6] 36 (0, 0)) := by rw [hW1]; exact heap_alloc_last w _
  have v1 := hv.var.below b1
  have hcl : ∀ W, Below W1.heap.size W1 W → Var0 W ∧ W.cell? ⟨w.heap.size, 0, none⟩ = some (.string V0) ∧ W.cell? ⟨w.heap.size, 1, none⟩ = some (.string V1) ∧ W.cell? ⟨w.heap.size, 2, none⟩ = some (.string V2) ∧ W.cell? ⟨w.heap.size, 3, none⟩ = some (.string V3) ∧ W.cell? ⟨w.heap.size, 4, none⟩ = some (.string V4) ∧ W.cell? ⟨w.heap.size, 6, none⟩ = some (.string V6) := fun W hb =>
    ⟨VarIn.below v1 hb, cell_here (blk_below k1 hb), cell_here (blk_below k1 hb), cell_here (blk_below k1 hb), cell_here (blk_below k1 hb), cell_here (blk_below k1 hb), cell_here (blk_below k1 hb)⟩
  obtain ⟨B1, hB1⟩ : ∃ b, [r.fID, r.fIssuer, r.fClient, r.fSecret].all shortP = b := ⟨_, rfl⟩
  obtain ⟨B2, hB2⟩ : ∃ b, addrP r.fAuth = b := ⟨_, rfl⟩
  obtain ⟨B3, hB3⟩ : ∃ b, (decide (rulesE r.fRules = 0) && decide (r.fRules.length ≤ 256)) = b := ⟨_, rfl⟩
  rw [hB1] at hful ⊢
  rw [hB2] at huri ⊢
  rw [hB3] at hrul ⊢
  obtain ⟨-, e0, e1, e2, e3, e4, e6⟩ := hcl W1 (Below.refl _ _)
  have HF := Lib.hid hful; have HU := Lib.hid huri; have HR := Lib.hid hrul; have HW := Lib.hid hW1; have HC := Lib.hid hC; have HCL := Lib.hid hcl; have BW := Lib.hid b1
  clear hful huri hrul hW1 hC hcl b1 k1 v1 hv hV0 hV1 hV2 hV3 hV4 hV6 hB1 hB2 hB3 h1 h2 h3 h4 h5 h6 hr5 hb
  cases B1 with
  | false =>
    go_enter Tryd.func29, Tryd.ntmps29
    go_upto_region 1 with fail
    rw [← HW.out]
    go_wp2_with fail
    refine (HF.out _ _ (rdt_new (heap_alloc_last W1 _) (by rw [HC.out]))).mono ?_
    rintro e w2 ⟨rfl, hb2⟩
    have Q2 := Lib.hid (((Below.refl W1.heap.size W1).alloc (Nat.le_refl _) _).chain hb2)
    clear hb2 e0 e1 e2 e3 e4 e6
    obtain ⟨v2, e0, e1, e2, e3, e4, e6⟩ := HCL.out w2 Q2.out
    have VA := Lib.hid v2; clear v2
    dsimp only
    go_wp2
    go_ret
    exact ⟨by simp, BW.out.chain Q2.out⟩
  | true =>
    cases B2 with
    | false =>
      go_enter Tryd.func29, Tryd.ntmps29
      go_upto_region 1 with fail
      rw [← HW.out]
      go_wp2_with fail
      refine (HF.out _ _ (rdt_new (heap_alloc_last W1 _) (by rw [HC.out]))).mono ?_
      rintro e w2 ⟨rfl, hb2⟩
      have Q2 := Lib.hid (((Below.refl W1.heap.size W1).alloc (Nat.le_refl _) _).chain hb2)
      clear hb2 e0 e1 e2 e3 e4 e6
      obtain ⟨v2, e0, e1, e2, e3, e4, e6⟩ := HCL.out w2 Q2.out
      have VA := Lib.hid v2; clear v2
      dsimp only
      go_wp2_with fail
      refine (HU.out _ VA.out).mono ?_
      rintro e w3 ⟨rfl, hb3⟩
      have Q3 := Lib.hid (Q2.out.chain hb3)
      clear hb3 e0 e1 e2 e3 e4 e6
      obtain ⟨v3, e0, e1, e2, e3, e4, e6⟩ := HCL.out w3 Q3.out
      have VB := Lib.hid v3; clear v3
      dsimp only
      go_wp2
      go_ret
      exact ⟨by simp, BW.out.chain Q3.out⟩
    | true =>
      go_enter Tryd.func29, Tryd.ntmps29
      go_upto_region 1 with fail
      rw [← HW.out]
      go_wp2_with fail
      refine (HF.out _ _ (rdt_new (heap_alloc_last W1 _) (by rw [HC.out]))).mono ?_
      rintro e w2 ⟨rfl, hb2⟩
      have Q2 := Lib.hid (((Below.refl W1.heap.size W1).alloc (Nat.le_refl _) _).chain hb2)
      clear hb2 e0 e1 e2 e3 e4 e6
      obtain ⟨v2, e0, e1, e2, e3, e4, e6⟩ := HCL.out w2 Q2.out
      have VA := Lib.hid v2; clear v2
      dsimp only
      go_wp2_with fail
      refine (HU.out _ VA.out).mono ?_
      rintro e w3 ⟨rfl, hb3⟩
      have Q3 := Lib.hid (Q2.out.chain hb3)
      clear hb3 e0 e1 e2 e3 e4 e6
      obtain ⟨v3, e0, e1, e2, e3, e4, e6⟩ := HCL.out w3 Q3.out
      have VB := Lib.hid v3; clear v3
      dsimp only
      go_wp2_with fail
      refine (HR.out _ VB.out).mono ?_
      rintro e w4 ⟨rfl, hb4⟩
      have Q4 := Lib.hid (Q3.out.chain hb4)
      clear hb4 e0 e1 e2 e3 e4 e6
      dsimp only
      go_wp2
      go_ret
      exact ⟨by simp, BW.out.chain Q4.out⟩
end Go.Proofs.YtiofgepfcacgjaaDoor
