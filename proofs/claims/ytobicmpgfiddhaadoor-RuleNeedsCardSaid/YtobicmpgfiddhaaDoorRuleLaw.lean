/- Layer 14's laws: what the landed rules must do; what a program that does nothing does not answer. -/
import Derived.Test.YtobicmpgfiddhaaDoorRuleParse
import Derived.Test.YtobicmpgfiddhaaDoorRuleRunC
namespace Go.Proofs.YtobicmpgfiddhaaDoor
open Go.RowKit Go.Shelf
set_option linter.unusedVariables false
set_option linter.unusedSimpArgs false

/-- what the landed rules do, behind world w0 -/
structure CodeRule (w0 : World) : Prop where
  parse : ∀ w, Below w0.heap.size w0 w → ∀ s : List UInt8, s.length ≤ 1000000000 → Calls Tryd.prog 9 #[.string ⟨s.toArray⟩] w (ParseSays w s)
  run : ∀ w, Below w0.heap.size w0 w → ∀ (A : Option Addr) (c : Nat) (rs : List RU), rs.length ≤ 80000 → (∀ r ∈ rs, r.args.length ≤ 1000000 ∧ ∀ x ∈ r.args, x.length ≤ 1000000000) → ∀ (v : V) (cs : List Value), (∀ x ∈ v.list, x.text.length ≤ 1000000) →
    RdU w (.slice A rs.length c) rs → VIs w 0 w.heap.size v cs → Calls Tryd.prog 10 #[.slice A rs.length c, .agg cs.toArray] w (CRunSays w (runU (rs.filter RU.good) v))
theorem CodeRule.later {w0 w1 : World} (h : CodeRule w0) (hb : Below w0.heap.size w0 w1) : CodeRule w1 :=
  ⟨fun w hw => h.parse w (hb.chain hw), fun w hw => h.run w (hb.chain hw)⟩
theorem good_all {rs : List RU} (h : ∀ r ∈ rs, r.good = true) : rs.filter RU.good = rs := List.filter_eq_self.2 h
theorem good_small {r : RU} (h : r.good = true) : r.args.length ≤ 1000000 ∧ ∀ x ∈ r.args, x.length ≤ 1000000000 := by
  obtain ⟨h1, h2⟩ := good_parts h
  unfold RU.good at h
  simp only [Bool.and_eq_true, decide_eq_true_eq, List.all_eq_true] at h
  refine ⟨?_, fun x hx => ?_⟩
  · rw [h2]; unfold argsN; split
    · omega
    · split <;> omega
  · have := h.1.2 x hx
    unfold nameR at this
    simp only [Bool.and_eq_true, decide_eq_true_eq] at this
    omega
theorem parse_ok {w0 : World} (C : CodeRule w0) (w : World) (hb : Below w0.heap.size w0 w) (s : List UInt8) (hs : s.length ≤ 1000000000) (hE : parseRE s = 0) (n : Nat) (hn : (parseRL s).length = n) :
    Calls Tryd.prog 9 #[.string ⟨s.toArray⟩] w fun e w' => ∃ A c, e = .returned (.tuple #[.slice A n c, .int .i64 0, .int .i64 0]) ∧ RdU w' (.slice A n c) (parseRL s) ∧ Below w.heap.size w w' := by
  refine (C.parse w hb s hs).mono ?_
  rintro e w' ⟨A, m, c, k, rfl, h1, h2⟩
  obtain ⟨rfl, rfl, h3⟩ := h1 hE
  rw [hE]
  exact ⟨A, c, by rw [hn], by rw [← hn]; exact h3, h2⟩
/-- Run, of good rules -/
theorem run_ok {w0 : World} (C : CodeRule w0) (w : World) (hb : Below w0.heap.size w0 w) (rs : List RU) (hg : ∀ r ∈ rs, r.good = true) (hn : rs.length ≤ 80000) (n : Nat) (hnn : rs.length = n) (A : Option Addr) (c : Nat) (v : V) (cs : List Value) (hx : ∀ x ∈ v.list, x.text.length ≤ 1000000) (h : RdU w (.slice A n c) rs) (hv : VIs w 0 w.heap.size v cs) :
    Calls Tryd.prog 10 #[.slice A n c, .agg cs.toArray] w (CRunSays w (runU rs v)) := by
  subst hnn
  have := C.run w hb A c rs hn (fun r hr => good_small (hg r hr)) v cs hx h hv
  rwa [good_all hg] at this
theorem obj_out {w : World} {N : Nat} {l : List V} {ks : List (List UInt8)} {k m : Int} {t : ByteArray} {B B' : Option Addr} {b d b' d' : Nat} (h : VIs w 0 N (.mk 6 0 [] l ks) [.int .i64 k, .int .i64 m, .string t, .slice B b d, .slice B' b' d']) :
    k = 6 ∧ m = 0 ∧ t = ⟨#[]⟩ ∧ b = l.length ∧ b' = ks.length ∧ (ks = [] ∨ ∃ q r, B' = some ⟨q, r, none⟩ ∧ KIs w 0 N ks q r) ∧ (l = [] ∨ ∃ q r, B = some ⟨q, r, none⟩ ∧ LIs w 0 N l q r) := by
  obtain ⟨-, A3, c3, A4, c4, hcs, hkk, hll⟩ := h.out
  injection hcs with e1 hcs
  injection hcs with e2 hcs
  injection hcs with e3 hcs
  injection hcs with e4 hcs
  injection hcs with e5 hcs
  injection e1 with _ e1
  injection e2 with _ e2
  injection e3 with e3
  injection e4 with e4 e6 e7
  injection e5 with e5 e8 e9
  subst e4; subst e5
  exact ⟨e1, e2, e3, e6, e8, hkk, hll⟩
theorem emptyO_is (w : World) (L N : Nat) : VIs w L N emptyO [.int .i64 6, .int .i64 0, .string ⟨#[]⟩, .slice none 0 0, .slice none 0 0] := by
  exact VIs.mk (k := 6) (n := 0) (t := []) (l := []) (ks := []) (A := none) (A' := none) (c := 0) (c' := 0) ⟨by simp, by simp, by simp, by simp⟩ (.inl rfl) (.inl rfl)
set_option maxRecDepth 100000 in
set_option maxHeartbeats 4000000 in
theorem answers14_any {w0 : World} (C : CodeRule w0) (w : World) (hb : Below w0.heap.size w0 w) : Calls Tryd.prog 8 #[] w fun e w' => e = .returned (.bool true) ∧ Below w.heap.size w w' := by
  have hpa := parse_ok C w hb [116, 101, 120, 116, 32, 97, 32, 98] (by decide) (by decide) 1 (by decide)
  have hrl : parseRL [116, 101, 120, 116, 32, 97, 32, 98] = [⟨opText, [[97], [98]]⟩] := by rfl
  rw [hrl] at hpa
  have hru : runU [⟨opText, [[97], [98]]⟩] emptyO = some (.mk 6 0 [] [wordV [98]] [[97]]) := by rfl
  have hrn := fun W (hW : Below w.heap.size w W) A c (h : RdU W (.slice A 1 c) [⟨opText, [[97], [98]]⟩]) => run_ok C W (hb.chain hW) [⟨opText, [[97], [98]]⟩] (by decide) (by decide) 1 rfl A c emptyO _ (fun x hx => by cases hx) h (emptyO_is W 0 W.heap.size)
  rw [hru] at hrn
  have HPA := Lib.hid hpa; have HRN := Lib.hid hrn
  clear hpa hrn hrl hru hb
  go_enter Tryd.func8, Tryd.ntmps8
  go_wp2_with (first
    | (go_at_call 9; (with_reducible refine HPA.out.mono ?_); rintro e1 w1 ⟨A1, c1, rfl, hrd, hb1⟩; have hcr := HRN.out w1 hb1 A1 c1 hrd; obtain ⟨g, o, u, rfl, hg, o1, -, -⟩ := hrd.at 0 (by decide); have HB1 := Lib.hid hb1; have O1 := Lib.hid o1; clear o1 hb1; dsimp only)
    | (go_at_call 10; (with_reducible refine hcr.mono ?_); rintro e2 w2 ⟨⟨k, m, t, B, b, d, B', b', d', rfl, hv⟩, hb2⟩
       obtain ⟨rfl, rfl, rfl, rfl, rfl, hkk, -⟩ := obj_out hv
       obtain ⟨q, r, rfl, -, hq, k1⟩ := VIs.key hkk 0 (by decide)
       have b3 : Below w2.heap.size w2 (w2.alloc (.cells #[.int .i64 6, .int .i64 0, .string ⟨#[]⟩, .slice B 1 d, .slice (some ⟨q, r, none⟩) 1 d'] 25)) := (Below.refl _ _).alloc (Nat.le_refl _) _
       have o3 : (w2.alloc (.cells #[.int .i64 6, .int .i64 0, .string ⟨#[]⟩, .slice B 1 d, .slice (some ⟨q, r, none⟩) 1 d'] 25)).cell? ⟨g, o, none⟩ = some (.string ⟨#[116, 101, 120, 116]⟩) := ((hb2.chain b3).cell (p := ⟨g, o, none⟩) hg).trans O1.out
       have k3 : (w2.alloc (.cells #[.int .i64 6, .int .i64 0, .string ⟨#[]⟩, .slice B 1 d, .slice (some ⟨q, r, none⟩) 1 d'] 25)).cell? ⟨q, r, none⟩ = some (.string ⟨#[97]⟩) := (b3.cell (p := ⟨q, r, none⟩) hq).trans k1
       have HB2 := Lib.hid ((HB1.out.chain hb2).chain b3)
       clear b3 hb2 k1 hq hkk hv
       dsimp only))
  go_ret
  exact ⟨rfl, HB2.out⟩
end Go.Proofs.YtobicmpgfiddhaaDoor
