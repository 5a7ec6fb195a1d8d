/- Texts merged by program, in build order: JwsVer, RefUn, JwsRVer, LawJws. -/
import Derived.Test.YthbbeojhipcjiaaDoorJws13
import Derived.Test.YthbbeojhipcjiaaDoorJws08
import Derived.Test.YthbbeojhipcjiaaDoorJws09
namespace Go.Proofs.YthbbeojhipcjiaaDoor
open Go.RowKit
set_option linter.unusedVariables false
set_option linter.unusedSimpArgs false

/-- a block of three texts -/
def three (x y z : List UInt8) : Array Value := #[.string ⟨x.toArray⟩, .string ⟨y.toArray⟩, .string ⟨z.toArray⟩]
/-- what the loop over the parts leaves -/
structure PSt (R : Nat) (w wr : World) (a b c x y z : List UInt8) : Prop where
  parts : wr.heap[R]? = some (.cells #[.string ⟨a.toArray⟩, .string ⟨b.toArray⟩, .string ⟨c.toArray⟩] 9 (0, 0))
  plain : wr.heap[R + 1]? = some (.cells #[.string ⟨x.toArray⟩, .string ⟨y.toArray⟩, .string ⟨z.toArray⟩] 59 (0, 0))
  low : Below R w wr
theorem PSt.later {R : Nat} {w wr w' : World} {a b c x y z : List UInt8} (h : PSt R w wr a b c x y z) (hR : R + 2 ≤ wr.heap.size) (hb : Below wr.heap.size wr w') : PSt R w w' a b c x y z :=
  ⟨(hb.block _ (by omega)).trans h.parts, (hb.block _ (by omega)).trans h.plain, h.low.trans (hb.mono (by omega))⟩
theorem PSt.set0 {R : Nat} {w wr : World} {a b c x y z : List UInt8} (o : List UInt8) (h : PSt R w wr a b c x y z) : PSt R w (wr.setCell ⟨R + 1, 0, none⟩ (.string ⟨o.toArray⟩)) a b c o y z :=
  ⟨(set_there _ (by omega)).trans h.parts, by have := set_here (o := 0) h.plain (.string ⟨o.toArray⟩); simpa using this, h.low.setCell (p := ⟨R + 1, 0, none⟩) (by simp) _⟩
theorem PSt.set1 {R : Nat} {w wr : World} {a b c x y z : List UInt8} (o : List UInt8) (h : PSt R w wr a b c x y z) : PSt R w (wr.setCell ⟨R + 1, 1, none⟩ (.string ⟨o.toArray⟩)) a b c x o z :=
  ⟨(set_there _ (by omega)).trans h.parts, by have := set_here (o := 1) h.plain (.string ⟨o.toArray⟩); simpa using this, h.low.setCell (p := ⟨R + 1, 1, none⟩) (by simp) _⟩
theorem PSt.set2 {R : Nat} {w wr : World} {a b c x y z : List UInt8} (o : List UInt8) (h : PSt R w wr a b c x y z) : PSt R w (wr.setCell ⟨R + 1, 2, none⟩ (.string ⟨o.toArray⟩)) a b c x y o :=
  ⟨(set_there _ (by omega)).trans h.parts, by have := set_here (o := 2) h.plain (.string ⟨o.toArray⟩); simpa using this, h.low.setCell (p := ⟨R + 1, 2, none⟩) (by simp) _⟩
theorem dec_bytes {s : List UInt8} (hs : s.length ≤ 4096) (w : World) : Calls Tryd.prog 30 #[.string ⟨s.toArray⟩] w fun e w' => DecSays s e ∧ Below w.heap.size w w' :=
  decode_says ⟨s.toArray⟩ (by show s.toArray.size ≤ _; simp; omega) w

theorem dec_short {l o : List UInt8} (h : dec l = some o) : o.length ≤ l.length := by
  have h1 := (dec_some h).1
  have h2 := enc_len o
  rw [h1] at h2; omega
def verSays (l : PL) (s : List UInt8) (e : Ending) : Prop := e = .returned (.tuple #[.string ⟨(verR l s).1.toArray⟩, .int .i64 (verR l s).2])
theorem verSays_of {l : PL} {s p : List UInt8} {n : Int} (h : verR l s = (p, n)) : verSays l s (.returned (.tuple #[.string ⟨p.toArray⟩, .int .i64 n])) := by unfold verSays; rw [h]

set_option maxRecDepth 100000 in
set_option maxHeartbeats 4000000 in
theorem verify_any (A : Option Addr) (C : Nat) (l : PL) (s : List UInt8) (hl : l.length ≤ 4611686018427387904) (hs : s.length ≤ 9223372036854775807) (hfit : ∀ a b c x, splitL 46 s = [a, b, c] → dec a = some x → FitAt l x)
    (w : World) (hp : Prs w w.heap.size A l) (hj : JwsIn w) :
    Calls Tryd.prog 14 #[.slice A l.length C, .string ⟨s.toArray⟩] w fun e w' => verSays l s e ∧ Below w.heap.size w w' := by
  have hsz : (⟨s.toArray⟩ : ByteArray).size = s.length := by show s.toArray.size = _; simp
  by_cases hlg : 4096 < s.length
  · have hv := Lib.hid (verSays_of (verR_large (keys := l) hlg))
    have d1 : decide ((4096 : Int) < (s.length : Int)) = true := by simp; omega
    have hlgi : (4096 : Int) < (s.length : Int) := by omega
    clear hlg hp hj hfit hl
    obtain ⟨S, hS⟩ : ∃ S : ByteArray, S = ⟨s.toArray⟩ := ⟨_, rfl⟩
    rw [← hS] at hsz ⊢
    rw [← hsz] at d1 hlgi
    clear hS hsz
    go_enter Tryd.func14, Tryd.ntmps14
    go_wp2
    go_ret2
    exact ⟨hv.out, Below.refl _ _⟩
  · have hvs := verR_small (keys := l) hlg
    have hspl := fun wq (hb : Below w.heap.size w wq) => jsplit_any s (by omega) wq (hj.below hb)
    have hpl := splitL_each 46 s
    obtain ⟨ps, hps⟩ : ∃ ps, splitL 46 s = ps := ⟨_, rfl⟩
    rw [hps] at hspl hvs hpl hfit
    have hlgi : ¬ (4096 : Int) < (s.length : Int) := by omega
    have HPL := Lib.hid hpl; have HSP := Lib.hid hspl; have HJ := Lib.hid hj; have HP := Lib.hid hp; have HF := Lib.hid hfit; have HL := Lib.hid hl
    have hs4 : s.length ≤ 4096 := by omega
    clear hspl hj hp hfit hpl hps hl
    obtain ⟨S, hS⟩ : ∃ S : ByteArray, S = ⟨s.toArray⟩ := ⟨_, rfl⟩
    rw [← hS] at hsz HSP ⊢
    rw [← hsz] at hlgi
    by_cases h3 : ps.length = 3
    case neg =>
      have hv := Lib.hid (verSays_of (hvs.trans (verS_other h3)))
      obtain ⟨n, hn⟩ : ∃ n, ps.length = n := ⟨_, rfl⟩
      rw [hn] at HSP h3
      have h3i : ((n : Int) == 3) = false := by simpa using (show ¬ (n : Int) = 3 by omega)
      clear hlg hvs hsz hS hn hs hs4 h3
      go_enter Tryd.func14, Tryd.ntmps14
      go_wp2_with fail
      refine ((HSP.out) _ (Below.refl _ _)).mono ?_
      rintro e1 w1 ⟨rfl, rfl⟩
      dsimp only
      go_wp2
      go_ret2
      exact ⟨hv.out, (Below.refl _ _).alloc (Nat.le_refl _) _⟩
    case pos =>
      obtain ⟨a, b, c, rfl, hv3⟩ := verS_three (keys := l) h3
      have hl3 : a.length ≤ 4096 ∧ b.length ≤ 4096 ∧ c.length ≤ 4096 := ⟨Nat.le_trans (HPL.out a (by simp)) hs4, Nat.le_trans (HPL.out b (by simp)) hs4, Nat.le_trans (HPL.out c (by simp)) hs4⟩
      have hvp : verR l s = verP l a b c := hvs.trans hv3
      have HV := Lib.hid hvp
      obtain ⟨R, hR⟩ : ∃ R, w.heap.size = R := ⟨_, rfl⟩
      have hst0 : PSt R w ((w.alloc (.cells #[.string ⟨a.toArray⟩, .string ⟨b.toArray⟩, .string ⟨c.toArray⟩] 9)).alloc (.cells #[.string ⟨#[]⟩, .string ⟨#[]⟩, .string ⟨#[]⟩] 59)) a b c [] [] [] := by
        refine ⟨?_, ?_, ?_⟩
        · rw [← hR]; exact (Below.heap_alloc _ _ _ (by simp)).trans (heap_alloc_last w _)
        · have := heap_alloc_last (w.alloc (.cells #[.string ⟨a.toArray⟩, .string ⟨b.toArray⟩, .string ⟨c.toArray⟩] 9)) (.cells #[.string ⟨#[]⟩, .string ⟨#[]⟩, .string ⟨#[]⟩] 59)
          rw [← hR]; simpa using this
        · rw [← hR]; exact ((Below.refl _ _).alloc (Nat.le_refl _) _).alloc (by simp) _
      have da := fun W => dec_bytes hl3.1 W
      have db := fun W => dec_bytes hl3.2.1 W
      have dc := fun W => dec_bytes hl3.2.2 W
      have hsp3 : ∀ wq, Below w.heap.size w wq → Calls Tryd.prog 29 #[.string S, .string ⟨#[46]⟩] wq fun e w' => e = .returned (.slice (some ⟨wq.heap.size, 0, none⟩) 3 3) ∧ w' = wq.alloc (.cells #[.string ⟨a.toArray⟩, .string ⟨b.toArray⟩, .string ⟨c.toArray⟩] 9) := HSP.out
      have HSP3 := Lib.hid hsp3; have HST0 := Lib.hid hst0; have DA := Lib.hid da; have DB := Lib.hid db; have DC := Lib.hid dc; have HL3 := Lib.hid hl3; have HRR := Lib.hid hR
      clear hlg hvs hv3 hvp h3 hs hsz hS hs4 HPL HSP hsp3 hst0 da db dc hl3
      go_enter Tryd.func14, Tryd.ntmps14
      go_wp2_with fail
      refine ((HSP3.out) _ (Below.refl _ _)).mono ?_
      rintro e1 w1 ⟨rfl, rfl⟩
      dsimp only
      clear hR
      go_wp2
      rw [HRR.out]
      go_loopw [23] (fun i wr => ∃ (k : Nat) (x y z : List UInt8), k ≤ 3 ∧ i = .int .i64 k ∧ PSt R w wr a b c x y z ∧ R + 2 ≤ wr.heap.size ∧ ((k = 0 ∧ x = [] ∧ y = [] ∧ z = []) ∨ (k = 1 ∧ dec a = some x ∧ y = [] ∧ z = []) ∨ (k = 2 ∧ dec a = some x ∧ dec b = some y ∧ z = []) ∨ (k = 3 ∧ dec a = some x ∧ dec b = some y ∧ dec c = some z))) (fun i _ => 3 - (intOf i).toNat)
      case atStart => exact ⟨0, [], [], [], by omega, rfl, HST0.out, by have := HRR.out; simp; omega, Or.inl ⟨rfl, rfl, rfl, rfl⟩⟩
      case round =>
        obtain ⟨k, x, y, z, hk, rfl, hst, hR2, hc⟩ := hrel
        have HR2 := Lib.hid hR2
        rcases hc with ⟨rfl, rfl, rfl, rfl⟩ | ⟨rfl, hx, rfl, rfl⟩ | ⟨rfl, hx, hy, rfl⟩ | ⟨rfl, hx, hy, hz⟩
        · 
          have c0 : wr.cell? ⟨R, 0, none⟩ = some (.string ⟨a.toArray⟩) := cell_here hst.parts
          have HS := Lib.hid hst; clear hst hk
          go_wp2_with fail
          refine (DA.out _).mono ?_
          rintro e1 w1 ⟨hd, hb1⟩
          have hst1 := HS.out.later HR2.out hb1
          have hz1 := hb1.size
          rcases hd with ⟨o, ho, rfl⟩ | ⟨ho, rfl⟩
          · have c1 : w1.cell? ⟨R + 1, 0, none⟩ = some (.string ⟨#[]⟩) := cell_here hst1.plain
            have f1 : w1.frozen? ⟨R + 1, 0, none⟩ = false := frozen_here hst1.plain _
            have hst2 := hst1.set0 o
            have hs2 : R + 2 ≤ (w1.setCell ⟨R + 1, 0, none⟩ (.string ⟨o.toArray⟩)).heap.size := by rw [set_size]; omega
            have HS2 := Lib.hid hst2; have HO := Lib.hid ho; have HZ2 := Lib.hid hs2
            clear hst1 hst2 ho hb1 hs2 hz1 hR2
            dsimp only
            go_wp2
            go_roundw
            case rel => exact ⟨1, o, [], [], by omega, by go_num, HS2.out, HZ2.out, by have ho := HO.out; exact Or.inr (Or.inl ⟨rfl, ho, rfl, rfl⟩)⟩
            case measure => simp [intOf]
          · have c1 : w1.cell? ⟨R + 1, 0, none⟩ = some (.string ⟨#[]⟩) := cell_here hst1.plain
            have f1 : w1.frozen? ⟨R + 1, 0, none⟩ = false := frozen_here hst1.plain _
            have hst2 := hst1.set0 []
            have hv := verSays_of (HV.out.trans (verP_none1 ho))
            have HS2 := Lib.hid hst2; have HVV := Lib.hid hv
            clear hst1 hst2 ho hb1 hv hz1 hR2
            dsimp only
            go_wp2
            go_ret2
            exact ⟨HVV.out, by rw [HRR.out]; exact HS2.out.low⟩
        · have HX := Lib.hid hx; clear hx
          have c0 : wr.cell? ⟨R, 1, none⟩ = some (.string ⟨b.toArray⟩) := cell_here hst.parts
          have HS := Lib.hid hst; clear hst hk
          go_wp2_with fail
          refine (DB.out _).mono ?_
          rintro e1 w1 ⟨hd, hb1⟩
          have hst1 := HS.out.later HR2.out hb1
          have hz1 := hb1.size
          rcases hd with ⟨o, ho, rfl⟩ | ⟨ho, rfl⟩
          · have c1 : w1.cell? ⟨R + 1, 1, none⟩ = some (.string ⟨#[]⟩) := cell_here hst1.plain
            have f1 : w1.frozen? ⟨R + 1, 1, none⟩ = false := frozen_here hst1.plain _
            have hst2 := hst1.set1 o
            have hs2 : R + 2 ≤ (w1.setCell ⟨R + 1, 1, none⟩ (.string ⟨o.toArray⟩)).heap.size := by rw [set_size]; omega
            have HS2 := Lib.hid hst2; have HO := Lib.hid ho; have HZ2 := Lib.hid hs2
            clear hst1 hst2 ho hb1 hs2 hz1 hR2
            dsimp only
            go_wp2
            go_roundw
            case rel => exact ⟨2, x, o, [], by omega, by go_num, HS2.out, HZ2.out, by have ho := HO.out; exact Or.inr (Or.inr (Or.inl ⟨rfl, HX.out, ho, rfl⟩))⟩
            case measure => simp [intOf]
          · have c1 : w1.cell? ⟨R + 1, 1, none⟩ = some (.string ⟨#[]⟩) := cell_here hst1.plain
            have f1 : w1.frozen? ⟨R + 1, 1, none⟩ = false := frozen_here hst1.plain _
            have hst2 := hst1.set1 []
            have hv := verSays_of (HV.out.trans (verP_none2 ho))
            have HS2 := Lib.hid hst2; have HVV := Lib.hid hv
            clear hst1 hst2 ho hb1 hv hz1 hR2
            dsimp only
            go_wp2
            go_ret2
            exact ⟨HVV.out, by rw [HRR.out]; exact HS2.out.low⟩
        · have HX := Lib.hid hx; have HY := Lib.hid hy; clear hx hy
          have c0 : wr.cell? ⟨R, 2, none⟩ = some (.string ⟨c.toArray⟩) := cell_here hst.parts
          have HS := Lib.hid hst; clear hst hk
          go_wp2_with fail
          refine (DC.out _).mono ?_
          rintro e1 w1 ⟨hd, hb1⟩
          have hst1 := HS.out.later HR2.out hb1
          have hz1 := hb1.size
          rcases hd with ⟨o, ho, rfl⟩ | ⟨ho, rfl⟩
          · have c1 : w1.cell? ⟨R + 1, 2, none⟩ = some (.string ⟨#[]⟩) := cell_here hst1.plain
            have f1 : w1.frozen? ⟨R + 1, 2, none⟩ = false := frozen_here hst1.plain _
            have hst2 := hst1.set2 o
            have hs2 : R + 2 ≤ (w1.setCell ⟨R + 1, 2, none⟩ (.string ⟨o.toArray⟩)).heap.size := by rw [set_size]; omega
            have HS2 := Lib.hid hst2; have HO := Lib.hid ho; have HZ2 := Lib.hid hs2
            clear hst1 hst2 ho hb1 hs2 hz1 hR2
            dsimp only
            go_wp2
            go_roundw
            case rel => exact ⟨3, x, y, o, by omega, by go_num, HS2.out, HZ2.out, by have ho := HO.out; exact Or.inr (Or.inr (Or.inr ⟨rfl, HX.out, HY.out, ho⟩))⟩
            case measure => simp [intOf]
          · have c1 : w1.cell? ⟨R + 1, 2, none⟩ = some (.string ⟨#[]⟩) := cell_here hst1.plain
            have f1 : w1.frozen? ⟨R + 1, 2, none⟩ = false := frozen_here hst1.plain _
            have hst2 := hst1.set2 []
            have hv := verSays_of (HV.out.trans (verP_none3 ho))
            have HS2 := Lib.hid hst2; have HVV := Lib.hid hv
            clear hst1 hst2 ho hb1 hv hz1 hR2
            dsimp only
            go_wp2
            go_ret2
            exact ⟨HVV.out, by rw [HRR.out]; exact HS2.out.low⟩
        · have c0 : wr.cell? ⟨R + 1, 0, none⟩ = some (.string ⟨x.toArray⟩) := cell_here hst.plain
          have hbw : Below w.heap.size w wr := by rw [HRR.out]; exact hst.low
          have hft := HF.out a b c x rfl hx
          have hix := indexF_any A C l x (R + 1) HL.out hft wr ((HP.out.below hbw).more hbw.size) (HJ.out.below hbw) (by omega) c0
          have HIX := Lib.hid hix; have HST := Lib.hid hst; have HX := Lib.hid hx; have HY := Lib.hid hy; have HZ := Lib.hid hz; have HFT := Lib.hid hft; have HBW := Lib.hid hbw
          clear hix hst hx hy hz hft c0 hk hbw hR2
          go_wp2_with fail
          refine (HIX.out).mono ?_
          rintro e1 w1 ⟨⟨i, rfl, hi⟩, hb1⟩
          have hst1 := HST.out.later HR2.out hb1
          have hbw1 := HBW.out.chain hb1
          have hz1 : R + 2 ≤ w1.heap.size := Nat.le_trans HR2.out hb1.size
          rcases hi with ⟨k, hk, rfl, hhd, hbf⟩ | ⟨rfl, hno⟩
          · have hfk := findK_hit k hk hhd hbf
            obtain ⟨hs1, hs2⟩ := HFT.out k hk hbf
            obtain ⟨pa, rfl, hab, h1, h2⟩ := (HP.out.below hbw1) k hk
            have hpw : (pa.add (k * 2)).block < w1.heap.size := by rw [add_block]; have := hbw1.size; omega
            generalize l[k] = y2 at *
            obtain ⟨ya, sec⟩ := y2
            dsimp only at h1 h2 hfk hs1 hs2
            have c0 : w1.cell? ⟨R, 0, none⟩ = some (.string ⟨a.toArray⟩) := cell_here hst1.parts
            have c1 : w1.cell? ⟨R, 1, none⟩ = some (.string ⟨b.toArray⟩) := cell_here hst1.parts
            have hk0 : (0 : Int) ≤ k := by omega
            have hk1 : (k : Int) < (l.length : Int) := by omega
            have hneg : decide ((k : Int) < 0) = false := by simp
            have w1' : IntKind.i64.wrap ((k : Int) * 2) = (k : Int) * 2 := by have := HL.out; rw [IntKind.wrap_i64]; omega
            have ST : ∀ W, Below w1.heap.size w1 W → (W.cell? ⟨(pa.add (k * 2)).block, (pa.add (k * 2)).off + 1, none⟩ = some (.string ⟨sec.toArray⟩) ∧ W.cell? ⟨R + 1, 2, none⟩ = some (.string ⟨z.toArray⟩)) ∧ Below w1.heap.size w1 W := fun W hb =>
              ⟨⟨(hb.cell (p := ⟨(pa.add (k * 2)).block, (pa.add (k * 2)).off + 1, none⟩) hpw).trans h2, (hb.cell (p := ⟨R + 1, 2, none⟩) (by show R + 1 < _; omega)).trans (cell_here hst1.plain)⟩, hb⟩
            obtain ⟨SA, hSA⟩ : ∃ SA : ByteArray, (⟨a.toArray⟩ : ByteArray) = SA := ⟨_, rfl⟩
            obtain ⟨SB, hSB⟩ : ∃ SB : ByteArray, (⟨b.toArray⟩ : ByteArray) = SB := ⟨_, rfl⟩
            have zA : SA.size ≤ 4096 := by rw [← hSA]; show a.toArray.size ≤ _; simpa using HL3.out.1
            have zB : SB.size ≤ 4096 := by rw [← hSB]; show b.toArray.size ≤ _; simpa using HL3.out.2.1
            have n1 : ∀ W, (Op.stringOp .add SA ⟨#[46]⟩).run Tryd.prog W = .ok (.string (SA ++ ⟨#[46]⟩)) W := fun W => run_string_add_sum W _ _ (by show SA.size + 1 ≤ _; omega)
            have n2 : ∀ W, (Op.stringOp .add (SA ++ ⟨#[46]⟩) SB).run Tryd.prog W = .ok (.string (SA ++ ⟨#[46]⟩ ++ SB)) W := fun W => run_string_add_sum W _ _ (by rw [ByteArray.size_append]; show SA.size + 1 + SB.size ≤ _; omega)
            obtain ⟨F, hF⟩ : ∃ F : ByteArray, SA ++ ⟨#[46]⟩ ++ SB = F := ⟨_, rfl⟩
            have hFl : F.data.toList = a ++ [46] ++ b := by rw [← hF, ← hSA, ← hSB]; simp
            rw [hSA] at c0
            rw [hSB] at c1
            rw [hF] at n2
            have hFs : F.size ≤ 1000000 := by
              have : F.size = F.data.toList.length := rfl
              rw [this, hFl]; have := HL3.out; simp; omega
            have hmc := fun W (hb : Below w1.heap.size w1 W) => mac_any ⟨sec.toArray⟩ F (by show sec.toArray.size ≤ _; simp; omega) hFs W ((HJ.out.below hbw1).rounds.below hb)
            have e1 : (⟨sec.toArray⟩ : ByteArray).data.toList = sec := by simp
            rw [hFl, e1] at hmc
            obtain ⟨M, hM⟩ : ∃ M, macL sec (a ++ [46] ++ b) = M := ⟨_, rfl⟩
            have hML : M.length = 32 := by rw [← hM]; exact macL_len _ _
            rw [hM] at hmc
            have hzl := HZ.out
            have heq := fun W => equal_any ⟨M.toArray⟩ ⟨z.toArray⟩ (by show M.toArray.size ≤ _; simp; unfold maxLen; omega) (by show z.toArray.size ≤ _; simp; have := dec_short hzl; have := HL3.out; unfold maxLen; omega) W
            have e2 : eqB ⟨M.toArray⟩ ⟨z.toArray⟩ = decide (M = z) := by unfold eqB; simp
            rw [e2] at heq
            obtain ⟨q, hq⟩ : ∃ q, decide (M = z) = q := ⟨_, rfl⟩
            rw [hq] at heq
            have HQQ := Lib.hid hq
            have STH := Lib.hid ST; have HM := Lib.hid hmc; have HQ := Lib.hid heq; have HFF := Lib.hid hF; have HST1 := Lib.hid hst1; have HBW1 := Lib.hid hbw1; have HFK := Lib.hid hfk; have HMM := Lib.hid hM
            clear hq ST hmc heq hF hFl hFs hSA hSB zA zB hst1 hbw1 hfk hM hML hzl e1 e2 hhd hbf hb1 h1 h2 hs1 hs2 hpw hab
            dsimp only
            go_upto_region 18 with fail
            go_quiet (fail)
            go_upto_region 19 with fail
            go_region_held3 (fun W => (W.cell? ⟨(pa.add (k * 2)).block, (pa.add (k * 2)).off + 1, none⟩ = some (.string ⟨sec.toArray⟩) ∧ W.cell? ⟨R + 1, 2, none⟩ = some (.string ⟨z.toArray⟩)) ∧ Below w1.heap.size w1 W)
              (first | exact STH.out _ (by repeat (first | (with_reducible exact Below.refl _ _) | (with_reducible apply Below.drew) | (with_reducible apply belowDrewN) | (with_reducible refine Below.alloc ?_ (by first | omega | (simp only [World.size_alloc, World.size_drew, set_size]; omega) | (simp; omega)) _) | (with_reducible refine Below.chain ?_ hbx))))
              (first | (go_at_call 27; (with_reducible refine (HM.out _ (by repeat (first | (with_reducible exact Below.refl _ _) | (with_reducible apply Below.drew) | (with_reducible apply belowDrewN) | (with_reducible refine Below.alloc ?_ (by first | omega | (simp only [World.size_alloc, World.size_drew, set_size]; omega) | (simp; omega)) _) | (with_reducible refine Below.chain ?_ hbx)))).mono ?_); rintro e wx ⟨rfl, hbx⟩) | (go_at_call 33; (with_reducible refine (HQ.out _).mono ?_); rintro e wy ⟨rfl, rfl⟩))
            all_goals
              have hbz : Below w1.heap.size w1 wx := (by repeat (first | (with_reducible exact Below.refl _ _) | (with_reducible apply Below.drew) | (with_reducible apply belowDrewN) | (with_reducible refine Below.alloc ?_ (by first | omega | (simp only [World.size_alloc, World.size_drew, set_size]; omega) | (simp; omega)) _) | (with_reducible refine Below.chain ?_ hbx)))
              have hst3 := HST1.out.later hz1 hbz
              have c5 : wx.cell? ⟨R + 1, 1, none⟩ = some (.string ⟨y.toArray⟩) := cell_here hst3.plain
              have HBZ := Lib.hid hbz
              clear hst3 hbz
              cases q with
              | true =>
                have hv := verSays_of (HV.out.trans (verP_good HX.out HY.out HZ.out HFK.out (HMM.out.trans (of_decide_eq_true HQQ.out))))
                have HVV := Lib.hid hv; clear hv
                go_wp2
                go_ret2
                exact ⟨HVV.out, HBW1.out.chain HBZ.out⟩
              | false =>
                have hv := verSays_of (HV.out.trans (verP_bad HX.out HY.out HZ.out HFK.out (fun e => by have := HQQ.out; rw [HMM.out] at e; simp [e] at this)))
                have HVV := Lib.hid hv; clear hv
                go_wp2
                go_ret2
                exact ⟨HVV.out, HBW1.out.chain HBZ.out⟩
          · have hfk := findK_miss hno
            have hv := verSays_of (HV.out.trans (verP_miss HX.out HY.out HZ.out hfk))
            have HVV := Lib.hid hv; have HB := Lib.hid hbw1
            clear hv hfk hno hst1 hbw1 hb1 hz1
            dsimp only
            go_wp2
            go_ret2
            exact ⟨HVV.out, HB.out⟩

end Go.Proofs.YthbbeojhipcjiaaDoor
namespace Go.Proofs.YthbbeojhipcjiaaDoor
open Go.RowKit

theorem sixtyN_quiet (j : Nat) (h : j < 64) (w : World) :
    Calls Tryd.prog 36 #[.int .i64 j] w fun e w' => e = .returned (.int .u8 ((ltr j).toNat : Int)) ∧ w' = w := (sixty_any j (by omega) (by omega) w).mono fun _ _ h => ⟨h.1, h.2.symm⟩

def UnAt (l : List UInt8) (k : Nat) (v n : Nat) (acc : List UInt8) : Prop := unS 0 0 l = (unS v n (l.drop k)).map (acc ++ ·)
theorem unAt_start (l : List UInt8) : UnAt l 0 0 0 [] := by unfold UnAt; simp
theorem unAt_bad {l acc : List UInt8} {k v n : Nat} (h : UnAt l k v n acc) (hk : k < l.length) (hc : ix l[k] < 0) : unS 0 0 l = none := by
  unfold UnAt at h; rw [h, List.drop_eq_getElem_cons hk, unS, if_pos hc]; rfl
theorem unAt_0 {l acc : List UInt8} {k v : Nat} (h : UnAt l k v 0 acc) (hk : k < l.length) (hc : 0 ≤ ix l[k]) : UnAt l (k + 1) (v * 64 + (ix l[k]).toNat) 6 acc := by
  unfold UnAt at h ⊢; rw [h, List.drop_eq_getElem_cons hk, unS, if_neg (by omega), if_pos (by decide)]
theorem unAt_s {l acc : List UInt8} {k v n : Nat} (h : UnAt l k v n acc) (hb : 2 ≤ n) (hk : k < l.length) (hc : 0 ≤ ix l[k]) :
    UnAt l (k + 1) ((v * 64 + (ix l[k]).toNat) % 2 ^ (n - 2)) (n - 2) (acc ++ [UInt8.ofNat ((v * 64 + (ix l[k]).toNat) / 2 ^ (n - 2))]) := by
  unfold UnAt at h ⊢; rw [h, List.drop_eq_getElem_cons hk, unS, if_neg (by omega), if_neg (by omega), Option.map_map]; congr 1; funext x; simp
theorem unAt_end {l acc : List UInt8} {v n : Nat} (h : UnAt l l.length v n acc) : unS 0 0 l = some acc := by
  unfold UnAt at h; rw [h, List.drop_length, unS]; simp

/-- what UnB64 answers -/
def UnSays (l : List UInt8) (e : Ending) : Prop :=
  (∃ o, unS 0 0 l = some o ∧ e = .returned (.tuple #[.string ⟨o.toArray⟩, .bool (decide (enc o = l))])) ∨ (unS 0 0 l = none ∧ e = .returned (.tuple #[.string ⟨#[]⟩, .bool false]))

set_option maxHeartbeats 2000000 in
set_option maxRecDepth 100000 in
theorem refUn_says (s : ByteArray) (hs : s.size ≤ 46912496117759) (w : World) :
    Calls Tryd.prog 35 #[.string s] w fun e w' => UnSays s.data.toList e ∧ Below w.heap.size w w' := by
  obtain ⟨i0, hi, hz0, hz1, hz2⟩ := info_parts Tryd.infoByte
  go_enter Tryd.func35, Tryd.ntmps35
  go_wp2
  go_loopw [4, 5, 6, 7] (fun o v n i wr => ∃ (k V N : Nat) (acc : List UInt8), k ≤ s.size ∧ i = .int .i64 k ∧ v = .int .i64 V ∧ V < 2 ^ N ∧ n = .int .i64 N ∧ (N = 0 ∨ N = 6 ∨ N = 4 ∨ N = 2) ∧ Buf wr w.heap.size o acc ∧ acc.length ≤ k ∧ UnAt s.data.toList k V N acc ∧ Below w.heap.size w wr) (fun _ _ _ i _ => s.size - (intOf i).toNat)
  case atStart => exact ⟨0, 0, 0, [], Nat.zero_le _, rfl, rfl, by decide, rfl, .inl rfl, World.ownsRow_nil _ _ _ _, Nat.zero_le _, unAt_start _, Below.refl _ _⟩
  case round =>
    obtain ⟨k, V, N, acc, hk, rfl, rfl, hV, rfl, h0642, hown, hal, hat, hb⟩ := hrel
    have HA := Lib.hid hat; clear hat
    have HO := Lib.hid h0642; clear h0642
    by_cases hlt : k < s.size
    · go_wp2
      go_loopw [8, 9] (fun d j wx => ∃ jj : Nat, jj ≤ 64 ∧ j = .int .i64 jj ∧ d = .int .i64 (ixTo s[k] jj) ∧ Buf wx w.heap.size u4 acc ∧ Below w.heap.size w wx) (fun _ j _ => 64 - (intOf j).toNat)
      case atStart => exact ⟨0, Nat.zero_le _, rfl, rfl, hown, hb⟩
      case round =>
        obtain ⟨jj, hj, rfl, rfl, hownx, hbx⟩ := hrel
        have hbsx := hbx.size
        by_cases hlj : jj < 64
        · by_cases hc : (ltr jj).toNat = s[k].toNat
          · have c1 : (((ltr jj).toNat : Int) == (s[k].toNat : Int)) = true := by simp; omega
            have hx : ixTo s[k] (jj + 1) = jj := by rw [ixTo, if_pos hc]
            have HX := Lib.hid hx; clear hx hc
            go_wp2
            go_quiet ((go_at_call 36; exact Calls.quiet_of_same (sixtyN_quiet _ hlj _)))
            go_wp2
            go_roundw
            case rel => exact ⟨jj + 1, by omega, by go_num, int_eq HX.out.symm, hownx, ⟨hbx.os, hbx.tape, hbx.output, hbx.size, hbx.block⟩⟩
            case measure => simp [intOf]; omega
          · have c1 : (((ltr jj).toNat : Int) == (s[k].toNat : Int)) = false := by simp; omega
            have hx : ixTo s[k] (jj + 1) = ixTo s[k] jj := by rw [ixTo, if_neg hc]
            have HX := Lib.hid hx; clear hx hc
            go_wp2
            go_quiet ((go_at_call 36; exact Calls.quiet_of_same (sixtyN_quiet _ hlj _)))
            go_wp2
            go_roundw
            case rel => exact ⟨jj + 1, by omega, by go_num, int_eq HX.out.symm, hownx, ⟨hbx.os, hbx.tape, hbx.output, hbx.size, hbx.block⟩⟩
            case measure => simp [intOf]; omega
        · have hj64 : jj = 64 := by omega
          subst hj64
          rw [ixTo_ix]
          by_cases hc : ix s[k] < 0
          · have HC := Lib.hid hc
            go_wp2
            go_ret2
            exact ⟨Or.inr ⟨unAt_bad HA.out hlt HC.out, rfl⟩, hbx⟩
          · have hc : 0 ≤ ix s[k] := by omega
            have hix : ix s[k] < 64 := by rcases ix_cases s[k] with h | h <;> omega
            have HC := Lib.hid hc
            have h0642 := HO.out
            rcases h0642 with rfl | rfl | rfl | rfl
            · go_wp2
              go_roundw
              case rel => exact ⟨k + 1, V * 64 + (ix s[k]).toNat, 6, acc, by omega, by go_num, int_eq (by omega), by omega, rfl, .inr (.inl rfl), hownx, by omega, unAt_0 HA.out hlt HC.out, hbx⟩
              case measure => simp [intOf]; omega
            · go_wp2_with (at_builtin; refine wpList_append_own _ rfl (.tmp 39) (.tmp 45) 67 rfl w.heap.size 5 i0 _ 1 1 Tryd.underlying67 hi hz0 hz1 hz2 rfl (by decide) _ _ _ rfl (World.ownsRow.alloc hownx _) ⟨_, 0, none⟩ 1 1 [.int .u8 _] rfl rfl (new_cells _ #[_] _) (one_cell _) (by unfold maxLen; omega) (by omega) (by simp; omega) ?_)
              intro v' w1 hown' hg' _
              have hb1 : Below w.heap.size w w1 := (hbx.alloc hbsx _).grown hg' (by simp; omega) (fun j hj => (hownx.lt j hj).1)
              go_wp2
              go_roundw
              case rel => exact ⟨k + 1, (V * 64 + (ix s[k]).toNat) % 16, 4, acc ++ [UInt8.ofNat ((V * 64 + (ix s[k]).toNat) / 16)], by omega, by go_num, int_eq (by omega), by omega, rfl, .inr (.inr (.inl rfl)), Buf.cut hown' (by simp) (cells_byte _ ((V * 64 + (ix s[k]).toNat) / 16) _ _ (by omega) rfl), by simp; omega, unAt_s HA.out (by decide) hlt HC.out, hb1⟩
              case measure => simp [intOf]; omega
            · go_wp2_with (at_builtin; refine wpList_append_own _ rfl (.tmp 39) (.tmp 45) 67 rfl w.heap.size 5 i0 _ 1 1 Tryd.underlying67 hi hz0 hz1 hz2 rfl (by decide) _ _ _ rfl (World.ownsRow.alloc hownx _) ⟨_, 0, none⟩ 1 1 [.int .u8 _] rfl rfl (new_cells _ #[_] _) (one_cell _) (by unfold maxLen; omega) (by omega) (by simp; omega) ?_)
              intro v' w1 hown' hg' _
              have hb1 : Below w.heap.size w w1 := (hbx.alloc hbsx _).grown hg' (by simp; omega) (fun j hj => (hownx.lt j hj).1)
              go_wp2
              go_roundw
              case rel => exact ⟨k + 1, (V * 64 + (ix s[k]).toNat) % 4, 2, acc ++ [UInt8.ofNat ((V * 64 + (ix s[k]).toNat) / 4)], by omega, by go_num, int_eq (by omega), by omega, rfl, .inr (.inr (.inr rfl)), Buf.cut hown' (by simp) (cells_byte _ ((V * 64 + (ix s[k]).toNat) / 4) _ _ (by omega) rfl), by simp; omega, unAt_s HA.out (by decide) hlt HC.out, hb1⟩
              case measure => simp [intOf]; omega
            · go_wp2_with (at_builtin; refine wpList_append_own _ rfl (.tmp 39) (.tmp 45) 67 rfl w.heap.size 5 i0 _ 1 1 Tryd.underlying67 hi hz0 hz1 hz2 rfl (by decide) _ _ _ rfl (World.ownsRow.alloc hownx _) ⟨_, 0, none⟩ 1 1 [.int .u8 _] rfl rfl (new_cells _ #[_] _) (one_cell _) (by unfold maxLen; omega) (by omega) (by simp; omega) ?_)
              intro v' w1 hown' hg' _
              have hb1 : Below w.heap.size w w1 := (hbx.alloc hbsx _).grown hg' (by simp; omega) (fun j hj => (hownx.lt j hj).1)
              go_wp2
              go_roundw
              case rel => exact ⟨k + 1, (V * 64 + (ix s[k]).toNat) % 1, 0, acc ++ [UInt8.ofNat ((V * 64 + (ix s[k]).toNat) / 1)], by omega, by go_num, int_eq (by omega), by omega, rfl, .inl rfl, Buf.cut hown' (by simp) (cells_byte _ ((V * 64 + (ix s[k]).toNat) / 1) _ _ (by omega) rfl), by simp; omega, unAt_s HA.out (by decide) hlt HC.out, hb1⟩
              case measure => simp [intOf]; omega
    · have hke : k = s.size := by omega
      subst hke
      have hcv := hown.text
      have hbs := hb.size
      have hlen : (ByteArray.mk acc.toArray).size ≤ 46912496117759 := by show acc.length ≤ _; omega
      have hownd : Buf wr.drew w.heap.size u4 acc := hown
      go_wp2_with fail
      go_region_held3 (fun w' => (convert 67 9 u4).run Tryd.prog w' = .ok (.string ⟨acc.toArray⟩) w') (first | exact hcv | exact hownd.text | exact (hownd.below (by assumption)).text) (first | (go_at_call 16; refine (refB64_any _ hlen _).mono ?_; rintro e w2 ⟨rfl, hb2⟩))
      go_wp2
      go_ret2
      refine ⟨Or.inl ⟨acc, unAt_end HA.out, ?_⟩, hb.drew.trans (hb2.mono hbs)⟩
      exact ret_sb (by rw [Lib.toList_data, Bool.eq_iff_iff]; simp)
end Go.Proofs.YthbbeojhipcjiaaDoor
namespace Go.Proofs.YthbbeojhipcjiaaDoor
open Go.RowKit
set_option linter.unusedVariables false
set_option linter.unusedSimpArgs false

def verSaysR (l : PL) (s : List UInt8) (e : Ending) : Prop := e = .returned (.tuple #[.string ⟨(verR l s).1.toArray⟩, .int .i64 (verR l s).2])
theorem verSaysR_of {l : PL} {s p : List UInt8} {n : Int} (h : verR l s = (p, n)) : verSaysR l s (.returned (.tuple #[.string ⟨p.toArray⟩, .int .i64 n])) := by unfold verSaysR; rw [h]
/-- what the reference's UnB64 answers -/
def UnTwo (l : List UInt8) (e : Ending) : Prop := ∃ (x : List UInt8) (q : Bool), e = .returned (.tuple #[.string ⟨x.toArray⟩, .bool q]) ∧ (q = true → dec l = some x) ∧ (q = false → dec l = none)
theorem UnSays.two {l : List UInt8} {e : Ending} (h : UnSays l e) : UnTwo l e := by
  rcases h with ⟨o, h1, rfl⟩ | ⟨h1, rfl⟩
  · refine ⟨o, _, rfl, fun h => ?_, fun h => ?_⟩
    · have := of_decide_eq_true h; unfold dec; rw [h1, Option.bind_some, if_pos this]
    · have := of_decide_eq_false h; unfold dec; rw [h1, Option.bind_some, if_neg this]
  · exact ⟨[], false, rfl, fun h => (by cases h), fun _ => (by unfold dec; rw [h1]; rfl)⟩
theorem un_bytes {s : List UInt8} (hs : s.length ≤ 4096) (w : World) : Calls Tryd.prog 35 #[.string ⟨s.toArray⟩] w fun e w' => UnTwo s e ∧ Below w.heap.size w w' :=
  (refUn_says ⟨s.toArray⟩ (by rw [bytes_size]; omega) w).mono fun _ _ ⟨h, hb⟩ => ⟨by rw [bytes_list] at h; exact h.two, hb⟩
theorem dec_shortR {l o : List UInt8} (h : dec l = some o) : o.length ≤ l.length := by
  have h1 := (dec_some h).1
  have h2 := enc_len o
  rw [h1] at h2; omega
set_option maxRecDepth 100000 in
set_option maxHeartbeats 4000000 in
theorem refVerify_any (A : Option Addr) (C : Nat) (l : PL) (s : List UInt8) (hl : l.length ≤ 4611686018427387904) (hs : s.length ≤ 9223372036854775807) (hfit : ∀ a b c x, splitL 46 s = [a, b, c] → dec a = some x → FitAt l x)
    (w : World) (hp : Prs w w.heap.size A l) :
    Calls Tryd.prog 15 #[.slice A l.length C, .string ⟨s.toArray⟩] w fun e w' => verSaysR l s e ∧ Below w.heap.size w w' := by
  have hsz : (⟨s.toArray⟩ : ByteArray).size = s.length := bytes_size s
  by_cases hlg : 4096 < s.length
  · have hv := Lib.hid (verSaysR_of (verR_large (keys := l) hlg))
    have hlgi : (4096 : Int) < (s.length : Int) := by omega
    clear hlg hp hfit hl
    obtain ⟨S, hS⟩ : ∃ S : ByteArray, S = ⟨s.toArray⟩ := ⟨_, rfl⟩
    rw [← hS] at hsz ⊢
    rw [← hsz] at hlgi
    clear hS hsz
    go_enter Tryd.func15, Tryd.ntmps15
    go_wp2
    go_ret2
    exact ⟨hv.out, Below.refl _ _⟩
  · have hvs := verR_small (keys := l) hlg
    have hspl := fun wq => split_any ⟨s.toArray⟩ 46 (by rw [hsz]; omega) wq
    have hpl := splitL_each 46 s
    rw [bytes_list] at hspl
    obtain ⟨ps, hps⟩ : ∃ ps, splitL 46 s = ps := ⟨_, rfl⟩
    rw [hps] at hspl hvs hpl hfit
    have hlgi : ¬ (4096 : Int) < (s.length : Int) := by omega
    have hs4 : s.length ≤ 4096 := by omega
    have HPL := Lib.hid hpl; have HP := Lib.hid hp; have HF := Lib.hid hfit; have HL := Lib.hid hl
    clear hp hfit hpl hps hl
    obtain ⟨S, hS⟩ : ∃ S : ByteArray, S = ⟨s.toArray⟩ := ⟨_, rfl⟩
    rw [← hS] at hsz hspl ⊢
    rw [← hsz] at hlgi
    have hspl1 : ∀ wq, Calls Tryd.prog 34 #[.string S, .int .u8 46] wq fun e w' => ∃ v, e = .returned v ∧ Strs w' wq.heap.size v ps ∧ Below wq.heap.size wq w' := hspl
    have HSP := Lib.hid hspl1
    clear hspl hspl1
    by_cases h3 : ps.length = 3
    case neg =>
      have hv := Lib.hid (verSaysR_of (hvs.trans (verS_other h3)))
      have hform : ∀ (W : World) (B : Nat) (v : Value), Strs W B v ps → ∃ A c, v = .slice A ps.length c := fun W B v h => own_formR h
      obtain ⟨n, hn⟩ : ∃ n, ps.length = n := ⟨_, rfl⟩
      rw [hn] at h3 hform
      have HFO := Lib.hid hform
      have h3i : ((n : Int) == 3) = false := by simpa using (show ¬ (n : Int) = 3 by omega)
      clear hlg hvs hsz hS hn hs hs4 h3 hform
      go_enter Tryd.func15, Tryd.ntmps15
      go_wp2_with fail
      refine ((HSP.out) _).mono ?_
      rintro e1 w1 ⟨v, rfl, hv1, hb1⟩
      obtain ⟨A1, c1, rfl⟩ := HFO.out _ _ _ hv1
      have HB := Lib.hid hb1; clear hb1 hv1
      dsimp only
      go_wp2
      go_ret2
      exact ⟨hv.out, HB.out⟩
    case pos =>
      obtain ⟨a, b, c, rfl, hv3⟩ := verS_three (keys := l) h3
      have hl3 : a.length ≤ 4096 ∧ b.length ≤ 4096 ∧ c.length ≤ 4096 := ⟨Nat.le_trans (HPL.out a (by simp)) hs4, Nat.le_trans (HPL.out b (by simp)) hs4, Nat.le_trans (HPL.out c (by simp)) hs4⟩
      have hvp : verR l s = verP l a b c := hvs.trans hv3
      have HV := Lib.hid hvp
      have da := fun W => un_bytes hl3.1 W
      have db := fun W => un_bytes hl3.2.1 W
      have dc := fun W => un_bytes hl3.2.2 W
      have hrow : ∀ (W : World) (B : Nat) (v : Value), Strs W B v [a, b, c] → ∃ g cp, v = .slice (some ⟨g, 0, none⟩) 3 cp ∧ g < W.heap.size ∧ W.cell? ⟨g, 0, none⟩ = some (.string ⟨a.toArray⟩) ∧ W.cell? ⟨g, 1, none⟩ = some (.string ⟨b.toArray⟩) ∧ W.cell? ⟨g, 2, none⟩ = some (.string ⟨c.toArray⟩) := fun W B v h => by
        rcases h.2 with ⟨_, h0⟩ | ⟨g, cp, cur, hv, hB, hg, _⟩
        · simp at h0
        · have hcell := fun j u hu => World.ownsRow.cells (g := g) h (by rw [hv]; rfl) j u hu
          refine ⟨g, _, hv, (Array.getElem?_eq_some_iff.1 hg).1, ?_, ?_, ?_⟩
          · exact hcell 0 _ rfl
          · exact hcell 1 _ rfl
          · exact hcell 2 _ rfl
      have HRO := Lib.hid hrow; have DA := Lib.hid da; have DB := Lib.hid db; have DC := Lib.hid dc; have HL3 := Lib.hid hl3
      clear hlg hvs hv3 hvp h3 hs hsz hS hs4 HPL da db dc hl3 hrow
      go_enter Tryd.func15, Tryd.ntmps15
      go_wp2_with fail
      refine ((HSP.out) _).mono ?_
      rintro e1 w1 ⟨v, rfl, hv1, hb1⟩
      obtain ⟨g, cp, rfl, hg, p0, p1, p2⟩ := HRO.out _ _ _ hv1
      have HB1 := Lib.hid hb1; have HP0 := Lib.hid p0; have HP1 := Lib.hid p1; have HP2 := Lib.hid p2
      clear hb1 hv1 p1 p2
      dsimp only
      go_wp2_with fail
      refine ((DA.out) _).mono ?_
      rintro e2 w2 ⟨⟨x, qa, rfl, ha1, ha2⟩, hb2⟩
      have p1 := (hb2.cell (p := ⟨g, 1, none⟩) hg).trans HP1.out
      have HB2 := Lib.hid hb2; have HA1 := Lib.hid ha1; have HA2 := Lib.hid ha2
      clear hb2 ha1 ha2 p0
      dsimp only
      go_wp2_with fail
      refine ((DB.out) _).mono ?_
      rintro e3 w3 ⟨⟨y, qb, rfl, hb1, hb2⟩, hb3⟩
      have hb13 := HB2.out.chain hb3
      have p2 := (hb13.cell (p := ⟨g, 2, none⟩) hg).trans HP2.out
      have HB3 := Lib.hid hb13; have HE1 := Lib.hid hb1; have HE2 := Lib.hid hb2
      clear hb3 hb1 hb2 p1 hb13
      dsimp only
      go_wp2_with fail
      refine ((DC.out) _).mono ?_
      rintro e4 w4 ⟨⟨z, qc, rfl, hc1, hc2⟩, hb4⟩
      have hb14 := HB3.out.chain hb4
      have HB4 := Lib.hid hb14; have HC1 := Lib.hid hc1; have HC2 := Lib.hid hc2
      clear hb4 hc1 hc2 p2 hb14
      dsimp only
      have hend : verR l s = ([], 2) → verSaysR l s (.returned (.tuple #[.string ⟨#[]⟩, .int .i64 2])) := fun h => verSaysR_of h
      have HEND := Lib.hid hend; clear hend
      cases qa with
      | false =>
        have HVV := Lib.hid (HEND.out (HV.out.trans (verP_none1 (HA2.out rfl))))
        go_wp2
        go_ret2
        exact ⟨HVV.out, HB1.out.chain HB4.out⟩
      | true =>
      cases qb with
      | false =>
        have HVV := Lib.hid (HEND.out (HV.out.trans (verP_none2 (HE2.out rfl))))
        go_wp2
        go_ret2
        exact ⟨HVV.out, HB1.out.chain HB4.out⟩
      | true =>
      cases qc with
      | false =>
        have HVV := Lib.hid (HEND.out (HV.out.trans (verP_none3 (HC2.out rfl))))
        go_wp2
        go_ret2
        exact ⟨HVV.out, HB1.out.chain HB4.out⟩
      | true =>
      have HX := Lib.hid (HA1.out rfl); have HY := Lib.hid (HE1.out rfl); have HZ := Lib.hid (HC1.out rfl)
      have hft := HF.out a b c x rfl HX.out
      have HFT := Lib.hid hft; clear hft
      obtain ⟨n, hn⟩ : ∃ n, l.length = n := ⟨_, rfl⟩
      rw [hn]
      have HN := Lib.hid hn
      have hnl : n ≤ 4611686018427387904 := by rw [← hn]; exact HL.out
      clear hn
      go_wp2
      go_loopw [13] (fun i wr => ∃ k : Nat, k ≤ n ∧ i = .int .i64 k ∧ (∀ j (hj : j < l.length), j < k → headT l[j].1 ≠ x) ∧ Below w1.heap.size w1 wr) (fun i _ => n - (intOf i).toNat)
      case atStart => exact ⟨0, Nat.zero_le _, rfl, fun _ _ h => absurd h (Nat.not_lt_zero _), HB4.out⟩
      case round =>
        obtain ⟨k, hk, rfl, hb, hbw⟩ := hrel
        have HB := Lib.hid hb; have HBW := Lib.hid hbw
        clear hb
        by_cases hlt : k < n
        · have hkl : k < l.length := by have := HN.out; omega
          have hww := HB1.out.chain hbw
          obtain ⟨pa, rfl, hab, h1, h2⟩ := (HP.out.below hww) k hkl
          have hpw : (pa.add (k * 2)).block < wr.heap.size := by rw [add_block]; have := hww.size; omega
          have hbf : ∀ j (hj : j < k), headT (l[j]'(by omega)).1 ≠ x := fun j hj => HB.out j (by omega) hj
          obtain ⟨hs1, hs2⟩ := HFT.out k hkl hbf
          have g1 : headT l[k].1 = x → findK l x = some l[k].2 := fun e => findK_hit k hkl e hbf
          have g2 : headT l[k].1 ≠ x → ∀ j (hj : j < l.length), j < k + 1 → headT l[j].1 ≠ x := fun e j hj h => by
            rcases Nat.lt_succ_iff_lt_or_eq.1 h with h | h
            · exact HB.out j hj h
            · subst h; exact e
          have G1 := Lib.hid g1; have G2 := Lib.hid g2; have HWW := Lib.hid hww
          clear g1 g2 hbf hww hab
          have hk0 : (0 : Int) ≤ k := by omega
          have hk1 : (k : Int) < n := by omega
          have w1' : IntKind.i64.wrap ((k : Int) * 2) = (k : Int) * 2 := by rw [IntKind.wrap_i64]; omega
          generalize l[k] = y2 at *
          obtain ⟨ya, sec⟩ := y2
          dsimp only at h1 h2 hs1 hs2 G1 G2
          have hh := refHead_any ya (by omega) wr
          have hk2 : wr.cell? ⟨g, 0, none⟩ = some (.string ⟨a.toArray⟩) := (hbw.cell (p := ⟨g, 0, none⟩) hg).trans HP0.out
          have hk3 : wr.cell? ⟨g, 1, none⟩ = some (.string ⟨b.toArray⟩) := (hbw.cell (p := ⟨g, 1, none⟩) hg).trans HP1.out
          have hgw : g < wr.heap.size := Nat.lt_of_lt_of_le hg hbw.size
          obtain ⟨SA, hSA⟩ : ∃ SA : ByteArray, (⟨a.toArray⟩ : ByteArray) = SA := ⟨_, rfl⟩
          obtain ⟨SB, hSB⟩ : ∃ SB : ByteArray, (⟨b.toArray⟩ : ByteArray) = SB := ⟨_, rfl⟩
          have zA : SA.size ≤ 4096 := by rw [← hSA, bytes_size]; exact HL3.out.1
          have zB : SB.size ≤ 4096 := by rw [← hSB, bytes_size]; exact HL3.out.2.1
          have n1 : ∀ W, (Op.stringOp .add SA ⟨#[46]⟩).run Tryd.prog W = .ok (.string (SA ++ ⟨#[46]⟩)) W := fun W => run_string_add_sum W _ _ (by show SA.size + 1 ≤ _; omega)
          have n2 : ∀ W, (Op.stringOp .add (SA ++ ⟨#[46]⟩) SB).run Tryd.prog W = .ok (.string (SA ++ ⟨#[46]⟩ ++ SB)) W := fun W => run_string_add_sum W _ _ (by rw [ByteArray.size_append]; show SA.size + 1 + SB.size ≤ _; omega)
          obtain ⟨F, hF⟩ : ∃ F : ByteArray, SA ++ ⟨#[46]⟩ ++ SB = F := ⟨_, rfl⟩
          have hFl : F.data.toList = a ++ [46] ++ b := by rw [← hF, ← hSA, ← hSB]; simp
          rw [hSA] at hk2
          rw [hSB] at hk3
          rw [hF] at n2
          have hFs : F.size ≤ 1000000 := by
            have : F.size = F.data.toList.length := rfl
            rw [this, hFl]; have := HL3.out; simp; omega
          have ST : ∀ W, Below wr.heap.size wr W → (W.cell? ⟨(pa.add (k * 2)).block, (pa.add (k * 2)).off + 1, none⟩ = some (.string ⟨sec.toArray⟩) ∧ W.cell? ⟨g, 0, none⟩ = some (.string SA) ∧ W.cell? ⟨g, 1, none⟩ = some (.string SB)) ∧ Below wr.heap.size wr W := fun W hb =>
            ⟨⟨(hb.cell (p := ⟨(pa.add (k * 2)).block, (pa.add (k * 2)).off + 1, none⟩) hpw).trans h2, (hb.cell (p := ⟨g, 0, none⟩) hgw).trans hk2, (hb.cell (p := ⟨g, 1, none⟩) hgw).trans hk3⟩, hb⟩
          have hmc := fun W => refMac_any ⟨sec.toArray⟩ F (by rw [bytes_size]; omega) hFs W
          rw [hFl, bytes_list] at hmc
          obtain ⟨M, hM⟩ : ∃ M, macL sec (a ++ [46] ++ b) = M := ⟨_, rfl⟩
          rw [hM] at hmc
          obtain ⟨h, hhd⟩ : ∃ h, headT ya = h := ⟨_, rfl⟩
          rw [hhd] at hh G1 G2
          have STH := Lib.hid ST; have HH := Lib.hid hh; have HM := Lib.hid hmc; have HMM := Lib.hid hM
          clear ST hh hmc hM hF hFl hFs hSA hSB zA zB hk2 hk3 hgw h2 hs1 hs2 hpw hhd hbw hk
          by_cases hx : h = x
          · have hbe : (h == x) = true := by simpa using hx
            have HFK := Lib.hid (G1.out hx); clear hx G1 G2
            obtain ⟨q, hq⟩ : ∃ q : Bool, (M == z) = q := ⟨_, rfl⟩
            have hiff : q = true ↔ M = z := by rw [← hq]; simp
            have HIFF := Lib.hid hiff; clear hiff
            go_wp2_with fail
            refine (HH.out).mono ?_
            rintro e5 w5 ⟨rfl, hb5⟩
            have HB5 := Lib.hid hb5; clear hb5
            dsimp only
            go_upto_region 15 with fail
            go_region_held3 (fun W => (W.cell? ⟨(pa.add (k * 2)).block, (pa.add (k * 2)).off + 1, none⟩ = some (.string ⟨sec.toArray⟩) ∧ W.cell? ⟨g, 0, none⟩ = some (.string SA) ∧ W.cell? ⟨g, 1, none⟩ = some (.string SB)) ∧ Below wr.heap.size wr W)
              (first | exact STH.out _ (by repeat (first | (with_reducible exact Below.refl _ _) | (with_reducible apply Below.drew) | (with_reducible apply belowDrewN) | (with_reducible refine Below.alloc ?_ (by first | omega | (simp only [World.size_alloc, World.size_drew, set_size]; omega) | (simp; omega)) _) | (with_reducible exact HB5.out) | (with_reducible refine Below.chain ?_ hbx))))
              (first | (go_at_call 17; (with_reducible refine (HM.out _).mono ?_); rintro e wx ⟨rfl, hbx⟩))
            all_goals
              have hbz : Below wr.heap.size wr wx := (by repeat (first | (with_reducible exact Below.refl _ _) | (with_reducible apply Below.drew) | (with_reducible apply belowDrewN) | (with_reducible refine Below.alloc ?_ (by first | omega | (simp only [World.size_alloc, World.size_drew, set_size]; omega) | (simp; omega)) _) | (with_reducible exact HB5.out) | (with_reducible refine Below.chain ?_ hbx)))
              have HBZ := Lib.hid hbz
              clear hbz
              cases q with
              | true =>
                have hv := verSaysR_of (HV.out.trans (verP_good HX.out HY.out HZ.out HFK.out (HMM.out.trans (HIFF.out.1 rfl))))
                have HVV := Lib.hid hv; clear hv
                go_wp2
                go_ret2
                exact ⟨HVV.out, HWW.out.chain HBZ.out⟩
              | false =>
                have hv := verSaysR_of (HV.out.trans (verP_bad HX.out HY.out HZ.out HFK.out (fun e => by rw [HMM.out] at e; have := HIFF.out.2 e; cases this)))
                have HVV := Lib.hid hv; clear hv
                go_wp2
                go_ret2
                exact ⟨HVV.out, HWW.out.chain HBZ.out⟩
          · have hbe : (h == x) = false := by simpa using hx
            have HG := Lib.hid (G2.out hx); clear hx G1 G2
            go_wp2_with fail
            refine (HH.out).mono ?_
            rintro e5 w5 ⟨rfl, hb5⟩
            have HB5 := Lib.hid hb5; clear hb5
            dsimp only
            go_wp2
            go_roundw
            case rel => exact ⟨k + 1, by omega, by go_num, HG.out, HBW.out.chain HB5.out⟩
            case measure => simp [intOf]; omega
        · have hke : k = n := by omega
          subst hke
          have hfk : findK l x = none := findK_miss fun j hj => HB.out j hj (by have := HN.out; omega)
          have hv := verSaysR_of (HV.out.trans (verP_miss HX.out HY.out HZ.out hfk))
          have HVV := Lib.hid hv
          clear hv hfk hbw hk
          go_wp2
          go_ret2
          exact ⟨HVV.out, HB1.out.chain HBW.out⟩
end Go.Proofs.YthbbeojhipcjiaaDoor
namespace Go.Proofs.YthbbeojhipcjiaaDoor
open Go.RowKit
set_option linter.unusedVariables false
set_option linter.unusedSimpArgs false

theorem signT_len (id sec p : List UInt8) : (signT id sec p).length = (enc (headT id)).length + (enc p).length + 45 := by
  have h3 := enc_len (macL sec (frontT id p))
  rw [macL_len] at h3
  unfold signT
  simp only [List.length_append, List.length_singleton, h3]
  unfold frontT
  simp only [List.length_append, List.length_singleton]
  omega
theorem enc_inj {a b : List UInt8} (h : enc a = enc b) : a = b := by
  have h1 := dec_enc a
  rw [h, dec_enc] at h1
  exact (Option.some.inj h1).symm
/-- of a key's own token just that key is looked at -/
theorem fit_sign {id sec p : List UInt8} (more : PL) (hid : id.length ≤ 1000) (hsec : sec.length ≤ 1000) : ∀ a b c x, splitL 46 (signT id sec p) = [a, b, c] → dec a = some x → FitAt ((id, sec) :: more) x := by
  intro a b c x hs hx
  have e : splitL 46 (signT id sec p) = [enc (headT id), enc p, enc (macL sec (frontT id p))] := splitL_token _ _ _ (enc_dot _) (enc_dot _) (enc_dot _)
  rw [e] at hs
  injection hs with h1 _
  rw [← h1, dec_enc] at hx
  injection hx with hx
  subst hx
  intro k hk hb
  cases k with
  | zero => exact ⟨hid, hsec⟩
  | succ k => exact absurd rfl (hb 0 (by omega))
theorem prs_one {w : World} {g : Nat} {id sec : List UInt8} {t : TypeId} (h : w.heap[g]? = some (.cells #[.string ⟨id.toArray⟩, .string ⟨sec.toArray⟩] t (0, 0))) : Prs w w.heap.size (some ⟨g, 0, none⟩) [(id, sec)] := fun k hk => by
  obtain rfl : k = 0 := by simp at hk; omega
  refine ⟨_, rfl, (Array.getElem?_eq_some_iff.1 h).1, ?_, ?_⟩
  · rw [Addr.add_lit, cell_here h]; rfl
  · rw [Addr.add_lit, cell_here h]; rfl
/-- append onto a row of the call's own, of a slice that may be nil -/
theorem wpList_append_opt {P : Program} {w : World} {ops : Array Oper} {rest : List Oper} {o : Oper} {a : Act} {Q : Exit → Act → World → Prop} (hgd : o.guard = none) (s x : Operand) (t : TypeId)
    (ho : o.op = .call { callee := .builtin .append, args := #[s, x], argTypes := #[t, t] })
    (base : Nat) (e : TypeId) (i : TypeInfo) (z : Value) (size bytes : Nat) (ht : P.underlying t = some (.slice e)) (hi : P.info? e = some i) (hz : i.zero = some z)
    (hsize : i.size = size) (hby : i.bytes = bytes) (hzs : z.cells.size = size) (hsz : 0 < size)
    (v : Value) (n : Nat) (xs : List Value) (hs : a.eval s = v) (hown : w.ownsRow base e size v n xs)
    (A : Option Addr) (m c : Nat) (news : List Value) (hx : a.eval x = .slice A m c) (hl : news.length = m * size)
    (hnews : (A = none ∧ m = 0 ∧ c = 0) ∨ ∃ ad, A = some ad ∧ ∀ j u, news[j]? = some u → w.cell? (ad.add j) = some u) (h1 : ∀ u ∈ news, u.oneCell' = true)
    (h63 : n + m ≤ maxLen) (hbytes : (n + m) * bytes ≤ 140737488355328) (hbase : base ≤ w.heap.size)
    (h : ∀ v' w', w'.ownsRow base e size v' (n + m) (xs ++ news) → w.grownBy w' v.ownBlock → (v'.ownBlock = v.ownBlock ∨ v'.ownBlock = some w.heap.size) → wpList P ops Q rest (a.put o.dst v') w') : wpList P ops Q (o :: rest) a w :=
  wpList_step fun _ hK => step_append_opt hgd s x t ho base e i z size bytes ht hi hz hsize hby hzs hsz v n xs hs hown A m c news hx hl hnews h1 h63 hbytes hbase fun v' w' h2 h3 h4 => hK _ _ (h v' w' h2 h3 h4)
theorem own_reads {w : World} {B : Nat} {e : TypeId} {v : Value} {l : PL} (h : w.ownsRow B e 2 v l.length (pcells l)) : ∃ A c, v = .slice A l.length c ∧ Prs w w.heap.size A l := by
  rcases h.2 with ⟨rfl, h0⟩ | ⟨g, cap, cur, rfl, hB, hg, _⟩
  · obtain rfl : l = [] := List.length_eq_zero_iff.1 h0
    exact ⟨none, 0, rfl, Prs.nil _ _ _⟩
  · refine ⟨_, _, rfl, fun k hk => ⟨_, rfl, (Array.getElem?_eq_some_iff.1 hg).1, ?_, ?_⟩⟩
    · exact World.ownsRow.cells (g := g) h rfl _ _ (pcells_key l k hk)
    · rw [add_next]
      exact World.ownsRow.cells (g := g) h rfl _ _ (pcells_val l k hk)
theorem prs_cells {w : World} {B : Nat} {ad : Addr} {l : PL} (h : Prs w B (some ad) l) : ∀ j u, (pcells l)[j]? = some u → w.cell? (ad.add j) = some u := by
  intro j u hj
  have hjl : j < (pcells l).length := (List.getElem?_eq_some_iff.1 hj).1
  rw [pcells_len] at hjl
  rcases (show j = (j / 2) * 2 ∨ j = (j / 2) * 2 + 1 by omega) with e | e
  · have hk : j / 2 < l.length := by omega
    obtain ⟨a, ha, _, h1, _⟩ := h (j / 2) hk
    cases ha
    rw [e] at hj ⊢
    rw [pcells_key l _ hk] at hj
    cases hj; exact h1
  · have hk : j / 2 < l.length := by omega
    obtain ⟨a, ha, _, _, h2⟩ := h (j / 2) hk
    cases ha
    rw [e] at hj ⊢
    rw [pcells_val l _ hk] at hj
    rw [add_next] at h2
    cases hj; exact h2
theorem pcells_ones (l : PL) : ∀ u ∈ pcells l, u.oneCell' = true := by
  induction l with
  | nil => intro u hu; cases hu
  | cons p l ih =>
    intro u hu
    simp only [pcells, List.mem_cons] at hu
    rcases hu with rfl | rfl | hu
    · rfl
    · rfl
    · exact ih u hu
theorem own_one {w : World} {g : Nat} {e : TypeId} {a b : Value} (h : w.heap[g]? = some (.cells #[a, b] e (0, 0))) (B : Nat) (hB : B ≤ g) : w.ownsRow B e 2 (.slice (some ⟨g, 0, none⟩) 1 1) 1 [a, b] :=
  ⟨rfl, .inr ⟨g, 1, #[a, b], rfl, hB, h, Nat.le_refl _, by unfold maxLen; decide, rfl, rfl⟩⟩
def hiT : List UInt8 := [104, 105]
theorem sign_hi : (signT [107] [115] hiT).length ≤ 4096 := by
  rw [signT_len]
  have h1 := enc_len (headT [107]); have h2 := headT_le [107]; have h3 := enc_len hiT
  simp [hiT] at *; omega
set_option maxRecDepth 100000 in
set_option maxHeartbeats 4000000 in
theorem answers6_any (w : World) (hj : JwsIn w) : Calls Tryd.prog 11 #[] w fun e w' => e = .returned (.bool true) ∧ Below w.heap.size w w' := by
  obtain ⟨R, hR⟩ : ∃ R, w.heap.size = R := ⟨_, rfl⟩
  obtain ⟨W1, hW1⟩ : ∃ W1, W1 = w.alloc (.cells #[.string ⟨#[107]⟩, .string ⟨#[115]⟩] 33) := ⟨_, rfl⟩
  have b1 : Below w.heap.size w W1 := by rw [hW1]; exact (Below.refl _ _).alloc (Nat.le_refl _) _
  have k1 : W1.heap[R]? = some (.cells #[.string ⟨#[107]⟩, .string ⟨#[115]⟩] 33 (0, 0)) := by rw [hW1, ← hR]; exact heap_alloc_last w _
  have z1 : W1.heap.size = R + 1 := by rw [hW1]; simp [hR]
  have ST : ∀ W, Below W1.heap.size W1 W → (W.cell? ⟨R, 0, none⟩ = some (.string ⟨#[107]⟩) ∧ W.cell? ⟨R, 1, none⟩ = some (.string ⟨#[115]⟩)) ∧ Below W1.heap.size W1 W := fun W hb =>
    ⟨⟨(hb.cell (p := ⟨R, 0, none⟩) (by show R < _; omega)).trans (cell_here k1), (hb.cell (p := ⟨R, 1, none⟩) (by show R < _; omega)).trans (cell_here k1)⟩, hb⟩
  have hs := fun W (hb : Below W1.heap.size W1 W) => sign_any [107] [115] hiT (by decide) (by decide) (by decide) W ((hj.below b1).below hb)
  have hv := fun W g (hg : W.heap[g]? = some (.cells #[.string ⟨#[107]⟩, .string ⟨#[115]⟩] 33 (0, 0))) (hb : Below W1.heap.size W1 W) =>
    verify_any (some ⟨g, 0, none⟩) 1 [([107], [115])] (signT [107] [115] hiT) (by decide) (by have := sign_hi; omega) (fit_sign [] (by decide) (by decide)) W (prs_one hg) ((hj.below b1).below hb)
  unfold verSays at hv
  rw [verR_sign [] sign_hi] at hv
  obtain ⟨T, hT⟩ : ∃ T : ByteArray, (⟨(signT [107] [115] hiT).toArray⟩ : ByteArray) = T := ⟨_, rfl⟩
  rw [hT] at hs hv
  have hs2 : ∀ W, Below W1.heap.size W1 W → Calls Tryd.prog 12 #[.agg #[.string ⟨#[107]⟩, .string ⟨#[115]⟩], .string ⟨#[104, 105]⟩] W fun e w' => e = .returned (.string T) ∧ Below W.heap.size W w' := hs
  have hv2 : ∀ (W : World) (g : Nat), W.heap[g]? = some (.cells #[.string ⟨#[107]⟩, .string ⟨#[115]⟩] 33 (0, 0)) → Below W1.heap.size W1 W → Calls Tryd.prog 14 #[.slice (some ⟨g, 0, none⟩) 1 1, .string T] W fun e w' => e = .returned (.tuple #[.string ⟨#[104, 105]⟩, .int .i64 0]) ∧ Below W.heap.size W w' := hv
  have STH := Lib.hid ST; have HS := Lib.hid hs2; have HVF := Lib.hid hv2; have HB1 := Lib.hid b1; have HW := Lib.hid hW1; have HRR := Lib.hid hR
  clear ST hs hs2 hv hv2 b1 k1 z1 hW1 hR hT hj
  go_enter Tryd.func11, Tryd.ntmps11
  go_upto_region 2 with fail
  rw [← HW.out, HRR.out]
  go_region_held3 (fun W => (W.cell? ⟨R, 0, none⟩ = some (.string ⟨#[107]⟩) ∧ W.cell? ⟨R, 1, none⟩ = some (.string ⟨#[115]⟩)) ∧ Below W1.heap.size W1 W)
    (first | exact STH.out _ (by repeat (first | (with_reducible exact Below.refl _ _) | (with_reducible apply Below.drew) | (with_reducible apply belowDrewN) | (with_reducible refine Below.alloc ?_ (by first | omega | (simp only [World.size_alloc, World.size_drew, set_size]; omega) | (simp; omega)) _) | (with_reducible refine Below.chain ?_ hby) | (with_reducible refine Below.chain ?_ hbx))))
    (first | (go_at_call 12; (with_reducible refine (HS.out _ ?_).mono ?_); (· exact (by repeat (first | (with_reducible exact Below.refl _ _) | (with_reducible apply Below.drew) | (with_reducible apply belowDrewN) | (with_reducible refine Below.alloc ?_ (by first | omega | (simp only [World.size_alloc, World.size_drew, set_size]; omega) | (simp; omega)) _) | (with_reducible refine Below.chain ?_ hbx)))); rintro e wx ⟨rfl, hbx⟩; have hsx : W1.heap.size ≤ wx.heap.size := Nat.le_trans (by first | omega | (simp only [World.size_alloc, World.size_drew, set_size]; omega) | (simp; omega)) hbx.size) | (go_at_call 14; (with_reducible refine (HVF.out _ _ ?_ ?_).mono ?_); (· (first | (exact blk_below (drew_block (fresh_at _ rfl)) hbx) | (exact blk_below (fresh_at _ rfl) hbx) | (exact drew_block (fresh_at _ rfl)) | (exact fresh_at _ rfl))); (· exact (by repeat (first | (with_reducible exact Below.refl _ _) | (with_reducible apply Below.drew) | (with_reducible apply belowDrewN) | (with_reducible refine Below.alloc ?_ (by first | omega | (simp only [World.size_alloc, World.size_drew, set_size]; omega) | (simp; omega)) _) | (with_reducible refine Below.chain ?_ hby) | (with_reducible refine Below.chain ?_ hbx)))); rintro e wy ⟨rfl, hby⟩; have hsy : W1.heap.size ≤ wy.heap.size := Nat.le_trans (by first | omega | (simp only [World.size_alloc, World.size_drew, set_size]; omega) | (simp; omega)) hby.size))
  all_goals
    have hbz : Below W1.heap.size W1 wy := (by repeat (first | (with_reducible exact Below.refl _ _) | (with_reducible apply Below.drew) | (with_reducible apply belowDrewN) | (with_reducible refine Below.alloc ?_ (by first | omega | (simp only [World.size_alloc, World.size_drew, set_size]; omega) | (simp; omega)) _) | (with_reducible refine Below.chain ?_ hby) | (with_reducible refine Below.chain ?_ hbx)))
    have HBZ := Lib.hid hbz; clear hbz
    go_wp2
    go_ret
    exact ⟨rfl, HB1.out.trans (HBZ.out.mono HB1.out.size)⟩
end Go.Proofs.YthbbeojhipcjiaaDoor
