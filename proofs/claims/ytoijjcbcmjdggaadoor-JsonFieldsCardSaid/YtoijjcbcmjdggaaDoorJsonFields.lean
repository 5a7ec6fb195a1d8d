/- JSON: the law JsonFields. -/
import Derived.Test.YtoijjcbcmjdggaaDoorJsonRField
import Derived.Test.YtoijjcbcmjdggaaDoorJsonSmall
import Derived.Test.YtoijjcbcmjdggaaDoorJsonSameT
import Derived.Test.YtoijjcbcmjdggaaDoorJsonKit
namespace Go.Proofs.YtoijjcbcmjdggaaDoor
open Go.RowKit
set_option linter.unusedVariables false
set_option linter.unusedSimpArgs false

/-- a variable's block, seen from its five cells -/
theorem box_below {w w' : World} {b : Nat} {C : Array Value} {t : TypeId} {fr : Nat × Nat} (h : w.heap[b]? = some (.cells C t fr)) (hb : Below w.heap.size w w') : w'.heap[b]? = some (.cells C t fr) :=
  (hb.block b (Array.getElem?_eq_some_iff.1 h).1).trans h
def SaysB (b : Bool) (w : World) (e : Ending) (w' : World) : Prop := e = .returned (.bool b) ∧ Below w.heap.size w w'
set_option maxRecDepth 100000 in
set_option maxHeartbeats 40000000 in
theorem jsonFields_at (ANS : ∀ wq, KitIn wq.heap.size wq → Calls Tryd.prog 10 #[] wq fun e w' => e = .returned (.bool true) ∧ Below wq.heap.size wq w') (v u : V) (key : List UInt8) (w : World) (cs ds : List Value) (hk : KitIn w.heap.size w) (hv : VIs w 0 w.heap.size v cs) (hu : VIs w 0 w.heap.size u ds) :
    Calls Tryd.prog 5 #[.agg cs.toArray, .agg ds.toArray, .string ⟨key.toArray⟩] w fun e w' => e = .returned (.bool true) ∧ Below w.heap.size w w' := by
  obtain ⟨A, c, A', c', rfl⟩ := hv.form
  obtain ⟨B, d, B', d', rfl⟩ := hu.form
  obtain ⟨W2, hW2⟩ : ∃ W2, W2 = ((w.alloc (.cells #[.int .i64 v.kind, .int .i64 v.num, .string ⟨v.text.toArray⟩, .slice A v.list.length c, .slice A' v.keys.length c'] 25)).alloc (.cells #[.int .i64 u.kind, .int .i64 u.num, .string ⟨u.text.toArray⟩, .slice B u.list.length d, .slice B' u.keys.length d'] 25)) := ⟨_, rfl⟩
  have hb0 : Below w.heap.size w W2 := by rw [hW2]; exact ((Below.refl w.heap.size w).alloc (Nat.le_refl _) _).alloc (by simp) _
  have x1 : W2.heap[w.heap.size]? = some (.cells #[.int .i64 v.kind, .int .i64 v.num, .string ⟨v.text.toArray⟩, .slice A v.list.length c, .slice A' v.keys.length c'] 25 (0, 0)) := by
    rw [hW2, Below.heap_alloc _ _ _ (by simp)]; exact heap_alloc_last w _
  have x2 : W2.heap[w.heap.size + 1]? = some (.cells #[.int .i64 u.kind, .int .i64 u.num, .string ⟨u.text.toArray⟩, .slice B u.list.length d, .slice B' u.keys.length d'] 25 (0, 0)) := by
    rw [hW2]
    have := heap_alloc_last (w.alloc (.cells #[.int .i64 v.kind, .int .i64 v.num, .string ⟨v.text.toArray⟩, .slice A v.list.length c, .slice A' v.keys.length c'] 25)) (.cells #[.int .i64 u.kind, .int .i64 u.num, .string ⟨u.text.toArray⟩, .slice B u.list.length d, .slice B' u.keys.length d'] 25)
    simpa using this
  have v2 := hv.below hb0
  have u2 := hu.below hb0
  have k2 : KitIn W2.heap.size W2 := (hk.below hb0).more hb0.size
  have hle : w.heap.size ≤ W2.heap.size := hb0.size
  have c1 : Calls Tryd.prog 9 #[.agg #[.int .i64 v.kind, .int .i64 v.num, .string ⟨v.text.toArray⟩, .slice A v.list.length c, .slice A' v.keys.length c'], .int .i64 12] W2 fun e w' => e = .returned (.bool (v.smallB 12)) ∧ Below W2.heap.size W2 w' :=
    small_any v 12 W2 0 w.heap.size _ (by decide) v2 hle
  have c2 := fun wq (hb : Below W2.heap.size W2 wq) => (show Calls Tryd.prog 9 #[.agg #[.int .i64 u.kind, .int .i64 u.num, .string ⟨u.text.toArray⟩, .slice B u.list.length d, .slice B' u.keys.length d'], .int .i64 12] wq fun e w' => e = .returned (.bool (u.smallB 12)) ∧ Below wq.heap.size wq w' from
    small_any u 12 wq 0 w.heap.size _ (by decide) (u2.below (hb.mono hle)) (Nat.le_trans hle hb.size))
  have an := fun wq (hb : Below W2.heap.size W2 wq) => ANS wq ((k2.below hb).more hb.size)
  have sv := small_slim 12 v
  have su := small_slim 12 u
  have C1 := Lib.hid c1; have C2 := Lib.hid c2; have HB0 := Lib.hid hb0; have X1 := Lib.hid x1; have X2 := Lib.hid x2; have HW2 := Lib.hid hW2; have V2 := Lib.hid v2; have U2 := Lib.hid u2; have AN := Lib.hid an; have HLE := Lib.hid hle; have SV := Lib.hid sv; have SU := Lib.hid su
  clear c1 c2 hb0 x1 x2 hv hu v2 u2 hk k2 hW2 an hle sv su
  cases hsv : v.smallB 12 with
  | false =>
    rw [hsv] at C1
    clear hsv
    obtain ⟨⟨p0, p1, p2, p3, p4⟩, -⟩ := box_of X1.out
    rw [HW2.out] at p0 p1 p2 p3 p4
    go_enter Tryd.func5, Tryd.ntmps5
    go_wp2_with fail
    rw [← HW2.out]
    refine (C1.out).mono ?_
    rintro e1 w1 ⟨rfl, hb1⟩
    dsimp only
    have ha := AN.out w1 hb1
    have HA := Lib.hid ha; have HB1 := Lib.hid hb1
    clear ha hb1 p0 p1 p2 p3 p4
    go_wp2_with fail
    refine (HA.out).mono ?_
    rintro e2 w2 ⟨rfl, hb2⟩
    dsimp only
    have HB2 := Lib.hid hb2
    clear hb2
    go_wp2_with fail
    go_ret
    exact ⟨rfl, HB0.out.chain (HB1.out.chain HB2.out)⟩
  | true =>
  rw [hsv] at C1
  obtain ⟨sl, dp⟩ := SV.out hsv
  cases hsu : u.smallB 12 with
  | false =>
    rw [hsu] at C2
    clear hsu hsv
    have SL := Lib.hid sl; have DP := Lib.hid dp
    clear sl dp
    obtain ⟨⟨p0, p1, p2, p3, p4⟩, -⟩ := box_of X1.out
    rw [HW2.out] at p0 p1 p2 p3 p4
    go_enter Tryd.func5, Tryd.ntmps5
    go_wp2_with fail
    rw [← HW2.out]
    refine (C1.out).mono ?_
    rintro e1 w1 ⟨rfl, hb1⟩
    dsimp only
    have hc := C2.out w1 hb1
    clear p0 p1 p2 p3 p4
    obtain ⟨⟨p0, p1, p2, p3, p4⟩, -⟩ := box_of (box_below X2.out hb1)
    have HC := Lib.hid hc; have HB1 := Lib.hid hb1
    clear hc hb1
    go_wp2_with fail
    refine (HC.out).mono ?_
    rintro e2 w2 ⟨rfl, hb2⟩
    dsimp only
    have hb12 := HB1.out.chain hb2
    have ha := AN.out w2 hb12
    have HA := Lib.hid ha; have HB12 := Lib.hid hb12
    clear ha hb2 hb12 p0 p1 p2 p3 p4
    go_wp2_with fail
    refine (HA.out).mono ?_
    rintro e3 w3 ⟨rfl, hb3⟩
    dsimp only
    have HB3 := Lib.hid hb3
    clear hb3
    go_wp2_with fail
    go_ret
    exact ⟨rfl, HB0.out.chain (HB12.out.chain HB3.out)⟩
  | true =>
  rw [hsu] at C2
  obtain ⟨su1, du⟩ := SU.out hsu
  clear hsu hsv
  obtain ⟨XV, hXV⟩ : ∃ XV, (fieldV key v).getD V.zero = XV := ⟨_, rfl⟩
  obtain ⟨FS, hFS⟩ : ∃ FS, (fieldV key v).isSome = FS := ⟨_, rfl⟩
  have fl := fun wq (hb : Below W2.heap.size W2 wq) => field_any v key wq 0 w.heap.size _ sl (by omega) (V2.out.below (hb.mono HLE.out)) (Nat.le_trans HLE.out hb.size)
  have rf := fun wq (hb : Below W2.heap.size W2 wq) => refField_any v key wq 0 w.heap.size _ (V2.out.below (hb.mono HLE.out)) (Nat.le_trans HLE.out hb.size)
  have s1 := fun wq (hb : Below W2.heap.size W2 wq) => sameTop_any v u (by omega) wq 0 w.heap.size 0 w.heap.size _ _ (V2.out.below (hb.mono HLE.out)) (Nat.le_trans HLE.out hb.size) (U2.out.below (hb.mono HLE.out)) (Nat.le_trans HLE.out hb.size)
  have s2 := fun wq (hb : Below W2.heap.size W2 wq) => sameTop_any v v (by omega) wq 0 w.heap.size 0 w.heap.size _ _ (V2.out.below (hb.mono HLE.out)) (Nat.le_trans HLE.out hb.size) (V2.out.below (hb.mono HLE.out)) (Nat.le_trans HLE.out hb.size)
  have s3 := fun wq (hb : Below W2.heap.size W2 wq) => refSame_any v u wq 0 w.heap.size 0 w.heap.size _ _ (V2.out.below (hb.mono HLE.out)) (U2.out.below (hb.mono HLE.out)) (Nat.le_trans HLE.out hb.size) (Nat.le_trans HLE.out hb.size)
  rw [hXV, hFS] at fl rf
  obtain ⟨S, hS⟩ : ∃ S : Bool, (S = true ↔ v = u) := by
    classical exact ⟨decide (v = u), by simp⟩
  have iff_eq : ∀ {b : Bool}, (b = true ↔ v = u) → b = S := fun h => by rw [Bool.eq_iff_iff, h, hS]
  have t1 : ∀ wq, Below W2.heap.size W2 wq → Calls Tryd.prog 16 #[.agg #[.int .i64 v.kind, .int .i64 v.num, .string ⟨v.text.toArray⟩, .slice A v.list.length c, .slice A' v.keys.length c'], .agg #[.int .i64 u.kind, .int .i64 u.num, .string ⟨u.text.toArray⟩, .slice B u.list.length d, .slice B' u.keys.length d']] wq (SaysB S wq) := fun wq (hb : Below W2.heap.size W2 wq) => (s1 wq hb).mono (fun e w' ⟨r, h1, h2, h3⟩ => (show SaysB S wq e w' from ⟨by rw [h1, iff_eq h2], h3⟩))
  have t2 : ∀ wq, Below W2.heap.size W2 wq → Calls Tryd.prog 16 #[.agg #[.int .i64 v.kind, .int .i64 v.num, .string ⟨v.text.toArray⟩, .slice A v.list.length c, .slice A' v.keys.length c'], .agg #[.int .i64 v.kind, .int .i64 v.num, .string ⟨v.text.toArray⟩, .slice A v.list.length c, .slice A' v.keys.length c']] wq (SaysB true wq) := fun wq (hb : Below W2.heap.size W2 wq) => (s2 wq hb).mono (fun e w' ⟨r, h1, h2, h3⟩ => (show SaysB true wq e w' from ⟨by rw [h1, h2.2 rfl], h3⟩))
  have t3 : ∀ wq, Below W2.heap.size W2 wq → Calls Tryd.prog 17 #[.agg #[.int .i64 v.kind, .int .i64 v.num, .string ⟨v.text.toArray⟩, .slice A v.list.length c, .slice A' v.keys.length c'], .agg #[.int .i64 u.kind, .int .i64 u.num, .string ⟨u.text.toArray⟩, .slice B u.list.length d, .slice B' u.keys.length d']] wq (SaysB S wq) := fun wq (hb : Below W2.heap.size W2 wq) => (s3 wq hb).mono (fun e w' ⟨r, h1, h2, h3⟩ => (show SaysB S wq e w' from ⟨by rw [h1, iff_eq h2], h3⟩))
  have FL := Lib.hid fl; have RF := Lib.hid rf; have T1 := Lib.hid t1; have T2 := Lib.hid t2; have T3 := Lib.hid t3
  clear fl rf s1 s2 s3 t1 t2 t3 hS iff_eq sl dp su1 du SV SU hXV hFS
  obtain ⟨⟨p0, p1, p2, p3, p4⟩, -⟩ := box_of X1.out
  rw [HW2.out] at p0 p1 p2 p3 p4
  go_enter Tryd.func5, Tryd.ntmps5
  go_wp2_with fail
  rw [← HW2.out]
  refine (C1.out).mono ?_
  rintro e1 w1 ⟨rfl, hb1⟩
  dsimp only
  have hc := C2.out w1 hb1
  clear p0 p1 p2 p3 p4
  obtain ⟨⟨p0, p1, p2, p3, p4⟩, -⟩ := box_of (box_below X2.out hb1)
  have HC := Lib.hid hc; have HB1 := Lib.hid hb1
  clear hc hb1
  go_wp2_with fail
  refine (HC.out).mono ?_
  rintro e2 w2 ⟨rfl, hb2⟩
  dsimp only
  have hb12 := HB1.out.chain hb2
  have hf := FL.out w2 hb12
  clear p0 p1 p2 p3 p4
  obtain ⟨⟨p0, p1, p2, p3, p4⟩, -⟩ := box_of (box_below X1.out hb12)
  have HF := Lib.hid hf; have HB12 := Lib.hid hb12
  clear hf hb2 hb12
  go_wp2_with fail
  refine (HF.out).mono ?_
  rintro e3 w3 ⟨⟨xs, rfl, hx, -⟩, hb3⟩
  obtain ⟨xA, xc, xA', xc', rfl⟩ := hx.form
  dsimp only
  obtain ⟨W4, hW4⟩ : ∃ W4, W4 = w3.alloc (.cells #[.int .i64 XV.kind, .int .i64 XV.num, .string ⟨XV.text.toArray⟩, .slice xA XV.list.length xc, .slice xA' XV.keys.length xc'] 25) := ⟨_, rfl⟩
  have hb13 := HB12.out.chain hb3
  have b4 : Below W2.heap.size W2 W4 := by rw [hW4]; exact hb13.alloc hb13.size _
  have b34 : Below w3.heap.size w3 W4 := by rw [hW4]; exact (Below.refl _ _).alloc (Nat.le_refl _) _
  have z4 : W4.heap.size = w3.heap.size + 1 := by rw [hW4]; simp
  have x4 : W4.heap[w3.heap.size]? = some (.cells #[.int .i64 XV.kind, .int .i64 XV.num, .string ⟨XV.text.toArray⟩, .slice xA XV.list.length xc, .slice xA' XV.keys.length xc'] 25 (0, 0)) := by rw [hW4]; exact heap_alloc_last w3 _
  have v4 := (hx.below b34).more (Nat.zero_le _) b34.size
  have an4 := AN.out W4 b4
  have rf4 := RF.out W4 b4
  clear p0 p1 p2 p3 p4
  obtain ⟨⟨p0, p1, p2, p3, p4⟩, -⟩ := box_of (box_below X1.out b4)
  rw [hW4] at p0 p1 p2 p3 p4
  have HW4 := Lib.hid hW4; have B4 := Lib.hid b4; have Z4 := Lib.hid z4; have X4 := Lib.hid x4; have V4 := Lib.hid v4; have AN4 := Lib.hid an4; have RF4 := Lib.hid rf4
  clear hW4 b4 b34 z4 x4 v4 an4 rf4 hb13 hb3 hx
  have hcase : (v.kind = 6 ∧ v.keys.length ≠ v.list.length) ∨ v.kind ≠ 6 ∨ (v.kind = 6 ∧ v.keys.length = v.list.length) := by omega
  rcases hcase with ⟨hk6, hne⟩ | hk6 | ⟨hk6, heq⟩
  · have d1 : (v.kind == 6) = true := by simpa using hk6
    have d2 : ((v.keys.length : Int) != (v.list.length : Int)) = true := by simp; omega
    clear hk6 hne
    go_wp2_with fail
    rw [← HW4.out]
    refine (AN4.out).mono ?_
    rintro e5 w5 ⟨rfl, hb5⟩
    dsimp only
    have HB5 := Lib.hid hb5
    clear hb5 p0 p1 p2 p3 p4
    go_wp2_with fail
    go_ret
    exact ⟨rfl, HB0.out.chain (B4.out.chain HB5.out)⟩
  · have d1 : (v.kind == 6) = false := by simpa using hk6
    clear hk6
    go_wp2_with fail
    rw [← HW4.out]
    refine (RF4.out).mono ?_
    rintro e5 w5 ⟨⟨yk, yn, yt, yA, ya, yb, yA', ya', yb', rfl, hy⟩, hb5⟩
    dsimp only
    obtain ⟨W6, hW6⟩ : ∃ W6, W6 = w5.alloc (.cells #[.int .i64 yk, .int .i64 yn, .string yt, .slice yA ya yb, .slice yA' ya' yb'] 25) := ⟨_, rfl⟩
    have b5 := B4.out.chain hb5
    have b6 : Below W2.heap.size W2 W6 := by rw [hW6]; exact b5.alloc b5.size _
    have b56 : Below w5.heap.size w5 W6 := by rw [hW6]; exact (Below.refl _ _).alloc (Nat.le_refl _) _
    have x6 : W6.heap[w5.heap.size]? = some (.cells #[.int .i64 yk, .int .i64 yn, .string yt, .slice yA ya yb, .slice yA' ya' yb'] 25 (0, 0)) := by rw [hW6]; exact heap_alloc_last w5 _
    have hle5 : w.heap.size ≤ w5.heap.size := Nat.le_trans HLE.out b5.size
    have y6 := hy.below (b56.mono hle5)
    have b46 : Below W4.heap.size W4 W6 := hb5.chain b56
    have v6 := V4.out.below b46
    have t4 : ∀ wq, Below W6.heap.size W6 wq → Calls Tryd.prog 17 #[.agg #[.int .i64 XV.kind, .int .i64 XV.num, .string ⟨XV.text.toArray⟩, .slice xA XV.list.length xc, .slice xA' XV.keys.length xc'], .agg #[.int .i64 yk, .int .i64 yn, .string yt, .slice yA ya yb, .slice yA' ya' yb']] wq (SaysB true wq) := fun wq (hb : Below W6.heap.size W6 wq) => (refSame_any XV XV wq 0 W4.heap.size 0 w.heap.size _ _ (v6.below (hb.mono b46.size)) (y6.below (hb.mono (Nat.le_trans hle5 b56.size))) (Nat.le_trans b46.size hb.size) (Nat.le_trans (Nat.le_trans hle5 b56.size) hb.size)).mono (fun e w' ⟨r, h1, h2, h3⟩ => (show SaysB true wq e w' from ⟨by rw [h1, h2.2 rfl], h3⟩))
    have ST : ∀ W, Below W6.heap.size W6 W → Box W w.heap.size (.int .i64 v.kind) (.int .i64 v.num) (.string ⟨v.text.toArray⟩) (.slice A v.list.length c) (.slice A' v.keys.length c') ∧ Box W (w.heap.size + 1) (.int .i64 u.kind) (.int .i64 u.num) (.string ⟨u.text.toArray⟩) (.slice B u.list.length d) (.slice B' u.keys.length d') ∧ Box W w3.heap.size (.int .i64 XV.kind) (.int .i64 XV.num) (.string ⟨XV.text.toArray⟩) (.slice xA XV.list.length xc) (.slice xA' XV.keys.length xc') ∧ Box W w5.heap.size (.int .i64 yk) (.int .i64 yn) (.string yt) (.slice yA ya yb) (.slice yA' ya' yb') ∧ Below W6.heap.size W6 W := fun W hb =>
      ⟨(box_of (box_below (box_below X1.out b6) hb)).1, (box_of (box_below (box_below X2.out b6) hb)).1, (box_of (box_below (box_below X4.out b46) hb)).1, (box_of (box_below x6 hb)).1, hb⟩
    have S0 := ST W6 (Below.refl _ _)
    have KEEP : ∀ {W W' : World}, Below W.heap.size W W' → (Box W w.heap.size (.int .i64 v.kind) (.int .i64 v.num) (.string ⟨v.text.toArray⟩) (.slice A v.list.length c) (.slice A' v.keys.length c') ∧ Box W (w.heap.size + 1) (.int .i64 u.kind) (.int .i64 u.num) (.string ⟨u.text.toArray⟩) (.slice B u.list.length d) (.slice B' u.keys.length d') ∧ Box W w3.heap.size (.int .i64 XV.kind) (.int .i64 XV.num) (.string ⟨XV.text.toArray⟩) (.slice xA XV.list.length xc) (.slice xA' XV.keys.length xc') ∧ Box W w5.heap.size (.int .i64 yk) (.int .i64 yn) (.string yt) (.slice yA ya yb) (.slice yA' ya' yb') ∧ Below W6.heap.size W6 W) → Box W' w.heap.size (.int .i64 v.kind) (.int .i64 v.num) (.string ⟨v.text.toArray⟩) (.slice A v.list.length c) (.slice A' v.keys.length c') ∧ Box W' (w.heap.size + 1) (.int .i64 u.kind) (.int .i64 u.num) (.string ⟨u.text.toArray⟩) (.slice B u.list.length d) (.slice B' u.keys.length d') ∧ Box W' w3.heap.size (.int .i64 XV.kind) (.int .i64 XV.num) (.string ⟨XV.text.toArray⟩) (.slice xA XV.list.length xc) (.slice xA' XV.keys.length xc') ∧ Box W' w5.heap.size (.int .i64 yk) (.int .i64 yn) (.string yt) (.slice yA ya yb) (.slice yA' ya' yb') ∧ Below W6.heap.size W6 W' := fun hb hs => ST _ (hs.2.2.2.2.chain hb)
    have GETB : ∀ {W : World}, (Box W w.heap.size (.int .i64 v.kind) (.int .i64 v.num) (.string ⟨v.text.toArray⟩) (.slice A v.list.length c) (.slice A' v.keys.length c') ∧ Box W (w.heap.size + 1) (.int .i64 u.kind) (.int .i64 u.num) (.string ⟨u.text.toArray⟩) (.slice B u.list.length d) (.slice B' u.keys.length d') ∧ Box W w3.heap.size (.int .i64 XV.kind) (.int .i64 XV.num) (.string ⟨XV.text.toArray⟩) (.slice xA XV.list.length xc) (.slice xA' XV.keys.length xc') ∧ Box W w5.heap.size (.int .i64 yk) (.int .i64 yn) (.string yt) (.slice yA ya yb) (.slice yA' ya' yb') ∧ Below W6.heap.size W6 W) → Below W2.heap.size W2 W := fun hs => b6.chain hs.2.2.2.2
    have GET6 : ∀ {W : World}, (Box W w.heap.size (.int .i64 v.kind) (.int .i64 v.num) (.string ⟨v.text.toArray⟩) (.slice A v.list.length c) (.slice A' v.keys.length c') ∧ Box W (w.heap.size + 1) (.int .i64 u.kind) (.int .i64 u.num) (.string ⟨u.text.toArray⟩) (.slice B u.list.length d) (.slice B' u.keys.length d') ∧ Box W w3.heap.size (.int .i64 XV.kind) (.int .i64 XV.num) (.string ⟨XV.text.toArray⟩) (.slice xA XV.list.length xc) (.slice xA' XV.keys.length xc') ∧ Box W w5.heap.size (.int .i64 yk) (.int .i64 yn) (.string yt) (.slice yA ya yb) (.slice yA' ya' yb') ∧ Below W6.heap.size W6 W) → Below W6.heap.size W6 W := fun hs => hs.2.2.2.2
    clear p0 p1 p2 p3 p4
    obtain ⟨P1, P2, P3, P4, -⟩ := S0
    have T4 := Lib.hid t4; have HW6 := Lib.hid hW6; have B6 := Lib.hid b6
    unfold Box at KEEP GETB GET6 P1 P2 P3 P4
    clear t4 b5 b6 b56 x6 hle5 y6 b46 v6 hb5 hy ST hW6
    go_wp2_with fail
    rw [← HW6.out]
    go_region_held3 (fun W => (W.cell? ⟨w.heap.size, 0, none⟩ = some (.int .i64 v.kind) ∧ W.cell? ⟨w.heap.size, 1, none⟩ = some (.int .i64 v.num) ∧ W.cell? ⟨w.heap.size, 2, none⟩ = some (.string ⟨v.text.toArray⟩) ∧ W.cell? ⟨w.heap.size, 3, none⟩ = some (.slice A v.list.length c) ∧ W.cell? ⟨w.heap.size, 4, none⟩ = some (.slice A' v.keys.length c')) ∧ (W.cell? ⟨(w.heap.size + 1), 0, none⟩ = some (.int .i64 u.kind) ∧ W.cell? ⟨(w.heap.size + 1), 1, none⟩ = some (.int .i64 u.num) ∧ W.cell? ⟨(w.heap.size + 1), 2, none⟩ = some (.string ⟨u.text.toArray⟩) ∧ W.cell? ⟨(w.heap.size + 1), 3, none⟩ = some (.slice B u.list.length d) ∧ W.cell? ⟨(w.heap.size + 1), 4, none⟩ = some (.slice B' u.keys.length d')) ∧ (W.cell? ⟨w3.heap.size, 0, none⟩ = some (.int .i64 XV.kind) ∧ W.cell? ⟨w3.heap.size, 1, none⟩ = some (.int .i64 XV.num) ∧ W.cell? ⟨w3.heap.size, 2, none⟩ = some (.string ⟨XV.text.toArray⟩) ∧ W.cell? ⟨w3.heap.size, 3, none⟩ = some (.slice xA XV.list.length xc) ∧ W.cell? ⟨w3.heap.size, 4, none⟩ = some (.slice xA' XV.keys.length xc')) ∧ (W.cell? ⟨w5.heap.size, 0, none⟩ = some (.int .i64 yk) ∧ W.cell? ⟨w5.heap.size, 1, none⟩ = some (.int .i64 yn) ∧ W.cell? ⟨w5.heap.size, 2, none⟩ = some (.string yt) ∧ W.cell? ⟨w5.heap.size, 3, none⟩ = some (.slice yA ya yb) ∧ W.cell? ⟨w5.heap.size, 4, none⟩ = some (.slice yA' ya' yb')) ∧ Below W6.heap.size W6 W) (first | exact ⟨P1, P2, P3, P4, Below.refl _ _⟩ | exact KEEP (Below.refl _ _).drew ⟨P1, P2, P3, P4, Below.refl _ _⟩ | exact KEEP (by assumption) (by assumption)) (first | (go_at_call 10; (with_reducible refine (AN.out _ (GETB (by assumption))).mono ?_); rintro e wx ⟨rfl, hbx⟩) | (go_at_call 17; (with_reducible refine (T4.out _ (GET6 (by assumption))).mono ?_); rintro e wx ⟨rfl, hbx⟩) | (go_at_call 17; (with_reducible refine (T3.out _ (GETB (by assumption))).mono ?_); rintro e wx ⟨rfl, hbx⟩) | (go_at_call 16; (with_reducible refine (T2.out _ (GETB (by assumption))).mono ?_); rintro e wx ⟨rfl, hbx⟩) | (go_at_call 16; (with_reducible refine (T1.out _ (GETB (by assumption))).mono ?_); rintro e wx ⟨rfl, hbx⟩))
    all_goals
      have hb9 : Below w.heap.size w _ := HB0.out.chain (B6.out.chain (GET6 (by assumption)))
      clear KEEP GETB GET6 P1 P2 P3 P4
      go_wp2
      go_ret
      exact ⟨rfl, hb9⟩
  · have d1 : (v.kind == 6) = true := by simpa using hk6
    have d2 : ((v.keys.length : Int) != (v.list.length : Int)) = false := by simp; omega
    clear hk6 heq
    go_wp2_with fail
    rw [← HW4.out]
    refine (RF4.out).mono ?_
    rintro e5 w5 ⟨⟨yk, yn, yt, yA, ya, yb, yA', ya', yb', rfl, hy⟩, hb5⟩
    dsimp only
    obtain ⟨W6, hW6⟩ : ∃ W6, W6 = w5.alloc (.cells #[.int .i64 yk, .int .i64 yn, .string yt, .slice yA ya yb, .slice yA' ya' yb'] 25) := ⟨_, rfl⟩
    have b5 := B4.out.chain hb5
    have b6 : Below W2.heap.size W2 W6 := by rw [hW6]; exact b5.alloc b5.size _
    have b56 : Below w5.heap.size w5 W6 := by rw [hW6]; exact (Below.refl _ _).alloc (Nat.le_refl _) _
    have x6 : W6.heap[w5.heap.size]? = some (.cells #[.int .i64 yk, .int .i64 yn, .string yt, .slice yA ya yb, .slice yA' ya' yb'] 25 (0, 0)) := by rw [hW6]; exact heap_alloc_last w5 _
    have hle5 : w.heap.size ≤ w5.heap.size := Nat.le_trans HLE.out b5.size
    have y6 := hy.below (b56.mono hle5)
    have b46 : Below W4.heap.size W4 W6 := hb5.chain b56
    have v6 := V4.out.below b46
    have t4 : ∀ wq, Below W6.heap.size W6 wq → Calls Tryd.prog 17 #[.agg #[.int .i64 XV.kind, .int .i64 XV.num, .string ⟨XV.text.toArray⟩, .slice xA XV.list.length xc, .slice xA' XV.keys.length xc'], .agg #[.int .i64 yk, .int .i64 yn, .string yt, .slice yA ya yb, .slice yA' ya' yb']] wq (SaysB true wq) := fun wq (hb : Below W6.heap.size W6 wq) => (refSame_any XV XV wq 0 W4.heap.size 0 w.heap.size _ _ (v6.below (hb.mono b46.size)) (y6.below (hb.mono (Nat.le_trans hle5 b56.size))) (Nat.le_trans b46.size hb.size) (Nat.le_trans (Nat.le_trans hle5 b56.size) hb.size)).mono (fun e w' ⟨r, h1, h2, h3⟩ => (show SaysB true wq e w' from ⟨by rw [h1, h2.2 rfl], h3⟩))
    have ST : ∀ W, Below W6.heap.size W6 W → Box W w.heap.size (.int .i64 v.kind) (.int .i64 v.num) (.string ⟨v.text.toArray⟩) (.slice A v.list.length c) (.slice A' v.keys.length c') ∧ Box W (w.heap.size + 1) (.int .i64 u.kind) (.int .i64 u.num) (.string ⟨u.text.toArray⟩) (.slice B u.list.length d) (.slice B' u.keys.length d') ∧ Box W w3.heap.size (.int .i64 XV.kind) (.int .i64 XV.num) (.string ⟨XV.text.toArray⟩) (.slice xA XV.list.length xc) (.slice xA' XV.keys.length xc') ∧ Box W w5.heap.size (.int .i64 yk) (.int .i64 yn) (.string yt) (.slice yA ya yb) (.slice yA' ya' yb') ∧ Below W6.heap.size W6 W := fun W hb =>
      ⟨(box_of (box_below (box_below X1.out b6) hb)).1, (box_of (box_below (box_below X2.out b6) hb)).1, (box_of (box_below (box_below X4.out b46) hb)).1, (box_of (box_below x6 hb)).1, hb⟩
    have S0 := ST W6 (Below.refl _ _)
    have KEEP : ∀ {W W' : World}, Below W.heap.size W W' → (Box W w.heap.size (.int .i64 v.kind) (.int .i64 v.num) (.string ⟨v.text.toArray⟩) (.slice A v.list.length c) (.slice A' v.keys.length c') ∧ Box W (w.heap.size + 1) (.int .i64 u.kind) (.int .i64 u.num) (.string ⟨u.text.toArray⟩) (.slice B u.list.length d) (.slice B' u.keys.length d') ∧ Box W w3.heap.size (.int .i64 XV.kind) (.int .i64 XV.num) (.string ⟨XV.text.toArray⟩) (.slice xA XV.list.length xc) (.slice xA' XV.keys.length xc') ∧ Box W w5.heap.size (.int .i64 yk) (.int .i64 yn) (.string yt) (.slice yA ya yb) (.slice yA' ya' yb') ∧ Below W6.heap.size W6 W) → Box W' w.heap.size (.int .i64 v.kind) (.int .i64 v.num) (.string ⟨v.text.toArray⟩) (.slice A v.list.length c) (.slice A' v.keys.length c') ∧ Box W' (w.heap.size + 1) (.int .i64 u.kind) (.int .i64 u.num) (.string ⟨u.text.toArray⟩) (.slice B u.list.length d) (.slice B' u.keys.length d') ∧ Box W' w3.heap.size (.int .i64 XV.kind) (.int .i64 XV.num) (.string ⟨XV.text.toArray⟩) (.slice xA XV.list.length xc) (.slice xA' XV.keys.length xc') ∧ Box W' w5.heap.size (.int .i64 yk) (.int .i64 yn) (.string yt) (.slice yA ya yb) (.slice yA' ya' yb') ∧ Below W6.heap.size W6 W' := fun hb hs => ST _ (hs.2.2.2.2.chain hb)
    have GETB : ∀ {W : World}, (Box W w.heap.size (.int .i64 v.kind) (.int .i64 v.num) (.string ⟨v.text.toArray⟩) (.slice A v.list.length c) (.slice A' v.keys.length c') ∧ Box W (w.heap.size + 1) (.int .i64 u.kind) (.int .i64 u.num) (.string ⟨u.text.toArray⟩) (.slice B u.list.length d) (.slice B' u.keys.length d') ∧ Box W w3.heap.size (.int .i64 XV.kind) (.int .i64 XV.num) (.string ⟨XV.text.toArray⟩) (.slice xA XV.list.length xc) (.slice xA' XV.keys.length xc') ∧ Box W w5.heap.size (.int .i64 yk) (.int .i64 yn) (.string yt) (.slice yA ya yb) (.slice yA' ya' yb') ∧ Below W6.heap.size W6 W) → Below W2.heap.size W2 W := fun hs => b6.chain hs.2.2.2.2
    have GET6 : ∀ {W : World}, (Box W w.heap.size (.int .i64 v.kind) (.int .i64 v.num) (.string ⟨v.text.toArray⟩) (.slice A v.list.length c) (.slice A' v.keys.length c') ∧ Box W (w.heap.size + 1) (.int .i64 u.kind) (.int .i64 u.num) (.string ⟨u.text.toArray⟩) (.slice B u.list.length d) (.slice B' u.keys.length d') ∧ Box W w3.heap.size (.int .i64 XV.kind) (.int .i64 XV.num) (.string ⟨XV.text.toArray⟩) (.slice xA XV.list.length xc) (.slice xA' XV.keys.length xc') ∧ Box W w5.heap.size (.int .i64 yk) (.int .i64 yn) (.string yt) (.slice yA ya yb) (.slice yA' ya' yb') ∧ Below W6.heap.size W6 W) → Below W6.heap.size W6 W := fun hs => hs.2.2.2.2
    clear p0 p1 p2 p3 p4
    obtain ⟨P1, P2, P3, P4, -⟩ := S0
    have T4 := Lib.hid t4; have HW6 := Lib.hid hW6; have B6 := Lib.hid b6
    unfold Box at KEEP GETB GET6 P1 P2 P3 P4
    clear t4 b5 b6 b56 x6 hle5 y6 b46 v6 hb5 hy ST hW6
    go_wp2_with fail
    rw [← HW6.out]
    go_region_held3 (fun W => (W.cell? ⟨w.heap.size, 0, none⟩ = some (.int .i64 v.kind) ∧ W.cell? ⟨w.heap.size, 1, none⟩ = some (.int .i64 v.num) ∧ W.cell? ⟨w.heap.size, 2, none⟩ = some (.string ⟨v.text.toArray⟩) ∧ W.cell? ⟨w.heap.size, 3, none⟩ = some (.slice A v.list.length c) ∧ W.cell? ⟨w.heap.size, 4, none⟩ = some (.slice A' v.keys.length c')) ∧ (W.cell? ⟨(w.heap.size + 1), 0, none⟩ = some (.int .i64 u.kind) ∧ W.cell? ⟨(w.heap.size + 1), 1, none⟩ = some (.int .i64 u.num) ∧ W.cell? ⟨(w.heap.size + 1), 2, none⟩ = some (.string ⟨u.text.toArray⟩) ∧ W.cell? ⟨(w.heap.size + 1), 3, none⟩ = some (.slice B u.list.length d) ∧ W.cell? ⟨(w.heap.size + 1), 4, none⟩ = some (.slice B' u.keys.length d')) ∧ (W.cell? ⟨w3.heap.size, 0, none⟩ = some (.int .i64 XV.kind) ∧ W.cell? ⟨w3.heap.size, 1, none⟩ = some (.int .i64 XV.num) ∧ W.cell? ⟨w3.heap.size, 2, none⟩ = some (.string ⟨XV.text.toArray⟩) ∧ W.cell? ⟨w3.heap.size, 3, none⟩ = some (.slice xA XV.list.length xc) ∧ W.cell? ⟨w3.heap.size, 4, none⟩ = some (.slice xA' XV.keys.length xc')) ∧ (W.cell? ⟨w5.heap.size, 0, none⟩ = some (.int .i64 yk) ∧ W.cell? ⟨w5.heap.size, 1, none⟩ = some (.int .i64 yn) ∧ W.cell? ⟨w5.heap.size, 2, none⟩ = some (.string yt) ∧ W.cell? ⟨w5.heap.size, 3, none⟩ = some (.slice yA ya yb) ∧ W.cell? ⟨w5.heap.size, 4, none⟩ = some (.slice yA' ya' yb')) ∧ Below W6.heap.size W6 W) (first | exact ⟨P1, P2, P3, P4, Below.refl _ _⟩ | exact KEEP (Below.refl _ _).drew ⟨P1, P2, P3, P4, Below.refl _ _⟩ | exact KEEP (by assumption) (by assumption)) (first | (go_at_call 10; (with_reducible refine (AN.out _ (GETB (by assumption))).mono ?_); rintro e wx ⟨rfl, hbx⟩) | (go_at_call 17; (with_reducible refine (T4.out _ (GET6 (by assumption))).mono ?_); rintro e wx ⟨rfl, hbx⟩) | (go_at_call 17; (with_reducible refine (T3.out _ (GETB (by assumption))).mono ?_); rintro e wx ⟨rfl, hbx⟩) | (go_at_call 16; (with_reducible refine (T2.out _ (GETB (by assumption))).mono ?_); rintro e wx ⟨rfl, hbx⟩) | (go_at_call 16; (with_reducible refine (T1.out _ (GETB (by assumption))).mono ?_); rintro e wx ⟨rfl, hbx⟩))
    all_goals
      have hb9 : Below w.heap.size w _ := HB0.out.chain (B6.out.chain (GET6 (by assumption)))
      clear KEEP GETB GET6 P1 P2 P3 P4
      go_wp2
      go_ret
      exact ⟨rfl, hb9⟩
end Go.Proofs.YtoijjcbcmjdggaaDoor
