/- Texts merged by program, in build order: JsonRObject. -/
import Derived.Test.YtcbajbpdgmmaeaaDoorC09
import Derived.Test.YtcbajbpdgmmaeaaDoorC07
import Derived.Deep.DeepCutAuto
import Derived.Deep.DrawnRows
namespace Go.Proofs.YtcbajbpdgmmaeaaDoor
open Go.RowKit
set_option linter.unusedVariables false
set_option linter.unusedSimpArgs false

theorem obj_field (st : PL) (key : List UInt8) : (fieldV key (objV st)).isSome = st.any (fun p => decide (p.1 = key)) := by
  unfold objV
  show (if (6 : Int) = 6 ∧ keyAt key (objK st) < (objK st).length then (objL st)[keyAt key (objK st)]? else none).isSome = _
  cases hh : st.any (fun p => decide (p.1 = key)) with
  | true =>
    obtain ⟨p, hp, he⟩ := List.any_eq_true.1 hh
    have he : p.1 = key := by simpa using he
    have hm : key ∈ objK st := by rw [← he]; exact List.mem_map.2 ⟨p, hp, rfl⟩
    have hlt : keyAt key (objK st) < (objK st).length := by
      refine Nat.lt_of_not_le fun hle => ?_
      obtain ⟨i, hi, e⟩ := List.getElem_of_mem hm
      exact keyAt_ahead key (objK st) i hi (by omega) e
    rw [if_pos ⟨rfl, hlt⟩, List.getElem?_eq_getElem (by rw [objL_len, ← objK_len]; exact hlt)]; rfl
  | false =>
    have hn : ¬ keyAt key (objK st) < (objK st).length := fun hlt => by
      have h := keyAt_hit key (objK st) hlt
      have hm : key ∈ objK st := by rw [← h]; exact List.getElem_mem hlt
      obtain ⟨p, hp, he⟩ := List.mem_map.1 hm
      have := List.any_eq_false.1 hh p hp
      simp [he] at this
    rw [if_neg (fun e => hn e.2)]; rfl
theorem obj_not {st : PL} {key : List UInt8} (h : st.any (fun p => decide (p.1 = key)) = false) : key ∉ objK st := fun hm => by
  obtain ⟨p, hp, he⟩ := List.mem_map.1 hm
  have := List.any_eq_false.1 h p hp
  simp [he] at this
theorem below_step {B : Nat} {a b c : World} (h : Below B a b) (h' : Below b.heap.size b c) (hB : B ≤ b.heap.size) : Below B a c := h.trans (h'.mono hB)
attribute [local go_sem ↓] Go.wp_at_zero Go.wp_at_succ
set_option maxRecDepth 100000 in
theorem refWordV_any (t : ByteArray) (w : World) : Calls Tryd.prog 23 #[.string t] w fun e w' => e = .returned (.agg #[.int .i64 4, .int .i64 0, .string t, .slice none 0 0, .slice none 0 0]) ∧ Below w.heap.size w w' := by
  go_enter Tryd.func23, Tryd.ntmps23
  go_wp2
  refine bodyPost_ret (v := .agg #[.int .i64 4, .int .i64 0, .string t, .slice none 0 0, .slice none 0 0]) (by simp [results, Tryd.results23, go_sem]) rfl ?_
  exact ⟨rfl, (Below.refl _ _).alloc (Nat.le_refl _) _⟩
/-- the object at a round's head -/
def RObj (R : Nat) (w wr : World) (st : PL) (A A' : Option Addr) (a a' L N : Nat) : Prop :=
  wr.heap[R]? = some (.cells #[.int .i64 0, .int .i64 0, .string ⟨#[]⟩, .slice none 0 0, .slice none 0 0] 28 (0, 0)) ∧
  wr.heap[R + 1]? = some (.cells #[.int .i64 6, .int .i64 0, .string ⟨#[]⟩, .slice A st.length a, .slice A' st.length a'] 28 (0, 0)) ∧
  VIs wr L N (objV st) [.int .i64 6, .int .i64 0, .string ⟨#[]⟩, .slice A st.length a, .slice A' st.length a'] ∧ R + 2 ≤ L ∧ N ≤ wr.heap.size ∧ (st = [] → A = none ∧ A' = none ∧ a = 0 ∧ a' = 0) ∧ Below R w wr ∧ R + 2 ≤ wr.heap.size
theorem RObj.later {R : Nat} {w wr w1 : World} {st : PL} {A A' : Option Addr} {a a' L N : Nat} (h : RObj R w wr st A A' a a' L N) (hb : Below wr.heap.size wr w1) : RObj R w w1 st A A' a a' L N := by
  obtain ⟨h1, h2, h3, h4, h5, h6, h7, h8⟩ := h
  exact ⟨(hb.block _ (by omega)).trans h1, (hb.block _ (by omega)).trans h2, h3.below (hb.mono h5), h4, Nat.le_trans h5 hb.size, h6, h7.trans (hb.mono (by omega)), Nat.le_trans h8 hb.size⟩
theorem RObj.nil {R : Nat} {w wr : World} {st : PL} {A A' : Option Addr} {a a' L N : Nat} (h : RObj R w wr st A A' a a' L N) :
    (A = none ∧ A' = none ∧ objL st = [] ∧ objK st = [] ∧ a = 0 ∧ a' = 0) ∨ ∃ b o b' o', A = some ⟨b, o, none⟩ ∧ A' = some ⟨b', o', none⟩ ∧ LIs wr L N (objL st) b o ∧ KIs wr L N (objK st) b' o' := by
  obtain ⟨h1, h2, h3, h4, h5, h6, h7, h8⟩ := h
  by_cases hs : st = []
  · obtain ⟨e1, e2, e3, e4⟩ := h6 hs
    subst hs
    exact .inl ⟨e1, e2, rfl, rfl, e3, e4⟩
  · obtain ⟨-, B, b, B', b', e, k1, k2⟩ := VIs.out h3
    injection e with _ e; injection e with _ e; injection e with _ e; injection e with e3 e; injection e with e4 _
    injection e3 with e3 _ _; injection e4 with e4 _ _
    subst e3; subst e4
    have hl : objL st ≠ [] := fun h => hs (by have := congrArg List.length h; rw [objL_len] at this; exact List.length_eq_zero_iff.1 this)
    have hk : objK st ≠ [] := fun h => hs (by have := congrArg List.length h; rw [objK_len] at this; exact List.length_eq_zero_iff.1 this)
    rcases k1 with k1 | ⟨b1, o1, f1, k1⟩
    · exact absurd k1 hk
    rcases k2 with k2 | ⟨b2, o2, f2, k2⟩
    · exact absurd k2 hl
    exact .inr ⟨b2, o2, b1, o1, f2, f1, k2, k1⟩
theorem RObj.put {R : Nat} {w wr wz : World} {st : PL} {A A' C C' : Option Addr} {a a' L N d d' L' : Nat} {p : List UInt8 × List UInt8} (h : RObj R w wr st A A' a a' L N) (hb : Below wr.heap.size wr wz) (hL : wr.heap.size ≤ L')
    (hv : VIs wz L' wz.heap.size (objV (st ++ [p])) [.int .i64 6, .int .i64 0, .string ⟨#[]⟩, .slice C (st.length + 1) d, .slice C' (st.length + 1) d']) :
    RObj R w (set5 wz (R + 1) 0 (.int .i64 6) (.int .i64 0) (.string ⟨#[]⟩) (.slice C (st.length + 1) d) (.slice C' (st.length + 1) d')) (st ++ [p]) C C' d d' L' wz.heap.size := by
  obtain ⟨h1, h2, h3, h4, h5, h6, h7, h8⟩ := h
  have hs := hb.size
  have e : (st ++ [p]).length = st.length + 1 := by simp
  unfold RObj
  rw [e, set5_size]
  refine ⟨(set5_there (by omega)).trans (blk_below h1 hb), ?_, hv.keep2 fun q hq1 hq2 => World.cell?_of_block (w := wz) (set5_there (by omega)), by omega, Nat.le_refl _, fun hn => absurd hn (by simp), (h7.trans (hb.mono (by omega))).trans (set5_below (by omega)), by omega⟩
  have := set5_here (o := 0) (c0 := .int .i64 6) (c1 := .int .i64 0) (c2 := .string ⟨#[]⟩) (c3 := .slice C (st.length + 1) d) (c4 := .slice C' (st.length + 1) d') (blk_below h2 hb)
  simpa using this
set_option maxRecDepth 100000 in
set_option maxHeartbeats 20000000 in
theorem refObject_any (PUT : PutNew) (A : Option Addr) (c : Nat) (l : PL) (hl : l.length ≤ 100000) (hz : ∀ p ∈ l, p.1.length ≤ maxLen ∧ p.2.length ≤ maxLen) (w : World) (hp : Prs w w.heap.size A l) :
    Calls Tryd.prog 21 #[.slice A l.length c] w fun e w' => (∃ B b B' b' L N, e = .returned (.agg #[.int .i64 6, .int .i64 0, .string ⟨#[]⟩, .slice B (objS [] l).length b, .slice B' (objS [] l).length b']) ∧
      VIs w' L N (objV (objS [] l)) [.int .i64 6, .int .i64 0, .string ⟨#[]⟩, .slice B (objS [] l).length b, .slice B' (objS [] l).length b'] ∧ N ≤ w'.heap.size) ∧ Below w.heap.size w w' := by
  obtain ⟨R, hR⟩ : ∃ R, w.heap.size = R := ⟨_, rfl⟩
  obtain ⟨W2, hW2⟩ : ∃ W2, W2 = ((w.alloc (.cells #[.int .i64 0, .int .i64 0, .string ⟨#[]⟩, .slice none 0 0, .slice none 0 0] 28)).alloc (.cells #[.int .i64 6, .int .i64 0, .string ⟨#[]⟩, .slice none 0 0, .slice none 0 0] 28)) := ⟨_, rfl⟩
  have gst : RObj R w W2 [] none none 0 0 (R + 2) (R + 2) := by
    refine ⟨?_, ?_, ?_, Nat.le_refl _, ?_, fun _ => ⟨rfl, rfl, rfl, rfl⟩, ?_, ?_⟩
    · rw [hW2, ← hR]; exact alloc_block (heap_alloc_last w _)
    · rw [hW2, ← hR]; exact fresh_at _ (by simp)
    · exact VIs.mk (t := []) (l := []) (ks := []) ⟨by simp, by simp, by simp, by simp⟩ (.inl rfl) (.inl rfl)
    · rw [hW2, ← hR]; simp
    · rw [hW2, ← hR]; exact ((Below.refl _ _).alloc (Nat.le_refl _) _).alloc (by simp) _
    · rw [hW2, ← hR]; simp
  obtain ⟨n, hn⟩ : ∃ n, l.length = n := ⟨_, rfl⟩
  obtain ⟨RES, hRES⟩ : ∃ RES, objS [] l = RES := ⟨_, rfl⟩
  rw [hn] at hl ⊢
  rw [hRES]
  have HR := Lib.hid hR; have HW2 := Lib.hid hW2; have GST := Lib.hid gst; have HN := Lib.hid hn; have HRES := Lib.hid hRES; have HZ := Lib.hid hz; have HP := Lib.hid hp; have PU := Lib.hid PUT
  clear hR hW2 gst hn hRES hz hp PUT
  go_enter Tryd.func21, Tryd.ntmps21
  go_wp2
  rw [← HW2.out, HR.out]
  go_loopw [4] (fun i wr => ∃ (k : Nat) (st : PL) (A A' : Option Addr) (a a' L N : Nat), k ≤ n ∧ i = .int .i64 k ∧ st.length ≤ k ∧ objS st (l.drop k) = RES ∧ (∀ y ∈ objK st, y.length ≤ 9223372036854775807) ∧ RObj R w wr st A A' a a' L N) (fun i _ => n - (intOf i).toNat)
  case atStart => exact ⟨0, [], _, _, _, _, _, _, Nat.zero_le _, rfl, Nat.le_refl _, HRES.out, by simp [objK], GST.out⟩
  case round =>
    obtain ⟨k, st, B, B', b, b', L, N, hk, rfl, hsk, hst, hky, gst⟩ := hrel
    have HKY := Lib.hid hky; have GS := Lib.hid gst
    obtain ⟨g1, g2, g3, g4, g5, g6, g7, g8⟩ := gst
    clear hky GST g3 g6
    have hR := HR.out
    by_cases hlt : k < n
    · have hkl : k < l.length := by have := HN.out; omega
      rw [List.drop_eq_getElem_cons hkl] at hst
      obtain ⟨pa, rfl, hab, h1, h2⟩ := (HP.out.below (g7.mono (by omega))) k hkl
      obtain ⟨pa', epa, hab0, k1, k2⟩ := HP.out k hkl
      obtain rfl : pa = pa' := by injection epa
      clear epa
      have hzk := HZ.out l[k] (List.getElem_mem hkl)
      generalize hx : l[k] = x at *
      clear hx
      obtain ⟨xa, xb⟩ := x
      dsimp only at h1 h2 hzk k1 k2
      have hpR : pa.block < R := by omega
      have HK1 := Lib.hid k1; have HK2 := Lib.hid k2
      clear k1 k2
      have hpa : pa.block < wr.heap.size := by omega
      have hk0 : (0 : Int) ≤ k := by omega
      have hk1 : (k : Int) < n := by omega
      have w1' : IntKind.i64.wrap ((k : Int) * 2) = (k : Int) * 2 := by rw [IntKind.wrap_i64]; omega
      obtain ⟨⟨p0, p1, p2, p3, p4⟩, -⟩ := box_of g2
      have hf := fun wq (hb : Below wr.heap.size wr wq) => refField_any (objV st) xa wq L N _ ((GS.out.later hb).2.2.1) ((GS.out.later hb).2.2.2.2.1)
      rw [obj_field] at hf
      obtain ⟨OK, hOK⟩ : ∃ OK, st.any (fun p => decide (p.1 = xa)) = OK := ⟨_, rfl⟩
      rw [hOK] at hf
      have HF := Lib.hid hf; have HOK := Lib.hid hOK; have G2 := Lib.hid g2; have HST := Lib.hid hst; have HZK := Lib.hid hzk; have H1 := Lib.hid h1; have H2 := Lib.hid h2
      clear hf hOK hst g1 g2 g4 g5 g7 hzk hR
      go_upto_region 5 with fail
      have ST : ∀ W, Below wr.heap.size wr W → ((W.cell? ⟨R + 1, 0, none⟩ = some (.int .i64 6) ∧ W.cell? ⟨R + 1, 1, none⟩ = some (.int .i64 0) ∧ W.cell? ⟨R + 1, 2, none⟩ = some (.string ⟨#[]⟩) ∧ W.cell? ⟨R + 1, 3, none⟩ = some (.slice B st.length b) ∧ W.cell? ⟨R + 1, 4, none⟩ = some (.slice B' st.length b')) ∧ W.cell? (pa.add (k * 2)) = some (.string ⟨xa.toArray⟩) ∧ W.cell? ⟨(pa.add (k * 2)).block, (pa.add (k * 2)).off + 1, none⟩ = some (.string ⟨xb.toArray⟩)) ∧ Below wr.heap.size wr W := fun W hb =>
        ⟨⟨(box_of (blk_below G2.out hb)).1, (hb.cell (p := pa.add (k * 2)) (by rw [add_block]; omega)).trans H1.out, (hb.cell (p := ⟨(pa.add (k * 2)).block, (pa.add (k * 2)).off + 1, none⟩) (by show (pa.add (k * 2)).block < _; rw [add_block]; omega)).trans H2.out⟩, hb⟩
      have STH := Lib.hid ST
      clear ST
      go_cut [6] (fun s6 wx => s6 = .bool OK ∧ Below wr.heap.size wr wx)
      case first =>
        go_region_held3 (fun W => ((W.cell? ⟨R + 1, 0, none⟩ = some (.int .i64 6) ∧ W.cell? ⟨R + 1, 1, none⟩ = some (.int .i64 0) ∧ W.cell? ⟨R + 1, 2, none⟩ = some (.string ⟨#[]⟩) ∧ W.cell? ⟨R + 1, 3, none⟩ = some (.slice B st.length b) ∧ W.cell? ⟨R + 1, 4, none⟩ = some (.slice B' st.length b')) ∧ W.cell? (pa.add (k * 2)) = some (.string ⟨xa.toArray⟩) ∧ W.cell? ⟨(pa.add (k * 2)).block, (pa.add (k * 2)).off + 1, none⟩ = some (.string ⟨xb.toArray⟩)) ∧ Below wr.heap.size wr W) (first | exact STH.out _ (by repeat (first | (with_reducible exact Below.refl _ _) | (with_reducible apply Below.drew) | (with_reducible refine Below.alloc ?_ (by first | omega | (simp only [World.size_alloc, World.size_drew, set_size]; omega) | (simp; omega)) _) | (with_reducible refine Below.chain ?_ hby) | (with_reducible refine Below.chain ?_ hbx) | (with_reducible refine Below.setCell ?_ (by first | omega | (simp only [World.size_alloc, World.size_drew, set_size]; omega) | (simp; omega)) _)))) (first | (go_at_call 18; (with_reducible refine (HF.out _ (by repeat (first | (with_reducible exact Below.refl _ _) | (with_reducible apply Below.drew) | (with_reducible refine Below.alloc ?_ (by first | omega | (simp only [World.size_alloc, World.size_drew, set_size]; omega) | (simp; omega)) _) | (with_reducible refine Below.chain ?_ hby) | (with_reducible refine Below.chain ?_ hbx) | (with_reducible refine Below.setCell ?_ (by first | omega | (simp only [World.size_alloc, World.size_drew, set_size]; omega) | (simp; omega)) _)))).mono ?_); rintro e wx ⟨⟨fk, fn, ft, fA, fa, fb, fA', fa', fb', rfl, -⟩, hbx⟩; have hsx : wr.heap.size ≤ wx.heap.size := Nat.le_trans (by first | omega | (simp only [World.size_alloc, World.size_drew, set_size]; omega) | (simp; omega)) hbx.size; (try (have z5 := blk_below (drew_block (fresh_at _ rfl)) hbx; have hlz := (Array.getElem?_eq_some_iff.1 z5).1; obtain ⟨⟨z0, z1, z2, z3, z4⟩, y0, y1, y2, y3, y4⟩ := box_of z5; clear z5))))
        all_goals
          go_wp2_with fail
          go_meet
          exact ⟨rfl, (by repeat (first | (with_reducible exact Below.refl _ _) | (with_reducible apply Below.drew) | (with_reducible refine Below.alloc ?_ (by first | omega | (simp only [World.size_alloc, World.size_drew, set_size]; omega) | (simp; omega)) _) | (with_reducible refine Below.chain ?_ hby) | (with_reducible refine Below.chain ?_ hbx) | (with_reducible refine Below.setCell ?_ (by first | omega | (simp only [World.size_alloc, World.size_drew, set_size]; omega) | (simp; omega)) _)))⟩
      case rest =>
        obtain ⟨rfl, hbc⟩ := hcut
        have gx := GS.out.later hbc
        have GX := Lib.hid gx; have HBX := Lib.hid hbc
        clear gx p0 p1 p2 p3 p4
        cases OK with
        | true =>
          have hst2 : objS st (l.drop (k + 1)) = RES := (objS_hit (p := (xa, xb)) HOK.out).symm.trans HST.out
          have HS2 := Lib.hid hst2
          clear hst2 hbc
          go_wp2
          go_roundw
          case rel => exact ⟨k + 1, st, _, _, _, _, _, _, by omega, by go_num, by omega, HS2.out, HKY.out, GX.out⟩
          case measure => simp [intOf]; omega
        | false =>
          have hst2 : objS (st ++ [(xa, xb)]) (l.drop (k + 1)) = RES := (objS_new (p := (xa, xb)) HOK.out).symm.trans HST.out
          have hzx := HZK.out
          unfold maxLen at hzx
          have hput := fun wq (hb : Below wc.heap.size wc wq) => PU.out 6 0 [] (objL st) (objK st) xa (.mk 4 0 xb [] []) wq L N wq.heap.size wq.heap.size B B' b b' (.int .i64 4) (.int .i64 0) (.string ⟨xb.toArray⟩) (.slice none 0 0) (.slice none 0 0)
            (by rw [objL_len]; omega) (by rw [objK_len]; omega) HKY.out hzx.1 (obj_not HOK.out) (GX.out.later hb).2.2.2.2.1 (Nat.le_refl _) (Nat.le_refl _) (GX.out.later hb).nil
            (fun i hi cs h => by obtain ⟨t, ht⟩ := objL_get hi; rw [ht] at h ⊢; exact plain_any h) (plain_mk _ _ _ hzx.2)
          rw [← objL_snoc st (xa, xb), ← objK_snoc st (xa, xb), objL_len, objK_len] at hput
          have HPUT := Lib.hid hput; have HS2 := Lib.hid hst2
          have G2x := blk_below G2.out hbc
          clear hput hst2
          obtain ⟨⟨p0, p1, p2, p3, p4⟩, q0, q1, q2, q3, q4⟩ := box_of G2x
          have hb7 := GX.out.2.2.2.2.2.2.1
          have h8 := GX.out.2.2.2.2.2.2.2
          have STX : ∀ W, Below R w W → (W.cell? (pa.add (k * 2)) = some (.string ⟨xa.toArray⟩) ∧ W.cell? ⟨(pa.add (k * 2)).block, (pa.add (k * 2)).off + 1, none⟩ = some (.string ⟨xb.toArray⟩)) ∧ Below R w W := fun W hb =>
            ⟨⟨(hb.cell (p := pa.add (k * 2)) (by rw [add_block]; omega)).trans HK1.out, (hb.cell (p := ⟨(pa.add (k * 2)).block, (pa.add (k * 2)).off + 1, none⟩) (by show (pa.add (k * 2)).block < _; rw [add_block]; omega)).trans HK2.out⟩, hb⟩
          have SXH := Lib.hid STX; have G2X := Lib.hid G2x; have HB7 := Lib.hid hb7
          clear STX G2x hbc hzx hb7
          go_upto_region 7 with fail
          have hbr := HB7.out
          refine wp_region_invA (fun a0 listed a' wr => ∃ u26 u27 u28 u29 u30 u31 u32 u33 u34 u35 u36 u37 u38, a' = acts7 a0 u26 u27 u28 u29 u30 u31 u32 u33 u34 u35 u36 u37 u38 ∧ RO wc (.agg #[.int .i64 6, .int .i64 0, .string ⟨#[]⟩, .slice B st.length b, .slice B' st.length b']) (.slice (some pa) n c) (.int .i64 k) (.pointer (some (pa.add (k * 2)))) (.pointer (some (pa.add (k * 2)))) (.string ⟨xa.toArray⟩) (.pointer (some ⟨(pa.add (k * 2)).block, (pa.add (k * 2)).off + 1, none⟩)) (.string ⟨xb.toArray⟩) (.agg #[.int .i64 4, .int .i64 0, .string ⟨xb.toArray⟩, .slice none 0 0, .slice none 0 0]) (fun W u => ∃ (C C' : Option Addr) (d d' Lp : Nat), wc.heap.size ≤ Lp ∧ u = .agg #[.int .i64 6, .int .i64 0, .string ⟨#[]⟩, .slice C (st.length + 1) d, .slice C' (st.length + 1) d'] ∧ VIs W Lp W.heap.size (objV (st ++ [(xa, xb)])) [.int .i64 6, .int .i64 0, .string ⟨#[]⟩, .slice C (st.length + 1) d, .slice C' (st.length + 1) d']) (fun W => ∃ (C C' : Option Addr) (d d' Lp Np : Nat), RObj R w W (st ++ [(xa, xb)]) C C' d d' Lp Np) (fun j => listed.getD j false = true) u26 u27 u28 u29 u30 u31 u32 u33 u34 u35 u36 u37 u38 wr) (by kernel_rfl) (by kernel_rfl) ?h0 ?hstep ?hend
          case h0 =>
            have nl : ∀ j, ¬ (Array.replicate 14 false).getD j false = true := fun j h => by rw [getD_replicate_false] at h; cases h
            refine ⟨u26, u27, u28, u29, u30, u31, u32, u33, u34, u35, u36, u37, u38, (by simp only [acts7, List.setIfInBounds_toArray, List.set_cons_zero, List.set_cons_succ]), ?_⟩
            exact ⟨fun h => absurd h (nl _), fun h => absurd h (nl _), fun h => absurd h (nl _), fun h => absurd h (nl _), fun h => absurd h (nl _), fun h => absurd h (nl _), fun h => absurd h (nl _), fun h => absurd h (nl _), fun h => absurd h (nl _), fun h => absurd h (nl _), fun h => absurd h (nl _), fun h => absurd h (nl _), fun h => absurd h (nl _), fun h => absurd h (nl _), fun _ => Below.drew (Below.refl _ _)⟩
          case hstep =>
            rintro listed a' wr i hc hi ⟨u26, u27, u28, u29, u30, u31, u32, u33, u34, u35, u36, u37, u38, ha, h⟩
            have hi14 : i < 14 := ready_lt hi
            have hno := ready_not hi
            have hL := listed_iff listed i
            have hii := listed_now hc hi
            have HL := Lib.hid hL; have HII := Lib.hid hii; have H := Lib.hid h; have HC := Lib.hid hc; have HI := Lib.hid hi; have HNO := Lib.hid hno
            clear hL hii hno h hc p0 p1 p2 p3 p4 q0 q1 q2 q3 q4
            rcases (by omega : i = 0 ∨ i = 1 ∨ i = 2 ∨ i = 3 ∨ i = 4 ∨ i = 5 ∨ i = 6 ∨ i = 7 ∨ i = 8 ∨ i = 9 ∨ i = 10 ∨ i = 11 ∨ i = 12 ∨ i = 13) with rfl | rfl | rfl | rfl | rfl | rfl | rfl | rfl | rfl | rfl | rfl | rfl | rfl | rfl
            · clear hi14 hi
              subst ha
              obtain ⟨⟨p0, p1, p2, p3, p4⟩, -⟩ := box_of (blk_below G2X.out (H.out.low (fun h => HNO.out (HC.out.on (show Region.waitsFor .any _ 13 0 = true by kernel_rfl) h))))
              refine wpOp_step (o := _) rfl (fun K hK => ?_)
              have HK := Lib.hid hK; clear hK
              simp only [acts7, List.setIfInBounds_toArray, List.set_cons_zero, List.set_cons_succ]
              go_simp
              exact HK.out _ _ ⟨.agg #[.int .i64 6, .int .i64 0, .string ⟨#[]⟩, .slice B st.length b, .slice B' st.length b'], u27, u28, u29, u30, u31, u32, u33, u34, u35, u36, u37, u38, (by simp only [acts7, List.setIfInBounds_toArray, List.set_cons_zero, List.set_cons_succ]), H.out.s0 HL.out HII.out⟩
            · clear hi14 hi
              subst ha
              refine wpOp_step (o := _) rfl (fun K hK => ?_)
              have HK := Lib.hid hK; clear hK
              simp only [acts7, List.setIfInBounds_toArray, List.set_cons_zero, List.set_cons_succ]
              go_simp
              exact HK.out _ _ ⟨u26, .slice (some pa) n c, u28, u29, u30, u31, u32, u33, u34, u35, u36, u37, u38, (by simp only [acts7, List.setIfInBounds_toArray, List.set_cons_zero, List.set_cons_succ]), H.out.s1 HL.out HII.out⟩
            · clear hi14 hi
              subst ha
              refine wpOp_step (o := _) rfl (fun K hK => ?_)
              have HK := Lib.hid hK; clear hK
              simp only [acts7, List.setIfInBounds_toArray, List.set_cons_zero, List.set_cons_succ]
              go_simp
              exact HK.out _ _ ⟨u26, u27, .int .i64 k, u29, u30, u31, u32, u33, u34, u35, u36, u37, u38, (by simp only [acts7, List.setIfInBounds_toArray, List.set_cons_zero, List.set_cons_succ]), H.out.s2 HL.out HII.out⟩
            · clear hi14 hi
              subst ha
              obtain rfl := H.out.f1 (ready_on HI.out (show Region.waitsFor .any _ 3 1 = true by kernel_rfl))
              obtain rfl := H.out.f2 (ready_on HI.out (show Region.waitsFor .any _ 3 2 = true by kernel_rfl))
              refine wpOp_step (o := _) rfl (fun K hK => ?_)
              have HK := Lib.hid hK; clear hK
              simp only [acts7, List.setIfInBounds_toArray, List.set_cons_zero, List.set_cons_succ]
              go_simp
              exact HK.out _ _ ⟨u26, .slice (some pa) n c, .int .i64 k, .pointer (some (pa.add (k * 2))), u30, u31, u32, u33, u34, u35, u36, u37, u38, (by simp only [acts7, List.setIfInBounds_toArray, List.set_cons_zero, List.set_cons_succ]), H.out.s3 HL.out HII.out⟩
            · clear hi14 hi
              subst ha
              obtain rfl := H.out.f3 (ready_on HI.out (show Region.waitsFor .any _ 4 3 = true by kernel_rfl))
              refine wpOp_step (o := _) rfl (fun K hK => ?_)
              have HK := Lib.hid hK; clear hK
              simp only [acts7, List.setIfInBounds_toArray, List.set_cons_zero, List.set_cons_succ]
              go_simp
              exact HK.out _ _ ⟨u26, u27, u28, .pointer (some (pa.add (k * 2))), .pointer (some (pa.add (k * 2))), u31, u32, u33, u34, u35, u36, u37, u38, (by simp only [acts7, List.setIfInBounds_toArray, List.set_cons_zero, List.set_cons_succ]), H.out.s4 HL.out HII.out⟩
            · clear hi14 hi
              subst ha
              obtain rfl := H.out.f4 (ready_on HI.out (show Region.waitsFor .any _ 5 4 = true by kernel_rfl))
              obtain ⟨⟨c5, -⟩, -⟩ := SXH.out wr (hbr.trans ((H.out.low (fun h => HNO.out (HC.out.on (show Region.waitsFor .any _ 13 5 = true by kernel_rfl) h))).mono (by omega)))
              refine wpOp_step (o := _) rfl (fun K hK => ?_)
              have HK := Lib.hid hK; clear hK
              simp only [acts7, List.setIfInBounds_toArray, List.set_cons_zero, List.set_cons_succ]
              go_simp
              exact HK.out _ _ ⟨u26, u27, u28, u29, .pointer (some (pa.add (k * 2))), .string ⟨xa.toArray⟩, u32, u33, u34, u35, u36, u37, u38, (by simp only [acts7, List.setIfInBounds_toArray, List.set_cons_zero, List.set_cons_succ]), H.out.s5 HL.out HII.out⟩
            · clear hi14 hi
              subst ha
              refine wpOp_step (o := _) rfl (fun K hK => ?_)
              have HK := Lib.hid hK; clear hK
              simp only [acts7, List.setIfInBounds_toArray, List.set_cons_zero, List.set_cons_succ]
              go_simp
              exact HK.out _ _ ⟨u26, u27, u28, u29, u30, u31, .slice (some pa) n c, u33, u34, u35, u36, u37, u38, (by simp only [acts7, List.setIfInBounds_toArray, List.set_cons_zero, List.set_cons_succ]), H.out.s6 HL.out HII.out⟩
            · clear hi14 hi
              subst ha
              refine wpOp_step (o := _) rfl (fun K hK => ?_)
              have HK := Lib.hid hK; clear hK
              simp only [acts7, List.setIfInBounds_toArray, List.set_cons_zero, List.set_cons_succ]
              go_simp
              exact HK.out _ _ ⟨u26, u27, u28, u29, u30, u31, u32, .int .i64 k, u34, u35, u36, u37, u38, (by simp only [acts7, List.setIfInBounds_toArray, List.set_cons_zero, List.set_cons_succ]), H.out.s7 HL.out HII.out⟩
            · clear hi14 hi
              subst ha
              obtain rfl := H.out.f6 (ready_on HI.out (show Region.waitsFor .any _ 8 6 = true by kernel_rfl))
              obtain rfl := H.out.f7 (ready_on HI.out (show Region.waitsFor .any _ 8 7 = true by kernel_rfl))
              refine wpOp_step (o := _) rfl (fun K hK => ?_)
              have HK := Lib.hid hK; clear hK
              simp only [acts7, List.setIfInBounds_toArray, List.set_cons_zero, List.set_cons_succ]
              go_simp
              exact HK.out _ _ ⟨u26, u27, u28, u29, u30, u31, .slice (some pa) n c, .int .i64 k, .pointer (some (pa.add (k * 2))), u35, u36, u37, u38, (by simp only [acts7, List.setIfInBounds_toArray, List.set_cons_zero, List.set_cons_succ]), H.out.s8 HL.out HII.out⟩
            · clear hi14 hi
              subst ha
              obtain rfl := H.out.f8 (ready_on HI.out (show Region.waitsFor .any _ 9 8 = true by kernel_rfl))
              refine wpOp_step (o := _) rfl (fun K hK => ?_)
              have HK := Lib.hid hK; clear hK
              simp only [acts7, List.setIfInBounds_toArray, List.set_cons_zero, List.set_cons_succ]
              go_simp
              exact HK.out _ _ ⟨u26, u27, u28, u29, u30, u31, u32, u33, .pointer (some (pa.add (k * 2))), .pointer (some ⟨(pa.add (k * 2)).block, (pa.add (k * 2)).off + 1, none⟩), u36, u37, u38, (by simp only [acts7, List.setIfInBounds_toArray, List.set_cons_zero, List.set_cons_succ]), H.out.s9 HL.out HII.out⟩
            · clear hi14 hi
              subst ha
              obtain rfl := H.out.f9 (ready_on HI.out (show Region.waitsFor .any _ 10 9 = true by kernel_rfl))
              obtain ⟨⟨-, c10⟩, -⟩ := SXH.out wr (hbr.trans ((H.out.low (fun h => HNO.out (HC.out.on (show Region.waitsFor .any _ 13 10 = true by kernel_rfl) h))).mono (by omega)))
              refine wpOp_step (o := _) rfl (fun K hK => ?_)
              have HK := Lib.hid hK; clear hK
              simp only [acts7, List.setIfInBounds_toArray, List.set_cons_zero, List.set_cons_succ]
              go_simp
              exact HK.out _ _ ⟨u26, u27, u28, u29, u30, u31, u32, u33, u34, .pointer (some ⟨(pa.add (k * 2)).block, (pa.add (k * 2)).off + 1, none⟩), .string ⟨xb.toArray⟩, u37, u38, (by simp only [acts7, List.setIfInBounds_toArray, List.set_cons_zero, List.set_cons_succ]), H.out.s10 HL.out HII.out⟩
            · clear hi14 hi
              subst ha
              obtain rfl := H.out.f10 (ready_on HI.out (show Region.waitsFor .any _ 11 10 = true by kernel_rfl))
              have hl := H.out.low (fun h => HNO.out (HC.out.on (show Region.waitsFor .any _ 13 11 = true by kernel_rfl) h))
              have HLW := Lib.hid hl; clear hl
              refine wpOp_step (o := _) rfl (fun K hK => ?_)
              have HK := Lib.hid hK; clear hK
              simp only [acts7, List.setIfInBounds_toArray, List.set_cons_zero, List.set_cons_succ]
              go_simp
              go_at_call 23
              refine (refWordV_any _ _).mono ?_
              rintro e wy ⟨rfl, hby⟩
              have HBY := Lib.hid (HLW.out.chain hby); clear hby
              dsimp only
              (try go_wp2_with fail)
              exact HK.out _ _ ⟨u26, u27, u28, u29, u30, u31, u32, u33, u34, u35, .string ⟨xb.toArray⟩, .agg #[.int .i64 4, .int .i64 0, .string ⟨xb.toArray⟩, .slice none 0 0, .slice none 0 0], u38, (by simp only [acts7, List.setIfInBounds_toArray, List.set_cons_zero, List.set_cons_succ]), H.out.s11 HL.out HII.out (fun h => HNO.out (HC.out.on (show Region.waitsFor .any _ 12 11 = true by kernel_rfl) h)) (fun h => HNO.out (HC.out.on (show Region.waitsFor .any _ 13 11 = true by kernel_rfl) h)) HBY.out⟩
            · clear hi14 hi
              subst ha
              obtain rfl := H.out.f0 (ready_on HI.out (show Region.waitsFor .any _ 12 0 = true by kernel_rfl))
              obtain rfl := H.out.f5 (ready_on HI.out (show Region.waitsFor .any _ 12 5 = true by kernel_rfl))
              obtain rfl := H.out.f11 (ready_on HI.out (show Region.waitsFor .any _ 12 11 = true by kernel_rfl))
              have hl := H.out.low (fun h => HNO.out (HC.out.on (show Region.waitsFor .any _ 13 12 = true by kernel_rfl) h))
              have HLW := Lib.hid hl; clear hl
              refine wpOp_step (o := _) rfl (fun K hK => ?_)
              have HK := Lib.hid hK; clear hK
              simp only [acts7, List.setIfInBounds_toArray, List.set_cons_zero, List.set_cons_succ]
              go_simp
              go_at_call 17
              refine (HPUT.out _ HLW.out).mono ?_
              rintro e wz ⟨C, d, C', d', rfl, hvz, hbz⟩
              have HBZ := Lib.hid (HLW.out.chain hbz); have HVZ := Lib.hid hvz; clear hbz hvz
              dsimp only
              (try go_wp2_with fail)
              exact HK.out _ _ ⟨.agg #[.int .i64 6, .int .i64 0, .string ⟨#[]⟩, .slice B st.length b, .slice B' st.length b'], u27, u28, u29, u30, .string ⟨xa.toArray⟩, u32, u33, u34, u35, u36, .agg #[.int .i64 4, .int .i64 0, .string ⟨xb.toArray⟩, .slice none 0 0, .slice none 0 0], _, (by simp only [acts7, List.setIfInBounds_toArray, List.set_cons_zero, List.set_cons_succ]), H.out.s12 HL.out HII.out (fun h => HNO.out (HC.out.on (show Region.waitsFor .any _ 13 12 = true by kernel_rfl) h)) HBZ.out ⟨C, C', d, d', _, HLW.out.size, rfl, HVZ.out⟩⟩
            · clear hi14 hi
              subst ha
              obtain ⟨C, C', d, d', Lp, hLp, rfl, hvz⟩ := H.out.f12 (ready_on HI.out (show Region.waitsFor .any _ 13 12 = true by kernel_rfl)) HNO.out
              have hl := H.out.low HNO.out
              have hr := GX.out.put (p := (xa, xb)) hl hLp hvz
              obtain ⟨⟨p0, p1, p2, p3, p4⟩, q0, q1, q2, q3, q4⟩ := box_of (blk_below G2X.out hl)
              have HRR := Lib.hid hr; clear hr hvz hl hLp
              refine wpOp_step (o := _) rfl (fun K hK => ?_)
              have HK := Lib.hid hK; clear hK
              simp only [acts7, List.setIfInBounds_toArray, List.set_cons_zero, List.set_cons_succ]
              go_simp
              exact HK.out _ _ ⟨u26, u27, u28, u29, u30, u31, u32, u33, u34, u35, u36, u37, _, (by simp only [acts7, List.setIfInBounds_toArray, List.set_cons_zero, List.set_cons_succ]), H.out.s13 HL.out HII.out ⟨_, _, _, _, _, _, HRR.out⟩⟩
          case hend =>
            rintro listed a' wr hall ⟨u26, u27, u28, u29, u30, u31, u32, u33, u34, u35, u36, u37, u38, rfl, h⟩
            obtain ⟨C, C', d, d', Lp, Np, hr⟩ := h.f13 (hall 13 (by decide))
            have HRR := Lib.hid hr
            clear h hall hr p0 p1 p2 p3 p4 q0 q1 q2 q3 q4
            simp only [acts7, List.setIfInBounds_toArray, List.set_cons_zero, List.set_cons_succ]
            go_wp2_with fail
            go_roundw
            case rel =>
              refine ⟨k + 1, st ++ [(xa, xb)], _, _, _, _, _, _, by omega, by go_num, by simp; omega, HS2.out, ?_, HRR.out⟩
              intro y hy
              rw [objK_snoc] at hy
              rcases List.mem_append.1 hy with h | h
              · exact HKY.out y h
              · simp at h; subst h; have := HZK.out.1; unfold maxLen at this; exact this
            case measure => simp [intOf]; omega
    · obtain rfl : k = n := by omega
      have e : RES = st := by
        rw [← hst, List.drop_of_length_le (by have := HN.out; omega)]; rfl
      obtain ⟨⟨e0, e1, e2, e3, e4⟩, f0, f1, f2, f3, f4⟩ := box_of g2
      obtain ⟨⟨p0, p1, p2, p3, p4⟩, q0, q1, q2, q3, q4⟩ := box_of g1
      have G1 := Lib.hid g1
      subst e
      clear hst hR g1 g2 g4 g5 g7 g8
      go_wp2
      obtain ⟨wf, hwf⟩ : ∃ wf, wf = set5 wr R 0 (.int .i64 6) (.int .i64 0) (.string ⟨#[]⟩) (.slice B RES.length b) (.slice B' RES.length b') := ⟨_, rfl⟩
      change bodyPost _ _ _ _ _ (set5 wr R 0 (.int .i64 6) (.int .i64 0) (.string ⟨#[]⟩) (.slice B RES.length b) (.slice B' RES.length b'))
      rw [← hwf]
      have hx : wf.heap[R]? = some (.cells #[.int .i64 6, .int .i64 0, .string ⟨#[]⟩, .slice B RES.length b, .slice B' RES.length b'] 28 (0, 0)) := by rw [hwf]; exact set5_here G1.out
      have hbf : Below R w wf := by rw [hwf]; exact GS.out.2.2.2.2.2.2.1.trans (set5_below (Nat.le_refl _))
      have hvf : VIs wf L N (objV RES) [.int .i64 6, .int .i64 0, .string ⟨#[]⟩, .slice B RES.length b, .slice B' RES.length b'] :=
        GS.out.2.2.1.keep2 fun q hq1 hq2 => World.cell?_of_block (w := wr) (by rw [hwf]; exact set5_there (by have := GS.out.2.2.2.1; omega))
      have hNf : N ≤ wf.heap.size := by rw [hwf, set5_size]; exact GS.out.2.2.2.2.1
      obtain ⟨⟨x0, x1, x2, x3, x4⟩, -⟩ := box_of hx
      have HBF := Lib.hid hbf; have HVF := Lib.hid hvf; have HNF := Lib.hid hNf
      clear hbf hvf hwf hx hNf e0 e1 e2 e3 e4 f0 f1 f2 f3 f4 p0 p1 p2 p3 p4 q0 q1 q2 q3 q4
      refine bodyPost_ret (v := .agg #[.int .i64 6, .int .i64 0, .string ⟨#[]⟩, .slice B RES.length b, .slice B' RES.length b']) (by simp [results, Tryd.results21, go_sem, x0, x1, x2, x3, x4]) rfl ?_
      exact ⟨⟨_, _, _, _, _, _, rfl, HVF.out, HNF.out⟩, by rw [HR.out]; exact HBF.out⟩
end Go.Proofs.YtcbajbpdgmmaeaaDoor
