/- Layer 13, the landed code: fill and read. -/
import Derived.Test.YtefnkkjmcfpiaaaDoorRowSplits
namespace Go.Proofs.YtefnkkjmcfpiaaaDoor
open Go.RowKit
set_option linter.unusedVariables false
set_option linter.unusedSimpArgs false

/-- values put into cells, one behind the other -/
def puts (w : World) (zs : List ((Nat × Nat) × Value)) : World := zs.foldl (fun w z => w.setCell ⟨z.1.1, z.1.2, none⟩ z.2) w
def putsB (b : Nat) (zs : List ((Nat × Nat) × Value)) (C : Array Value) : Array Value := zs.foldl (fun C z => if z.1.1 = b then C.setIfInBounds z.1.2 z.2 else C) C
theorem puts_snoc (w : World) (zs : List ((Nat × Nat) × Value)) (z : (Nat × Nat) × Value) : puts w (zs ++ [z]) = (puts w zs).setCell ⟨z.1.1, z.1.2, none⟩ z.2 := by simp [puts]
theorem puts_size (zs : List ((Nat × Nat) × Value)) : ∀ w : World, (puts w zs).heap.size = w.heap.size := by
  induction zs with
  | nil => intro w; rfl
  | cons z zs ih => intro w; exact (ih _).trans (set_size _ _ _)
theorem puts_at {b : Nat} {t : TypeId} {fr : Nat × Nat} (zs : List ((Nat × Nat) × Value)) : ∀ (w : World) (C : Array Value), w.heap[b]? = some (.cells C t fr) → (puts w zs).heap[b]? = some (.cells (putsB b zs C) t fr) := by
  induction zs with
  | nil => intro w C h; exact h
  | cons z zs ih =>
    intro w C h
    by_cases hz : z.1.1 = b
    · have e : putsB b (z :: zs) C = putsB b zs (C.setIfInBounds z.1.2 z.2) := by
        show zs.foldl _ (if z.1.1 = b then _ else _) = _
        rw [if_pos hz]; rfl
      rw [e]
      refine ih _ _ ?_
      obtain ⟨⟨zb, zo⟩, zv⟩ := z
      obtain rfl : zb = b := hz
      exact set_here h _
    · have e : putsB b (z :: zs) C = putsB b zs C := by
        show zs.foldl _ (if z.1.1 = b then _ else _) = _
        rw [if_neg hz]; rfl
      rw [e]
      exact ih _ _ ((set_there _ (fun e => hz e.symm)).trans h)
theorem puts_far {b : Nat} (zs : List ((Nat × Nat) × Value)) : ∀ w : World, (∀ z ∈ zs, z.1.1 ≠ b) → (puts w zs).heap[b]? = w.heap[b]? := by
  induction zs with
  | nil => intro w _; rfl
  | cons z zs ih => exact fun w h => (ih _ fun z hz => h z (List.mem_cons_of_mem _ hz)).trans (set_there _ (fun e => h z (List.mem_cons_self ..) e.symm))
theorem putsB_size (b : Nat) (zs : List ((Nat × Nat) × Value)) : ∀ C : Array Value, (putsB b zs C).size = C.size := by
  induction zs with
  | nil => intro C; rfl
  | cons z zs ih =>
    intro C
    refine (ih _).trans ?_
    show (if z.1.1 = b then C.setIfInBounds z.1.2 z.2 else C).size = C.size
    by_cases hz : z.1.1 = b
    · rw [if_pos hz]; simp
    · rw [if_neg hz]
theorem puts_below {B : Nat} {w0 : World} (zs : List ((Nat × Nat) × Value)) : ∀ w : World, Below B w0 w → (∀ z ∈ zs, B ≤ z.1.1) → Below B w0 (puts w zs) := by
  induction zs with
  | nil => intro w h _; exact h
  | cons z zs ih => exact fun w h hz => ih _ (h.setCell (p := ⟨z.1.1, z.1.2, none⟩) (hz z (List.mem_cons_self ..)) _) fun z h => hz z (List.mem_cons_of_mem _ h)
def ptr (p : Nat × Nat) : Value := .pointer (some ⟨p.1, p.2, none⟩)
/-- what fill does and answers -/
def FillIs (w : World) (L : List UInt8) (ps : List (Nat × Nat)) (e : Ending) (w' : World) : Prop :=
  (∃ l w1 PA c, L = textsL l ∧ ps.length ≤ l.length ∧ Below w.heap.size w w1 ∧ w' = puts w1 (ps.zip (l.map tv)) ∧ e = .returned (.tuple #[.slice PA (l.length - ps.length) c, .bool true]) ∧ RdT w' (.slice PA (l.length - ps.length) c) (l.drop ps.length)) ∨
  ((∀ l, L = textsL l → l.length < ps.length) ∧ Below w.heap.size w w' ∧ e = .returned (.tuple #[.slice none 0 0, .bool false]))
theorem RdT.drop {w : World} {A : Option Addr} {n c m : Nat} {l : List (List UInt8)} (h : RdT w (.slice A n c) l) (hn : l.length = n) (hm : m ≤ n) : RdT w (.slice (if c = m then A else A.map (·.add (m * 1))) (n - m) (c - m)) (l.drop m) := by
  obtain ⟨A', c', e, hc, h⟩ := h
  cases e
  refine ⟨_, _, by rw [List.length_drop], by rw [List.length_drop]; omega, fun k x hk => ?_⟩
  rw [List.getElem?_drop] at hk
  obtain ⟨g, o, rfl, hg, h1⟩ := h _ _ hk
  have hlt := (List.getElem?_eq_some_iff.1 hk).1
  rw [if_neg (by omega)]
  refine ⟨g, o + m * 1, by simp [Addr.add_lit], hg, ?_⟩
  rw [show o + m * 1 + k = o + (m + k) by omega]
  exact h1
set_option maxRecDepth 100000 in
set_option maxHeartbeats 4000000 in
theorem fill13_any (s : ByteArray) (hs : s.size ≤ 1000000) (R m : Nat) (ps : List (Nat × Nat)) (hm : ps.length = m) (hm1 : 1 ≤ m) (hm2 : m ≤ 1000) (w : World) (hk : KitIn w.heap.size w)
    (hR : w.heap[R]? = some (.cells (ps.map ptr).toArray 68)) (hps : ∀ p ∈ ps, p.1 ≠ R ∧ ∃ C t, w.heap[p.1]? = some (.cells C t) ∧ p.2 < C.size) :
    Calls Tryd.prog 34 #[.string s, .slice (some ⟨R, 0, none⟩) m m] w fun e w' => FillIs w s.data.toList ps e w' := by
  obtain ⟨i0, hi, hz0, hz1, hz2⟩ := info_parts Tryd.infoStrK
  have hsp := split13_any s hs w hk
  have hsl := textsL_len
  have hss : s.data.toList.length ≤ 1000000 := hs
  obtain ⟨L, hL⟩ : ∃ L, s.data.toList = L := ⟨_, rfl⟩
  rw [hL] at hsp hss ⊢
  have HSP := Lib.hid hsp; have HM := Lib.hid hm; have HR := Lib.hid hR; have HPS := Lib.hid hps; have HSL := Lib.hid hsl; have HSS := Lib.hid hss
  clear hsp hm hR hps hsl hss hL hk hs
  go_enter Tryd.func34, Tryd.ntmps34
  go_wp2_with fail
  refine HSP.out.mono ?_
  rintro e w1 ⟨hsp, hb1⟩
  have B1 := Lib.hid hb1
  clear hb1
  rcases hsp with ⟨l, v, hl, rfl, hrow⟩ | ⟨hno, rfl⟩
  case inr =>
    have hend : ∀ W, Below w.heap.size w W → FillIs w L ps (.returned (.tuple #[.slice none 0 0, .bool false])) W := fun W hW => .inr ⟨fun l hl => absurd hl (hno l), hW, rfl⟩
    have HE := Lib.hid hend
    clear hend hno
    dsimp only
    go_wp2
    go_ret2
    exact HE.out _ B1.out
  case inl =>
    obtain ⟨A, c, rfl⟩ := own_formR hrow
    obtain ⟨n, hn⟩ : ∃ n, l.length = n := ⟨_, rfl⟩
    have hnb : n ≤ 1000000 := by
      have h1 := HSL.out l
      have h2 := HSS.out
      rw [hl] at h2
      omega
    rw [hn] at hrow ⊢
    by_cases hlt : n < m
    · have g1 : decide ((n : Int) < m) = true := by simp; omega
      have g2 : decide (n < m) = true := decide_eq_true hlt
      have hend : ∀ W, Below w.heap.size w W → FillIs w L ps (.returned (.tuple #[.slice none 0 0, .bool false])) W := fun W hW => .inr ⟨fun l' hl' => by
        obtain rfl := textsL_inj (hl.symm.trans hl')
        rw [hn, HM.out]; exact hlt, hW, rfl⟩
      have HE := Lib.hid hend
      clear hend hrow hlt hl hn
      dsimp only
      go_wp2
      go_ret2
      exact HE.out _ B1.out
    have g1 : decide ((n : Int) < m) = false := by simp; omega
    have g2 : decide (n < m) = false := decide_eq_false hlt
    have hmn : m ≤ n := by omega
    clear hlt
    have hrow' : TRow w1 w.heap.size (.slice A n c) l := hrow
    have hcap : n ≤ c := by
      obtain ⟨A', c', e, h1, _⟩ := hrow'.rd
      cases e
      omega
    obtain ⟨zs, hzs⟩ : ∃ zs, ps.zip (l.map tv) = zs := ⟨_, rfl⟩
    have hzk : ∀ (k : Nat) (p : Nat × Nat) (t : List UInt8), ps[k]? = some p → l[k]? = some t → zs[k]? = some (p, tv t) := fun k p t h1 h2 => by
      rw [← hzs, List.getElem?_zip_eq_some]
      exact ⟨h1, by rw [List.getElem?_map, h2]; rfl⟩
    have hzl : zs.length = m := by rw [← hzs, List.length_zip, List.length_map, HM.out, hn]; omega
    have hzp : ∀ z ∈ zs, z.1 ∈ ps := fun z hz => by
      rw [← hzs] at hz
      exact (List.of_mem_zip hz).1
    have hfar : ∀ k, (puts w1 (zs.take k)).heap[R]? = w.heap[R]? := fun k => by
      have hlt : R < w.heap.size := (Array.getElem?_eq_some_iff.1 HR.out).1
      rw [puts_far _ _ fun z hz => (HPS.out z.1 (hzp z (List.mem_of_mem_take hz))).1]
      exact B1.out.block R hlt
    have hown : ∀ k, TRow (puts w1 (zs.take k)) w.heap.size (.slice A n c) l := fun k => own_kept hrow' fun g hg => puts_far _ _ fun z hz => by
      have h1 := (World.ownsRow.lt hrow' g hg).1
      obtain ⟨_, C, t, h2, _⟩ := HPS.out z.1 (hzp z (List.mem_of_mem_take hz))
      have := (Array.getElem?_eq_some_iff.1 h2).1
      omega
    have hsl : ∀ (W : World), (Instr.slice 22 (.slice A n c) (some (.int .i64 m)) none none).run Tryd.prog W = .ok (.slice (if c = m then A else A.map (·.add (m * 1))) (n - m) (c - m)) W := fun W => by
      have hs : (sizeOf 9).run Tryd.prog W = .ok 1 W := by simp [sizeOf, typeInfo, hi, hz1]
      have he : Tryd.prog.elem 22 = 9 := by kernel_rfl
      have := run_slice_l W 22 A n c (by rw [he]; exact Tryd.underlying22) .i64 m (by omega) (by omega)
      rw [this, he, hs]
      simp [sliced]
    obtain ⟨PA, hPA⟩ : ∃ PA, (if c = m then A else A.map (·.add (m * 1))) = PA := ⟨_, rfl⟩
    rw [hPA] at hsl
    have hend : FillIs w L ps (.returned (.tuple #[.slice PA (n - m) (c - m), .bool true])) (puts w1 (zs.take m)) := .inl ⟨l, w1, PA, c - m, hl, by rw [HM.out, hn]; exact hmn, B1.out, by rw [hzs, ← hzl, List.take_length], by rw [HM.out, hn], by
      rw [HM.out, hn, ← hPA]
      exact RdT.drop (hown m).rd hn hmn⟩
    have HZL := Lib.hid hzl; have HZK := Lib.hid hzk; have HFAR := Lib.hid hfar; have HOWN := Lib.hid hown; have HE := Lib.hid hend; have HN := Lib.hid hn; have HSLI := Lib.hid hsl
    have HZP := Lib.hid hzp
    clear hzl hzk hfar hown hend hn hrow hrow' hzs hl hPA hzp hsl
    dsimp only
    go_wp2
    go_loopw [26] (fun i W => ∃ k : Nat, k ≤ m ∧ i = .int .i64 k ∧ Hid (W = puts w1 (zs.take k))) (fun i _ => m - (intOf i).toNat)
    case atStart => exact ⟨0, Nat.zero_le _, rfl, Lib.hid rfl⟩
    case round =>
      obtain ⟨k, hk, rfl, hT⟩ := hrel
      by_cases hlt : k < m
      · have hkr : decide ((k : Int) < m) = true := by simp; omega
        have hk0 : (0 : Int) ≤ k := by omega
        have hk1 : (k : Int) < m := by omega
        have hk2 : (k : Int) < n := by omega
        have hkp : k < ps.length := by rw [HM.out]; exact hlt
        have hkl : k < l.length := by rw [HN.out]; omega
        obtain ⟨pb, po, hp⟩ : ∃ pb po, ps[k] = (pb, po) := ⟨_, _, rfl⟩
        have hRw : wr.heap[R]? = some (.cells (ps.map ptr).toArray 68) := by rw [hT.out, HFAR.out]; exact HR.out
        have cP : wr.cell? ⟨R, k, none⟩ = some (.pointer (some ⟨pb, po, none⟩)) := by
          rw [cell_here hRw]
          simp [hkp, hp, ptr]
        obtain ⟨g, o, rfl, hg, cL⟩ := (show RdT wr (.slice A n c) l by rw [hT.out]; exact (HOWN.out k).rd).at k hkl
        obtain ⟨t, ht⟩ : ∃ t, l[k] = t := ⟨_, rfl⟩
        rw [ht] at cL
        have hzt : zs.take (k + 1) = zs.take k ++ [((pb, po), tv t)] := by
          rw [List.take_add_one, HZK.out k (pb, po) t (by rw [List.getElem?_eq_getElem hkp, hp]) (by rw [List.getElem?_eq_getElem hkl, ht])]; rfl
        obtain ⟨hne, C, ty, hC, hpo⟩ := HPS.out (pb, po) (by rw [← hp]; exact List.getElem_mem hkp)
        have hCw : wr.heap[pb]? = some (.cells (putsB pb (zs.take k) C) ty) := by
          rw [hT.out]
          exact puts_at _ _ _ (blk_below hC B1.out)
        obtain ⟨old, hold⟩ : ∃ old, (putsB pb (zs.take k) C)[po]? = some old := by
          have : po < (putsB pb (zs.take k) C).size := by rw [putsB_size]; exact hpo
          exact ⟨_, Array.getElem?_eq_getElem this⟩
        have cO : wr.cell? ⟨pb, po, none⟩ = some old := by rw [cell_here hCw]; exact hold
        have fO : wr.frozen? ⟨pb, po, none⟩ = false := frozen_here hCw po
        obtain ⟨ST, hST⟩ : ∃ B : ByteArray, tv t = .string B := ⟨_, rfl⟩
        rw [hST] at cL hzt
        have hstep : wr.setCell ⟨pb, po, none⟩ (.string ST) = puts w1 (zs.take (k + 1)) := by
          rw [hzt, puts_snoc, hT.out]
        have HSTEP := Lib.hid hstep
        clear hstep hzt hST hold hCw hC hpo hne ht hRw hp hkp hkl hg
        go_wp2
        go_roundw
        case rel => exact ⟨k + 1, by omega, by go_num, HSTEP⟩
        case measure => simp [intOf]; omega
      · obtain rfl : k = m := by omega
        have hkr : decide ((k : Int) < k) = false := by simp
        have hsl := HSLI.out
        clear hlt
        go_wp2
        go_ret2
        have hE := HE.out
        rw [← hT.out] at hE
        exact hE
/-- what read does and answers -/
def ReadIs (w : World) (L : List UInt8) (pb po : Nat) (e : Ending) (w' : World) : Prop :=
  ∃ w1, Below w.heap.size w w1 ∧ ((∃ n, Int64 n ∧ L = decI n ∧ w' = w1.setCell ⟨pb, po, none⟩ (.int .i64 n) ∧ e = .returned (.bool true)) ∨ ((∀ n, Int64 n → L ≠ decI n) ∧ w' = w1.setCell ⟨pb, po, none⟩ (.int .i64 0) ∧ e = .returned (.bool false)))
set_option maxRecDepth 100000 in
set_option maxHeartbeats 1000000 in
theorem read13_any (s : ByteArray) (hs : s.size ≤ 1000000) (pb po : Nat) (w : World) (hk : KitIn w.heap.size w) (C : Array Value) (t : TypeId) (hC : w.heap[pb]? = some (.cells C t)) (hpo : po < C.size) :
    Calls Tryd.prog 35 #[.pointer (some ⟨pb, po, none⟩), .string s] w fun e w' => ReadIs w s.data.toList pb po e w' := by
  have hnum := number13_any s (by omega) w hk
  obtain ⟨L, hL⟩ : ∃ L, s.data.toList = L := ⟨_, rfl⟩
  rw [hL] at hnum ⊢
  have hcell : ∀ W, Below w.heap.size w W → (∃ old, W.cell? ⟨pb, po, none⟩ = some old) ∧ W.frozen? ⟨pb, po, none⟩ = false := fun W hW => by
    have h1 := blk_below hC hW
    exact ⟨⟨_, (cell_here h1).trans (Array.getElem?_eq_getElem hpo)⟩, frozen_here h1 po⟩
  have HNUM := Lib.hid hnum; have HCELL := Lib.hid hcell
  clear hnum hcell hC hpo hL hs hk
  go_enter Tryd.func35, Tryd.ntmps35
  go_wp2_with fail
  refine HNUM.out.mono ?_
  rintro e w1 ⟨hn, hb1⟩
  obtain ⟨⟨old, cO⟩, fO⟩ := HCELL.out w1 hb1
  have B1 := Lib.hid hb1
  clear hb1
  rcases hn with ⟨n, hn, hl, rfl⟩ | ⟨hno, rfl⟩
  · have hend : ReadIs w L pb po (.returned (.bool true)) (w1.setCell ⟨pb, po, none⟩ (.int .i64 n)) := ⟨w1, B1.out, .inl ⟨n, hn, hl, rfl, rfl⟩⟩
    have HE := Lib.hid hend
    clear hend hn hl
    dsimp only
    go_wp2
    go_ret
    exact HE.out
  · have hend : ReadIs w L pb po (.returned (.bool false)) (w1.setCell ⟨pb, po, none⟩ (.int .i64 0)) := ⟨w1, B1.out, .inr ⟨hno, rfl, rfl⟩⟩
    have HE := Lib.hid hend
    clear hend hno
    dsimp only
    go_wp2
    go_ret
    exact HE.out
end Go.Proofs.YtefnkkjmcfpiaaaDoor
