/- Texts merged by program, in build order: OpenPairs, JsonObj, RegInv, ObjReg7. -/
import Derived.Test.YtcbajbpdgmmaeaaDoorC08
import Derived.ProofKit
import Derived.ChangeMaps5
import Derived.Deep.Slices
import Derived.SizedLaws
import Derived.Test.YtcbajbpdgmmaeaaDoorC01
import Derived.StillTail
import Derived.Deep.RegionHeld3
import Derived.Test.YtcbajbpdgmmaeaaDoorC07
namespace Go.Proofs.YtcbajbpdgmmaeaaDoor
open Go.ChangeShapes Go.WideShapes Go.ChangeAt Go.RowKit

theorem Tryd.laidOutP : laidOutB Tryd.prog = true := by kernel_rfl
theorem Tryd.cellsPair : Tryd.prog.cellsOf 44 = 2 := by kernel_rfl
theorem Tryd.bytesPair : Tryd.prog.bytesOf 44 = 32 := by kernel_rfl
theorem Tryd.cellsStr : Tryd.prog.cellsOf 9 = 1 := by kernel_rfl

set_option maxRecDepth 100000 in
/-- two cells that read as a pair -/
theorem open_pair {H : Type} {enc : TypeId × Value → H} {W : World} {base : Nat} {sp : Nat → Bool} {held : Bool} {n : Nat} {cs : List Value} {x : DataW H × List MemPlace}
    (h : DataW.trod enc Tryd.prog W base sp held n 44 cs = some x) : ∃ a b : ByteArray, cs = [.string a, .string b] ∧ x.1 = .agg [.lit (.string a.data.toList), .lit (.string b.data.toList)] := by
  obtain ⟨xs, m, _, hx, hlen, hxl, hf⟩ := DataW.trod_struct Tryd.underlying44 h
  rw [Tryd.cellsPair] at hlen
  match cs, hlen with
  | [c0, c1], _ =>
    have h0 : DataW.trod enc Tryd.prog W base sp held m 9 [c0] = xs[0]? := by
      have := hf 0 { name := "Key", type := 9, offset := 0, embedded := false, tag := "", pkgPath := "", byteOffset := 0 } rfl
      rwa [Tryd.cellsStr] at this
    have h1 : DataW.trod enc Tryd.prog W base sp held m 9 [c1] = xs[1]? := by
      have := hf 1 { name := "Value", type := 9, offset := 1, embedded := false, tag := "", pkgPath := "", byteOffset := 16 } rfl
      rwa [Tryd.cellsStr] at this
    match xs, hxl with
    | [y0, y1], _ =>
      simp only [List.getElem?_cons_zero, List.getElem?_cons_succ] at h0 h1
      obtain ⟨a, ha, ya, za⟩ := DataW.trod_string Tryd.underlying9 h0
      obtain ⟨b, hb, yb, zb⟩ := DataW.trod_string Tryd.underlying9 h1
      simp at ha hb
      exact ⟨a, b, by rw [ha, hb], by rw [hx, ya, yb]; rfl⟩

theorem weightsAll_in {H : Type} {P : Program} {e : TypeId} : ∀ {l : List (DataW H)} {d : DataW H}, d ∈ l → ∀ n ∈ d.weights P e, n ∈ DataW.weightsAll P e l
  | d0 :: l, d, hd, n, hn => by
    simp only [DataW.weightsAll, List.mem_append]
    rcases List.mem_cons.1 hd with rfl | h
    · exact Or.inl hn
    · exact Or.inr (weightsAll_in h n hn)

set_option maxRecDepth 100000 in
/-- what is read of a slice of pairs: the pairs; their texts are no longer than a text may be -/
theorem open_pairs {H : Type} {enc : TypeId × Value → H} {W : World} {base : Nat} {v : Value} {d : DataW H} {ps : List MemPlace} (hval : Value.okWide Tryd.prog W .any base 47 v)
    (hd : DataW.Trod enc Tryd.prog W 0 (fun _ => true) true 47 v d ps) (hlt : ∀ x ∈ ps, x.block < W.heap.size) (hwt : ∀ n ∈ d.weights Tryd.prog 47, n ≤ reachBytes) :
    ∃ (A : Option Addr) (c : Nat) (l : PL), v = .slice A l.length c ∧ Prs W W.heap.size A l ∧ l.length ≤ reachBytes ∧ ∀ p ∈ l, p.1.length ≤ reachBytes ∧ p.2.length ≤ reachBytes := by
  obtain ⟨a0, len, cap, rfl⟩ := okWide_slice Tryd.underlying47 hval
  obtain ⟨fuel, hf⟩ := hd
  rcases Go.Deep.open_slice Tryd.underlying47 hf with ⟨hcs, hx⟩ | ⟨a, len', cap', m, n, D, Pl, hcs, _, hl, hm, hmm, hx, hi⟩
  · simp [Value.cells] at hcs
    obtain ⟨rfl, rfl, rfl⟩ := hcs
    exact ⟨none, 0, [], rfl, Prs.nil _ _ _, Nat.zero_le _, by simp⟩
  · simp [Value.cells] at hcs
    obtain ⟨rfl, rfl, rfl⟩ := hcs
    simp only [if_true] at hmm
    subst hmm
    rw [Tryd.cellsPair] at hi hx
    have hall : ∀ i, ∃ x : ByteArray × ByteArray, i < m → W.cell? (a.add (i * 2)) = some (.string x.1) ∧ W.cell? (a.add (i * 2 + 1)) = some (.string x.2) ∧ D i = .agg [.lit (.string x.1.data.toList), .lit (.string x.2.data.toList)] := by
      intro i
      by_cases him : i < m
      · obtain ⟨cs', hc, ht'⟩ := hi i him
        obtain ⟨u, u', rfl, hD⟩ := open_pair ht'
        obtain ⟨_, _, hat⟩ := World.cells?_some hc
        refine ⟨(u, u'), fun _ => ⟨?_, ?_, hD⟩⟩
        · have := hat 0 (by decide); simpa [Addr.add] using this
        · have := hat 1 (by decide); rw [Go.Deep.add_add] at this; simpa using this
      · exact ⟨(⟨#[]⟩, ⟨#[]⟩), fun h => absurd h him⟩
    obtain ⟨f, hf⟩ := Classical.axiomOfChoice hall
    let g : Nat → List UInt8 × List UInt8 := fun i => ((f i).1.data.toList, (f i).2.data.toList)
    simp only [Prod.mk.injEq] at hx
    have hlen : len ≤ reachBytes := by
      have := hwt ((len + (m - len)) * Tryd.prog.bytesOf 44) (by rw [hx.1]; simp [DataW.weights, Tryd.underlying47])
      rw [Tryd.bytesPair] at this
      omega
    refine ⟨some a, m, (List.range len).map g, by simp, fun k hk => ?_, by simpa using hlen, ?_⟩
    · have hk' : k < len := by simpa using hk
      refine ⟨a, rfl, ?_, ?_, ?_⟩
      · have hb : MemPlace.cell a.block a.off ∈ ps := by
          rw [hx.2, List.mem_append]
          exact .inl (MemPlace.mem_row.2 ⟨0, by omega, by simp⟩)
        exact hlt _ hb
      · rw [(hf k (by omega)).1]; simp [g]
      · rw [add_next, (hf k (by omega)).2.1]; simp [g]
    · intro p hp
      obtain ⟨i, hi', rfl⟩ := List.mem_map.1 hp
      have hil : i < len := by simpa using hi'
      have hD := (hf i (by omega)).2.2
      have hin : D i ∈ (List.range len).map D := List.mem_map.2 ⟨i, by simpa using hil, rfl⟩
      have hmem : ∀ n ∈ (D i).weights Tryd.prog 44, n ≤ reachBytes := fun n hn => hwt n (by
        rw [hx.1]
        simp only [DataW.weights, Tryd.underlying47, List.mem_cons, List.mem_append]
        exact .inr (.inl (weightsAll_in hin n hn)))
      rw [hD] at hmem
      refine ⟨hmem _ ?_, hmem _ ?_⟩ <;> simp [DataW.weights, Tryd.underlying44, DataW.weightsEach, g]
end Go.Proofs.YtcbajbpdgmmaeaaDoor
namespace Go.Proofs.YtcbajbpdgmmaeaaDoor
open Go.RowKit
open Go.Maps
set_option linter.unusedVariables false
set_option linter.unusedSimpArgs false

/-- the pairs whose key has not stood ahead, behind those that are there -/
def objS : PL → PL → PL
  | acc, [] => acc
  | acc, p :: r => objS (if acc.any (fun q => decide (q.1 = p.1)) then acc else acc ++ [p]) r
def objL (st : PL) : List V := st.map fun p => .mk 4 0 p.2 [] []
def objK (st : PL) : List (List UInt8) := st.map (·.1)
def objV (st : PL) : V := .mk 6 0 [] (objL st) (objK st)
theorem objL_len (st : PL) : (objL st).length = st.length := by simp [objL]
theorem objK_len (st : PL) : (objK st).length = st.length := by simp [objK]
theorem objL_snoc (st : PL) (p : List UInt8 × List UInt8) : objL (st ++ [p]) = objL st ++ [.mk 4 0 p.2 [] []] := by simp [objL]
theorem objK_snoc (st : PL) (p : List UInt8 × List UInt8) : objK (st ++ [p]) = objK st ++ [p.1] := by simp [objK]
theorem objS_hit {st r : PL} {p : List UInt8 × List UInt8} (h : st.any (fun q => decide (q.1 = p.1)) = true) : objS st (p :: r) = objS st r := by
  show objS (if st.any (fun q => decide (q.1 = p.1)) then st else st ++ [p]) r = _
  rw [if_pos h]
theorem objS_new {st r : PL} {p : List UInt8 × List UInt8} (h : st.any (fun q => decide (q.1 = p.1)) = false) : objS st (p :: r) = objS (st ++ [p]) r := by
  show objS (if st.any (fun q => decide (q.1 = p.1)) then st else st ++ [p]) r = _
  rw [if_neg (by rw [h]; decide)]
theorem plain_any {w w' : World} {L N L' N' : Nat} {t : List UInt8} {cs : List Value} (h : VIs w L N (.mk 4 0 t [] []) cs) : VIs w' L' N' (.mk 4 0 t [] []) cs := by
  obtain ⟨hr, A, c, A', c', rfl, _, _⟩ := h.out
  exact VIs.mk hr (.inl rfl) (.inl rfl)
theorem plain_mk (w : World) (L N : Nat) {t : List UInt8} (ht : t.length ≤ 9223372036854775807) : VIs w L N (.mk 4 0 t [] []) [.int .i64 4, .int .i64 0, .string ⟨t.toArray⟩, .slice none 0 0, .slice none 0 0] :=
  VIs.mk (l := []) (ks := []) ⟨by simp, by simp, ht, by simp⟩ (.inl rfl) (.inl rfl)
theorem objL_get {st : PL} {i : Nat} (h : i < (objL st).length) : ∃ t, (objL st)[i] = .mk 4 0 t [] [] := ⟨(st[i]'(by simpa [objL] using h)).2, by simp [objL]⟩
theorem new_cellsS (w : World) (a : Addr) (v : Value) (cs : Array Value) (e : TypeId) : ∀ j u, cs.toList[j]? = some u → ((w.setCell a v).alloc (.cells cs e)).cell? ((⟨w.heap.size, 0, none⟩ : Addr).add j) = some u := by
  intro j u h
  have := new_cells (w.setCell a v) cs e j u h
  rwa [set_size] at this
/-- what holds of the object's memory stays when another block of the call's own is written -/
theorem GSt.other {R M : Nat} {kind : Int} {w wr w1 : World} {lv kv : Value} {st : PL} {xs : List Value} (h : GSt R kind w wr lv kv (objL st) (objK st) xs) (hM : R + 2 ≤ M) (hg : wr.grownBy w1 (some M)) (hL : lv.ownBlock ≠ some M) (hK : kv.ownBlock ≠ some M) :
    GSt R kind w w1 lv kv (objL st) (objK st) xs := by
  obtain ⟨h1, h2, h3, h4, h5, h6, h7⟩ := h
  have hb : ∀ b, b < wr.heap.size → b ≠ M → w1.heap[b]? = wr.heap[b]? := fun b hb hne => hg.block b hb (fun e => hne (by injection e))
  refine ⟨(hb _ (by omega) (by omega)).trans h1, (hb _ (by omega) (by omega)).trans h2, own_kept h3 fun g hgl => hb g (h3.lt g hgl).2 (fun e => hL (by rw [← e]; exact hgl)), own_kept h4 fun g hgk => hb g (h4.lt g hgk).2 (fun e => hK (by rw [← e]; exact hgk)), fun i hi => ?_,
    h6.grown hg (by omega) (fun k hk => by injection hk with hk; omega), Nat.le_trans h7 hg.size⟩
  obtain ⟨c0, c1, c2, c3, c4, L, N, e0, e1, e2, e3, e4, hv, hL', hN, hgg⟩ := h5 i hi
  obtain ⟨t, ht⟩ := objL_get hi
  rw [ht] at hv
  refine ⟨c0, c1, c2, c3, c4, R + 2, R + 2, e0, e1, e2, e3, e4, ?_, Nat.le_refl _, Nat.le_trans h7 hg.size, fun g _ hlt => by omega⟩
  rw [ht]
  exact plain_any hv
open Go.Maps in
theorem map_not {w : World} {B size n b m : Nat} {e k : TypeId} {v : Value} {xs : List Value} {R : Value → Option (DataW Unit × List MemPlace)} {D : DataW Unit} (h : w.ownsRow B e size v n xs) (hm : w.ownsMap Tryd.prog k R b m D) : v.ownBlock ≠ some b := by
  obtain ⟨es, clock, hb, _⟩ := hm
  rcases h.2 with ⟨rfl, _⟩ | ⟨g, cap, cur, rfl, _, hg, _⟩
  · intro e; cases e
  · intro e
    injection e with e
    subst e
    rw [hb] at hg
    injection hg with hg
    cases hg
theorem seen_any (st : PL) (x : List UInt8) : Maps.has (seenAt st st.length) (.string x) = st.any (fun p => decide (p.1 = x)) := by rw [seen_has, List.take_length]
theorem seen_snoc (st : PL) (p : List UInt8 × List UInt8) : seenAt (st ++ [p]) (st.length + 1) = (seenAt st st.length).put (.string p.1) (.agg []) := by
  unfold seenAt
  rw [List.take_length, List.take_of_length_le (by simp), List.map_append, List.map_singleton, setOf_snoc]
end Go.Proofs.YtcbajbpdgmmaeaaDoor
namespace Go.Proofs.YtcbajbpdgmmaeaaDoor
open Go.RowKit

/-- what is listed is closed under what it waits for -/
structure Closed (md : Region.Mode) (ops : Array Oper) (listed : Array Bool) : Prop where
  size : listed.size = ops.size
  dep : ∀ j oj, ops[j]? = some oj → listed.getD j false = true → ∀ e ∈ oj.after, Region.binds md e = true → listed.getD e.on false = true
theorem Closed.on {md : Region.Mode} {ops : Array Oper} {listed : Array Bool} (h : Closed md ops listed) {j i : Nat} (hw : Region.waitsFor md ops j i = true) (hj : listed.getD j false = true) : listed.getD i false = true := by
  obtain ⟨oj, hoj, e, he, hb, rfl⟩ := Region.waitsFor_spec hw
  exact h.dep j oj hoj hj e he hb
/-- every operation waits for such alone as stand ahead of it -/
def dagB (md : Region.Mode) (ops : Array Oper) : Bool := (List.range ops.size).all fun j => match ops[j]? with
  | some o => o.after.all fun e => !Region.binds md e || decide (e.on < j)
  | none => true
theorem dagB_spec {md : Region.Mode} {ops : Array Oper} (h : dagB md ops = true) {j : Nat} {o : Oper} (ho : ops[j]? = some o) {e : Edge} (he : e ∈ o.after) (hb : Region.binds md e = true) : e.on < j := by
  have hj : j < ops.size := (Array.getElem?_eq_some_iff.1 ho).1
  have h1 := List.all_eq_true.1 h j (List.mem_range.2 hj)
  rw [ho] at h1
  have h2 := Array.all_eq_true'.1 h1 e he
  simp [hb] at h2
  exact h2
theorem countP_lt {p q : Nat → Bool} : ∀ (l : List Nat), (∀ x, q x = true → p x = true) → ∀ i ∈ l, p i = true → q i = false → l.countP q < l.countP p
  | [], _, i, hi, _, _ => by cases hi
  | x :: r, h, i, hi, hp, hq => by
    have hle : r.countP q ≤ r.countP p := List.countP_mono_left fun y _ hy => h y hy
    rcases List.mem_cons.1 hi with rfl | hi
    · rw [List.countP_cons_of_pos hp, List.countP_cons_of_neg (by rw [hq]; decide)]; omega
    · have ih := countP_lt r h i hi hp hq
      rw [List.countP_cons, List.countP_cons]
      by_cases hx : q x = true
      · rw [if_pos hx, if_pos (h x hx)]; omega
      · rw [if_neg hx]; omega
def unlisted (n : Nat) (listed : Array Bool) : Nat := (List.range n).countP fun i => !listed.getD i true
section
variable {P : Program} {md : Region.Mode} {ops : Array Oper} {Q : Exit → Act → World → Prop}
theorem ready_all (hd : dagB md ops = true) {listed : Array Bool} (hs : listed.size = ops.size) (hr : Region.ready md ops listed = []) : ∀ i, i < ops.size → listed.getD i false = true := by
  intro i
  induction i using Nat.strongRecOn with
  | _ i ih =>
    intro hi
    cases hl : listed.getD i false with
    | true => rfl
    | false =>
      have h1 := getD_in (by omega) hl
      have : i ∈ Region.ready md ops listed := mem_ready.2 ⟨h1, ops[i], Array.getElem?_eq_getElem hi, fun e he hb => by
        have hlt := dagB_spec hd (Array.getElem?_eq_getElem hi) he hb
        exact ih e.on hlt (by omega)⟩
      rw [hr] at this; cases this
theorem wpAny_inv (hd : dagB md ops = true) (I : Array Bool → Act → World → Prop)
    (hstep : ∀ listed a w i, Closed md ops listed → i ∈ Region.ready md ops listed → I listed a w → wpOp P ops Q i (I (listed.setIfInBounds i true)) a w)
    (hend : ∀ listed a w, (∀ i, i < ops.size → listed.getD i false = true) → I listed a w → Q .normal a w) :
    ∀ (fuel : Nat) (listed : Array Bool) (a : Act) (w : World), Closed md ops listed → unlisted ops.size listed ≤ fuel → I listed a w → wpAny P md ops Q fuel listed a w
  | 0, listed, a, w, hc, hf, hI => by
    have hr : Region.ready md ops listed = [] := by
      rcases hr : Region.ready md ops listed with _ | ⟨i, r⟩
      · rfl
      · have hi : i ∈ Region.ready md ops listed := by rw [hr]; exact List.mem_cons_self ..
        obtain ⟨h1, o, ho, _⟩ := mem_ready.1 hi
        have hil := (Array.getElem?_eq_some_iff.1 ho).1
        have : 0 < unlisted ops.size listed := List.countP_pos_iff.2 ⟨i, List.mem_range.2 hil, by rw [h1]; rfl⟩
        omega
    exact ⟨hr, hend listed a w (ready_all hd hc.size hr) hI⟩
  | fuel + 1, listed, a, w, hc, hf, hI => by
    refine ⟨fun hr => hend listed a w (ready_all hd hc.size hr) hI, fun i hi => ?_⟩
    obtain ⟨h1, o, ho, hall⟩ := mem_ready.1 hi
    have hil := (Array.getElem?_eq_some_iff.1 ho).1
    refine wpOp_mono (fun a' w' h' => wpAny_inv hd I hstep hend fuel _ a' w' ?_ ?_ h') (hstep listed a w i hc hi hI)
    · refine ⟨by simp [hc.size], fun j oj hj hl e he hb => ?_⟩
      by_cases hij : i = j
      · subst hij
        have : oj = o := Option.some.inj (hj.symm.trans ho)
        subst this
        exact getD_set_true (hall e he hb)
      · rw [getD_set_ne false hij] at hl
        exact getD_set_true (hc.dep j oj hj hl e he hb)
    · have hlt : unlisted ops.size (listed.setIfInBounds i true) < unlisted ops.size listed := by
        refine countP_lt _ (fun x hx => ?_) i (List.mem_range.2 hil) (by rw [h1]; rfl) ?_
        · by_cases hij : i = x
          · subst hij
            have : (listed.setIfInBounds i true).getD i true = true := by simp [hc.size, hil]
            rw [this] at hx; cases hx
          · rwa [getD_set_ne true hij] at hx
        · have : (listed.setIfInBounds i true).getD i true = true := by simp [hc.size, hil]
          rw [this]; rfl
      omega
/-- THE REGION, by an invariant -/
theorem wp_region_inv {id : Nat} {a : Act} {w : World} (hm : P.follows .mixedOrders = true) (hd : dagB .any ops = true) (I : Array Bool → Act → World → Prop) (h0 : I (Array.replicate ops.size false) a w.drew)
    (hstep : ∀ listed a w i, Closed .any ops listed → i ∈ Region.ready .any ops listed → I listed a w → wpOp P ops Q i (I (listed.setIfInBounds i true)) a w)
    (hend : ∀ listed a w, (∀ i, i < ops.size → listed.getD i false = true) → I listed a w → Q .normal a w) : (Code.region id ops true).wp P Q a w :=
  wp_region_any hm (wpAny_inv hd I hstep hend ops.size _ a w.drew ⟨by simp, fun j oj hj hl => by rw [getD_replicate_false] at hl; cases hl⟩ (Nat.le_trans (List.countP_le_length ..) (by simp)) h0)
/-- the same, the invariant told of the state that the region begins with -/
theorem wp_region_invA {id : Nat} {a : Act} {w : World} (J : Act → Array Bool → Act → World → Prop) (hm : P.follows .mixedOrders = true) (hd : dagB .any ops = true) (h0 : J a (Array.replicate ops.size false) a w.drew)
    (hstep : ∀ listed a' w' i, Closed .any ops listed → i ∈ Region.ready .any ops listed → J a listed a' w' → wpOp P ops Q i (J a (listed.setIfInBounds i true)) a' w')
    (hend : ∀ listed a' w', (∀ i, i < ops.size → listed.getD i false = true) → J a listed a' w' → Q .normal a' w') : (Code.region id ops true).wp P Q a w :=
  wp_region_inv hm hd (J a) h0 hstep hend
theorem listed_now {listed : Array Bool} {i : Nat} (hc : Closed md ops listed) (hi : i ∈ Region.ready md ops listed) : (listed.setIfInBounds i true).getD i false = true := by
  obtain ⟨_, o, ho, _⟩ := mem_ready.1 hi
  have hil := (Array.getElem?_eq_some_iff.1 ho).1
  simp [hc.size, hil]
theorem listed_iff (listed : Array Bool) (i : Nat) : ∀ j, j ≠ i → ((listed.setIfInBounds i true).getD j false = true ↔ listed.getD j false = true) := fun j hj => ⟨fun h => by rwa [getD_set_ne false (Ne.symm hj)] at h, getD_set_true⟩
/-- a step, the operation by what is told of it -/
theorem wpOp_at {i : Nat} {K : Act → World → Prop} {a : Act} {w : World} (F : Oper → Prop) (h : ∃ o, ops[i]? = some o ∧ F o)
    (k : ∀ o, F o → ∀ K' : Act → World → Prop, (∀ a w, K a w → K' a w) → if Region.wanted o (yielded ops a.tmps) = true then Oper.wp P o a w K' Q else K' (a.put o.dst undef) w) : wpOp P ops Q i K a w := by
  obtain ⟨o, ho, hF⟩ := h
  exact wpOp_step ho (k o hF)
/-- what is listed behind a step was listed, or is the step's own -/
theorem listed_was {listed : Array Bool} {i j : Nat} (hij : i ≠ j) (h : (listed.setIfInBounds i true).getD j false = true) : listed.getD j false = true := by rwa [getD_set_ne false hij] at h
theorem listed_not {listed : Array Bool} {i j : Nat} (h : ¬ (listed.setIfInBounds i true).getD j false = true) : ¬ listed.getD j false = true := fun hj => h (getD_set_true hj)
theorem ready_not {listed : Array Bool} {i : Nat} (h : i ∈ Region.ready md ops listed) : ¬ listed.getD i false = true := by
  have h1 := getD_both (mem_ready.1 h).1
  rw [h1]; decide
theorem ready_on {listed : Array Bool} {i k : Nat} (h : i ∈ Region.ready md ops listed) (hw : Region.waitsFor md ops i k = true) : listed.getD k false = true := by
  obtain ⟨_, o, ho, hall⟩ := mem_ready.1 h
  obtain ⟨oj, hoj, e, he, hb, rfl⟩ := Region.waitsFor_spec hw
  have : oj = o := Option.some.inj (hoj.symm.trans ho)
  subst this
  exact hall e he hb
theorem ready_lt {listed : Array Bool} {i : Nat} (h : i ∈ Region.ready md ops listed) : i < ops.size := by
  obtain ⟨_, o, ho, _⟩ := mem_ready.1 h
  exact (Array.getElem?_eq_some_iff.1 ho).1
end
end Go.Proofs.YtcbajbpdgmmaeaaDoor
namespace Go.Proofs.YtcbajbpdgmmaeaaDoor
open Go.RowKit
set_option linter.unusedVariables false
set_option linter.unusedSimpArgs false

def acts7 (a : Act) (u26 u27 u28 u29 u30 u31 u32 u33 u34 u35 u36 u37 u38 : Value) : Act := { a with tmps := (((((((((((((a.tmps).setIfInBounds 26 u26).setIfInBounds 27 u27).setIfInBounds 28 u28).setIfInBounds 29 u29).setIfInBounds 30 u30).setIfInBounds 31 u31).setIfInBounds 32 u32).setIfInBounds 33 u33).setIfInBounds 34 u34).setIfInBounds 35 u35).setIfInBounds 36 u36).setIfInBounds 37 u37).setIfInBounds 38 u38 }
/-- what holds, whatever has come up: L says what has -/
structure RO (wc : World) (v0 sl kk pt p0 sA p1 sB wd : Value) (F : World → Value → Prop) (G : World → Prop) (L : Nat → Prop) (u26 u27 u28 u29 u30 u31 u32 u33 u34 u35 u36 u37 u38 : Value) (wr : World) : Prop where
  f0 : L 0 → u26 = v0
  f1 : L 1 → u27 = sl
  f2 : L 2 → u28 = kk
  f3 : L 3 → u29 = pt
  f4 : L 4 → u30 = p0
  f5 : L 5 → u31 = sA
  f6 : L 6 → u32 = sl
  f7 : L 7 → u33 = kk
  f8 : L 8 → u34 = pt
  f9 : L 9 → u35 = p1
  f10 : L 10 → u36 = sB
  f11 : L 11 → u37 = wd
  f12 : L 12 → ¬ L 13 → F wr u38
  f13 : L 13 → G wr
  low : ¬ L 13 → Below wc.heap.size wc wr

theorem RO.s0 {wc : World} {v0 sl kk pt p0 sA p1 sB wd : Value} {F : World → Value → Prop} {G : World → Prop} {L L' : Nat → Prop} {u26 u27 u28 u29 u30 u31 u32 u33 u34 u35 u36 u37 u38 : Value} {wr : World} (h : RO wc v0 sl kk pt p0 sA p1 sB wd F G L u26 u27 u28 u29 u30 u31 u32 u33 u34 u35 u36 u37 u38 wr) (hL : ∀ j, j ≠ 0 → (L' j ↔ L j)) (hi : L' 0) : RO wc v0 sl kk pt p0 sA p1 sB wd F G L' (v0) u27 u28 u29 u30 u31 u32 u33 u34 u35 u36 u37 u38 wr := by
  refine ⟨?_, ?_, ?_, ?_, ?_, ?_, ?_, ?_, ?_, ?_, ?_, ?_, ?_, ?_, ?_⟩
  · exact fun _ => rfl
  · exact fun a => h.f1 ((hL 1 (by decide)).1 a)
  · exact fun a => h.f2 ((hL 2 (by decide)).1 a)
  · exact fun a => h.f3 ((hL 3 (by decide)).1 a)
  · exact fun a => h.f4 ((hL 4 (by decide)).1 a)
  · exact fun a => h.f5 ((hL 5 (by decide)).1 a)
  · exact fun a => h.f6 ((hL 6 (by decide)).1 a)
  · exact fun a => h.f7 ((hL 7 (by decide)).1 a)
  · exact fun a => h.f8 ((hL 8 (by decide)).1 a)
  · exact fun a => h.f9 ((hL 9 (by decide)).1 a)
  · exact fun a => h.f10 ((hL 10 (by decide)).1 a)
  · exact fun a => h.f11 ((hL 11 (by decide)).1 a)
  · exact fun a b => h.f12 ((hL 12 (by decide)).1 a) (fun x => b ((hL 13 (by decide)).2 x))
  · exact fun a => h.f13 ((hL 13 (by decide)).1 a)
  · exact fun n => h.low (fun x => n ((hL 13 (by decide)).2 x))
theorem RO.s1 {wc : World} {v0 sl kk pt p0 sA p1 sB wd : Value} {F : World → Value → Prop} {G : World → Prop} {L L' : Nat → Prop} {u26 u27 u28 u29 u30 u31 u32 u33 u34 u35 u36 u37 u38 : Value} {wr : World} (h : RO wc v0 sl kk pt p0 sA p1 sB wd F G L u26 u27 u28 u29 u30 u31 u32 u33 u34 u35 u36 u37 u38 wr) (hL : ∀ j, j ≠ 1 → (L' j ↔ L j)) (hi : L' 1) : RO wc v0 sl kk pt p0 sA p1 sB wd F G L' u26 (sl) u28 u29 u30 u31 u32 u33 u34 u35 u36 u37 u38 wr := by
  refine ⟨?_, ?_, ?_, ?_, ?_, ?_, ?_, ?_, ?_, ?_, ?_, ?_, ?_, ?_, ?_⟩
  · exact fun a => h.f0 ((hL 0 (by decide)).1 a)
  · exact fun _ => rfl
  · exact fun a => h.f2 ((hL 2 (by decide)).1 a)
  · exact fun a => h.f3 ((hL 3 (by decide)).1 a)
  · exact fun a => h.f4 ((hL 4 (by decide)).1 a)
  · exact fun a => h.f5 ((hL 5 (by decide)).1 a)
  · exact fun a => h.f6 ((hL 6 (by decide)).1 a)
  · exact fun a => h.f7 ((hL 7 (by decide)).1 a)
  · exact fun a => h.f8 ((hL 8 (by decide)).1 a)
  · exact fun a => h.f9 ((hL 9 (by decide)).1 a)
  · exact fun a => h.f10 ((hL 10 (by decide)).1 a)
  · exact fun a => h.f11 ((hL 11 (by decide)).1 a)
  · exact fun a b => h.f12 ((hL 12 (by decide)).1 a) (fun x => b ((hL 13 (by decide)).2 x))
  · exact fun a => h.f13 ((hL 13 (by decide)).1 a)
  · exact fun n => h.low (fun x => n ((hL 13 (by decide)).2 x))
theorem RO.s2 {wc : World} {v0 sl kk pt p0 sA p1 sB wd : Value} {F : World → Value → Prop} {G : World → Prop} {L L' : Nat → Prop} {u26 u27 u28 u29 u30 u31 u32 u33 u34 u35 u36 u37 u38 : Value} {wr : World} (h : RO wc v0 sl kk pt p0 sA p1 sB wd F G L u26 u27 u28 u29 u30 u31 u32 u33 u34 u35 u36 u37 u38 wr) (hL : ∀ j, j ≠ 2 → (L' j ↔ L j)) (hi : L' 2) : RO wc v0 sl kk pt p0 sA p1 sB wd F G L' u26 u27 (kk) u29 u30 u31 u32 u33 u34 u35 u36 u37 u38 wr := by
  refine ⟨?_, ?_, ?_, ?_, ?_, ?_, ?_, ?_, ?_, ?_, ?_, ?_, ?_, ?_, ?_⟩
  · exact fun a => h.f0 ((hL 0 (by decide)).1 a)
  · exact fun a => h.f1 ((hL 1 (by decide)).1 a)
  · exact fun _ => rfl
  · exact fun a => h.f3 ((hL 3 (by decide)).1 a)
  · exact fun a => h.f4 ((hL 4 (by decide)).1 a)
  · exact fun a => h.f5 ((hL 5 (by decide)).1 a)
  · exact fun a => h.f6 ((hL 6 (by decide)).1 a)
  · exact fun a => h.f7 ((hL 7 (by decide)).1 a)
  · exact fun a => h.f8 ((hL 8 (by decide)).1 a)
  · exact fun a => h.f9 ((hL 9 (by decide)).1 a)
  · exact fun a => h.f10 ((hL 10 (by decide)).1 a)
  · exact fun a => h.f11 ((hL 11 (by decide)).1 a)
  · exact fun a b => h.f12 ((hL 12 (by decide)).1 a) (fun x => b ((hL 13 (by decide)).2 x))
  · exact fun a => h.f13 ((hL 13 (by decide)).1 a)
  · exact fun n => h.low (fun x => n ((hL 13 (by decide)).2 x))
theorem RO.s3 {wc : World} {v0 sl kk pt p0 sA p1 sB wd : Value} {F : World → Value → Prop} {G : World → Prop} {L L' : Nat → Prop} {u26 u27 u28 u29 u30 u31 u32 u33 u34 u35 u36 u37 u38 : Value} {wr : World} (h : RO wc v0 sl kk pt p0 sA p1 sB wd F G L u26 u27 u28 u29 u30 u31 u32 u33 u34 u35 u36 u37 u38 wr) (hL : ∀ j, j ≠ 3 → (L' j ↔ L j)) (hi : L' 3) : RO wc v0 sl kk pt p0 sA p1 sB wd F G L' u26 u27 u28 (pt) u30 u31 u32 u33 u34 u35 u36 u37 u38 wr := by
  refine ⟨?_, ?_, ?_, ?_, ?_, ?_, ?_, ?_, ?_, ?_, ?_, ?_, ?_, ?_, ?_⟩
  · exact fun a => h.f0 ((hL 0 (by decide)).1 a)
  · exact fun a => h.f1 ((hL 1 (by decide)).1 a)
  · exact fun a => h.f2 ((hL 2 (by decide)).1 a)
  · exact fun _ => rfl
  · exact fun a => h.f4 ((hL 4 (by decide)).1 a)
  · exact fun a => h.f5 ((hL 5 (by decide)).1 a)
  · exact fun a => h.f6 ((hL 6 (by decide)).1 a)
  · exact fun a => h.f7 ((hL 7 (by decide)).1 a)
  · exact fun a => h.f8 ((hL 8 (by decide)).1 a)
  · exact fun a => h.f9 ((hL 9 (by decide)).1 a)
  · exact fun a => h.f10 ((hL 10 (by decide)).1 a)
  · exact fun a => h.f11 ((hL 11 (by decide)).1 a)
  · exact fun a b => h.f12 ((hL 12 (by decide)).1 a) (fun x => b ((hL 13 (by decide)).2 x))
  · exact fun a => h.f13 ((hL 13 (by decide)).1 a)
  · exact fun n => h.low (fun x => n ((hL 13 (by decide)).2 x))
theorem RO.s4 {wc : World} {v0 sl kk pt p0 sA p1 sB wd : Value} {F : World → Value → Prop} {G : World → Prop} {L L' : Nat → Prop} {u26 u27 u28 u29 u30 u31 u32 u33 u34 u35 u36 u37 u38 : Value} {wr : World} (h : RO wc v0 sl kk pt p0 sA p1 sB wd F G L u26 u27 u28 u29 u30 u31 u32 u33 u34 u35 u36 u37 u38 wr) (hL : ∀ j, j ≠ 4 → (L' j ↔ L j)) (hi : L' 4) : RO wc v0 sl kk pt p0 sA p1 sB wd F G L' u26 u27 u28 u29 (p0) u31 u32 u33 u34 u35 u36 u37 u38 wr := by
  refine ⟨?_, ?_, ?_, ?_, ?_, ?_, ?_, ?_, ?_, ?_, ?_, ?_, ?_, ?_, ?_⟩
  · exact fun a => h.f0 ((hL 0 (by decide)).1 a)
  · exact fun a => h.f1 ((hL 1 (by decide)).1 a)
  · exact fun a => h.f2 ((hL 2 (by decide)).1 a)
  · exact fun a => h.f3 ((hL 3 (by decide)).1 a)
  · exact fun _ => rfl
  · exact fun a => h.f5 ((hL 5 (by decide)).1 a)
  · exact fun a => h.f6 ((hL 6 (by decide)).1 a)
  · exact fun a => h.f7 ((hL 7 (by decide)).1 a)
  · exact fun a => h.f8 ((hL 8 (by decide)).1 a)
  · exact fun a => h.f9 ((hL 9 (by decide)).1 a)
  · exact fun a => h.f10 ((hL 10 (by decide)).1 a)
  · exact fun a => h.f11 ((hL 11 (by decide)).1 a)
  · exact fun a b => h.f12 ((hL 12 (by decide)).1 a) (fun x => b ((hL 13 (by decide)).2 x))
  · exact fun a => h.f13 ((hL 13 (by decide)).1 a)
  · exact fun n => h.low (fun x => n ((hL 13 (by decide)).2 x))
theorem RO.s5 {wc : World} {v0 sl kk pt p0 sA p1 sB wd : Value} {F : World → Value → Prop} {G : World → Prop} {L L' : Nat → Prop} {u26 u27 u28 u29 u30 u31 u32 u33 u34 u35 u36 u37 u38 : Value} {wr : World} (h : RO wc v0 sl kk pt p0 sA p1 sB wd F G L u26 u27 u28 u29 u30 u31 u32 u33 u34 u35 u36 u37 u38 wr) (hL : ∀ j, j ≠ 5 → (L' j ↔ L j)) (hi : L' 5) : RO wc v0 sl kk pt p0 sA p1 sB wd F G L' u26 u27 u28 u29 u30 (sA) u32 u33 u34 u35 u36 u37 u38 wr := by
  refine ⟨?_, ?_, ?_, ?_, ?_, ?_, ?_, ?_, ?_, ?_, ?_, ?_, ?_, ?_, ?_⟩
  · exact fun a => h.f0 ((hL 0 (by decide)).1 a)
  · exact fun a => h.f1 ((hL 1 (by decide)).1 a)
  · exact fun a => h.f2 ((hL 2 (by decide)).1 a)
  · exact fun a => h.f3 ((hL 3 (by decide)).1 a)
  · exact fun a => h.f4 ((hL 4 (by decide)).1 a)
  · exact fun _ => rfl
  · exact fun a => h.f6 ((hL 6 (by decide)).1 a)
  · exact fun a => h.f7 ((hL 7 (by decide)).1 a)
  · exact fun a => h.f8 ((hL 8 (by decide)).1 a)
  · exact fun a => h.f9 ((hL 9 (by decide)).1 a)
  · exact fun a => h.f10 ((hL 10 (by decide)).1 a)
  · exact fun a => h.f11 ((hL 11 (by decide)).1 a)
  · exact fun a b => h.f12 ((hL 12 (by decide)).1 a) (fun x => b ((hL 13 (by decide)).2 x))
  · exact fun a => h.f13 ((hL 13 (by decide)).1 a)
  · exact fun n => h.low (fun x => n ((hL 13 (by decide)).2 x))
theorem RO.s6 {wc : World} {v0 sl kk pt p0 sA p1 sB wd : Value} {F : World → Value → Prop} {G : World → Prop} {L L' : Nat → Prop} {u26 u27 u28 u29 u30 u31 u32 u33 u34 u35 u36 u37 u38 : Value} {wr : World} (h : RO wc v0 sl kk pt p0 sA p1 sB wd F G L u26 u27 u28 u29 u30 u31 u32 u33 u34 u35 u36 u37 u38 wr) (hL : ∀ j, j ≠ 6 → (L' j ↔ L j)) (hi : L' 6) : RO wc v0 sl kk pt p0 sA p1 sB wd F G L' u26 u27 u28 u29 u30 u31 (sl) u33 u34 u35 u36 u37 u38 wr := by
  refine ⟨?_, ?_, ?_, ?_, ?_, ?_, ?_, ?_, ?_, ?_, ?_, ?_, ?_, ?_, ?_⟩
  · exact fun a => h.f0 ((hL 0 (by decide)).1 a)
  · exact fun a => h.f1 ((hL 1 (by decide)).1 a)
  · exact fun a => h.f2 ((hL 2 (by decide)).1 a)
  · exact fun a => h.f3 ((hL 3 (by decide)).1 a)
  · exact fun a => h.f4 ((hL 4 (by decide)).1 a)
  · exact fun a => h.f5 ((hL 5 (by decide)).1 a)
  · exact fun _ => rfl
  · exact fun a => h.f7 ((hL 7 (by decide)).1 a)
  · exact fun a => h.f8 ((hL 8 (by decide)).1 a)
  · exact fun a => h.f9 ((hL 9 (by decide)).1 a)
  · exact fun a => h.f10 ((hL 10 (by decide)).1 a)
  · exact fun a => h.f11 ((hL 11 (by decide)).1 a)
  · exact fun a b => h.f12 ((hL 12 (by decide)).1 a) (fun x => b ((hL 13 (by decide)).2 x))
  · exact fun a => h.f13 ((hL 13 (by decide)).1 a)
  · exact fun n => h.low (fun x => n ((hL 13 (by decide)).2 x))
theorem RO.s7 {wc : World} {v0 sl kk pt p0 sA p1 sB wd : Value} {F : World → Value → Prop} {G : World → Prop} {L L' : Nat → Prop} {u26 u27 u28 u29 u30 u31 u32 u33 u34 u35 u36 u37 u38 : Value} {wr : World} (h : RO wc v0 sl kk pt p0 sA p1 sB wd F G L u26 u27 u28 u29 u30 u31 u32 u33 u34 u35 u36 u37 u38 wr) (hL : ∀ j, j ≠ 7 → (L' j ↔ L j)) (hi : L' 7) : RO wc v0 sl kk pt p0 sA p1 sB wd F G L' u26 u27 u28 u29 u30 u31 u32 (kk) u34 u35 u36 u37 u38 wr := by
  refine ⟨?_, ?_, ?_, ?_, ?_, ?_, ?_, ?_, ?_, ?_, ?_, ?_, ?_, ?_, ?_⟩
  · exact fun a => h.f0 ((hL 0 (by decide)).1 a)
  · exact fun a => h.f1 ((hL 1 (by decide)).1 a)
  · exact fun a => h.f2 ((hL 2 (by decide)).1 a)
  · exact fun a => h.f3 ((hL 3 (by decide)).1 a)
  · exact fun a => h.f4 ((hL 4 (by decide)).1 a)
  · exact fun a => h.f5 ((hL 5 (by decide)).1 a)
  · exact fun a => h.f6 ((hL 6 (by decide)).1 a)
  · exact fun _ => rfl
  · exact fun a => h.f8 ((hL 8 (by decide)).1 a)
  · exact fun a => h.f9 ((hL 9 (by decide)).1 a)
  · exact fun a => h.f10 ((hL 10 (by decide)).1 a)
  · exact fun a => h.f11 ((hL 11 (by decide)).1 a)
  · exact fun a b => h.f12 ((hL 12 (by decide)).1 a) (fun x => b ((hL 13 (by decide)).2 x))
  · exact fun a => h.f13 ((hL 13 (by decide)).1 a)
  · exact fun n => h.low (fun x => n ((hL 13 (by decide)).2 x))
theorem RO.s8 {wc : World} {v0 sl kk pt p0 sA p1 sB wd : Value} {F : World → Value → Prop} {G : World → Prop} {L L' : Nat → Prop} {u26 u27 u28 u29 u30 u31 u32 u33 u34 u35 u36 u37 u38 : Value} {wr : World} (h : RO wc v0 sl kk pt p0 sA p1 sB wd F G L u26 u27 u28 u29 u30 u31 u32 u33 u34 u35 u36 u37 u38 wr) (hL : ∀ j, j ≠ 8 → (L' j ↔ L j)) (hi : L' 8) : RO wc v0 sl kk pt p0 sA p1 sB wd F G L' u26 u27 u28 u29 u30 u31 u32 u33 (pt) u35 u36 u37 u38 wr := by
  refine ⟨?_, ?_, ?_, ?_, ?_, ?_, ?_, ?_, ?_, ?_, ?_, ?_, ?_, ?_, ?_⟩
  · exact fun a => h.f0 ((hL 0 (by decide)).1 a)
  · exact fun a => h.f1 ((hL 1 (by decide)).1 a)
  · exact fun a => h.f2 ((hL 2 (by decide)).1 a)
  · exact fun a => h.f3 ((hL 3 (by decide)).1 a)
  · exact fun a => h.f4 ((hL 4 (by decide)).1 a)
  · exact fun a => h.f5 ((hL 5 (by decide)).1 a)
  · exact fun a => h.f6 ((hL 6 (by decide)).1 a)
  · exact fun a => h.f7 ((hL 7 (by decide)).1 a)
  · exact fun _ => rfl
  · exact fun a => h.f9 ((hL 9 (by decide)).1 a)
  · exact fun a => h.f10 ((hL 10 (by decide)).1 a)
  · exact fun a => h.f11 ((hL 11 (by decide)).1 a)
  · exact fun a b => h.f12 ((hL 12 (by decide)).1 a) (fun x => b ((hL 13 (by decide)).2 x))
  · exact fun a => h.f13 ((hL 13 (by decide)).1 a)
  · exact fun n => h.low (fun x => n ((hL 13 (by decide)).2 x))
theorem RO.s9 {wc : World} {v0 sl kk pt p0 sA p1 sB wd : Value} {F : World → Value → Prop} {G : World → Prop} {L L' : Nat → Prop} {u26 u27 u28 u29 u30 u31 u32 u33 u34 u35 u36 u37 u38 : Value} {wr : World} (h : RO wc v0 sl kk pt p0 sA p1 sB wd F G L u26 u27 u28 u29 u30 u31 u32 u33 u34 u35 u36 u37 u38 wr) (hL : ∀ j, j ≠ 9 → (L' j ↔ L j)) (hi : L' 9) : RO wc v0 sl kk pt p0 sA p1 sB wd F G L' u26 u27 u28 u29 u30 u31 u32 u33 u34 (p1) u36 u37 u38 wr := by
  refine ⟨?_, ?_, ?_, ?_, ?_, ?_, ?_, ?_, ?_, ?_, ?_, ?_, ?_, ?_, ?_⟩
  · exact fun a => h.f0 ((hL 0 (by decide)).1 a)
  · exact fun a => h.f1 ((hL 1 (by decide)).1 a)
  · exact fun a => h.f2 ((hL 2 (by decide)).1 a)
  · exact fun a => h.f3 ((hL 3 (by decide)).1 a)
  · exact fun a => h.f4 ((hL 4 (by decide)).1 a)
  · exact fun a => h.f5 ((hL 5 (by decide)).1 a)
  · exact fun a => h.f6 ((hL 6 (by decide)).1 a)
  · exact fun a => h.f7 ((hL 7 (by decide)).1 a)
  · exact fun a => h.f8 ((hL 8 (by decide)).1 a)
  · exact fun _ => rfl
  · exact fun a => h.f10 ((hL 10 (by decide)).1 a)
  · exact fun a => h.f11 ((hL 11 (by decide)).1 a)
  · exact fun a b => h.f12 ((hL 12 (by decide)).1 a) (fun x => b ((hL 13 (by decide)).2 x))
  · exact fun a => h.f13 ((hL 13 (by decide)).1 a)
  · exact fun n => h.low (fun x => n ((hL 13 (by decide)).2 x))
theorem RO.s10 {wc : World} {v0 sl kk pt p0 sA p1 sB wd : Value} {F : World → Value → Prop} {G : World → Prop} {L L' : Nat → Prop} {u26 u27 u28 u29 u30 u31 u32 u33 u34 u35 u36 u37 u38 : Value} {wr : World} (h : RO wc v0 sl kk pt p0 sA p1 sB wd F G L u26 u27 u28 u29 u30 u31 u32 u33 u34 u35 u36 u37 u38 wr) (hL : ∀ j, j ≠ 10 → (L' j ↔ L j)) (hi : L' 10) : RO wc v0 sl kk pt p0 sA p1 sB wd F G L' u26 u27 u28 u29 u30 u31 u32 u33 u34 u35 (sB) u37 u38 wr := by
  refine ⟨?_, ?_, ?_, ?_, ?_, ?_, ?_, ?_, ?_, ?_, ?_, ?_, ?_, ?_, ?_⟩
  · exact fun a => h.f0 ((hL 0 (by decide)).1 a)
  · exact fun a => h.f1 ((hL 1 (by decide)).1 a)
  · exact fun a => h.f2 ((hL 2 (by decide)).1 a)
  · exact fun a => h.f3 ((hL 3 (by decide)).1 a)
  · exact fun a => h.f4 ((hL 4 (by decide)).1 a)
  · exact fun a => h.f5 ((hL 5 (by decide)).1 a)
  · exact fun a => h.f6 ((hL 6 (by decide)).1 a)
  · exact fun a => h.f7 ((hL 7 (by decide)).1 a)
  · exact fun a => h.f8 ((hL 8 (by decide)).1 a)
  · exact fun a => h.f9 ((hL 9 (by decide)).1 a)
  · exact fun _ => rfl
  · exact fun a => h.f11 ((hL 11 (by decide)).1 a)
  · exact fun a b => h.f12 ((hL 12 (by decide)).1 a) (fun x => b ((hL 13 (by decide)).2 x))
  · exact fun a => h.f13 ((hL 13 (by decide)).1 a)
  · exact fun n => h.low (fun x => n ((hL 13 (by decide)).2 x))
theorem RO.s11 {wc : World} {v0 sl kk pt p0 sA p1 sB wd : Value} {F : World → Value → Prop} {G : World → Prop} {L L' : Nat → Prop} {u26 u27 u28 u29 u30 u31 u32 u33 u34 u35 u36 u37 u38 : Value} {wr : World} {wy : World} (h : RO wc v0 sl kk pt p0 sA p1 sB wd F G L u26 u27 u28 u29 u30 u31 u32 u33 u34 u35 u36 u37 u38 wr) (hL : ∀ j, j ≠ 11 → (L' j ↔ L j)) (hi : L' 11) (n12 : ¬ L 12) (n13 : ¬ L 13) (hb : Below wc.heap.size wc wy) : RO wc v0 sl kk pt p0 sA p1 sB wd F G L' u26 u27 u28 u29 u30 u31 u32 u33 u34 u35 u36 (wd) u38 wy := by
  refine ⟨?_, ?_, ?_, ?_, ?_, ?_, ?_, ?_, ?_, ?_, ?_, ?_, ?_, ?_, ?_⟩
  · exact fun a => h.f0 ((hL 0 (by decide)).1 a)
  · exact fun a => h.f1 ((hL 1 (by decide)).1 a)
  · exact fun a => h.f2 ((hL 2 (by decide)).1 a)
  · exact fun a => h.f3 ((hL 3 (by decide)).1 a)
  · exact fun a => h.f4 ((hL 4 (by decide)).1 a)
  · exact fun a => h.f5 ((hL 5 (by decide)).1 a)
  · exact fun a => h.f6 ((hL 6 (by decide)).1 a)
  · exact fun a => h.f7 ((hL 7 (by decide)).1 a)
  · exact fun a => h.f8 ((hL 8 (by decide)).1 a)
  · exact fun a => h.f9 ((hL 9 (by decide)).1 a)
  · exact fun a => h.f10 ((hL 10 (by decide)).1 a)
  · exact fun _ => rfl
  · exact fun a _ => absurd ((hL 12 (by decide)).1 a) n12
  · exact fun a => absurd ((hL 13 (by decide)).1 a) n13
  · exact fun _ => hb
theorem RO.s12 {wc : World} {v0 sl kk pt p0 sA p1 sB wd : Value} {F : World → Value → Prop} {G : World → Prop} {L L' : Nat → Prop} {u26 u27 u28 u29 u30 u31 u32 u33 u34 u35 u36 u37 u38 : Value} {wr : World} {wz : World} {v : Value} (h : RO wc v0 sl kk pt p0 sA p1 sB wd F G L u26 u27 u28 u29 u30 u31 u32 u33 u34 u35 u36 u37 u38 wr) (hL : ∀ j, j ≠ 12 → (L' j ↔ L j)) (hi : L' 12) (n13 : ¬ L 13) (hb : Below wc.heap.size wc wz) (hF : F wz v) : RO wc v0 sl kk pt p0 sA p1 sB wd F G L' u26 u27 u28 u29 u30 u31 u32 u33 u34 u35 u36 u37 v wz := by
  refine ⟨?_, ?_, ?_, ?_, ?_, ?_, ?_, ?_, ?_, ?_, ?_, ?_, ?_, ?_, ?_⟩
  · exact fun a => h.f0 ((hL 0 (by decide)).1 a)
  · exact fun a => h.f1 ((hL 1 (by decide)).1 a)
  · exact fun a => h.f2 ((hL 2 (by decide)).1 a)
  · exact fun a => h.f3 ((hL 3 (by decide)).1 a)
  · exact fun a => h.f4 ((hL 4 (by decide)).1 a)
  · exact fun a => h.f5 ((hL 5 (by decide)).1 a)
  · exact fun a => h.f6 ((hL 6 (by decide)).1 a)
  · exact fun a => h.f7 ((hL 7 (by decide)).1 a)
  · exact fun a => h.f8 ((hL 8 (by decide)).1 a)
  · exact fun a => h.f9 ((hL 9 (by decide)).1 a)
  · exact fun a => h.f10 ((hL 10 (by decide)).1 a)
  · exact fun a => h.f11 ((hL 11 (by decide)).1 a)
  · exact fun _ _ => hF
  · exact fun a => absurd ((hL 13 (by decide)).1 a) n13
  · exact fun _ => hb
theorem RO.s13 {wc : World} {v0 sl kk pt p0 sA p1 sB wd : Value} {F : World → Value → Prop} {G : World → Prop} {L L' : Nat → Prop} {u26 u27 u28 u29 u30 u31 u32 u33 u34 u35 u36 u37 u38 : Value} {wr : World} {wz : World} (h : RO wc v0 sl kk pt p0 sA p1 sB wd F G L u26 u27 u28 u29 u30 u31 u32 u33 u34 u35 u36 u37 u38 wr) (hL : ∀ j, j ≠ 13 → (L' j ↔ L j)) (hi : L' 13) (hG : G wz) : RO wc v0 sl kk pt p0 sA p1 sB wd F G L' u26 u27 u28 u29 u30 u31 u32 u33 u34 u35 u36 u37 u38 wz := by
  refine ⟨?_, ?_, ?_, ?_, ?_, ?_, ?_, ?_, ?_, ?_, ?_, ?_, ?_, ?_, ?_⟩
  · exact fun a => h.f0 ((hL 0 (by decide)).1 a)
  · exact fun a => h.f1 ((hL 1 (by decide)).1 a)
  · exact fun a => h.f2 ((hL 2 (by decide)).1 a)
  · exact fun a => h.f3 ((hL 3 (by decide)).1 a)
  · exact fun a => h.f4 ((hL 4 (by decide)).1 a)
  · exact fun a => h.f5 ((hL 5 (by decide)).1 a)
  · exact fun a => h.f6 ((hL 6 (by decide)).1 a)
  · exact fun a => h.f7 ((hL 7 (by decide)).1 a)
  · exact fun a => h.f8 ((hL 8 (by decide)).1 a)
  · exact fun a => h.f9 ((hL 9 (by decide)).1 a)
  · exact fun a => h.f10 ((hL 10 (by decide)).1 a)
  · exact fun a => h.f11 ((hL 11 (by decide)).1 a)
  · exact fun _ n => absurd hi n
  · exact fun _ => hG
  · exact fun n => absurd hi n
end Go.Proofs.YtcbajbpdgmmaeaaDoor
