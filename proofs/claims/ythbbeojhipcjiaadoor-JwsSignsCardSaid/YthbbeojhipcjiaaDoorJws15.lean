/- Texts merged by program, in build order: LawJwsReads, LaidJws, LawJwsSigns, LawJwsHeads. -/
import Derived.Test.YthbbeojhipcjiaaDoorJws14
import Derived.Test.YthbbeojhipcjiaaDoorJws11
import Derived.Test.YthbbeojhipcjiaaDoorJws09
import Derived.Lib.LaidTab
import Derived.LaidMore
import Derived.LaidSub
import Derived.OpenShut
import Derived.ProofKit
import Derived.Stop.Joined
import Derived.Stop.LaidErr
import Derived.HandedShaped
import Derived.Shelf.Vars
namespace Go.Proofs.YthbbeojhipcjiaaDoor
open Go.RowKit
set_option linter.unusedVariables false
set_option linter.unusedSimpArgs false

set_option maxRecDepth 100000 in
set_option maxHeartbeats 4000000 in
theorem jwsReads_law (A : Option Addr) (c : Nat) (l : PL) (S : ByteArray) {w : World}
    (hl : Prs w w.heap.size A l ∧ l.length ≤ reachBytes ∧ (∀ p ∈ l, p.1.length ≤ reachBytes ∧ p.2.length ≤ reachBytes) ∧ (A = none → c = 0)) (hS : S.size ≤ maxLen) (hj : JwsIn w) :
    Calls Tryd.prog 5 #[.slice A l.length c, .string S] w fun e w' => e = .returned (.bool true) ∧ Below w.heap.size w w' := by
  have hr : reachBytes ≤ 140737488355328 := by decide
  obtain ⟨hp, hll, hz, -⟩ := hl
  unfold maxLen at hS
  have hans := fun W (hb : Below w.heap.size w W) => answers6_any W (hj.below hb)
  have HA := Lib.hid hans
  by_cases hout : 20 < l.length
  · clear hans hp hz hj
    obtain ⟨n, hn⟩ : ∃ n, l.length = n := ⟨_, rfl⟩
    rw [hn] at hout ⊢
    have d1 : decide ((20 : Int) < (n : Int)) = true := by simp; omega
    go_enter Tryd.func5, Tryd.ntmps5
    go_wp2_with fail
    refine (HA.out _ (Below.refl _ _)).mono ?_
    rintro e w2 ⟨rfl, hb2⟩
    have HB2 := Lib.hid hb2; clear hb2
    dsimp only
    go_wp2
    go_ret
    exact ⟨rfl, HB2.out⟩
  · have hSe : (⟨S.data.toList.toArray⟩ : ByteArray) = S := (str_eta S).symm
    have hSl : S.data.toList.length = S.size := rfl
    have hvf := fun (hf : ∀ x, FitAt l x) W (hb : Below w.heap.size w W) => verify_any A c l S.data.toList (by omega) (by omega) (fun _ _ _ x _ _ => hf x) W ((hp.below hb).more hb.size) (hj.below hb)
    have hrf := fun (hf : ∀ x, FitAt l x) W (hb : Below w.heap.size w W) => refVerify_any A c l S.data.toList (by omega) (by omega) (fun _ _ _ x _ _ => hf x) W ((hp.below hb).more hb.size)
    unfold verSays at hvf
    unfold verSaysR at hrf
    obtain ⟨V, hV⟩ : ∃ V : ByteArray, (⟨(verR l S.data.toList).1.toArray⟩ : ByteArray) = V := ⟨_, rfl⟩
    obtain ⟨E, hE⟩ : ∃ E : Int, (verR l S.data.toList).2 = E := ⟨_, rfl⟩
    rw [hSe, hV, hE] at hvf hrf
    obtain ⟨n, hn⟩ : ∃ n, l.length = n := ⟨_, rfl⟩
    rw [hn] at hvf hrf hout hll ⊢
    have d1 : decide ((20 : Int) < (n : Int)) = false := by simp; omega
    have HVF := Lib.hid hvf; have HRF := Lib.hid hrf; have HP := Lib.hid hp; have HN := Lib.hid hn; have HZ := Lib.hid hz
    clear hans hvf hrf hp hn hz hV hE hSe hSl hj
    go_enter Tryd.func5, Tryd.ntmps5
    go_wp2
    go_loopw [5] (fun i wr => ∃ k : Nat, k ≤ n ∧ i = .int .i64 k ∧ (∀ j (hj : j < l.length), j < k → l[j].1.length + l[j].2.length ≤ 500) ∧ Below w.heap.size w wr) (fun i _ => n - (intOf i).toNat)
    case atStart => exact ⟨0, Nat.zero_le _, rfl, fun _ _ h => absurd h (Nat.not_lt_zero _), Below.refl _ _⟩
    case round =>
      obtain ⟨k, hk, rfl, hb, hbw⟩ := hrel
      have HB := Lib.hid hb; have HBW := Lib.hid hbw
      clear hb
      by_cases hlt : k < n
      · have hkl : k < l.length := by have := HN.out; omega
        obtain ⟨pa, rfl, hab, h1, h2⟩ := (HP.out.below hbw) k hkl
        have hzk := HZ.out l[k] (List.getElem_mem hkl)
        have g2 : l[k].1.length + l[k].2.length ≤ 500 → ∀ j (hj : j < l.length), j < k + 1 → l[j].1.length + l[j].2.length ≤ 500 := fun e j hj h => by
          rcases Nat.lt_succ_iff_lt_or_eq.1 h with h | h
          · exact HB.out j hj h
          · subst h; exact e
        have G2 := Lib.hid g2
        clear g2 hab
        have hk0 : (0 : Int) ≤ k := by omega
        have hk1 : (k : Int) < n := by omega
        have w1' : IntKind.i64.wrap ((k : Int) * 2) = (k : Int) * 2 := by rw [IntKind.wrap_i64]; omega
        generalize l[k] = y2 at *
        obtain ⟨ya, yb⟩ := y2
        dsimp only at h1 h2 hzk G2
        obtain ⟨YA, hYA⟩ : ∃ YA : ByteArray, (⟨ya.toArray⟩ : ByteArray) = YA := ⟨_, rfl⟩
        obtain ⟨YB, hYB⟩ : ∃ YB : ByteArray, (⟨yb.toArray⟩ : ByteArray) = YB := ⟨_, rfl⟩
        have zA : YA.size = ya.length := by rw [← hYA, bytes_size]
        have zB : YB.size = yb.length := by rw [← hYB, bytes_size]
        rw [hYA] at h1
        rw [hYB] at h2
        have hw : IntKind.i64.wrap ((YA.size : Int) + (YB.size : Int)) = (YA.size : Int) + (YB.size : Int) := by rw [IntKind.wrap_i64]; omega
        by_cases h5 : 500 < YA.size + YB.size
        · have d2 : decide ((500 : Int) < (YA.size : Int) + (YB.size : Int)) = true := by simp; omega
          clear hYA hYB zA zB hzk h5 hbw hk G2
          go_upto_region 6 with fail
          go_quiet (fail)
          go_wp2_with fail
          refine (HA.out _ (belowDrewN HBW.out _)).mono ?_
          rintro e w2 ⟨rfl, hb2⟩
          have HB2 := Lib.hid ((belowDrewN HBW.out _).chain hb2); clear hb2
          dsimp only
          go_wp2
          go_ret
          exact ⟨rfl, HB2.out⟩
        · have d2 : decide ((500 : Int) < (YA.size : Int) + (YB.size : Int)) = false := by simp; omega
          have HG := Lib.hid (G2.out (by omega))
          clear hYA hYB zA zB hzk h5 hbw hk G2
          go_upto_region 6 with fail
          go_quiet (fail)
          go_wp2
          go_roundw
          case rel => exact ⟨k + 1, by omega, by go_num, HG.out, belowDrewN HBW.out _⟩
          case measure => simp [intOf]; omega
      · have hke : k = n := by omega
        subst hke
        have hft : ∀ x, FitAt l x := fun x j hj _ => by have := HB.out j hj (by have := HN.out; omega); omega
        have hv := HVF.out hft _ hbw
        have H1 := Lib.hid hv; have HFT := Lib.hid hft
        clear hv hft hbw hk
        go_wp2_with fail
        refine (H1.out).mono ?_
        rintro e2 w2 ⟨rfl, hb2⟩
        have HB2 := Lib.hid (HBW.out.chain hb2); clear hb2
        have h2 := HRF.out HFT.out _ HB2.out
        have H2 := Lib.hid h2; clear h2
        dsimp only
        go_wp2_with fail
        refine (H2.out).mono ?_
        rintro e3 w3 ⟨rfl, hb3⟩
        have HB3 := Lib.hid (HB2.out.chain hb3); clear hb3
        dsimp only
        go_wp2_with fail
        refine (HA.out _ HB3.out).mono ?_
        rintro e4 w4 ⟨rfl, hb4⟩
        have HB4 := Lib.hid (HB3.out.chain hb4); clear hb4
        dsimp only
        go_wp2
        go_ret
        exact ⟨rfl, HB4.out⟩
end Go.Proofs.YthbbeojhipcjiaaDoor
namespace Go.Proofs.YthbbeojhipcjiaaDoor
open Go.ChangeShapes Go.WideShapes Go.ChangeAt Go.RowKit

/-- the row's builder that keeps both: what is laid, and the world's shape -/
theorem returnsInHanded_of_change_both {H : Type} {enc : TypeId × Value → H} {a : Assume} {C : Checked} {os : Os} {f : FuncId} {fn : Func} {s : ChangeSpec} {conds : List PathCond} {apart fresh handsOn again : Bool} {X : World → Array Value → Prop}
    (hX : ∀ (w w' : World) (args : Array Value), w.heap = w'.heap → X w args → X w' args)
    (own : ownKnob C.prog.godebug = none) (started : os.Started) (noInit : C.prog.inits.idxOf? f = none) (hfn : C.prog.funcs[f]? = some fn)
    (witness : ∃ (w : World) (tape : Tape) (i : Input), w.os = os ∧ (w.forCall tape i).Shaped C.prog ∧ i.vars = [] ∧ Input.okWide C.prog (w.forCall tape i) .any w.heap.size f i ∧
      ((s.pre enc C.prog fn conds apart (w.forCall tape i).memory i.args ∧ X (w.forCall tape i).memory i.args) ∧ sizedMet enc C.prog fn (OpenSpec.ofChange s) apart (w.forCall tape i).memory i.args) ∧ a.holds C.prog (lone (Frame.enter C.prog f i.args .normal) [] (w.forCall tape i)))
    (contract : ∀ (W : World) (base : Nat) (args : Array Value) (ds gs : List (DataW H)) (before : List MemPlace),
      (∀ (j : Nat) t v, fn.params[j]? = some t → args[j]? = some v → Value.okWide C.prog W .any base t v) →
      DataW.Whole enc C.prog fn.params.toList s.vars apart W args.toList ds gs before →
      conds.all (PathCond.test C.prog ⟨fn.params.toList, ds, s.plain.varTypes C.prog, gs⟩) = true →
      (DataW.weightsEach C.prog (fn.params.toList ++ s.plain.varTypes C.prog) (ds ++ gs)).all (· ≤ reachBytes) = true → X W args → W.ShapedOpen C.prog →
      a.holds C.prog (lone (Frame.enter C.prog f args .normal) [] W) →
      Calls C.prog f args W fun e W' => ∃ v, e = .returned v ∧ s.post enc C.prog fn apart fresh handsOn again W args v W') :
    ReturnsInHanded a C os f .any (fun w args => (s.pre enc C.prog fn conds apart w args ∧ X w args) ∧ sizedMet enc C.prog fn (OpenSpec.ofChange s) apart w args) (s.post enc C.prog fn apart fresh handsOn again) := by
  refine returnsInHanded_of_calls own started noInit witness ?_
  intro w tape i _ hsh _ hok hpre hholds
  obtain ⟨_, _, _, fn', hfn', _, _, _, _, hval⟩ := hok
  have e : fn' = fn := Option.some.inj (hfn'.symm.trans hfn)
  subst e
  obtain ⟨⟨⟨ds, gs, before, hw, hc⟩, hx⟩, hz⟩ := hpre
  have hw' := DataW.Whole.of_heap (w' := w.forCall tape i) (by rfl) hw
  refine (contract (w.forCall tape i) w.heap.size i.args ds gs before hval hw' hc (hz.weights hw) (hX _ _ _ (by rfl) hx) hsh hholds).mono fun e W' ⟨v, he, hp⟩ => ?_
  subst he
  exact ChangeSpec.post_blind hp
/-- what the rows list -/
def listedJ : List (String × DataW Unit) := [("math/bits.deBruijn32tab", Rows.laid_math_bits_deBruijn32tab), ("math/bits.deBruijn64tab", Rows.laid_math_bits_deBruijn64tab), ("exequatur/hash.rounds", Rows.laid_exequatur_hash_rounds), ("internal/strconv.uint64pow10", Rows.laid_internal_strconv_uint64pow10), ("unicode/utf8.acceptRanges", Rows.laid_unicode_utf8_acceptRanges), ("unicode/utf8.first", Rows.laid_unicode_utf8_first)]
theorem listedJ_plain : (listedJ.all fun x => x.2.handleName?.isNone) = true := by kernel_rfl
def kIntsJ : List Int := kL.map fun x => (x.toNat : Int)
theorem roundsJ_data : (Rows.laid_exequatur_hash_rounds : DataW Unit) = Lib.tabData .u32 kIntsJ := by kernel_rfl
theorem powJ_data : (Rows.laid_internal_strconv_uint64pow10 : DataW Unit) = Lib.tabData .u64 Lib.pow10Tab := by kernel_rfl
theorem gRoundsJ : Tryd.prog.globalNamed "exequatur/hash.rounds" = some 0 := by kernel_rfl
theorem tRoundsJ : (Tryd.prog.globals[0]?).map (·.type) = some 86 := by kernel_rfl
theorem cellsWordJ : Tryd.prog.cellsOf 82 = 1 := by kernel_rfl
theorem cellsRoundsJ : Tryd.prog.cellsOf 86 = 64 := by kernel_rfl
theorem kIntsJ_len : kIntsJ.length = 64 := by kernel_rfl
theorem tPowJ : (Tryd.prog.globals[2]?).map (·.type) = some 140 := by kernel_rfl
theorem cellsU64J : Tryd.prog.cellsOf 88 = 1 := by kernel_rfl
theorem cellsPowJ : Tryd.prog.cellsOf 140 = 20 := by kernel_rfl
theorem maxJ {w : World} (h : w.ShapedOpen Tryd.prog) : ∃ m, w.cell? ⟨1, 0, none⟩ = some (.int .i64 m) :=
  cell_of_shapedOpen_int (P := Tryd.prog) (g := 1) (t := 3) (zero := #[.int .i64 0]) h (of_decide_eq_true (by kernel_rfl)) (by kernel_rfl) rfl (by kernel_rfl) (by kernel_rfl) Tryd.underlying3
theorem jwsIn_of_laid {W : World} (h : laidMetH Tryd.prog listedJ W) (hs : W.ShapedOpen Tryd.prog) : JwsIn W := by
  rw [MakeChecks.laidMetH_plain _ _ _ listedJ_plain] at h
  have h3 := h.tail.tail
  have h4 := h3.tail
  have h3' : laidMet Tryd.prog (("exequatur/hash.rounds", Lib.tabData .u32 kIntsJ) :: [("internal/strconv.uint64pow10", Rows.laid_internal_strconv_uint64pow10), ("unicode/utf8.acceptRanges", Rows.laid_unicode_utf8_acceptRanges), ("unicode/utf8.first", Rows.laid_unicode_utf8_first)]) W := by rw [← roundsJ_data]; exact h3
  have h4' : laidMet Tryd.prog (("internal/strconv.uint64pow10", Lib.tabData .u64 Lib.pow10Tab) :: [("unicode/utf8.acceptRanges", Rows.laid_unicode_utf8_acceptRanges), ("unicode/utf8.first", Rows.laid_unicode_utf8_first)]) W := by rw [← powJ_data]; exact h4
  have hT := Lib.tabIs_of_head gRoundsJ tRoundsJ Tryd.underlying86 Tryd.underlying82 cellsWordJ cellsRoundsJ h3'
  have hU := Lib.tabIs_of_head gPow tPowJ Tryd.underlying140 Tryd.underlying88 cellsU64J cellsPowJ h4'
  have hc := fun i (hi : i < 64) => hT.cell gRoundsJ i (by rw [kIntsJ_len]; exact hi)
  refine ⟨⟨fun j v hv => ?_, lt_cell (hc 0 (by decide))⟩, ⟨hU, lt_cell (hU.cell gPow 0 (by decide))⟩, maxJ hs⟩
  rw [Nat.zero_add]
  have hj : j < 64 := by
    have := (List.getElem?_eq_some_iff.1 hv).1
    rw [Array.length_toList, kCells_size] at this; exact this
  rw [hc j hj, ← hv]
  have h1 := kCells_at j hj
  rw [← Array.getElem?_toList] at h1
  rw [h1]
  have hl : j < kL.length := hj
  simp [kIntsJ, kAt, List.getD, hl]
/-- a table's letters as cells -/
def cellsOfData : DataW Unit → Array Value
  | .agg l => (l.map fun d => match d with
    | .lit (.int k z) => Value.int k z
    | _ => .nilIface).toArray
  | _ => #[]
/-- a heap in which the pinned table lies -/
def tableIn (h : Array Obj) (g : Nat) : Array Obj := match h[g]? with
  | some (.cells _ t fr) => h.setIfInBounds g (.cells (cellsOfData Rows.laid_unicode_utf8_first) t fr)
  | _ => h
noncomputable def doorJ (os : Os) : World := { World.doorLaid Tryd.prog 400 os with heap := tableIn (World.doorLaid Tryd.prog 400 os).heap 3 }
set_option maxRecDepth 100000 in
theorem doorJ_met (os : Os) (args : Array Value) : laidMetH Tryd.prog listedJ ((doorJ os).forCall (fun _ _ => 0) ⟨#[], args, []⟩).memory :=
  laidMetH_of_parts3 (fuel := 8) (laidMet_of_run' 8 (by kernel_rfl) (by kernel_rfl)) (by kernel_rfl) (by kernel_rfl)

/-! ### arguments that are keys -/
theorem Tryd.cellsKey : Tryd.prog.cellsOf 33 = 2 := by kernel_rfl
theorem Tryd.bytesKey : Tryd.prog.bytesOf 33 = 32 := by kernel_rfl
set_option maxRecDepth 100000 in
/-- two cells that read as a key -/
theorem open_key2 {H : Type} {enc : TypeId × Value → H} {W : World} {base : Nat} {sp : Nat → Bool} {held : Bool} {n : Nat} {cs : List Value} {x : DataW H × List MemPlace}
    (h : DataW.trod enc Tryd.prog W base sp held n 33 cs = some x) : ∃ a b : ByteArray, cs = [.string a, .string b] ∧ x.1 = .agg [.lit (.string a.data.toList), .lit (.string b.data.toList)] := by
  obtain ⟨xs, m, _, hx, hlen, hxl, hf⟩ := DataW.trod_struct Tryd.underlying33 h
  rw [Tryd.cellsKey] at hlen
  match cs, hlen with
  | [c0, c1], _ =>
    have h0 : DataW.trod enc Tryd.prog W base sp held m 9 [c0] = xs[0]? := by
      have := hf 0 { name := "ID", type := 9, offset := 0, embedded := false, tag := "", pkgPath := "", byteOffset := 0 } rfl
      rwa [Tryd.cellsStr] at this
    have h1 : DataW.trod enc Tryd.prog W base sp held m 9 [c1] = xs[1]? := by
      have := hf 1 { name := "Secret", type := 9, offset := 1, embedded := false, tag := "", pkgPath := "", byteOffset := 16 } rfl
      rwa [Tryd.cellsStr] at this
    match xs, hxl with
    | [y0, y1], _ =>
      simp only [List.getElem?_cons_zero, List.getElem?_cons_succ] at h0 h1
      obtain ⟨a, ha, ya, za⟩ := DataW.trod_string Tryd.underlying9 h0
      obtain ⟨b, hb, yb, zb⟩ := DataW.trod_string Tryd.underlying9 h1
      simp at ha hb
      exact ⟨a, b, by rw [ha, hb], by rw [hx, ya, yb]; rfl⟩
set_option maxRecDepth 100000 in
/-- a key by value -/
theorem open_key {H : Type} {enc : TypeId × Value → H} {W : World} {base : Nat} {v : Value} {d : DataW H} {ps : List MemPlace} (hval : Value.okWide Tryd.prog W .any base 33 v)
    (hd : DataW.Trod enc Tryd.prog W 0 (fun _ => true) true 33 v d ps) (_ : ∀ x ∈ ps, x.block < W.heap.size) (hwt : ∀ n ∈ d.weights Tryd.prog 33, n ≤ reachBytes) :
    ∃ id sec : List UInt8, v = .agg #[.string ⟨id.toArray⟩, .string ⟨sec.toArray⟩] ∧ id.length ≤ reachBytes ∧ sec.length ≤ reachBytes := by
  obtain ⟨cs, rfl, hcs⟩ := okWide_struct Tryd.underlying33 hval
  obtain ⟨fuel, hf⟩ := hd
  obtain ⟨a, b, hab, hx⟩ := open_key2 hf
  obtain ⟨cs⟩ := cs
  simp only [Value.cells] at hab
  have hc : cs = [.string a, .string b] := hab
  subst hc
  have hd : d = .agg [.lit (.string a.data.toList), .lit (.string b.data.toList)] := hx
  rw [hd] at hwt
  refine ⟨a.data.toList, b.data.toList, by rw [← str_eta a, ← str_eta b], hwt _ ?_, hwt _ ?_⟩ <;> simp [DataW.weights, Tryd.underlying33, DataW.weightsEach]
set_option maxRecDepth 100000 in
/-- a slice of keys -/
theorem open_keys {H : Type} {enc : TypeId × Value → H} {W : World} {base : Nat} {v : Value} {d : DataW H} {ps : List MemPlace} (hval : Value.okWide Tryd.prog W .any base 34 v)
    (hd : DataW.Trod enc Tryd.prog W 0 (fun _ => true) true 34 v d ps) (hlt : ∀ x ∈ ps, x.block < W.heap.size) (hwt : ∀ n ∈ d.weights Tryd.prog 34, n ≤ reachBytes) :
    ∃ (A : Option Addr) (c : Nat) (l : PL), v = .slice A l.length c ∧ Prs W W.heap.size A l ∧ l.length ≤ reachBytes ∧ (∀ p ∈ l, p.1.length ≤ reachBytes ∧ p.2.length ≤ reachBytes) ∧ (A = none → c = 0) := by
  obtain ⟨a0, len, cap, rfl⟩ := okWide_slice Tryd.underlying34 hval
  obtain ⟨fuel, hf⟩ := hd
  rcases Go.Deep.open_slice Tryd.underlying34 hf with ⟨hcs, hx⟩ | ⟨a, len', cap', m, n, D, Pl, hcs, _, hl, hm, hmm, hx, hi⟩
  · simp [Value.cells] at hcs
    obtain ⟨rfl, rfl, rfl⟩ := hcs
    exact ⟨none, 0, [], rfl, Prs.nil _ _ _, Nat.zero_le _, by simp, fun _ => rfl⟩
  · simp [Value.cells] at hcs
    obtain ⟨rfl, rfl, rfl⟩ := hcs
    simp only [if_true] at hmm
    subst hmm
    rw [Tryd.cellsKey] at hi hx
    have hall : ∀ i, ∃ x : ByteArray × ByteArray, i < m → W.cell? (a.add (i * 2)) = some (.string x.1) ∧ W.cell? (a.add (i * 2 + 1)) = some (.string x.2) ∧ D i = .agg [.lit (.string x.1.data.toList), .lit (.string x.2.data.toList)] := by
      intro i
      by_cases him : i < m
      · obtain ⟨cs', hc, ht'⟩ := hi i him
        obtain ⟨u, u', rfl, hD⟩ := open_key2 ht'
        obtain ⟨_, _, hat⟩ := World.cells?_some hc
        refine ⟨(u, u'), fun _ => ⟨?_, ?_, hD⟩⟩
        · have := hat 0 (by decide); simpa [Addr.add] using this
        · have := hat 1 (by decide); rw [Go.Deep.add_add] at this; simpa using this
      · exact ⟨(⟨#[]⟩, ⟨#[]⟩), fun h => absurd h him⟩
    obtain ⟨f, hf⟩ := Classical.axiomOfChoice hall
    let g : Nat → List UInt8 × List UInt8 := fun i => ((f i).1.data.toList, (f i).2.data.toList)
    simp only [Prod.mk.injEq] at hx
    have hlen : len ≤ reachBytes := by
      have := hwt ((len + (m - len)) * Tryd.prog.bytesOf 33) (by rw [hx.1]; simp [DataW.weights, Tryd.underlying34])
      rw [Tryd.bytesKey] at this
      omega
    refine ⟨some a, m, (List.range len).map g, by simp, fun k hk => ?_, by simpa using hlen, ?_, fun h => by cases h⟩
    · have hk' : k < len := by simpa using hk
      refine ⟨a, rfl, ?_, ?_, ?_⟩
      · have hb : MemPlace.cell a.block a.off ∈ ps := by
          rw [hx.2, List.mem_append]
          exact .inl (MemPlace.mem_row.2 ⟨0, by omega, by simp⟩)
        exact hlt _ hb
      · rw [(hf k (by omega)).1]; simp [g]
      · rw [add_next, (hf k (by omega)).2.1]; simp [g]
    · intro p hp
      obtain ⟨i, hi', rfl⟩ := List.mem_map.1 hp
      have hil : i < len := by simpa using hi'
      have hD := (hf i (by omega)).2.2
      have hin : D i ∈ (List.range len).map D := List.mem_map.2 ⟨i, by simpa using hil, rfl⟩
      have hmem : ∀ n ∈ (D i).weights Tryd.prog 33, n ≤ reachBytes := fun n hn => hwt n (by
        rw [hx.1]
        simp only [DataW.weights, Tryd.underlying34, List.mem_cons, List.mem_append]
        exact .inr (.inl (weightsAll_in hin n hn)))
      rw [hD] at hmem
      refine ⟨hmem _ ?_, hmem _ ?_⟩ <;> simp [DataW.weights, Tryd.underlying33, DataW.weightsEach, g]
end Go.Proofs.YthbbeojhipcjiaaDoor
namespace Go.Proofs.YthbbeojhipcjiaaDoor
open Go.RowKit
set_option linter.unusedVariables false
set_option linter.unusedSimpArgs false

theorem Tryd.infoKey : (Tryd.prog.info? 33).map (fun i => (i.zero, i.size, i.bytes)) = some (some (.agg #[.string ⟨#[]⟩, .string ⟨#[]⟩]), 2, 32) := by kernel_rfl
theorem own_cons {W : World} {B : Nat} {e : TypeId} {v : Value} {id sec : List UInt8} {l : PL} (h : W.ownsRow B e 2 v (1 + l.length) ([.string ⟨id.toArray⟩, .string ⟨sec.toArray⟩] ++ pcells l)) : ∃ A c, v = .slice A (l.length + 1) c ∧ Prs W W.heap.size A ((id, sec) :: l) := by
  rw [Nat.add_comm] at h
  exact own_reads (l := (id, sec) :: l) h
set_option maxRecDepth 100000 in
set_option maxHeartbeats 4000000 in
theorem jwsSigns_law (id sec : List UInt8) (P : ByteArray) (A : Option Addr) (c : Nat) (l : PL) {w : World} (hk : id.length ≤ reachBytes ∧ sec.length ≤ reachBytes) (hP : P.size ≤ maxLen)
    (hl : Prs w w.heap.size A l ∧ l.length ≤ reachBytes ∧ (∀ p ∈ l, p.1.length ≤ reachBytes ∧ p.2.length ≤ reachBytes) ∧ (A = none → c = 0)) (hj : JwsIn w) :
    Calls Tryd.prog 4 #[.agg #[.string ⟨id.toArray⟩, .string ⟨sec.toArray⟩], .string P, .slice A l.length c] w fun e w' => e = .returned (.bool true) ∧ Below w.heap.size w w' := by
  have hr : reachBytes ≤ 140737488355328 := by decide
  obtain ⟨hk1, hk2⟩ := hk
  obtain ⟨hp, hll, -, hnil⟩ := hl
  unfold maxLen at hP
  obtain ⟨i0, hi, hz0, hz1, hz2⟩ := info_parts Tryd.infoKey
  obtain ⟨R, hR⟩ : ∃ R, w.heap.size = R := ⟨_, rfl⟩
  obtain ⟨ID, hID⟩ : ∃ ID : ByteArray, (⟨id.toArray⟩ : ByteArray) = ID := ⟨_, rfl⟩
  obtain ⟨SEC, hSEC⟩ : ∃ SEC : ByteArray, (⟨sec.toArray⟩ : ByteArray) = SEC := ⟨_, rfl⟩
  have zI : ID.size = id.length := by rw [← hID, bytes_size]
  have zS : SEC.size = sec.length := by rw [← hSEC, bytes_size]
  have hw : IntKind.i64.wrap ((ID.size : Int) + (SEC.size : Int)) = (ID.size : Int) + (SEC.size : Int) := by rw [IntKind.wrap_i64]; omega
  obtain ⟨W1, hW1⟩ : ∃ W1, W1 = w.alloc (.cells #[.string ID, .string SEC] 33) := ⟨_, rfl⟩
  have b1 : Below w.heap.size w W1 := by rw [hW1]; exact (Below.refl _ _).alloc (Nat.le_refl _) _
  have k1 : W1.heap[R]? = some (.cells #[.string ID, .string SEC] 33 (0, 0)) := by rw [hW1, ← hR]; exact heap_alloc_last w _
  have z1 : W1.heap.size = R + 1 := by rw [hW1]; simp [hR]
  have hc0 : W1.cell? ⟨R, 0, none⟩ = some (.string ID) := cell_here k1
  have hc1 : W1.cell? ⟨R, 1, none⟩ = some (.string SEC) := cell_here k1
  have ST : ∀ W, Below W1.heap.size W1 W → W.cell? ⟨R, 0, none⟩ = some (.string ID) ∧ W.cell? ⟨R, 1, none⟩ = some (.string SEC) := fun W hb =>
    ⟨(hb.cell (p := ⟨R, 0, none⟩) (by show R < _; omega)).trans hc0, (hb.cell (p := ⟨R, 1, none⟩) (by show R < _; omega)).trans hc1⟩
  have hans := fun W (hb : Below W1.heap.size W1 W) => answers6_any W ((hj.below b1).below hb)
  have hpW := fun W (hb : Below W1.heap.size W1 W) => (hp.below (b1.trans (hb.mono b1.size))).more (B' := W.heap.size) (Nat.le_trans b1.size hb.size)
  have HA := Lib.hid hans; have STH := Lib.hid ST; have HPW := Lib.hid hpW; have HB1 := Lib.hid b1; have HRR := Lib.hid hR; have HW := Lib.hid hW1; have Z1 := Lib.hid z1
  have hjb := fun W (hb : Below W1.heap.size W1 W) => (hj.below b1).below hb
  have HJB := Lib.hid hjb
  rw [hID, hSEC]
  by_cases hout : 500 < ID.size + SEC.size ∨ 4000 < P.size ∨ 20 < l.length
  · clear ST hans hpW b1 k1 z1 hj hp hR hW1 hjb hi hz0 hz1 hz2
    obtain ⟨n, hn⟩ : ∃ n, l.length = n := ⟨_, rfl⟩
    rw [hn] at hout ⊢
    clear hn hID hSEC
    by_cases h1 : 500 < ID.size + SEC.size
    · have d1 : decide ((500 : Int) < (ID.size : Int) + (SEC.size : Int)) = true := by simp; omega
      go_enter Tryd.func4, Tryd.ntmps4
      go_wp2_with fail
      rw [← HW.out]
      refine (HA.out _ (Below.refl _ _)).mono ?_
      rintro e w2 ⟨rfl, hb2⟩
      have HB2 := Lib.hid hb2; clear hb2
      dsimp only
      go_wp2
      go_ret
      exact ⟨rfl, HB1.out.chain HB2.out⟩
    · have d1 : decide ((500 : Int) < (ID.size : Int) + (SEC.size : Int)) = false := by simp; omega
      by_cases h2 : 4000 < P.size
      · have d2 : decide ((4000 : Int) < (P.size : Int)) = true := by simp; omega
        go_enter Tryd.func4, Tryd.ntmps4
        go_wp2_with fail
        rw [← HW.out]
        refine (HA.out _ (Below.refl _ _)).mono ?_
        rintro e w2 ⟨rfl, hb2⟩
        have HB2 := Lib.hid hb2; clear hb2
        dsimp only
        go_wp2
        go_ret
        exact ⟨rfl, HB1.out.chain HB2.out⟩
      · have d2 : decide ((4000 : Int) < (P.size : Int)) = false := by simp; omega
        have d3 : decide ((20 : Int) < (n : Int)) = true := by simp; omega
        go_enter Tryd.func4, Tryd.ntmps4
        go_wp2_with fail
        rw [← HW.out]
        refine (HA.out _ (Below.refl _ _)).mono ?_
        rintro e w2 ⟨rfl, hb2⟩
        have HB2 := Lib.hid hb2; clear hb2
        dsimp only
        go_wp2
        go_ret
        exact ⟨rfl, HB1.out.chain HB2.out⟩
  · have d1 : decide ((500 : Int) < (ID.size : Int) + (SEC.size : Int)) = false := by simp; omega
    have d2 : decide ((4000 : Int) < (P.size : Int)) = false := by simp; omega
    have d3 : decide ((20 : Int) < (l.length : Int)) = false := by simp; omega
    have hpl : P.data.toList.length = P.size := rfl
    have hPe : (⟨P.data.toList.toArray⟩ : ByteArray) = P := (str_eta P).symm
    have hsg := fun W (hb : Below W1.heap.size W1 W) => sign_any id sec P.data.toList (by omega) (by omega) (by omega) W (hjb W hb)
    have hrs := fun W => refSign_any id sec P.data.toList (by omega) (by omega) (by omega) W
    have hvf := fun W A c (hp : Prs W W.heap.size A ((id, sec) :: l)) (hb : Below W1.heap.size W1 W) => verify_any A c ((id, sec) :: l) (signT id sec P.data.toList) (by simp; omega) (by rw [signT_len]; have h1 := enc_len (headT id); have h2 := headT_le id; have h3 := enc_len P.data.toList; omega)
      (fit_sign l (by omega) (by omega)) W hp (hjb W hb)
    obtain ⟨T, hT⟩ : ∃ T : ByteArray, (⟨(signT id sec P.data.toList).toArray⟩ : ByteArray) = T := ⟨_, rfl⟩
    have zT : T.size = (signT id sec P.data.toList).length := by rw [← hT, bytes_size]
    unfold verSays at hvf
    rw [hPe, hID, hSEC, hT] at hsg hrs
    rw [hT] at hvf
    have hocc := fun W B e v => @own_cons W B e v id sec l
    rw [hID, hSEC] at hocc
    have hnews : ∀ W, Below W1.heap.size W1 W → (A = none ∧ l.length = 0 ∧ c = 0) ∨ (∃ ad, A = some ad ∧ ∀ j u, (pcells l)[j]? = some u → W.cell? (ad.add j) = some u) := fun W hb => by
      cases A with
      | none =>
        refine .inl ⟨rfl, ?_, hnil rfl⟩
        rcases Nat.eq_zero_or_pos l.length with h | h
        · exact h
        · obtain ⟨ad, h, _⟩ := hp 0 h; cases h
      | some ad => exact .inr ⟨ad, rfl, prs_cells (hpW W hb)⟩
    have HOC := Lib.hid hocc; have HSG := Lib.hid hsg; have HRS := Lib.hid hrs; have HNW := Lib.hid hnews; have HPC := Lib.hid (pcells_len l); have HP1 := Lib.hid (pcells_ones l)
    clear ST hans hpW hocc hsg hrs hnews b1 k1 z1 hj hp hR hW1 hjb hID hSEC
    by_cases h4 : 4096 < T.size
    · have hv := verR_large (keys := (id, sec) :: l) (l := signT id sec P.data.toList) (by omega)
      rw [hv] at hvf
      have hvf2 : ∀ (W : World) (A : Option Addr) (c : Nat), Prs W W.heap.size A ((id, sec) :: l) → Below W1.heap.size W1 W → Calls Tryd.prog 14 #[.slice A (l.length + 1) c, .string T] W fun e w' => e = .returned (.tuple #[.string ⟨#[]⟩, .int .i64 3]) ∧ Below W.heap.size W w' := hvf
      have HVF := Lib.hid hvf2
      have h4i : (4096 : Int) < (T.size : Int) := by omega
      clear hvf hvf2 hv hT zT hPe hpl h4
      go_enter Tryd.func4, Tryd.ntmps4
      go_wp2_with fail
      rw [← HW.out, HRR.out]
      refine (HSG.out _ (Below.refl _ _)).mono ?_
      rintro e2 w2 ⟨rfl, hb2⟩
      have HB2 := Lib.hid hb2; clear hb2 hc0 hc1
      obtain ⟨hc0, hc1⟩ := STH.out _ HB2.out
      dsimp only
      go_wp2_with fail
      refine (HRS.out _).mono ?_
      rintro e3 w3 ⟨rfl, hb3⟩
      have HB3 := Lib.hid (HB2.out.chain hb3); clear hb3 hc0 hc1
      obtain ⟨hc0, hc1⟩ := STH.out _ HB3.out
      have hbs := HB3.out.size
      have hown : (w3.alloc (.cells #[.string ID, .string SEC] 33)).ownsRow W1.heap.size 33 2 (.slice (some ⟨w3.heap.size, 0, none⟩) 1 1) 1 [.string ID, .string SEC] := own_one (heap_alloc_last w3 _) _ hbs
      have hb3a := HB3.out.alloc hbs (.cells #[.string ID, .string SEC] 33)
      have HOWN := Lib.hid hown; have HB3A := Lib.hid hb3a
      clear hown hb3a
      dsimp only
      go_wp2_with (at_builtin; refine wpList_append_opt rfl (.tmp 39) (.tmp 40) 34 rfl W1.heap.size 33 i0 _ 2 32 Tryd.underlying34 hi hz0 hz1 hz2 rfl (by decide) (.slice (some ⟨w3.heap.size, 0, none⟩) 1 1) 1 [.string ID, .string SEC] rfl HOWN.out A l.length c (pcells l) rfl HPC.out (HNW.out _ HB3A.out) HP1.out (by unfold maxLen; omega) (by omega) (by simp; omega) ?_)
      intro v' w4 hown' hg' _
      have hb4 : Below W1.heap.size W1 w4 := HB3A.out.grown hg' (by simp; omega) (fun j hj => (HOWN.out.lt j hj).1)
      obtain ⟨A2, c2, rfl, hp2⟩ := HOC.out _ _ _ _ hown'
      have HB4 := Lib.hid hb4; have HP2 := Lib.hid hp2
      clear hown' hg' hb4 hp2 hc0 hc1 hbs
      go_wp2_with fail
      refine (HVF.out _ _ _ HP2.out HB4.out).mono ?_
      rintro e5 w5 ⟨rfl, hb5⟩
      have HB5 := Lib.hid (HB4.out.chain hb5); clear hb5
      dsimp only
      go_wp2_with fail
      refine (HA.out _ HB5.out).mono ?_
      rintro e6 w6 ⟨rfl, hb6⟩
      have HB6 := Lib.hid (HB5.out.chain hb6); clear hb6
      dsimp only
      go_wp2
      go_ret
      exact ⟨rfl, HB1.out.trans (HB6.out.mono HB1.out.size)⟩
    · have hv := verR_sign (id := id) (sec := sec) (p := P.data.toList) l (by omega)
      rw [hv] at hvf
      have hvf2 : ∀ (W : World) (A : Option Addr) (c : Nat), Prs W W.heap.size A ((id, sec) :: l) → Below W1.heap.size W1 W → Calls Tryd.prog 14 #[.slice A (l.length + 1) c, .string T] W fun e w' => e = .returned (.tuple #[.string P, .int .i64 0]) ∧ Below W.heap.size W w' := by rw [← hPe]; exact hvf
      have HVF := Lib.hid hvf2
      have h4i : ¬ (4096 : Int) < (T.size : Int) := by omega
      clear hvf hvf2 hv hT zT hPe hpl h4
      go_enter Tryd.func4, Tryd.ntmps4
      go_wp2_with fail
      rw [← HW.out, HRR.out]
      refine (HSG.out _ (Below.refl _ _)).mono ?_
      rintro e2 w2 ⟨rfl, hb2⟩
      have HB2 := Lib.hid hb2; clear hb2 hc0 hc1
      obtain ⟨hc0, hc1⟩ := STH.out _ HB2.out
      dsimp only
      go_wp2_with fail
      refine (HRS.out _).mono ?_
      rintro e3 w3 ⟨rfl, hb3⟩
      have HB3 := Lib.hid (HB2.out.chain hb3); clear hb3 hc0 hc1
      obtain ⟨hc0, hc1⟩ := STH.out _ HB3.out
      have hbs := HB3.out.size
      have hown : (w3.alloc (.cells #[.string ID, .string SEC] 33)).ownsRow W1.heap.size 33 2 (.slice (some ⟨w3.heap.size, 0, none⟩) 1 1) 1 [.string ID, .string SEC] := own_one (heap_alloc_last w3 _) _ hbs
      have hb3a := HB3.out.alloc hbs (.cells #[.string ID, .string SEC] 33)
      have HOWN := Lib.hid hown; have HB3A := Lib.hid hb3a
      clear hown hb3a
      dsimp only
      go_wp2_with (at_builtin; refine wpList_append_opt rfl (.tmp 39) (.tmp 40) 34 rfl W1.heap.size 33 i0 _ 2 32 Tryd.underlying34 hi hz0 hz1 hz2 rfl (by decide) (.slice (some ⟨w3.heap.size, 0, none⟩) 1 1) 1 [.string ID, .string SEC] rfl HOWN.out A l.length c (pcells l) rfl HPC.out (HNW.out _ HB3A.out) HP1.out (by unfold maxLen; omega) (by omega) (by simp; omega) ?_)
      intro v' w4 hown' hg' _
      have hb4 : Below W1.heap.size W1 w4 := HB3A.out.grown hg' (by simp; omega) (fun j hj => (HOWN.out.lt j hj).1)
      obtain ⟨A2, c2, rfl, hp2⟩ := HOC.out _ _ _ _ hown'
      have HB4 := Lib.hid hb4; have HP2 := Lib.hid hp2
      clear hown' hg' hb4 hp2 hc0 hc1 hbs
      go_wp2_with fail
      refine (HVF.out _ _ _ HP2.out HB4.out).mono ?_
      rintro e5 w5 ⟨rfl, hb5⟩
      have HB5 := Lib.hid (HB4.out.chain hb5); clear hb5
      dsimp only
      go_wp2_with fail
      refine (HA.out _ HB5.out).mono ?_
      rintro e6 w6 ⟨rfl, hb6⟩
      have HB6 := Lib.hid (HB5.out.chain hb6); clear hb6
      dsimp only
      go_wp2
      go_ret
      exact ⟨rfl, HB1.out.trans (HB6.out.mono HB1.out.size)⟩
end Go.Proofs.YthbbeojhipcjiaaDoor
namespace Go.Proofs.YthbbeojhipcjiaaDoor
open Go.RowKit
set_option linter.unusedVariables false
set_option linter.unusedSimpArgs false

/-- the heads that are none of the key's -/
def badHeads : List (List UInt8) := [[123, 34, 97, 108, 103, 34, 58, 34, 110, 111, 110, 101, 34, 44, 34, 107, 105, 100, 34, 58, 34, 107, 34, 125], [123, 34, 107, 105, 100, 34, 58, 34, 107, 34, 44, 34, 97, 108, 103, 34, 58, 34, 72, 83, 50, 53, 54, 34, 125], [123, 34, 97, 108, 103, 34, 58, 34, 72, 83, 53, 49, 50, 34, 44, 34, 107, 105, 100, 34, 58, 34, 107, 34, 125], [123, 34, 97, 108, 103, 34, 58, 34, 72, 83, 50, 53, 54, 34, 44, 34, 107, 105, 100, 34, 58, 34, 107, 34, 44, 34, 116, 121, 112, 34, 58, 34, 74, 87, 84, 34, 125], [123, 34, 97, 108, 103, 34, 58, 34, 72, 83, 50, 53, 54, 34, 125], [123, 32, 34, 97, 108, 103, 34, 58, 34, 72, 83, 50, 53, 54, 34, 44, 34, 107, 105, 100, 34, 58, 34, 107, 34, 125], []]
theorem bad_all : badHeads.all (fun h => decide (headT [107] ≠ h) && decide (h.length ≤ 60)) = true := by decide +kernel
theorem bad_at (r : Nat) (h : r < badHeads.length) : headT [107] ≠ badHeads[r] ∧ badHeads[r].length ≤ 60 := by
  have := List.all_eq_true.1 bad_all _ (List.getElem_mem h)
  simp only [Bool.and_eq_true, decide_eq_true_eq] at this
  exact this
def badCells : Array Value := #[.string ⟨#[123, 34, 97, 108, 103, 34, 58, 34, 110, 111, 110, 101, 34, 44, 34, 107, 105, 100, 34, 58, 34, 107, 34, 125]⟩, .string ⟨#[123, 34, 107, 105, 100, 34, 58, 34, 107, 34, 44, 34, 97, 108, 103, 34, 58, 34, 72, 83, 50, 53, 54, 34, 125]⟩, .string ⟨#[123, 34, 97, 108, 103, 34, 58, 34, 72, 83, 53, 49, 50, 34, 44, 34, 107, 105, 100, 34, 58, 34, 107, 34, 125]⟩, .string ⟨#[123, 34, 97, 108, 103, 34, 58, 34, 72, 83, 50, 53, 54, 34, 44, 34, 107, 105, 100, 34, 58, 34, 107, 34, 44, 34, 116, 121, 112, 34, 58, 34, 74, 87, 84, 34, 125]⟩, .string ⟨#[123, 34, 97, 108, 103, 34, 58, 34, 72, 83, 50, 53, 54, 34, 125]⟩, .string ⟨#[123, 32, 34, 97, 108, 103, 34, 58, 34, 72, 83, 50, 53, 54, 34, 44, 34, 107, 105, 100, 34, 58, 34, 107, 34, 125]⟩, .string ⟨#[]⟩]
theorem bad_cell (r : Nat) (h : r < badHeads.length) : badCells[r]? = some (.string ⟨badHeads[r].toArray⟩) := by
  have h7 : r < 7 := h
  match r, h7 with
  | 0, _ => rfl
  | 1, _ => rfl
  | 2, _ => rfl
  | 3, _ => rfl
  | 4, _ => rfl
  | 5, _ => rfl
  | 6, _ => rfl
theorem head_none {hd : List UInt8} (h : headT [107] ≠ hd) : findK [([107], [115])] hd = none := findK_miss fun j hj => by
  obtain rfl : j = 0 := by simp at hj; omega
  exact h
theorem dec_nil : dec [] = some [] := by decide +kernel
theorem heads_fit : ∀ x, FitAt [([107], [115])] x := fun x j hj _ => by
  obtain rfl : j = 0 := by simp at hj; omega
  exact ⟨by simp, by simp⟩
/-- a token with another head is none -/
theorem heads_facts {hd p : List UInt8} (hne : headT [107] ≠ hd) (hh : hd.length ≤ 60) (hp : p.length ≤ 1000) (zt z : List UInt8) (hd0 : (46 : UInt8) ∉ zt) (hz : dec zt = some z) (hzl : zt.length ≤ 100) :
    verR [([107], [115])] (enc hd ++ [46] ++ enc p ++ [46] ++ zt) = ([], 5) ∧ (enc hd ++ [46] ++ enc p ++ [46] ++ zt).length ≤ 4096 := by
  have hl : (enc hd ++ [46] ++ enc p ++ [46] ++ zt).length ≤ 4096 := by
    have h1 := enc_len hd; have h2 := enc_len p
    simp only [List.length_append, List.length_singleton]; omega
  exact ⟨verR_head zt hd0 hz (head_none hne) hl, hl⟩
set_option maxRecDepth 100000 in
set_option maxHeartbeats 4000000 in
theorem jwsHeads_law (P : ByteArray) (x1 : Int) (hP : P.size ≤ maxLen) (hx : (Lit.int .u8 x1).wf = true) (w : World) (hj : JwsIn w) :
    Calls Tryd.prog 6 #[.string P, .int .u8 x1] w fun e w' => e = .returned (.bool true) ∧ Below w.heap.size w w' := by
  unfold maxLen at hP
  have hx2 : 0 ≤ x1 ∧ x1 ≤ 255 := by
    have h1 := hx; have m0 : IntKind.u8.min = 0 := by decide
    have m1 : IntKind.u8.max = 255 := by decide
    simp [Lit.wf, m0, m1] at h1; omega
  have hans := fun W (hb : Below w.heap.size w W) => answers6_any W (hj.below hb)
  have HA := Lib.hid hans
  by_cases hout : 1000 < P.size
  · clear hans hj
    have hi : (1000 : Int) < (P.size : Int) := by omega
    go_enter Tryd.func6, Tryd.ntmps6
    go_wp2_with fail
    refine (HA.out _ (Below.refl _ _)).mono ?_
    rintro e w2 ⟨rfl, hb2⟩
    have HB2 := Lib.hid hb2; clear hb2
    dsimp only
    go_wp2
    go_ret
    exact ⟨rfl, HB2.out⟩
  · have hpi : ¬ (1000 : Int) < (P.size : Int) := by omega
    obtain ⟨r, hr7, hr⟩ : ∃ r : Nat, r < 7 ∧ x1.tmod 7 = r := ⟨(x1.tmod 7).toNat, by have := Int.tmod_lt_of_pos x1 (show (0 : Int) < 7 by decide); have := Int.tmod_nonneg 7 hx2.1; omega, by have := Int.tmod_nonneg 7 hx2.1; omega⟩
    have hrl : r < badHeads.length := hr7
    obtain ⟨hne, hhl⟩ := bad_at r hrl
    have hcl := bad_cell r hrl
    obtain ⟨hd, hhd⟩ : ∃ hd, badHeads[r] = hd := ⟨_, rfl⟩
    rw [hhd] at hne hhl hcl
    have hpl : P.data.toList.length = P.size := rfl
    have hPe : (⟨P.data.toList.toArray⟩ : ByteArray) = P := (str_eta P).symm
    obtain ⟨p, hp⟩ : ∃ p, P.data.toList = p := ⟨_, rfl⟩
    rw [hp] at hpl hPe
    obtain ⟨R, hR⟩ : ∃ R, w.heap.size = R := ⟨_, rfl⟩
    obtain ⟨W1, hW1⟩ : ∃ W1, W1 = (w.alloc (.cells #[.string ⟨#[107]⟩, .string ⟨#[115]⟩] 33)).alloc (.cells #[.string ⟨#[123, 34, 97, 108, 103, 34, 58, 34, 110, 111, 110, 101, 34, 44, 34, 107, 105, 100, 34, 58, 34, 107, 34, 125]⟩, .string ⟨#[123, 34, 107, 105, 100, 34, 58, 34, 107, 34, 44, 34, 97, 108, 103, 34, 58, 34, 72, 83, 50, 53, 54, 34, 125]⟩, .string ⟨#[123, 34, 97, 108, 103, 34, 58, 34, 72, 83, 53, 49, 50, 34, 44, 34, 107, 105, 100, 34, 58, 34, 107, 34, 125]⟩, .string ⟨#[123, 34, 97, 108, 103, 34, 58, 34, 72, 83, 50, 53, 54, 34, 44, 34, 107, 105, 100, 34, 58, 34, 107, 34, 44, 34, 116, 121, 112, 34, 58, 34, 74, 87, 84, 34, 125]⟩, .string ⟨#[123, 34, 97, 108, 103, 34, 58, 34, 72, 83, 50, 53, 54, 34, 125]⟩, .string ⟨#[123, 32, 34, 97, 108, 103, 34, 58, 34, 72, 83, 50, 53, 54, 34, 44, 34, 107, 105, 100, 34, 58, 34, 107, 34, 125]⟩, .string ⟨#[]⟩] 9) := ⟨_, rfl⟩
    have b1 : Below w.heap.size w W1 := by rw [hW1]; exact ((Below.refl _ _).alloc (Nat.le_refl _) _).alloc (by simp) _
    have k0 : W1.heap[R]? = some (.cells #[.string ⟨#[107]⟩, .string ⟨#[115]⟩] 33 (0, 0)) := by rw [hW1, ← hR]; exact (Below.heap_alloc _ _ _ (by simp)).trans (heap_alloc_last w _)
    have k1 : W1.heap[R + 1]? = some (.cells badCells 9 (0, 0)) := by
      have := heap_alloc_last (w.alloc (.cells #[.string ⟨#[107]⟩, .string ⟨#[115]⟩] 33)) (.cells badCells 9)
      rw [hW1, ← hR]; simpa [badCells] using this
    have z1 : W1.heap.size = R + 2 := by rw [hW1]; simp [hR]
    obtain ⟨HD, hHD⟩ : ∃ HD : ByteArray, (⟨hd.toArray⟩ : ByteArray) = HD := ⟨_, rfl⟩
    have hc1 : W1.cell? ⟨R + 1, r, none⟩ = some (.string HD) := by rw [cell_here k1, hcl, hHD]
    have ST : ∀ W, Below W1.heap.size W1 W → (W.cell? ⟨R, 0, none⟩ = some (.string ⟨#[107]⟩) ∧ W.cell? ⟨R, 1, none⟩ = some (.string ⟨#[115]⟩)) ∧ Below W1.heap.size W1 W := fun W hb =>
      ⟨⟨(hb.cell (p := ⟨R, 0, none⟩) (by show R < _; omega)).trans (cell_here k0), (hb.cell (p := ⟨R, 1, none⟩) (by show R < _; omega)).trans (cell_here k0)⟩, hb⟩
    obtain ⟨EH, hEH⟩ : ∃ EH : ByteArray, (⟨(enc hd).toArray⟩ : ByteArray) = EH := ⟨_, rfl⟩
    obtain ⟨EP, hEP⟩ : ∃ EP : ByteArray, (⟨(enc p).toArray⟩ : ByteArray) = EP := ⟨_, rfl⟩
    have zEH : EH.size ≤ 100 := by rw [← hEH, bytes_size]; have := enc_len hd; omega
    have zEP : EP.size ≤ 2000 := by rw [← hEP, bytes_size]; have := enc_len p; omega
    obtain ⟨f, hf⟩ : ∃ f, enc hd ++ [46] ++ enc p = f := ⟨_, rfl⟩
    have hfl : f.length ≤ 3000 := by rw [← hf]; have := enc_len hd; have := enc_len p; simp only [List.length_append, List.length_singleton]; omega
    obtain ⟨F, hF⟩ : ∃ F : ByteArray, (⟨f.toArray⟩ : ByteArray) = F := ⟨_, rfl⟩
    have zF : F.size ≤ 3000 := by rw [← hF, bytes_size]; exact hfl
    have eF : F = EH ++ ⟨#[46]⟩ ++ EP := by rw [← hF, ← hf, ← hEH, ← hEP]; apply ByteArray.ext; simp
    have h1 := fun W => refB64_any HD (by rw [← hHD, bytes_size]; omega) W
    have h2 := fun W => refB64_any P (by omega) W
    have h3 := fun W => refMac_any ⟨#[115]⟩ F (by decide) (by omega) W
    rw [← hHD, bytes_list, hEH, hHD] at h1
    rw [hp, hEP] at h2
    rw [show (⟨#[115]⟩ : ByteArray).data.toList = [115] from rfl, ← hF, bytes_list, hF] at h3
    obtain ⟨m, hm⟩ : ∃ m, macL [115] f = m := ⟨_, rfl⟩
    have hml : m.length = 32 := by rw [← hm]; exact macL_len _ _
    rw [hm] at h3
    have h4 := fun W => refB64_any ⟨m.toArray⟩ (by rw [bytes_size]; omega) W
    rw [bytes_list] at h4
    obtain ⟨M, hM⟩ : ∃ M : ByteArray, (⟨m.toArray⟩ : ByteArray) = M := ⟨_, rfl⟩
    obtain ⟨EM, hEM⟩ : ∃ EM : ByteArray, (⟨(enc m).toArray⟩ : ByteArray) = EM := ⟨_, rfl⟩
    have hme : (enc m).length = 43 := by have := enc_len m; omega
    have zEM : EM.size ≤ 100 := by rw [← hEM, bytes_size]; omega
    rw [hM] at h3 h4
    rw [hEM] at h4
    obtain ⟨v1, l1⟩ := heads_facts hne hhl (p := p) (by omega) (enc m) m (enc_dot m) (dec_enc m) (by omega)
    obtain ⟨v2, l2⟩ := heads_facts hne hhl (p := p) (by omega) [] [] (by simp) dec_nil (by simp)
    rw [hf] at v1 v2 l1 l2
    have hjb := fun W (hb : Below W1.heap.size W1 W) => (hj.below b1).below hb
    have vf := fun (t : List UInt8) (hl : t.length ≤ 4096) (hv : verR [([107], [115])] t = ([], 5)) W g (hg : W.heap[g]? = some (.cells #[.string ⟨#[107]⟩, .string ⟨#[115]⟩] 33 (0, 0))) (hb : Below W1.heap.size W1 W) =>
      verify_any (some ⟨g, 0, none⟩) 1 [([107], [115])] t (by simp) (by omega) (fun _ _ _ x _ _ => heads_fit x) W (prs_one hg) (hjb W hb)
    unfold verSays at vf
    have vg := fun (t : List UInt8) (hl : t.length ≤ 4096) (hv : verR [([107], [115])] t = ([], 5)) W g hg hb => by
      have := vf t hl hv W g hg hb
      rw [hv] at this
      exact this
    have e1 : (⟨(f ++ [46] ++ enc m).toArray⟩ : ByteArray) = F ++ ⟨#[46]⟩ ++ EM := by rw [← hF, ← hEM]; apply ByteArray.ext; simp
    have e2 : (⟨(f ++ [46] ++ []).toArray⟩ : ByteArray) = F ++ ⟨#[46]⟩ := by rw [← hF]; apply ByteArray.ext; simp
    have w1 := vg _ l1 v1
    have w2 := vg _ l2 v2
    rw [e1] at w1
    rw [e2] at w2
    have w1a : ∀ (W : World) (g : Nat), W.heap[g]? = some (.cells #[.string ⟨#[107]⟩, .string ⟨#[115]⟩] 33 (0, 0)) → Below W1.heap.size W1 W → Calls Tryd.prog 14 #[.slice (some ⟨g, 0, none⟩) 1 1, .string (F ++ ⟨#[46]⟩ ++ EM)] W fun e w' => e = .returned (.tuple #[.string ⟨#[]⟩, .int .i64 5]) ∧ Below W.heap.size W w' := w1
    have w2a : ∀ (W : World) (g : Nat), W.heap[g]? = some (.cells #[.string ⟨#[107]⟩, .string ⟨#[115]⟩] 33 (0, 0)) → Below W1.heap.size W1 W → Calls Tryd.prog 14 #[.slice (some ⟨g, 0, none⟩) 1 1, .string (F ++ ⟨#[46]⟩)] W fun e w' => e = .returned (.tuple #[.string ⟨#[]⟩, .int .i64 5]) ∧ Below W.heap.size W w' := w2
    have n1 : ∀ W, (Op.stringOp .add EH ⟨#[46]⟩).run Tryd.prog W = .ok (.string (EH ++ ⟨#[46]⟩)) W := fun W => run_string_add_sum W _ _ (by show EH.size + 1 ≤ _; omega)
    have n2 : ∀ W, (Op.stringOp .add (EH ++ ⟨#[46]⟩) EP).run Tryd.prog W = .ok (.string F) W := fun W => by rw [eF]; exact run_string_add_sum W _ _ (by rw [ByteArray.size_append]; show EH.size + 1 + EP.size ≤ _; omega)
    have n3 : ∀ W, (Op.stringOp .add F ⟨#[46]⟩).run Tryd.prog W = .ok (.string (F ++ ⟨#[46]⟩)) W := fun W => run_string_add_sum W _ _ (by show F.size + 1 ≤ _; omega)
    have n4 : ∀ W, (Op.stringOp .add (F ++ ⟨#[46]⟩) EM).run Tryd.prog W = .ok (.string (F ++ ⟨#[46]⟩ ++ EM)) W := fun W => run_string_add_sum W _ _ (by rw [ByteArray.size_append]; show F.size + 1 + EM.size ≤ _; omega)
    have hri : (0 : Int) ≤ r := by omega
    have hri2 : (r : Int) < 7 := by omega
    have hans1 := fun W (hb : Below W1.heap.size W1 W) => answers6_any W (hjb W hb)
    have HA1 := Lib.hid hans1; have STH := Lib.hid ST; have H1 := Lib.hid h1; have H2 := Lib.hid h2; have H3 := Lib.hid h3; have H4 := Lib.hid h4; have HV1 := Lib.hid w1a; have HV2 := Lib.hid w2a; have HB1 := Lib.hid b1; have HW := Lib.hid hW1; have HRR := Lib.hid hR
    clear hans hans1 ST h1 h2 h3 h4 w1 w2 w1a w2a vf vg v1 v2 l1 l2 hjb e1 e2 hEH hEP zEH zEP hf hfl hF zF eF hM hEM hme zEM hm hml hHD k0 k1 z1 hW1 hR hne hhl hcl hhd hpl hPe hrl hj b1 hp hout HA
    go_enter Tryd.func6, Tryd.ntmps6
    go_upto_region 5 with fail
    rw [← HW.out, HRR.out]
    go_wp2_with fail
    refine (H1.out _).mono ?_
    rintro e2 w2 ⟨rfl, hb2⟩
    have HB2 := Lib.hid hb2; clear hb2 hc1
    dsimp only
    go_wp2_with fail
    refine (H2.out _).mono ?_
    rintro e3 w3 ⟨rfl, hb3⟩
    have HB3 := Lib.hid (HB2.out.chain hb3)
    have hs3 : W1.heap.size ≤ w3.heap.size := HB3.out.size
    clear hb3
    dsimp only
    go_upto_region 6 with fail
    go_region_held3 (fun W => (W.cell? ⟨R, 0, none⟩ = some (.string ⟨#[107]⟩) ∧ W.cell? ⟨R, 1, none⟩ = some (.string ⟨#[115]⟩)) ∧ Below W1.heap.size W1 W)
      (first | exact STH.out _ (by repeat (first | (with_reducible exact Below.refl _ _) | (with_reducible apply Below.drew) | (with_reducible apply belowDrewN) | (with_reducible refine Below.alloc ?_ (by first | omega | (simp only [World.size_alloc, World.size_drew, set_size]; omega) | (simp; omega)) _) | (with_reducible exact HB3.out) | (with_reducible refine Below.chain ?_ hbv) | (with_reducible refine Below.chain ?_ hbb) | (with_reducible refine Below.chain ?_ hba))))
      (first | (go_at_call 17; (with_reducible refine (H3.out _).mono ?_); rintro e wa ⟨rfl, hba⟩; have hsa : W1.heap.size ≤ wa.heap.size := Nat.le_trans (by first | omega | (simp only [World.size_alloc, World.size_drew, set_size]; omega) | (simp; omega)) hba.size) | (go_at_call 16; (with_reducible refine (H4.out _).mono ?_); rintro e wb ⟨rfl, hbb⟩; have hsb : W1.heap.size ≤ wb.heap.size := Nat.le_trans (by first | omega | (simp only [World.size_alloc, World.size_drew, set_size]; omega) | (simp; omega)) hbb.size) | (go_at_call 14; (with_reducible refine (HV1.out _ _ ?_ ?_).mono ?_); (· (first | (exact fresh_at _ rfl) | (exact blk_below (fresh_at _ rfl) hbb) | (exact blk_below (blk_below (drew_block (fresh_at _ rfl)) hba) hbb) | (exact blk_below (blk_below (fresh_at _ rfl) hba) hbb))); (· exact (by repeat (first | (with_reducible exact Below.refl _ _) | (with_reducible apply Below.drew) | (with_reducible apply belowDrewN) | (with_reducible refine Below.alloc ?_ (by first | omega | (simp only [World.size_alloc, World.size_drew, set_size]; omega) | (simp; omega)) _) | (with_reducible exact HB3.out) | (with_reducible refine Below.chain ?_ hbv) | (with_reducible refine Below.chain ?_ hbb) | (with_reducible refine Below.chain ?_ hba)))); rintro e wv ⟨rfl, hbv⟩; have hsv : W1.heap.size ≤ wv.heap.size := Nat.le_trans (by first | omega | (simp only [World.size_alloc, World.size_drew, set_size]; omega) | (simp; omega)) hbv.size))
    all_goals
      have hbz : Below W1.heap.size W1 wv := (by repeat (first | (with_reducible exact Below.refl _ _) | (with_reducible apply Below.drew) | (with_reducible apply belowDrewN) | (with_reducible refine Below.alloc ?_ (by first | omega | (simp only [World.size_alloc, World.size_drew, set_size]; omega) | (simp; omega)) _) | (with_reducible exact HB3.out) | (with_reducible refine Below.chain ?_ hbv) | (with_reducible refine Below.chain ?_ hbb) | (with_reducible refine Below.chain ?_ hba)))
      obtain ⟨⟨hc0, hc1⟩, -⟩ := STH.out _ hbz
      have HBZ := Lib.hid hbz
      clear hbz hbv hbb hba
      go_wp2_with fail
      refine (HV2.out _ _ (heap_alloc_last wv _) (HBZ.out.alloc hsv _)).mono ?_
      rintro e6 w6 ⟨rfl, hb6⟩
      have HB6 := Lib.hid ((HBZ.out.alloc hsv _).chain hb6); clear hb6 hc0 hc1
      dsimp only
      go_wp2_with fail
      refine (HA1.out _ HB6.out).mono ?_
      rintro e7 w7 ⟨rfl, hb7⟩
      have HB7 := Lib.hid (HB6.out.chain hb7); clear hb7
      dsimp only
      go_wp2
      go_ret
      exact ⟨rfl, HB1.out.trans (HB7.out.mono HB1.out.size)⟩
end Go.Proofs.YthbbeojhipcjiaaDoor
