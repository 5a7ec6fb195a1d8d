/- An argument that is a URI's parts, as texts; the library's own variable at a row's first world. -/
import Derived.Test.YtdogcnlcefklkaaUriPrint
import Derived.Test.YtdogcnlcefklkaaOpenPairs
import Derived.HandedShaped
import Derived.Shelf.Vars
namespace Go.Proofs.Ytdogcnlcefklkaa
open Go.ChangeShapes Go.WideShapes Go.ChangeAt Go.RowKit

theorem varIn_shaped {w : World} (h : w.ShapedOpen Try.prog) : VarIn w :=
  cell_of_shapedOpen_int (P := Try.prog) (g := 0) (t := 3) (zero := #[.int .i64 0]) h (of_decide_eq_true (by kernel_rfl)) (by kernel_rfl) rfl (by kernel_rfl) (by kernel_rfl) Try.underlying3
theorem Try.cellsUri : Try.prog.cellsOf 23 = 4 := by kernel_rfl
theorem open_uri {H : Type} {enc : TypeId × Value → H} {W : World} {base : Nat} {v : Value} {d : DataW H} {ps : List MemPlace} (hval : Value.okWide Try.prog W .any base 23 v)
    (hd : DataW.Trod enc Try.prog W 0 (fun _ => true) true 23 v d ps) (_ : ∀ x ∈ ps, x.block < W.heap.size) (hwt : ∀ n ∈ d.weights Try.prog 23, n ≤ reachBytes) :
    ∃ q : Quad, v = uval q ∧ SizedU q := by
  obtain ⟨cs, rfl, hcs⟩ := okWide_struct Try.underlying23 hval
  obtain ⟨fuel, hf⟩ := hd
  obtain ⟨xs, m, _, hx, hlen, hxl, hf⟩ := DataW.trod_struct Try.underlying23 hf
  rw [Try.cellsUri] at hlen
  obtain ⟨cs⟩ := cs
  simp only [Value.cells] at hlen hf
  match cs, hlen with
  | [c0, c1, c2, c3], _ =>
    have h0 := hf 0 { name := "Scheme", type := 9, offset := 0, embedded := false, tag := "", pkgPath := "", byteOffset := 0 } rfl
    have h1 := hf 1 { name := "Host", type := 9, offset := 1, embedded := false, tag := "", pkgPath := "", byteOffset := 16 } rfl
    have h2 := hf 2 { name := "Path", type := 9, offset := 2, embedded := false, tag := "", pkgPath := "", byteOffset := 32 } rfl
    have h3 := hf 3 { name := "Query", type := 9, offset := 3, embedded := false, tag := "", pkgPath := "", byteOffset := 48 } rfl
    rw [Try.cellsStr] at h0 h1 h2 h3
    match xs, hxl with
    | [y0, y1, y2, y3], _ =>
      simp only [List.getElem?_cons_zero, List.getElem?_cons_succ] at h0 h1 h2 h3
      obtain ⟨a, ha, ya, za⟩ := DataW.trod_string Try.underlying9 h0
      obtain ⟨b, hb, yb, zb⟩ := DataW.trod_string Try.underlying9 h1
      obtain ⟨c, hc, yc, zc⟩ := DataW.trod_string Try.underlying9 h2
      obtain ⟨e, he, ye, ze⟩ := DataW.trod_string Try.underlying9 h3
      simp at ha hb hc he
      subst ha hb hc he
      refine ⟨(a.data.toList, b.data.toList, c.data.toList, e.data.toList), ?_, ?_⟩
      · unfold uval; dsimp only
      · have hd : d = .agg [.lit (.string a.data.toList), .lit (.string b.data.toList), .lit (.string c.data.toList), .lit (.string e.data.toList)] := by
          have := congrArg Prod.fst hx
          rw [show d = (d, ps).1 from rfl, this, ya, yb, yc, ye]; rfl
        rw [hd] at hwt
        have hr : reachBytes ≤ 140737488355328 := by decide
        unfold SizedU
        refine ⟨Nat.le_trans (hwt _ ?_) hr, Nat.le_trans (hwt _ ?_) hr, Nat.le_trans (hwt _ ?_) hr, Nat.le_trans (hwt _ ?_) hr⟩ <;> simp [DataW.weights, Try.underlying23, DataW.weightsEach]
end Go.Proofs.Ytdogcnlcefklkaa
