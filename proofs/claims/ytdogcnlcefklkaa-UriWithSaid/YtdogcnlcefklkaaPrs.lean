/- Rows of pairs; what a form's parse answers. -/
import Derived.Test.YtdogcnlcefklkaaSplit
namespace Go.Proofs.Ytdogcnlcefklkaa
open Go.RowKit

theorem Try.infoPair : (Try.prog.info? 32).map (fun i => (i.zero, i.size, i.bytes)) = some (some (.agg #[.string ⟨#[]⟩, .string ⟨#[]⟩]), 2, 32) := by kernel_rfl
/-- pairs as cells -/
def pcells : PL → List Value
  | [] => []
  | p :: r => .string ⟨p.1.toArray⟩ :: .string ⟨p.2.toArray⟩ :: pcells r
theorem pcells_app (a b : PL) : pcells (a ++ b) = pcells a ++ pcells b := by
  induction a with
  | nil => rfl
  | cons p a ih => simp [pcells, ih]
theorem pcells_snoc (l : PL) (p : List UInt8 × List UInt8) : pcells (l ++ [p]) = pcells l ++ [.string ⟨p.1.toArray⟩, .string ⟨p.2.toArray⟩] := by rw [pcells_app]; rfl
theorem pcells_len (l : PL) : (pcells l).length = l.length * 2 := by
  induction l with
  | nil => rfl
  | cons p l ih => simp [pcells, ih]; omega
theorem pcells_key (l : PL) (k : Nat) (h : k < l.length) : (pcells l)[k * 2]? = some (.string ⟨l[k].1.toArray⟩) := by
  induction l generalizing k with
  | nil => simp at h
  | cons p l ih =>
    cases k with
    | zero => rfl
    | succ k => rw [Nat.succ_mul]; simp only [pcells, List.getElem?_cons_succ, List.getElem_cons_succ]; exact ih k (by simpa using h)
theorem pcells_val (l : PL) (k : Nat) (h : k < l.length) : (pcells l)[k * 2 + 1]? = some (.string ⟨l[k].2.toArray⟩) := by
  induction l generalizing k with
  | nil => simp at h
  | cons p l ih =>
    cases k with
    | zero => rfl
    | succ k => rw [Nat.succ_mul]; simp only [pcells, List.getElem?_cons_succ, List.getElem_cons_succ]; exact ih k (by simpa using h)
theorem pair_cells (a b : ByteArray) : ∀ u ∈ [Value.string a, Value.string b], u.oneCell' = true := by
  intro u hu; simp at hu; rcases hu with rfl | rfl <;> rfl
/-- a row of pairs of the call's own -/
def PRow (w : World) (B : Nat) (v : Value) (l : PL) : Prop := w.ownsRow B 32 2 v l.length (pcells l)
theorem PRow.cut {w : World} {B : Nat} {v : Value} {n : Nat} {l : PL} {xs : List Value} (h : w.ownsRow B 32 2 v n xs) (hn : n = l.length) (hx : xs = pcells l) : PRow w B v l := by subst hn; subst hx; exact h
theorem PRow.below {w w' : World} {B : Nat} {v : Value} {l : PL} (h : PRow w B v l) (hb : Below w.heap.size w w') : PRow w' B v l :=
  World.ownsRow.kept (row := none) h ⟨hb.os, hb.tape, hb.output, hb.size, fun k hk _ => hb.block k hk⟩ (by
    rcases h.2 with ⟨rfl, _⟩ | ⟨g, cap, cur, rfl, _⟩
    · exact .inl rfl
    · exact .inr (by simp [Value.ownBlock]))
theorem prow_form {w : World} {B : Nat} {v : Value} {l : PL} (h : PRow w B v l) : ∃ A c, v = .slice A l.length c := by
  rcases h.2 with ⟨rfl, h0⟩ | ⟨g, cap, cur, rfl, _⟩
  · exact ⟨none, 0, by rw [h0]⟩
  · exact ⟨_, _, rfl⟩
theorem PRow.nil (w : World) (B : Nat) : PRow w B (.slice none 0 0) [] := World.ownsRow_nil _ _ _ _

/-- what Parse answers -/
def parseE (l : List UInt8) : Int := if 4096 < l.length then 3 else match formL l with
  | none => 2
  | some ps => if 64 < ps.length then 3 else 0
def parseP (l : List UInt8) : PL := if 4096 < l.length then [] else match formL l with
  | none => []
  | some ps => if 64 < ps.length then [] else ps
theorem parse_large {l : List UInt8} (h : 4096 < l.length) : parseE l = 3 ∧ parseP l = [] := by simp [parseE, parseP, h]
theorem parse_none {l : List UInt8} (h : l.length ≤ 4096) (hf : formL l = none) : parseE l = 2 ∧ parseP l = [] := by
  unfold parseE parseP; rw [if_neg (by omega), if_neg (by omega), hf]; exact ⟨rfl, rfl⟩
theorem parse_many {l : List UInt8} {ps : PL} (h : l.length ≤ 4096) (hf : formL l = some ps) (hp : 64 < ps.length) : parseE l = 3 ∧ parseP l = [] := by
  unfold parseE parseP; rw [if_neg (by omega), if_neg (by omega), hf]; simp only [if_pos hp, and_self]
theorem parse_some {l : List UInt8} {ps : PL} (h : l.length ≤ 4096) (hf : formL l = some ps) (hp : ps.length ≤ 64) : parseE l = 0 ∧ parseP l = ps := by
  unfold parseE parseP; rw [if_neg (by omega), if_neg (by omega), hf]; simp only [if_neg (show ¬ 64 < ps.length by omega), and_self]
theorem ret_ve {v : Value} {a b : Int} (h : a = b) : Ending.returned (.tuple #[v, .int .i64 a]) = .returned (.tuple #[v, .int .i64 b]) := by rw [h]
end Go.Proofs.Ytdogcnlcefklkaa
