/- Layer 13's laws as rows, out of what the code's rows do (CodeRow). M: at least 10^16 where the code joins texts as texts; where it joins them in a row of bytes: 10^8, and the second form (bulk). -/
import Derived.Test.YtefnkkjmcfpiaaaDoorLawRowT
import Derived.Test.YtefnkkjmcfpiaaaDoorLawRowS
import Derived.Test.YtefnkkjmcfpiaaaDoorLawRowF
import Derived.Test.YtefnkkjmcfpiaaaDoorLawRowW
namespace Go.Proofs.YtefnkkjmcfpiaaaDoor
open Go.RowKit
set_option linter.unusedVariables false

theorem textsL_up : ∀ (l : List (List UInt8)), (∀ t ∈ l, t.length ≤ 200000000000000) → (textsL l).length ≤ 16 * l.length + (l.map List.length).sum
  | [], _ => Nat.zero_le _
  | t :: l, h => by
    have h1 := textsL_up l (fun x hx => h x (List.mem_cons_of_mem _ hx))
    have h2 := decL_len t.length 15 (Nat.lt_of_le_of_lt (h t (List.mem_cons_self ..)) (by decide)) (by decide)
    rw [textsL_cons, List.length_append, List.length_cons, List.length_append, List.map_cons, List.sum_cons, List.length_cons]
    omega
theorem sum_up : ∀ (l : List (List UInt8)) (m : Nat), (∀ t ∈ l, t.length ≤ m) → (l.map List.length).sum ≤ l.length * m
  | [], _, _ => Nat.zero_le _
  | t :: l, m, h => by
    have h1 := sum_up l m (fun x hx => h x (List.mem_cons_of_mem _ hx))
    have h2 := h t (List.mem_cons_self ..)
    rw [List.map_cons, List.sum_cons, List.length_cons, Nat.succ_mul]
    omega
theorem sess_up (x : Sess) (h : ∀ t ∈ x.texts, t.length ≤ 200000000000000) : (textsL x.texts).length ≤ 9000000000000000 := by
  have h1 := textsL_up _ h
  have h2 := sum_up _ _ h
  have h3 : x.texts.length = 12 := rfl
  omega
theorem rowSessions_row {M : Nat} {w : World} (H : CodeRow w M) (hM : 10000000000000000 ≤ M) (x : Sess) {B : Nat} (h : x.ok ∧ (∀ t ∈ x.texts, t.length ≤ 200000000000000) ∧ (x.texts.map List.length).sum ≤ B + 42) :
    Calls Tryd.prog 5 #[x.val] w fun e w' => e = .returned (.bool true) ∧ Below w.heap.size w w' :=
  rowSessions_at H (by omega) x h.1 (by have := sess_up x h.2.1; omega) (sess_up x h.2.1)
theorem rowSessions_upto {M : Nat} {w : World} (H : CodeRow w M) (hM : 100000000 ≤ M) (x : Sess) {B : Nat} (h : x.ok ∧ (∀ t ∈ x.texts, t.length ≤ 200000000000000) ∧ (x.texts.map List.length).sum ≤ B + 42) (hb : B ≤ 1048576) :
    Calls Tryd.prog 5 #[x.val] w fun e w' => e = .returned (.bool true) ∧ Below w.heap.size w w' :=
  rowSessions_at H (by omega) x h.1 (by have h1 := textsL_up _ h.2.1; have h3 : x.texts.length = 12 := rfl; have := h.2.2; omega) (sess_up x h.2.1)
theorem cod_up (x : Cod) (h : ∀ t ∈ x.texts, t.length ≤ 200000000000000) : (textsL x.texts).length ≤ 9000000000000000 := by
  have h1 := textsL_up _ h
  have h2 := sum_up _ _ h
  have h3 : x.texts.length = 13 := rfl
  omega
theorem rowCodes_row {M : Nat} {w : World} (H : CodeRow w M) (hM : 10000000000000000 ≤ M) (x : Cod) {B : Nat} (h : x.ok ∧ (∀ t ∈ x.texts, t.length ≤ 200000000000000) ∧ (x.texts.map List.length).sum ≤ B + 42) :
    Calls Tryd.prog 6 #[x.val] w fun e w' => e = .returned (.bool true) ∧ Below w.heap.size w w' :=
  rowCodes_at H (by omega) x h.1 (by have := cod_up x h.2.1; omega) (cod_up x h.2.1)
theorem rowCodes_upto {M : Nat} {w : World} (H : CodeRow w M) (hM : 100000000 ≤ M) (x : Cod) {B : Nat} (h : x.ok ∧ (∀ t ∈ x.texts, t.length ≤ 200000000000000) ∧ (x.texts.map List.length).sum ≤ B + 42) (hb : B ≤ 1048576) :
    Calls Tryd.prog 6 #[x.val] w fun e w' => e = .returned (.bool true) ∧ Below w.heap.size w w' :=
  rowCodes_at H (by omega) x h.1 (by have h1 := textsL_up _ h.2.1; have h3 : x.texts.length = 13 := rfl; have := h.2.2; omega) (cod_up x h.2.1)
theorem rowFamilies_upto {M : Nat} {w : World} (H : CodeRow w M) (hM : 100000000 ≤ M) (x : Fam) (ov : Value) {B : Nat} (h : Strs13 w ov x.fOld ∧ (∀ t ∈ x.texts, t.length ≤ 200000000000000) ∧ (x.texts.map List.length).sum + x.fOld.length ≤ B + 1) (hb : B ≤ 1048576) :
    Calls Tryd.prog 7 #[x.val ov] w fun e w' => e = .returned (.bool true) ∧ Below w.heap.size w w' := by
  have h1 := textsL_up _ h.2.1
  have h2 : x.texts.length = 11 + x.fOld.length := by unfold Fam.texts; rw [List.length_append]; rfl
  have h3 := h.2.2
  exact rowFamilies_at H (by omega) x ov (by omega) (by omega) h.1.1
end Go.Proofs.YtefnkkjmcfpiaaaDoor
