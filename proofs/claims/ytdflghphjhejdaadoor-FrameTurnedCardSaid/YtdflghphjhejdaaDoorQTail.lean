/- A region that draws its order: all operations but the last few only read, and those are forced: the reads by the cheap quiet walk. -/
import Derived.StillTail
import Derived.BigQuiet
import Derived.Deep.DrawnRows
namespace Go.Proofs.YtdflghphjhejdaaDoor

theorem still_of_quiet {P : Program} {ops : Array Oper} {w1 : World} {Q : Act → Prop} : ∀ (l : List Oper) (a : Act), wpQuiet P ops (fun w => w = w1) Q l a → wpStill P ops w1 Q l a
  | [], _, h => h
  | o :: rest, a, h => by
    unfold wpStill
    unfold wpQuiet at h
    split at h
    · rename_i hw
      rw [if_pos hw]
      obtain ⟨v, hv, hn⟩ := h
      have h1 := hv w1 rfl
      unfold Oper.quietAt at h1
      unfold Oper.still
      generalize (execOp a.eval o).run P w1 = r at *
      cases r with
      | halt x w' => exact h1.elim
      | ok n w' =>
        cases n <;> simp only [Oper.quietUpon, Oper.stillUpon] at h1 ⊢
        case value u =>
          obtain ⟨e1, e2⟩ := h1
          exact ⟨e1, by rw [e2]; exact still_of_quiet rest _ hn⟩
        case skip =>
          obtain ⟨e1, e2⟩ := h1
          exact ⟨e1, by rw [← e2]; exact still_of_quiet rest _ hn⟩
        case enter f args =>
          obtain ⟨e1, hc⟩ := h1
          exact ⟨e1, v, hc, still_of_quiet rest _ hn⟩
        all_goals exact h1.elim
    · rename_i hw
      rw [if_neg hw]
      exact still_of_quiet rest _ h
theorem wp_region_quiet_tail {P : Program} {id : Nat} {Q : Exit → Act → World → Prop} {a : Act} {w : World} {l : List Oper} (n : Nat) (hm : P.follows .mixedOrders = true) (hB : Region.lexTailB .any l.toArray n = true)
    (h : wpQuiet P l.toArray (fun w' => w' = w.drew) (fun a' => wpList P l.toArray Q (l.drop n) a' w.drew) (l.take n) a) : (Code.region id l.toArray true).wp P Q a w :=
  wp_region_still_tail n hm hB (still_of_quiet _ _ h)
end Go.Proofs.YtdflghphjhejdaaDoor
