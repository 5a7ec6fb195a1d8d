/- Layer 13: the landed rows do what rows are to do; the laws, as the rows ask them. -/
import Derived.Test.YtefnkkjmcfpiaaaDoorRowPrint
import Derived.Test.YtefnkkjmcfpiaaaDoorRowReads
import Derived.Test.YtefnkkjmcfpiaaaDoorRowReadF
import Derived.Test.YtefnkkjmcfpiaaaDoorRowHold
namespace Go.Proofs.YtefnkkjmcfpiaaaDoor
open Go.RowKit
set_option linter.unusedVariables false

theorem codeRow {w : World} (hk : KitIn w.heap.size w) : CodeRow w 100000000000000 where
  texts := fun W hb A c l hl h => texts13_any A c l hl W h (hk.later hb)
  split := fun W hb s hs => (split13_any s hs W (hk.later hb)).mono fun e w' ⟨h, hb⟩ => ⟨h.imp (fun ⟨l, v, h1, h2, h3⟩ => ⟨l, v, h1, h2, h3.rd⟩) (fun ⟨h1, h2⟩ => ⟨h1, none, 0, h2⟩), hb⟩
  session := fun W hb x hx hl => cSession13_any x hx hl W (hk.later hb)
  readSession := fun W hb s hs => cReadSession13_any s hs W (hk.later hb)
  code := fun W hb x hx hl => cCode13_any x hx hl W (hk.later hb)
  readCode := fun W hb s hs => cReadCode13_any s hs W (hk.later hb)
  family := fun W hb x ov ho hl => cFamily13_any x ov hl W ho (hk.later hb)
  readFamily := fun W hb s hs => cReadFamily13_any s hs W (hk.later hb)
theorem rowTexts_go (A : Option Addr) (c : Nat) (l : List (List UInt8)) {w : World} (hl : Strs13 w (.slice A l.length c) l) (hk : KitIn w.heap.size w) :
    Calls Tryd.prog 3 #[.slice A l.length c] w fun e w' => e = .returned (.bool true) ∧ Below w.heap.size w w' :=
  rowTexts_at (codeRow hk) (by decide) A c l hl
theorem rowSplits_go (s : ByteArray) (hs : s.size ≤ maxLen) (w : World) (hk : KitIn w.heap.size w) :
    Calls Tryd.prog 4 #[.string s] w fun e w' => e = .returned (.bool true) ∧ Below w.heap.size w w' :=
  rowSplits_at (codeRow hk) (by decide) s
theorem rowUnlike_go (A : Option Addr) (c : Nat) (l : List (List UInt8)) (A' : Option Addr) (c' : Nat) (l' : List (List UInt8)) {w : World} (hl : Strs13 w (.slice A l.length c) l) (hl' : Strs13 w (.slice A' l'.length c') l') (hk : KitIn w.heap.size w) :
    Calls Tryd.prog 9 #[.slice A l.length c, .slice A' l'.length c'] w fun e w' => e = .returned (.bool true) ∧ Below w.heap.size w w' :=
  rowUnlike_at (codeRow hk) (by decide) A c l A' c' l' hl hl'
theorem rowWrong_go (s : ByteArray) (hs : s.size ≤ maxLen) (w : World) (hk : KitIn w.heap.size w) :
    Calls Tryd.prog 8 #[.string s] w fun e w' => e = .returned (.bool true) ∧ Below w.heap.size w w' :=
  rowWrong_at (codeRow hk) (by decide) s
theorem bulk_one {H : Type} {d : DataW H} {B : Nat} (h : Rows.uptoBulkAll [d] ≤ B) : Rows.uptoBulk d ≤ B := by
  rw [bulkAll_consR, bulkAll_nilR] at h
  omega
theorem rowSessions_go {H : Type} {d : DataW H} (x : Sess) {w : World} (h : x.ok ∧ (∀ t ∈ x.texts, t.length ≤ 200000000000000) ∧ (x.texts.map List.length).sum ≤ Rows.uptoBulk d + 42) (hb : Rows.uptoBulkAll [d] ≤ 1048576) (hk : KitIn w.heap.size w) :
    Calls Tryd.prog 5 #[x.val] w fun e w' => e = .returned (.bool true) ∧ Below w.heap.size w w' :=
  rowSessions_upto (codeRow hk) (by decide) x h (bulk_one hb)
theorem rowCodes_go {H : Type} {d : DataW H} (x : Cod) {w : World} (h : x.ok ∧ (∀ t ∈ x.texts, t.length ≤ 200000000000000) ∧ (x.texts.map List.length).sum ≤ Rows.uptoBulk d + 42) (hb : Rows.uptoBulkAll [d] ≤ 1048576) (hk : KitIn w.heap.size w) :
    Calls Tryd.prog 6 #[x.val] w fun e w' => e = .returned (.bool true) ∧ Below w.heap.size w w' :=
  rowCodes_upto (codeRow hk) (by decide) x h (bulk_one hb)
theorem rowFamilies_go {H : Type} {d : DataW H} (x : Fam) (ov : Value) {w : World} (h : Strs13 w ov x.fOld ∧ (∀ t ∈ x.texts, t.length ≤ 200000000000000) ∧ (x.texts.map List.length).sum + x.fOld.length ≤ Rows.uptoBulk d + 1) (hb : Rows.uptoBulkAll [d] ≤ 1048576) (hk : KitIn w.heap.size w) :
    Calls Tryd.prog 7 #[x.val ov] w fun e w' => e = .returned (.bool true) ∧ Below w.heap.size w w' :=
  rowFamilies_upto (codeRow hk) (by decide) x ov h (bulk_one hb)
end Go.Proofs.YtefnkkjmcfpiaaaDoor
