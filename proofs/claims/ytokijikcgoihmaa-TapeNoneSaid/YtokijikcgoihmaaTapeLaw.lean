/- Layer 10: what the code's tape is to do; the laws out of that. -/
import Derived.Test.YtokijikcgoihmaaRdAt
import Derived.Test.YtokijikcgoihmaaTapePure
import Derived.Deep.RegionWith
import Derived.Deep.Cut
import Derived.Lib.SlBytesConst
namespace Go.Proofs.Ytokijikcgoihmaa
open Go.RowKit
set_option linter.unusedVariables false
set_option linter.unusedSimpArgs false

/-- what the code's tape does: CT w S p t: the tape at p lies in the blocks S, and is t -/
structure CodeTape (CT : World → (Nat → Prop) → Nat → TP → Prop) : Prop where
  keep : ∀ {w w' : World} {S : Nat → Prop} {p : Nat} {t : TP}, CT w S p t → w.heap.size ≤ w'.heap.size → (∀ b, S b → w'.heap[b]? = w.heap[b]?) → CT w' S p t
  lt : ∀ {w : World} {S : Nat → Prop} {p : Nat} {t : TP}, CT w S p t → ∀ b, S b → b < w.heap.size
  new : ∀ w, Calls Try.prog 8 #[] w fun e w' => (∃ p S, e = .returned (.pointer (some ⟨p, 0, none⟩)) ∧ CT w' S p TP.new ∧ ∀ b, S b → w.heap.size ≤ b) ∧ Below w.heap.size w w'
  write : ∀ (w : World) (S : Nat → Prop) (p : Nat) (t : TP) (bv : Value) (l : List UInt8), CT w S p t → t.Ok → t.b.length ≤ 100000000 → RdAt w bv l → l.length ≤ 100000 → (∀ g, bv.ownBlock = some g → ¬ S g) → Calls Try.prog 10 #[.pointer (some ⟨p, 0, none⟩), bv] w fun e w' =>
    e = .returned (.int .i64 (t.write l).2) ∧ (∃ S' : Nat → Prop, CT w' S' p (t.write l).1 ∧ ∀ b, S' b → S b ∨ w.heap.size ≤ b) ∧ Only S w w'
  sync : ∀ (w : World) (S : Nat → Prop) (p : Nat) (t : TP), CT w S p t → t.Ok → t.b.length ≤ 100000000 → Calls Try.prog 12 #[.pointer (some ⟨p, 0, none⟩)] w fun e w' =>
    e = .returned (.int .i64 t.sync.2) ∧ (∃ S' : Nat → Prop, CT w' S' p t.sync.1 ∧ ∀ b, S' b → S b ∨ w.heap.size ≤ b) ∧ Only S w w'
  swap : ∀ (w : World) (S : Nat → Prop) (p : Nat) (t : TP) (bv : Value) (l : List UInt8), CT w S p t → t.Ok → t.b.length ≤ 100000000 → RdAt w bv l → l.length ≤ 100000 → (∀ g, bv.ownBlock = some g → ¬ S g) → Calls Try.prog 14 #[.pointer (some ⟨p, 0, none⟩), bv] w fun e w' =>
    e = .returned (.int .i64 (t.swap l).2) ∧ (∃ S' : Nat → Prop, CT w' S' p (t.swap l).1 ∧ ∀ b, S' b → S b ∨ w.heap.size ≤ b) ∧ Only S w w'
  fuse : ∀ (w : World) (S : Nat → Prop) (p : Nat) (t : TP) (n : Int), CT w S p t → (Lit.int .i64 n).wf = true → Calls Try.prog 16 #[.pointer (some ⟨p, 0, none⟩), .int .i64 n] w fun e w' =>
    e = .returned (.tuple #[]) ∧ (∃ S' : Nat → Prop, CT w' S' p (t.setFuse n) ∧ ∀ b, S' b → S b ∨ w.heap.size ≤ b) ∧ Only S w w'
  crash : ∀ (w : World) (S : Nat → Prop) (p : Nat) (t : TP) (n : Int), CT w S p t → t.Ok → t.b.length ≤ 100000000 → (Lit.int .i64 n).wf = true → Calls Try.prog 17 #[.pointer (some ⟨p, 0, none⟩), .int .i64 n] w fun e w' =>
    e = .returned (.tuple #[]) ∧ (∃ S' : Nat → Prop, CT w' S' p (t.crash n) ∧ ∀ b, S' b → S b ∨ w.heap.size ≤ b) ∧ Only S w w'
  bytes : ∀ (w : World) (S : Nat → Prop) (p : Nat) (t : TP), CT w S p t → t.b.length ≤ 100000000 → Calls Try.prog 19 #[.pointer (some ⟨p, 0, none⟩)] w fun e w' =>
    (∃ A c, e = .returned (.slice A t.b.length c) ∧ RdAt w' (.slice A t.b.length c) t.b ∧ ∀ g, (Value.slice A t.b.length c).ownBlock = some g → w.heap.size ≤ g) ∧ Below w.heap.size w w'
  sure : ∀ (w : World) (S : Nat → Prop) (p : Nat) (t : TP), CT w S p t → Calls Try.prog 20 #[.pointer (some ⟨p, 0, none⟩)] w fun e w' => e = .returned (.int .i64 t.sure) ∧ Below w.heap.size w w'
  nwrite : ∀ (w : World) (bv : Value) (l : List UInt8), RdAt w bv l → Calls Try.prog 10 #[.pointer none, bv] w fun e w' => e = .returned (.int .i64 1) ∧ Below w.heap.size w w'
  nsync : ∀ (w : World), Calls Try.prog 12 #[.pointer none] w fun e w' => e = .returned (.int .i64 1) ∧ Below w.heap.size w w'
  nswap : ∀ (w : World) (bv : Value) (l : List UInt8), RdAt w bv l → Calls Try.prog 14 #[.pointer none, bv] w fun e w' => e = .returned (.int .i64 1) ∧ Below w.heap.size w w'
  nfuse : ∀ (w : World) (n : Int), Calls Try.prog 16 #[.pointer none, .int .i64 n] w fun e w' => e = .returned (.tuple #[]) ∧ Below w.heap.size w w'
  ncrash : ∀ (w : World) (n : Int), Calls Try.prog 17 #[.pointer none, .int .i64 n] w fun e w' => e = .returned (.tuple #[]) ∧ Below w.heap.size w w'
  nbytes : ∀ (w : World), Calls Try.prog 19 #[.pointer none] w fun e w' => (∃ A c, e = .returned (.slice A 0 c)) ∧ Below w.heap.size w w'
  nsure : ∀ (w : World), Calls Try.prog 20 #[.pointer none] w fun e w' => e = .returned (.int .i64 0) ∧ Below w.heap.size w w'
theorem CodeTape.below {CT : World → (Nat → Prop) → Nat → TP → Prop} (H : CodeTape CT) {w w' : World} {S : Nat → Prop} {p : Nat} {t : TP} (h : CT w S p t) (hb : Below w.heap.size w w') : CT w' S p t :=
  H.keep h hb.size fun b hb' => hb.block b (H.lt h b hb')
theorem CodeTape.only {CT : World → (Nat → Prop) → Nat → TP → Prop} (H : CodeTape CT) {w w' : World} {S X : Nat → Prop} {p : Nat} {t : TP} (h : CT w S p t) (ho : Only X w w') (hd : ∀ b, S b → ¬ X b) : CT w' S p t :=
  H.keep h ho.size fun b hb' => ho.block b (H.lt h b hb') (hd b hb')
def tAns1 : TP := ⟨[97, 98], 0, -1, false⟩
theorem tAns_write : TP.new.write [97, 98] = (tAns1, 0) := by decide +kernel
theorem tAns_crash : tAns1.crash 1 = ⟨[97], 1, -1, false⟩ := by decide +kernel
set_option maxRecDepth 100000 in
set_option maxHeartbeats 4000000 in
theorem answers10_any {CT : World → (Nat → Prop) → Nat → TP → Prop} (H : CodeTape CT) (w : World) : Calls Try.prog 7 #[] w fun e w' => e = .returned (.bool true) ∧ Below w.heap.size w w' := by
  have HH := Lib.hid H
  go_enter Try.func7, Try.ntmps7
  go_wp2_with fail
  refine (H.new w).mono ?_
  rintro e w1 ⟨⟨p, S, rfl, ct, hS⟩, hb1⟩
  obtain ⟨W1, hW1⟩ : ∃ W1, W1 = w1.alloc (.cells #[.int .u8 97, .int .u8 98] 5 (2, 3)) := ⟨_, rfl⟩
  have b2 : Below w1.heap.size w1 W1 := by rw [hW1]; exact (Below.refl w1.heap.size w1).alloc (Nat.le_refl _) _
  have k1 : W1.heap[w1.heap.size]? = some (.cells #[.int .u8 97, .int .u8 98] 5 (2, 3)) := by rw [hW1]; exact heap_alloc_last w1 _
  have r1 : RdAt W1 (.slice (some ⟨w1.heap.size, 0, none⟩) 2 2) [97, 98] := ⟨_, 2, rfl, Nat.le_refl _, by decide, .inr ⟨w1.heap.size, 0, rfl, (Array.getElem?_eq_some_iff.1 k1).1, fun j u hu => by
    rw [Addr.add_lit, Nat.zero_add, cell_here k1]; simpa [cells] using hu⟩⟩
  have ct1 := H.below ct b2
  have hw := H.write W1 S p TP.new _ [97, 98] ct1 TP.new_ok (by decide) r1 (by decide) (fun g hg hs => by have hg2 : some w1.heap.size = some g := hg; injection hg2 with hg2; have := H.lt ct g hs; omega)
  rw [tAns_write] at hw
  have HW := Lib.hid hw; have HB1 := Lib.hid hb1; have HS := Lib.hid hS
  have HB2 := Lib.hid b2
  have hcv := fun (w : World) (C : Array Value) (n c : Nat) => Lib.run_convert_bytes_const (P := Try.prog) w 28 5 C n c Try.underlying28 Try.underlying5
  have HW1 := Lib.hid hW1
  clear hw hb1 hS r1 ct ct1 b2 H k1 hW1
  dsimp only
  go_wp2_with fail
  clear hcv
  change Calls _ _ _ (w1.alloc (.cells #[.int .u8 97, .int .u8 98] 5 (2, 3))) _
  rw [← HW1.out]
  refine HW.out.mono ?_
  rintro e w2 ⟨rfl, ⟨S2, ct2, hS2⟩, ho2⟩
  have B2 : Below w.heap.size w w2 := (HB1.out.chain HB2.out).trans (ho2.below (Nat.le_trans HB1.out.size HB2.out.size) HS.out)
  have hS2' : ∀ b, S2 b → w.heap.size ≤ b := fun b hb => by
    rcases hS2 b hb with h | h
    · exact HS.out b h
    · exact Nat.le_trans (Nat.le_trans HB1.out.size HB2.out.size) h
  have hc := HH.out.crash w2 S2 p tAns1 1 ct2 ⟨by decide, by decide, by decide⟩ (by decide) (by decide)
  rw [tAns_crash] at hc
  have HC := Lib.hid hc; have HB := Lib.hid B2; have HS2 := Lib.hid hS2'
  clear hc B2 hS2' hS2 ct2 ho2
  dsimp only
  go_wp2_with fail
  refine HC.out.mono ?_
  rintro e w3 ⟨rfl, ⟨S3, ct3, hS3⟩, ho3⟩
  have B3 : Below w.heap.size w w3 := HB.out.trans (ho3.below HB.out.size HS2.out)
  have hby := HH.out.bytes w3 S3 p _ ct3 (show ([97] : List UInt8).length ≤ _ by decide)
  have hsu := fun W (hb : Below w3.heap.size w3 W) => HH.out.sure W S3 p _ (HH.out.below ct3 hb)
  have HY := Lib.hid hby; have HU := Lib.hid hsu; have HB3 := Lib.hid B3
  clear hby hsu B3 ct3 hS3 ho3
  dsimp only
  go_wp2_with fail
  refine HY.out.mono ?_
  rintro e w4 ⟨⟨A, c, rfl, hrd, -⟩, hb4⟩
  have htx : (convert 28 9 (.slice A 1 c)).run Try.prog w4 = _ := hrd.text
  have HB4 := Lib.hid hb4
  clear hrd hb4
  dsimp only
  go_wp2_with fail
  refine (HU.out _ HB4.out).mono ?_
  rintro e w5 ⟨rfl, hb5⟩
  have HB5 := Lib.hid (HB3.out.chain (HB4.out.chain hb5)); clear hb5
  dsimp only
  go_wp2
  go_ret
  exact ⟨rfl, HB5.out⟩
end Go.Proofs.Ytokijikcgoihmaa
