/- JSON: the law's answers. -/
import Derived.Test.YtoijjcbcmjdggaaDoorJsonParse
import Derived.Test.YtoijjcbcmjdggaaDoorJsonPrint
import Derived.Test.YtoijjcbcmjdggaaDoorJsonField
namespace Go.Proofs.YtoijjcbcmjdggaaDoor
open Go.RowKit

def ansT : List UInt8 := [123, 34, 97, 34, 58, 91, 49, 44, 116, 114, 117, 101, 93, 125]
def ansX : V := .mk 5 0 [] [.mk 3 1 [] [] [], .mk 2 1 [] [] []] []
def ansV : V := .mk 6 0 [] [ansX] [[97]]
theorem ans_fits : ansV.fits 8 = true := by kernel_rfl
theorem ans_show : ansV.show = ansT := by kernel_rfl
theorem ans_parse : parseV ansT = (ansV, 0) := by
  unfold parseV
  rw [if_neg (by decide), readV_of (s := ansT) (v := ansV) ⟨⟨_, ans_fits⟩, ans_show⟩ (by decide)]
  simp only [ans_fits, if_true]
theorem ans_print : printV ansV = ansT := by kernel_rfl
theorem ans_field : fieldV [97] ansV = some ansX := by kernel_rfl
theorem ans_slim : ansV.slim 1000000 := by
  simp [ansV, ansX, V.slim, V.slims]
set_option maxRecDepth 100000 in
set_option maxHeartbeats 20000000 in
theorem answers_any (w : World) (hk : KitIn w.heap.size w) : Calls Tryd.prog 10 #[] w fun e w' => e = .returned (.bool true) ∧ Below w.heap.size w w' := by
  have hp := parse_any ansT (by decide) w hk
  rw [ans_parse] at hp
  have hp2 : Calls Tryd.prog 15 #[.string ⟨#[123, 34, 97, 34, 58, 91, 49, 44, 116, 114, 117, 101, 93, 125]⟩] w fun e w' => (∃ cs, e = .returned (.tuple #[.agg cs.toArray, .int .i64 0]) ∧ VIs w' w.heap.size w'.heap.size ansV cs) ∧ Below w.heap.size w w' := hp
  have HP := Lib.hid hp2; have HK := Lib.hid hk
  clear hp hp2 hk
  go_enter Tryd.func10, Tryd.ntmps10
  go_wp2_with fail
  refine (HP.out).mono ?_
  rintro e2 w2 ⟨⟨cs, rfl, hv⟩, hb2⟩
  dsimp only
  obtain ⟨A, c, A', c', rfl⟩ := hv.form
  have hcs : [Value.int .i64 ansV.kind, .int .i64 ansV.num, .string ⟨ansV.text.toArray⟩, .slice A ansV.list.length c, .slice A' ansV.keys.length c'] = [.int .i64 6, .int .i64 0, .string ⟨#[]⟩, .slice A 1 c, .slice A' 1 c'] := rfl
  rw [hcs] at hv ⊢
  have hv3 := hv.below ((Below.refl w2.heap.size w2).alloc (Nat.le_refl _) (.cells #[.int .i64 6, .int .i64 0, .string ⟨#[]⟩, .slice A 1 c, .slice A' 1 c'] 25))
  have hb3 := hb2.alloc hb2.size (.cells #[.int .i64 6, .int .i64 0, .string ⟨#[]⟩, .slice A 1 c, .slice A' 1 c'] 25)
  have r3 : (w2.alloc (.cells #[.int .i64 6, .int .i64 0, .string ⟨#[]⟩, .slice A 1 c, .slice A' 1 c'] 25)).heap[w2.heap.size]? = _ := heap_alloc_last w2 (.cells #[.int .i64 6, .int .i64 0, .string ⟨#[]⟩, .slice A 1 c, .slice A' 1 c'] 25)
  have hf := field_any ansV [97] _ _ _ _ ans_slim (by decide) hv3 (by simp)
  rw [ans_field] at hf
  have HB2 := Lib.hid hb2; have HB3 := Lib.hid hb3; have HF := Lib.hid hf; have R3 := Lib.hid r3; have HV3 := Lib.hid hv3
  clear hv hv3 hb2 hb3 r3 hf hcs
  go_wp2_with fail
  refine (HF.out).mono ?_
  rintro e4 w4 ⟨⟨ds, rfl, hx, -⟩, hb4⟩
  dsimp only
  obtain ⟨D, d, D', d', rfl⟩ := hx.form
  have hds : [Value.int .i64 ((some ansX).getD V.zero).kind, .int .i64 ((some ansX).getD V.zero).num, .string ⟨((some ansX).getD V.zero).text.toArray⟩, .slice D ((some ansX).getD V.zero).list.length d, .slice D' ((some ansX).getD V.zero).keys.length d'] = [.int .i64 5, .int .i64 0, .string ⟨#[]⟩, .slice D 2 d, .slice D' 0 d'] := rfl
  rw [hds] at hx ⊢
  have hsm : (some ansX).isSome = true := rfl
  rw [hsm]
  have hw5 := hb4.alloc hb4.size (.cells #[.int .i64 5, .int .i64 0, .string ⟨#[]⟩, .slice D 2 d, .slice D' 0 d'] 25)
  have r5 := (hw5.block w2.heap.size (by simp)).trans R3.out
  have x5 : (w4.alloc (.cells #[.int .i64 5, .int .i64 0, .string ⟨#[]⟩, .slice D 2 d, .slice D' 0 d'] 25)).heap[w4.heap.size]? = _ := heap_alloc_last w4 (.cells #[.int .i64 5, .int .i64 0, .string ⟨#[]⟩, .slice D 2 d, .slice D' 0 d'] 25)
  have hv5 := HV3.out.below (hw5.mono (by simp))
  have hsz4 := hb4.size
  simp only [World.size_alloc] at hsz4
  have hb5 : Below w.heap.size w (w4.alloc (.cells #[.int .i64 5, .int .i64 0, .string ⟨#[]⟩, .slice D 2 d, .slice D' 0 d'] 25)) := HB3.out.trans (hw5.mono (by have := HB2.out.size; simp; omega))
  obtain ⟨⟨e0, e1, e2, e3, e4⟩, -⟩ := box_of r5
  obtain ⟨⟨x0, x1, x2, x3, x4⟩, -⟩ := box_of x5
  have hpr := fun wq (hb : Below (w4.heap.size + 1) (w4.alloc (.cells #[.int .i64 5, .int .i64 0, .string ⟨#[]⟩, .slice D 2 d, .slice D' 0 d'] 25)) wq) => print_any ansV wq w.heap.size w2.heap.size [.int .i64 6, .int .i64 0, .string ⟨#[]⟩, .slice A 1 c, .slice A' 1 c'] (fun _ => by rw [ans_show]; decide) (hv5.below (hb.mono (by omega))) (by have := hb.size; simp at this; omega) ((HK.out.below (hb5.trans (hb.mono (by have := HB2.out.size; omega)))).more (by have := hb.size; have := HB2.out.size; simp at *; omega))
  rw [ans_print] at hpr
  have hgd := fun wq (hb : Below (w4.heap.size + 1) (w4.alloc (.cells #[.int .i64 5, .int .i64 0, .string ⟨#[]⟩, .slice D 2 d, .slice D' 0 d'] 25)) wq) => good_any ansV wq w.heap.size w2.heap.size [.int .i64 6, .int .i64 0, .string ⟨#[]⟩, .slice A 1 c, .slice A' 1 c'] (hv5.below (hb.mono (by omega))) (by have := hb.size; simp at this; omega)
  rw [ans_fits] at hgd
  have HPR := Lib.hid hpr; have HGD := Lib.hid hgd; have HB5 := Lib.hid hb5; have R5 := Lib.hid r5; have HSZ4 := Lib.hid hsz4
  clear hx hv5 hw5 hb4 hpr hgd hb5 r5 x5 hds hsm hsz4
  go_wp2_with fail
  have hpr := HPR.out _ (Below.refl _ _)
  refine hpr.mono ?_
  rintro e6 w6 ⟨rfl, hb6⟩
  dsimp only
  have hz6 := hb6.size
  simp only [World.size_alloc] at hz6
  have r6 := (hb6.block w2.heap.size (by have := HSZ4.out; simp; omega)).trans R5.out
  have hgd := HGD.out w6 (hb6.mono (by simp))
  have hb6w : Below w.heap.size w w6 := HB5.out.trans (hb6.mono (by have := HSZ4.out; have := HB2.out.size; simp; omega))
  clear hpr e0 e1 e2 e3 e4 x0 x1 x2 x3 x4
  obtain ⟨⟨e0, e1, e2, e3, e4⟩, -⟩ := box_of r6
  have HGD6 := Lib.hid hgd; have HB6 := Lib.hid hb6w; have HZ6 := Lib.hid hz6
  clear hgd hb6w hb6 hz6 r6
  have hq : (⟨ansT.toArray⟩ : ByteArray) = ⟨#[123, 34, 97, 34, 58, 91, 49, 44, 116, 114, 117, 101, 93, 125]⟩ := rfl
  rw [hq]
  clear hq
  go_wp2_with fail
  refine (HGD6.out).mono ?_
  rintro e8 w8 ⟨rfl, hb8⟩
  dsimp only
  have hb9 : Below w.heap.size w w8 := HB6.out.trans (hb8.mono (by have := HSZ4.out; have := HB2.out.size; have := HZ6.out; omega))
  have HB9 := Lib.hid hb9
  clear hb9 hb8
  go_wp2_with fail
  go_ret
  exact ⟨rfl, HB9.out⟩
end Go.Proofs.YtoijjcbcmjdggaaDoor
