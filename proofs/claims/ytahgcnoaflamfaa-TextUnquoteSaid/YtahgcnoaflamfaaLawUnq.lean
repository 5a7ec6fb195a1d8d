/- TextUnquote's walk. -/
import Derived.Test.YtahgcnoaflamfaaLawPlain
namespace Go.Proofs.Ytahgcnoaflamfaa
open Go.RowKit

def hexL (n : Nat) : UInt8 := (#[48, 49, 50, 51, 52, 53, 54, 55, 56, 57, 97, 98, 99, 100, 101, 102] : Array UInt8).getD n 0
def hexLBytes : ByteArray := ⟨#[48, 49, 50, 51, 52, 53, 54, 55, 56, 57, 97, 98, 99, 100, 101, 102]⟩
theorem hexL_at {n : Nat} (h : n < hexLBytes.size) : hexLBytes[n] = hexL n := by
  have h' : n < hexLBytes.data.size := h
  show hexLBytes.data[n] = hexLBytes.data.getD n 0
  rw [Array.getD_eq_getD_getElem?, Array.getElem?_eq_getElem h']; rfl

theorem both_all : ∀ n : Nat, n < 256 → unq [43, 37, hexL (n / 16), hexU (n % 16)] = some [32, UInt8.ofNat n] ∧ unq [43, 37, hexL (n / 16)] = none ∧ unq [43, 37] = none ∧ unq [37, 103, hexL (n % 16)] = none := by decide +kernel

theorem hexL_lit {n : Nat} (h : n < (ByteArray.mk #[48, 49, 50, 51, 52, 53, 54, 55, 56, 57, 97, 98, 99, 100, 101, 102]).size) : (ByteArray.mk #[48, 49, 50, 51, 52, 53, 54, 55, 56, 57, 97, 98, 99, 100, 101, 102])[n] = hexL n := hexL_at h
theorem hexU_lit {n : Nat} (h : n < (ByteArray.mk #[48, 49, 50, 51, 52, 53, 54, 55, 56, 57, 65, 66, 67, 68, 69, 70]).size) : (ByteArray.mk #[48, 49, 50, 51, 52, 53, 54, 55, 56, 57, 65, 66, 67, 68, 69, 70])[n] = hexU n := hexU_at h
theorem app4 (x y : UInt8) : ByteArray.mk #[43, 37] ++ ByteArray.mk #[x, y] = ByteArray.mk #[43, 37, x, y] := by
  apply ByteArray.ext; simp [ByteArray.data_append]

theorem app3 (y : UInt8) : ByteArray.mk #[37] ++ ByteArray.mk #[103, y] = ByteArray.mk #[37, 103, y] := by
  apply ByteArray.ext; simp [ByteArray.data_append]

theorem conv_newD (w : World) (l : List UInt8) (cs : Array Value) (n c : Nat) (hn : n = l.length) (h : cs.toList = cells l) :
    (convert 31 9 (.slice (some ⟨w.heap.size, 0, none⟩) n c)).run Try.prog (w.alloc (.cells cs 5)).drew = .ok (.string ⟨l.toArray⟩) (w.alloc (.cells cs 5)).drew := by
  subst hn
  refine run_convert_bytes_back (P := Try.prog) _ 31 9 5 ⟨w.heap.size, 0, none⟩ c l Try.underlying31 Try.underlying5 Try.underlying9 (fun j hj => ?_)
  exact new_cells w cs 5 j _ (by rw [h]; simp [cells, hj])

set_option maxRecDepth 100000 in
theorem textUnquote_law (a n : Int) (ha : (Lit.int .u8 a).wf = true) (hn : (Lit.int .u8 n).wf = true) (w : World) :
    Calls Try.prog 9 #[.int .u8 a, .int .u8 n] w fun e w' => e = .returned (.bool true) ∧ Below w.heap.size w w' := by
  obtain ⟨c, rfl⟩ := byte_ex ha
  obtain ⟨n0, n1⟩ := byte_of_wf hn
  have hc := c.toNat_lt
  clear ha hn
  have kc := fun (x y : UInt8) => conv_newD w [x, y] #[.int .u8 (x.toNat : Int), .int .u8 (y.toNat : Int)] 2 2 rfl rfl
  have a1 : 0 ≤ (c.toNat : Int) / 16 := by omega
  have a2 : (c.toNat : Int) / 16 < 16 := by omega
  have b1 : 0 ≤ (c.toNat : Int) % 16 := by omega
  have b2 : (c.toNat : Int) % 16 < 16 := by omega
  have e1 : IntKind.u8.wrap ((c.toNat : Int) / 16) = (c.toNat : Int) / 16 := by rw [IntKind.wrap_u8]; omega
  have e2 : (c.toNat : Int).tmod 16 = (c.toNat : Int) % 16 := Int.tmod_eq_emod_of_nonneg (by omega)
  have e3 : IntKind.u8.wrap ((c.toNat : Int) % 16) = (c.toNat : Int) % 16 := by rw [IntKind.wrap_u8]; omega
  go_enter Try.func9, Try.ntmps9
  go_wp2
  go_region
  clear kc e1 e2 e3
  obtain ⟨u1, u2, u3, u4⟩ := both_all c.toNat hc
  rw [UInt8.ofNat_toNat] at u1
  have U := Lib.hid (And.intro u1 (And.intro u2 (And.intro u3 u4)))
  clear u1 u2 u3 u4
  rcases (show n % 2 = 0 ∨ n % 2 = 1 by omega) with hn | hn
  · go_wp2_with fail
    simp only [hexL_lit, hexU_lit, app4]
    refine (unquote_yes ⟨#[43, 37, hexL (c.toNat / 16), hexU (c.toNat % 16)]⟩ [32, c] U.out.1 (Nat.le_of_ble_eq_true rfl) _).mono ?_
    rintro e w1 ⟨rfl, hb1⟩
    go_wp2_with fail
    refine (unquote_no (ByteArray.extract ⟨#[43, 37, hexL (c.toNat / 16), hexU (c.toNat % 16)]⟩ 0 3) U.out.2.1 (Nat.le_of_ble_eq_true rfl) _).mono ?_
    rintro e w2 ⟨rfl, hb2⟩
    have k2 := fun (y : UInt8) => conv_new w2 [103, y] #[.int .u8 103, .int .u8 (y.toNat : Int)] 2 2 rfl rfl
    go_wp2_with fail
    simp only [hexL_lit, app3]
    clear k2
    refine (unquote_no ⟨#[37, 103, hexL (c.toNat % 16)]⟩ U.out.2.2.2 (Nat.le_of_ble_eq_true rfl) _).mono ?_
    rintro e w3 ⟨rfl, hb3⟩
    go_wp2_with fail
    refine (answers_any _).mono ?_
    rintro e w4 ⟨rfl, hb4⟩
    have k4 := conv_new w4 [32, c] #[.int .u8 32, .int .u8 (c.toNat : Int)] 2 2 rfl rfl
    go_wp2
    go_ret
    have hC := (((Below.alloc (Below.refl _ _) (Nat.le_refl _) _).drew.chain hb1).chain hb2)
    have hE := ((hC.alloc hC.size _).chain hb3).chain hb4
    exact ⟨rfl, hE.alloc hE.size _⟩
  · go_wp2_with fail
    simp only [hexL_lit, hexU_lit, app4]
    refine (unquote_yes ⟨#[43, 37, hexL (c.toNat / 16), hexU (c.toNat % 16)]⟩ [32, c] U.out.1 (Nat.le_of_ble_eq_true rfl) _).mono ?_
    rintro e w1 ⟨rfl, hb1⟩
    go_wp2_with fail
    refine (unquote_no (ByteArray.extract ⟨#[43, 37, hexL (c.toNat / 16), hexU (c.toNat % 16)]⟩ 0 2) U.out.2.2.1 (Nat.le_of_ble_eq_true rfl) _).mono ?_
    rintro e w2 ⟨rfl, hb2⟩
    have k2 := fun (y : UInt8) => conv_new w2 [103, y] #[.int .u8 103, .int .u8 (y.toNat : Int)] 2 2 rfl rfl
    go_wp2_with fail
    simp only [hexL_lit, app3]
    clear k2
    refine (unquote_no ⟨#[37, 103, hexL (c.toNat % 16)]⟩ U.out.2.2.2 (Nat.le_of_ble_eq_true rfl) _).mono ?_
    rintro e w3 ⟨rfl, hb3⟩
    go_wp2_with fail
    refine (answers_any _).mono ?_
    rintro e w4 ⟨rfl, hb4⟩
    have k4 := conv_new w4 [32, c] #[.int .u8 32, .int .u8 (c.toNat : Int)] 2 2 rfl rfl
    go_wp2
    go_ret
    have hC := (((Below.alloc (Below.refl _ _) (Nat.le_refl _) _).drew.chain hb1).chain hb2)
    have hE := ((hC.alloc hC.size _).chain hb3).chain hb4
    exact ⟨rfl, hE.alloc hE.size _⟩
end Go.Proofs.Ytahgcnoaflamfaa
