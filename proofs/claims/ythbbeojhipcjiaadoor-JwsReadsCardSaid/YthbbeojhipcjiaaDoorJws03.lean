/- Texts merged by program, in build order: Sum8, HashTurn, HashSpread, HashStir, HashPrinted. -/
import Derived.Test.YthbbeojhipcjiaaDoorJws02
namespace Go.Proofs.YthbbeojhipcjiaaDoor
open Go.RowKit

/-- the bytes of the first words -/
def outN (s : S8) : Nat → List UInt8
  | 0 => []
  | k + 1 => outN s k ++ byte4 (s.get k)
theorem outN_len (s : S8) (k : Nat) : (outN s k).length = 4 * k := by
  induction k with
  | zero => rfl
  | succ k ih => rw [outN, List.length_append, ih]; show 4 * k + 4 = _; omega
theorem outN_all (s : S8) : outN s 8 = outL s := rfl
theorem byte4_cells (x : UInt32) : cells (byte4 x) = [Value.int .u8 (IntKind.u8.wrap ((x.toNat : Int) / 16777216)), .int .u8 (IntKind.u8.wrap ((x.toNat : Int) / 65536)), .int .u8 (IntKind.u8.wrap ((x.toNat : Int) / 256)), .int .u8 (IntKind.u8.wrap (x.toNat : Int))] := by
  have e : ∀ n : Nat, ((UInt8.ofNat n).toNat : Int) = (n : Int) % 256 := fun n => by rw [UInt8.toNat_ofNat']; omega
  have g : ∀ n : Int, IntKind.u8.wrap n = n % 256 := fun n => by rw [IntKind.wrap_u8]
  unfold byte4 cells
  simp only [List.map_cons, List.map_nil, e, g]
  have h1 : ((x.toNat / 16777216 : Nat) : Int) = (x.toNat : Int) / 16777216 := by omega
  have h2 : ((x.toNat / 65536 : Nat) : Int) = (x.toNat : Int) / 65536 := by omega
  have h3 : ((x.toNat / 256 : Nat) : Int) = (x.toNat : Int) / 256 := by omega
  rw [h1, h2, h3]
set_option maxRecDepth 100000 in
set_option maxHeartbeats 2000000 in
theorem refOut_loop {x0 x1 x2 x3 x5 x6 x7 x8 x9 x10 x11 x12 x13 x14 x15 x16 x17 x18 x19 x22 x23 x24 x25 x26 x27 x28 x29 x30 x31 x32 x33 x34 x35 x36 x37 x38 x39 x40 x41 x42 x43 x44 x45 x46 x47 x48 x49 x50 x51 x52 x53 x54 x55 x56 x57 x58 x59 x60 x61 x62 x63 x64 x65 x66 x67 x68 x69 x70 x71 x72 x73 x74 x75 x76 x77 x78 x79 x80 x81 x82 x83 x84 x85 x86 x87 x88 x89 x90 x91 x92 x93 x94 x95 x96 x97 x98 x99 x100 x101 x102 x103 x104 x105 x106 x107 x108 x109 x110 x111 x112 x113 x114 x115 x116 x117 x118 x119 x120 x121 x122 x123 x124 x125 x126 x127 x128 x129 x130 x131 x132 x133 x134 x135 x136 x137 x138 x139 x140 x141 x142 x143 x144 x145 x146 x147 x148 x149 x150 x151 x152 x153 x154 x155 x156 x157 x158 x159 x160 x161 x162 x163 x164 x165 x166 x167 x168 x169 x170 x171 x172 x173 x174 x175 x176 x177 x178 x179 x180 x181 x182 x183 x184 x185 x186 x187 x188 x189 x190 x191 x192 x193 x194 x195 x196 x197 x198 x199 x200 x201 x202 x203 x204 x205 x206 x207 x208 x209 x210 x211 x212 x213 x214 x215 x216 x217 x218 x219 x220 x221 x222 x223 x224 x225 x226 x227 x228 x229 x230 x231 x232 x233 x234 x235 x236 x237 x238 x239 x240 x241 x242 x243 x244 x245 x246 x247 x248 x249 x250 x251 x252 x253 x254 x255 x256 x257 x258 x259 x260 x261 x262 x263 x264 x265 x266 x267 x268 x269 x270 x271 x272 x273 x274 x275 x276 : Value} (X : World) (s : S8) (hb : Nat) (Q : Exit → Act → World → Prop) (hH : X.heap[hb]? = some (.cells (h0Cells s) 87))
    (hexit : ∀ (y21 y249 y250 y251 y252 y253 y254 y255 y256 y257 y258 y259 y260 y261 y262 y263 y264 y265 y266 y267 y268 y269 y270 y271 y272 y273 y274 : Value) (v : Value) W, Buf W X.heap.size v (outL s) → Below X.heap.size X W → Q (.exit 14) ⟨#[x0, x1, x2, x3, .pointer (some ⟨hb, 0, none⟩), x5, x6, x7, x8, x9, x10, x11, x12, x13, x14, x15, x16, x17, x18, x19, v, y21, x22, x23, x24, x25, x26, x27, x28, x29, x30, x31, x32, x33, x34, x35, x36, x37, x38, x39, x40, x41, x42, x43, x44, x45, x46, x47, x48, x49, x50, x51, x52, x53, x54, x55, x56, x57, x58, x59, x60, x61, x62, x63, x64, x65, x66, x67, x68, x69, x70, x71, x72, x73, x74, x75, x76, x77, x78, x79, x80, x81, x82, x83, x84, x85, x86, x87, x88, x89, x90, x91, x92, x93, x94, x95, x96, x97, x98, x99, x100, x101, x102, x103, x104, x105, x106, x107, x108, x109, x110, x111, x112, x113, x114, x115, x116, x117, x118, x119, x120, x121, x122, x123, x124, x125, x126, x127, x128, x129, x130, x131, x132, x133, x134, x135, x136, x137, x138, x139, x140, x141, x142, x143, x144, x145, x146, x147, x148, x149, x150, x151, x152, x153, x154, x155, x156, x157, x158, x159, x160, x161, x162, x163, x164, x165, x166, x167, x168, x169, x170, x171, x172, x173, x174, x175, x176, x177, x178, x179, x180, x181, x182, x183, x184, x185, x186, x187, x188, x189, x190, x191, x192, x193, x194, x195, x196, x197, x198, x199, x200, x201, x202, x203, x204, x205, x206, x207, x208, x209, x210, x211, x212, x213, x214, x215, x216, x217, x218, x219, x220, x221, x222, x223, x224, x225, x226, x227, x228, x229, x230, x231, x232, x233, x234, x235, x236, x237, x238, x239, x240, x241, x242, x243, x244, x245, x246, x247, x248, y249, y250, y251, y252, y253, y254, y255, y256, y257, y258, y259, y260, y261, y262, y263, y264, y265, y266, y267, y268, y269, y270, y271, y272, y273, y274, x275, x276], []⟩ W) :
    Code.wp Tryd.prog (refLoop 42) Q ⟨#[x0, x1, x2, x3, .pointer (some ⟨hb, 0, none⟩), x5, x6, x7, x8, x9, x10, x11, x12, x13, x14, x15, x16, x17, x18, x19, .slice none 0 0, .int .i64 0, x22, x23, x24, x25, x26, x27, x28, x29, x30, x31, x32, x33, x34, x35, x36, x37, x38, x39, x40, x41, x42, x43, x44, x45, x46, x47, x48, x49, x50, x51, x52, x53, x54, x55, x56, x57, x58, x59, x60, x61, x62, x63, x64, x65, x66, x67, x68, x69, x70, x71, x72, x73, x74, x75, x76, x77, x78, x79, x80, x81, x82, x83, x84, x85, x86, x87, x88, x89, x90, x91, x92, x93, x94, x95, x96, x97, x98, x99, x100, x101, x102, x103, x104, x105, x106, x107, x108, x109, x110, x111, x112, x113, x114, x115, x116, x117, x118, x119, x120, x121, x122, x123, x124, x125, x126, x127, x128, x129, x130, x131, x132, x133, x134, x135, x136, x137, x138, x139, x140, x141, x142, x143, x144, x145, x146, x147, x148, x149, x150, x151, x152, x153, x154, x155, x156, x157, x158, x159, x160, x161, x162, x163, x164, x165, x166, x167, x168, x169, x170, x171, x172, x173, x174, x175, x176, x177, x178, x179, x180, x181, x182, x183, x184, x185, x186, x187, x188, x189, x190, x191, x192, x193, x194, x195, x196, x197, x198, x199, x200, x201, x202, x203, x204, x205, x206, x207, x208, x209, x210, x211, x212, x213, x214, x215, x216, x217, x218, x219, x220, x221, x222, x223, x224, x225, x226, x227, x228, x229, x230, x231, x232, x233, x234, x235, x236, x237, x238, x239, x240, x241, x242, x243, x244, x245, x246, x247, x248, x249, x250, x251, x252, x253, x254, x255, x256, x257, x258, x259, x260, x261, x262, x263, x264, x265, x266, x267, x268, x269, x270, x271, x272, x273, x274, x275, x276], []⟩ X := by
  obtain ⟨i0, hi, hz0, hz1, hz2⟩ := info_parts Tryd.infoByte
  have HE := Lib.hid hexit; clear hexit
  have HH := Lib.hid hH
  have hlt : hb < X.heap.size := (Array.getElem?_eq_some_iff.1 hH).1
  clear hH
  dsimp only []
  conv => arg 2; whnf
  go_loopw [20, 21] (fun v i W => ∃ k : Nat, k ≤ 8 ∧ i = .int .i64 (k : Int) ∧ Buf W X.heap.size v (outN s k) ∧ Below X.heap.size X W) (fun _ i _ => 8 - (intOf i).toNat)
  case atStart => exact ⟨0, by omega, rfl, ⟨rfl, Or.inl ⟨rfl, rfl⟩⟩, Below.refl _ _⟩
  case round =>
    obtain ⟨k, hk, rfl, hown, hbl⟩ := hrel
    have hbs := hbl.size
    by_cases hk8 : k < 8
    · have hd : decide ((k : Int) < 8) = true := by simp; omega
      have bk : (k : Int) < 8 := by omega
      have hS := (hbl.block hb hlt).trans HH.out
      have d2 : wr.cell? ⟨hb, k, none⟩ = some (.int .u32 ((s.get k).toNat : Int)) := by rw [cell_of_heap hS, eightC_s, eightC_at _ _ hk8]
      have hl := outN_len s k
      have hc4 := byte4_cells (s.get k)
      have hn : outN s (k + 1) = outN s k ++ byte4 (s.get k) := rfl
      have hx : (s.get k).toNat < 4294967296 := (s.get k).toNat_lt
      have hb4 : (byte4 (s.get k)).length = 4 := rfl
      generalize byte4 (s.get k) = b4 at *
      generalize (s.get k).toNat = x at *
      have HC := Lib.hid hc4; have HN := Lib.hid hn; have HL := Lib.hid hl; have HB4 := Lib.hid hb4; clear hc4 hn hS hl hb4
      go_wp2
      have hltw : hb < wr.drew.heap.size := Nat.lt_of_lt_of_le hlt hbs
      have hne := World.new_ne wr ⟨hb, k, none⟩ d2
      go_region_held3 (fun w' => w'.cell? ⟨hb, k, none⟩ = some (.int .u32 (x : Int))) (first | go_keep | exact (((Below.refl X.heap.size _).grown hg' (by simp; omega) (fun j hj => (hown.lt j hj).1)).cell (p := ⟨hb, k, none⟩) hlt).trans ((old_at wr.drew _ hb k hltw).trans d2))
        ((refine step_append_own rfl (.tmp 253) (.tmp 273) 67 rfl X.heap.size 5 i0 _ 1 1 Tryd.underlying67 hi hz0 hz1 hz2 rfl (by decide) _ _ _ rfl (World.ownsRow.alloc (World.ownsRow.drew hown) _) ⟨_, 0, none⟩ 4 4 [.int .u8 _, .int .u8 _, .int .u8 _, .int .u8 _] rfl rfl (new_cells _ #[_, _, _, _] _) (four_cells _ _ _ _) (by unfold maxLen; have := HL.out; omega) (by have := HL.out; omega) (by simp; omega) ?_; intro v' w1 hown' hg' hn'))
      have hb1 : Below X.heap.size X w1 := (hbl.drew.alloc hbs _).grown hg' (by simp; omega) (fun j hj => (hown.lt j hj).1)
      go_wp2
      go_roundw
      case rel => exact ⟨k + 1, by omega, by go_num, Buf.cut hown' (by rw [HN.out, List.length_append, HB4.out]) (by rw [HN.out, cells_app, HC.out]), hb1⟩
      case measure => simp [intOf]; omega
    · have hd : decide ((k : Int) < 8) = false := by simp; omega
      obtain rfl : k = 8 := by omega
      go_wp2
      exact HE.out _ _ _ _ _ _ _ _ _ _ _ _ _ _ _ _ _ _ _ _ _ _ _ _ _ _ _ _ wr hown hbl
end Go.Proofs.YthbbeojhipcjiaaDoor
namespace Go.Proofs.YthbbeojhipcjiaaDoor
open Go.RowKit

theorem rotl_int (x : UInt32) (n : Nat) : bits .or .u32 ((x.toNat : Int) * 2 ^ (32 - n) % 4294967296) ((x.toNat : Int) / 2 ^ n) = ((rotr x n).toNat : Int) := by
  have h1 : (x.toNat : Int) / 2 ^ n = ((x.toNat / 2 ^ n : Nat) : Int) := by rw [Int.natCast_ediv, Int.natCast_pow]; rfl
  have h2 : (x.toNat : Int) * 2 ^ (32 - n) % 4294967296 = ((x.toNat * 2 ^ (32 - n) % 4294967296 : Nat) : Int) := by rw [Int.natCast_emod, Int.natCast_mul, Int.natCast_pow]; rfl
  rw [rotr_nat, h1, h2, Nat.or_comm]
  exact bits_word_or _ _ (Nat.mod_lt _ (by decide)) (Nat.lt_of_le_of_lt (Nat.div_le_self _ _) (w_lt x))
theorem rotl_any (x : UInt32) (n : Nat) (h0 : 1 ≤ n) (h1 : n ≤ 31) (w : World) :
    Calls Tryd.prog 94 #[.int .u32 (x.toNat : Int), .int .i64 (-(n : Int))] w fun e w' => e = .returned (.int .u32 ((rotr x n).toNat : Int)) ∧ w = w' := by
  have hx := w_lt x
  obtain ⟨m, hm⟩ : ∃ m, 32 - n = m := ⟨_, rfl⟩
  have hmI : (m : Int) = 32 - (n : Int) := by omega
  have hb : bits .and .u64 (IntKind.u64.wrap (-(n : Int))) 31 = (m : Int) := by
    have e : IntKind.u64.wrap (-(n : Int)) = ((18446744073709551616 - n : Nat) : Int) := by rw [IntKind.wrap_u64]; omega
    have := (bits_nat .u64 64 (by decide) (fun k h0 h1 => by rw [IntKind.wrap_u64]; omega) (18446744073709551616 - n) 31 (by omega) (by decide)).1
    rw [e]
    refine this.trans ?_
    have h31 : (18446744073709551616 - n) &&& 31 = (18446744073709551616 - n) % 32 := Nat.and_two_pow_sub_one_eq_mod _ 5
    rw [h31]; omega
  have b1 : (m : Int) ≤ 31 := by omega
  have b0 : (1 : Int) ≤ (m : Int) := by omega
  have hw : IntKind.u64.wrap (32 - (m : Int)) = (n : Int) := by rw [IntKind.wrap_u64]; omega
  have HM := Lib.hid hm
  clear hm hmI
  go_enter Tryd.func94, Tryd.ntmps94
  go_wp2
  go_ret
  exact ⟨ret_int (by have := rotl_int x n; rw [HM.out] at this; exact this), rfl⟩
/-- by a number that is written out -/
theorem rotl_q (x : UInt32) (m : Int) (h0 : -31 ≤ m) (h1 : m ≤ -1) (w : World) :
    Calls Tryd.prog 94 #[.int .u32 (x.toNat : Int), .int .i64 m] w fun e w' => e = .returned (.int .u32 ((rotr x (-m).toNat).toNat : Int)) ∧ w = w' := by
  have := rotl_any x (-m).toNat (by omega) (by omega) w
  have e : -(((-m).toNat : Nat) : Int) = m := by omega
  rw [e] at this; exact this
theorem turned_any (x : UInt32) (a b c : Nat) (ha0 : 1 ≤ a) (ha : a ≤ 31) (hb0 : 1 ≤ b) (hb : b ≤ 31) (hc0 : 1 ≤ c) (hc : c ≤ 31) (w : World) :
    Calls Tryd.prog 80 #[.int .u32 (x.toNat : Int), .int .i64 (a : Int), .int .i64 (b : Int), .int .i64 (c : Int)] w fun e w' =>
      e = .returned (.int .u32 ((xorW (xorW (rotr x a) (rotr x b)) (rotr x c)).toNat : Int)) ∧ w = w' := by
  have hv : bits .xor .u32 (bits .xor .u32 ((rotr x a).toNat : Int) ((rotr x b).toNat : Int)) ((rotr x c).toNat : Int) = ((xorW (xorW (rotr x a) (rotr x b)) (rotr x c)).toNat : Int) := by rw [w_xor, w_xor]
  have HV := Lib.hid hv; clear hv
  go_enter Tryd.func80, Tryd.ntmps80
  go_wp2_with (go_at_call 94; refine (rotl_any x _ (by omega) (by omega) _).mono ?_; rintro e w' ⟨rfl, rfl⟩)
  go_ret
  exact ⟨ret_int HV.out, rfl⟩
theorem turned_q (x : UInt32) (a b c : Int) (ha0 : 1 ≤ a) (ha : a ≤ 31) (hb0 : 1 ≤ b) (hb : b ≤ 31) (hc0 : 1 ≤ c) (hc : c ≤ 31) (w : World) :
    Calls Tryd.prog 80 #[.int .u32 (x.toNat : Int), .int .i64 a, .int .i64 b, .int .i64 c] w fun e w' =>
      e = .returned (.int .u32 ((xorW (xorW (rotr x a.toNat) (rotr x b.toNat)) (rotr x c.toNat)).toNat : Int)) ∧ w' = w := by
  have := turned_any x a.toNat b.toNat c.toNat (by omega) (by omega) (by omega) (by omega) (by omega) (by omega) w
  rw [show ((a.toNat : Nat) : Int) = a by omega, show ((b.toNat : Nat) : Int) = b by omega, show ((c.toNat : Nat) : Int) = c by omega] at this
  exact this.mono fun _ _ h => ⟨h.1, h.2.symm⟩
end Go.Proofs.YthbbeojhipcjiaaDoor
namespace Go.Proofs.YthbbeojhipcjiaaDoor
open Go.RowKit

theorem sub_at (s : ByteArray) (a b i : Nat) (h : i < (s.extract a b).size) (h' : a + i < s.size) : (s.extract a b)[i] = s[a + i] := by simp [ByteArray.getElem_extract]
theorem below_setCells {B : Nat} {w w' : World} (h : Below B w w') {g : Nat} (hg : B ≤ g) : ∀ (vs : List Value) (o : Nat), Below B w (w'.setCells g o vs) := by
  intro vs
  induction vs generalizing w' with
  | nil => exact fun _ => h
  | cons v vs ih => intro o; exact ih (h.setCell (p := ⟨g, o, none⟩) hg v) (o + 1)
theorem or_add (k x y : Nat) (hy : y < 2 ^ k) : 2 ^ k * x ||| y = 2 ^ k * x + y := (Nat.two_pow_add_eq_or_of_lt hy x).symm
theorem or_word (a b c d : UInt8) : bits .or .u32 (bits .or .u32 (bits .or .u32 ((a.toNat : Int) * 16777216) ((b.toNat : Int) * 65536)) ((c.toNat : Int) * 256)) (d.toNat : Int) = (a.toNat : Int) * 16777216 + (b.toNat : Int) * 65536 + (c.toNat : Int) * 256 + (d.toNat : Int) := by
  have ha := a.toNat_lt
  have hb := b.toNat_lt
  have hc := c.toNat_lt
  have hd := d.toNat_lt
  have e1 : (a.toNat * 16777216) ||| (b.toNat * 65536) = a.toNat * 16777216 + b.toNat * 65536 := by
    have := or_add 24 a.toNat (b.toNat * 65536) (by omega)
    rw [show 2 ^ 24 * a.toNat = a.toNat * 16777216 by omega] at this; exact this
  have e2 : (a.toNat * 16777216 + b.toNat * 65536) ||| (c.toNat * 256) = a.toNat * 16777216 + b.toNat * 65536 + c.toNat * 256 := by
    have := or_add 16 (a.toNat * 256 + b.toNat) (c.toNat * 256) (by omega)
    rw [show 2 ^ 16 * (a.toNat * 256 + b.toNat) = a.toNat * 16777216 + b.toNat * 65536 by omega] at this; exact this
  have e3 : (a.toNat * 16777216 + b.toNat * 65536 + c.toNat * 256) ||| d.toNat = a.toNat * 16777216 + b.toNat * 65536 + c.toNat * 256 + d.toNat := by
    have := or_add 8 (a.toNat * 65536 + b.toNat * 256 + c.toNat) d.toNat (by omega)
    rw [show 2 ^ 8 * (a.toNat * 65536 + b.toNat * 256 + c.toNat) = a.toNat * 16777216 + b.toNat * 65536 + c.toNat * 256 by omega] at this; exact this
  have r1 := bits_word_or (a.toNat * 16777216) (b.toNat * 65536) (by omega) (by omega)
  have r2 := bits_word_or (a.toNat * 16777216 + b.toNat * 65536) (c.toNat * 256) (by omega) (by omega)
  have r3 := bits_word_or (a.toNat * 16777216 + b.toNat * 65536 + c.toNat * 256) d.toNat (by omega) (by omega)
  rw [e1] at r1; rw [e2] at r2; rw [e3] at r3
  rw [show (a.toNat : Int) * 16777216 = ((a.toNat * 16777216 : Nat) : Int) by omega, show (b.toNat : Int) * 65536 = ((b.toNat * 65536 : Nat) : Int) by omega, show (c.toNat : Int) * 256 = ((c.toNat * 256 : Nat) : Int) by omega, r1, r2, r3]
  omega
theorem four_of (s : ByteArray) (hs : s.size = 64) (k : Nat) (hk : k < 16) : ∃ (B4 : ByteArray) (c0 c1 c2 c3 : UInt8), s.extract (4 * k) (4 * k + 4) = B4 ∧ (∃ h : 4 ≤ B4.size, B4[0] = c0 ∧ B4[1] = c1 ∧ B4[2] = c2 ∧ B4[3] = c3) ∧
    bits .or .u32 (bits .or .u32 (bits .or .u32 ((c0.toNat : Int) * 16777216) ((c1.toNat : Int) * 65536)) ((c2.toNat : Int) * 256)) (c3.toNat : Int) = ((schedW s.data.toList 0 k).toNat : Int) := by
  have hsz : s.data.toList.length = 64 := hs
  have hwd := word_nat s.data.toList (0 + 4 * k) (by omega)
  rw [← schedW_first s.data.toList 0 k hk] at hwd
  refine ⟨_, _, _, _, _, rfl, ⟨by simp [ByteArray.size_extract]; omega, sub_at s _ _ 0 _ (by omega), sub_at s _ _ 1 _ (by omega), sub_at s _ _ 2 _ (by omega), sub_at s _ _ 3 _ (by omega)⟩, ?_⟩
  rw [or_word, hwd]
  simp only [Nat.zero_add, Nat.add_zero]
  rfl
set_option maxRecDepth 100000 in
set_option maxHeartbeats 1000000 in
theorem spread_any (s : ByteArray) (hs : s.size = 64) (w : World) :
    Calls Tryd.prog 79 #[.string s] w fun e w' => e = .returned (.agg (wC s.data.toList 0 64)) ∧ Below w.heap.size w w' := by
  obtain ⟨hz, hi⟩ := zero_of_info Tryd.zero64
  rw [← wC_zero s.data.toList 0] at hz
  have HZ := Lib.hid hz; have HI := Lib.hid hi; clear hz hi
  have hsz : s.data.toList.length = 64 := hs
  go_enter Tryd.func79, Tryd.ntmps79
  go_wp2_with (with_reducible refine wpList_alloc_var 86 (.agg (wC s.data.toList 0 0)) HZ.out ?_)
  have hXs : w.heap.size + 1 = (w.alloc (.cells (wC s.data.toList 0 0) 86)).heap.size := by simp
  have hXb : Below w.heap.size w (w.alloc (.cells (wC s.data.toList 0 0) 86)) := (Below.refl _ _).alloc (Nat.le_refl _) _
  have hX0 : (w.alloc (.cells (wC s.data.toList 0 0) 86)).heap[w.heap.size]? = some (.cells (wC s.data.toList 0 0) 86) := heap_alloc_last w _
  rw [hXs]
  generalize w.alloc (.cells (wC s.data.toList 0 0) 86) = X at *
  have HXS := Lib.hid hXs; have HX0 := Lib.hid hX0; clear hXs hX0
  go_loopw [9] (fun i W => ∃ k q : Nat, k ≤ 16 ∧ i = .int .i64 (k : Int) ∧ W = (X.alloc (.cells (wC s.data.toList 0 k) 86)).drewN q) (fun i _ => 16 - (intOf i).toNat)
  case atStart => exact ⟨0, 0, by omega, rfl, rfl⟩
  case round =>
    obtain ⟨k, q, hk, rfl, rfl⟩ := hrel
    by_cases hlt : k < 16
    · have hd : decide ((k : Int) < 16) = true := by simp; omega
      have hsl : ∀ W, (Instr.slice 9 (.string s) (some (.int .i64 (4 * (k : Int)))) (some (.int .i64 (4 * (k : Int) + 4))) none).run Tryd.prog W = .ok (.string (s.extract (4 * k) (4 * k + 4))) W := fun W => by
        rw [run_slice_string_lh W 9 s Tryd.underlying9 .i64 .i64 _ _ (by omega) (by omega) (by omega)]
        rw [show (4 * (k : Int)).toNat = 4 * k by omega, show (4 * (k : Int) + 4).toNat = 4 * k + 4 by omega]
      have hnx := wC_next s.data.toList 0 k (by omega)
      obtain ⟨B4, c0, c1, c2, c3, hB, ⟨hB4, hb0, hb1, hb2, hb3⟩, hw⟩ := four_of s hs k hlt
      have HS := Lib.hid hs; clear hs hsz
      rw [hB] at hsl
      have l0 := c0.toNat_lt
      have l1 := c1.toNat_lt
      have l2 := c2.toNat_lt
      have l3 := c3.toNat_lt
      have dk := arr_at X (wC s.data.toList 0 k) 86 k _ (wC_here s.data.toList 0 k (by omega))
      have bk : (k : Int) < 64 := by omega
      have HWD := Lib.hid hw; have HNX := Lib.hid hnx
      clear hB hw hnx
      generalize schedW s.data.toList 0 k = xk at *
      generalize wC s.data.toList 0 k = C at *
      go_wp2
      refine wp_region_quiet_tail 20 (by kernel_rfl) (by kernel_rfl) ?_
      simp only [List.take_succ_cons, List.take_zero, List.drop_succ_cons, List.drop_zero]
      repeat (go_big_quiet_step (fail))
      refine wpQuiet_nil ?_
      go_wp2
      go_roundw
      case rel => exact ⟨k + 1, q + 1, by omega, by go_num, by rw [arr_store, HWD.out, HNX.out]⟩
      case measure => simp [intOf]; omega
    · obtain rfl : k = 16 := by omega
      rw [show ((16 : Nat) : Int) = 16 from rfl]
      go_wp2
      go_loopw [6] (fun i W => ∃ k q : Nat, 16 ≤ k ∧ k ≤ 64 ∧ i = .int .i64 (k : Int) ∧ W = (X.alloc (.cells (wC s.data.toList 0 k) 86)).drewN q) (fun i _ => 64 - (intOf i).toNat)
      case atStart => exact ⟨16, q, by omega, by omega, rfl, rfl⟩
      case round =>
        obtain ⟨k, q, hk16, hk, rfl, rfl⟩ := hrel
        by_cases hk64 : k < 64
        · have hd64 : decide ((k : Int) < 64) = true := by simp; omega
          have hwd := schedW_next s.data.toList 0 k (by omega)
          have hnx := wC_next s.data.toList 0 k hk64
          have hal : ∀ x : Nat, x < k → ((X.alloc (.cells (wC s.data.toList 0 k) 86)).drewN q).cell? ⟨X.heap.size, x, none⟩ = some (.int .u32 ((schedW s.data.toList 0 x).toNat : Int)) := fun x hx => arr_at X _ _ x _ (wC_at s.data.toList 0 k x hx)
          have dk : ((X.alloc (.cells (wC s.data.toList 0 k) 86)).drewN q).cell? ⟨X.heap.size, k, none⟩ = some (.int .u32 0) := arr_at X (wC s.data.toList 0 k) 86 k _ (wC_here s.data.toList 0 k hk64)
          have fk : ((X.alloc (.cells (wC s.data.toList 0 k) 86)).drewN q).frozen? ⟨X.heap.size, k, none⟩ = false := by simp
          have d15 := hal (k - 15) (by omega)
          have d2 := hal (k - 2) (by omega)
          have d16 := hal (k - 16) (by omega)
          have d7 := hal (k - 7) (by omega)
          obtain ⟨n15, hn15⟩ : ∃ n, k - 15 = n := ⟨_, rfl⟩
          obtain ⟨n2, hn2⟩ : ∃ n, k - 2 = n := ⟨_, rfl⟩
          obtain ⟨n16, hn16⟩ : ∃ n, k - 16 = n := ⟨_, rfl⟩
          obtain ⟨n7, hn7⟩ : ∃ n, k - 7 = n := ⟨_, rfl⟩
          rw [hn15] at d15 hwd
          rw [hn2] at d2 hwd
          rw [hn16] at d16 hwd
          rw [hn7] at d7 hwd
          have w15 : IntKind.i64.wrap ((k : Int) - 15) = (n15 : Int) := by rw [IntKind.wrap_i64]; omega
          have w2 : IntKind.i64.wrap ((k : Int) - 2) = (n2 : Int) := by rw [IntKind.wrap_i64]; omega
          have w16 : IntKind.i64.wrap ((k : Int) - 16) = (n16 : Int) := by rw [IntKind.wrap_i64]; omega
          have w7 : IntKind.i64.wrap ((k : Int) - 7) = (n7 : Int) := by rw [IntKind.wrap_i64]; omega
          have b15 : (n15 : Int) < 64 := by omega
          have b2 : (n2 : Int) < 64 := by omega
          have b16 : (n16 : Int) < 64 := by omega
          have b7 : (n7 : Int) < 64 := by omega
          have bk : (k : Int) < 64 := by omega
          clear hal hn15 hn2 hn16 hn7
          generalize schedW s.data.toList 0 n15 = x15 at *
          generalize schedW s.data.toList 0 n2 = x2 at *
          generalize schedW s.data.toList 0 n16 = x16 at *
          generalize schedW s.data.toList 0 n7 = x7 at *
          generalize schedW s.data.toList 0 k = xk at *
          generalize wC s.data.toList 0 k = C at *
          have hsi := sched_int x16 x15 x7 x2
          rw [← hwd] at hsi
          have HSI := Lib.hid hsi; have HNX := Lib.hid hnx; have HSZ := Lib.hid hsz; have HS := Lib.hid hs
          clear hwd hsi hnx hsz hs
          generalize hW : (X.alloc (.cells C 86)).drewN q = W at *
          have HW := Lib.hid hW; clear hW
          go_wp2
          go_quiet (fail)
          go_wp2_with (go_at_call 94; refine (rotl_q _ _ (by decide) (by decide) _).mono ?_; rintro e w' ⟨rfl, rfl⟩)
          generalize hE : bits .xor .u32 (bits .xor .u32 ((rotr x15 7).toNat : Int) ((rotr x15 18).toNat : Int)) ((x15.toNat : Int) / 8) = E1
          generalize hE2 : bits .xor .u32 (bits .xor .u32 ((rotr x2 17).toNat : Int) ((rotr x2 19).toNat : Int)) ((x2.toNat : Int) / 1024) = E2
          have HSI2 := HSI.out
          rw [hE, hE2] at HSI2
          have HS2 := Lib.hid HSI2
          clear hE hE2 HSI2 HSI
          refine wp_region_quiet_tail 15 (by kernel_rfl) (by kernel_rfl) ?_
          simp only [List.take_succ_cons, List.take_zero, List.drop_succ_cons, List.drop_zero]
          repeat (go_big_quiet_step (fail))
          refine wpQuiet_nil ?_
          go_wp2
          go_roundw
          case rel => exact ⟨k + 1, _, by omega, by omega, by go_num, by rw [← HW.out, HS2.out]; simp only [World.drewN_drewN]; rw [arr_store, HNX.out]⟩
          case measure => simp [intOf]; omega
        · have hd64 : decide ((k : Int) < 64) = false := by simp; omega
          obtain rfl : k = 64 := by omega
          have hz64 := wC_size s.data.toList 0 64 (Nat.le_refl _)
          have hlen : (wC s.data.toList 0 64).toList.length = 64 := by simpa using hz64
          have hone : ∀ v ∈ (wC s.data.toList 0 64).toList, v.oneCell' = true := wC_one s.data.toList 0 64
          have hrg : ((X.alloc (.cells (wC s.data.toList 0 64) 86)).drewN q).rangeAt X.heap.size 0 (wC s.data.toList 0 64).toList := fun j v hv => by
            rw [Nat.zero_add]; exact arr_at X _ _ j v (by simpa using hv)
          generalize hCC : wC s.data.toList 0 64 = C at *
          have hcs : C.size = C.toList.length := by simp
          have hwl : w.heap.size < X.heap.size := by have := HXS.out; omega
          have hth : ((X.alloc (.cells C 86)).drewN q).there w.heap.size 0 C.size := fun j hj => by
            have hz0 := wC_size s.data.toList 0 0 (by omega)
            have hb : ((X.alloc (.cells C 86)).drewN q).heap[w.heap.size]? = some (.cells (wC s.data.toList 0 0) 86) := (((Below.refl _ _).alloc (Nat.le_refl _) _).block _ hwl).trans HX0.out
            rw [Nat.zero_add]
            refine ⟨?_, frozen_of_heap hb⟩
            rw [cell_of_heap hb, Array.getElem?_eq_getElem (by omega)]; rfl
          have hbl : Below w.heap.size w ((X.alloc (.cells C 86)).drewN q) := belowDrewN (hXb.alloc hXb.size _) q
          generalize (X.alloc (.cells C 86)).drewN q = W at *
          have HRG := Lib.hid hrg; have HTH := Lib.hid hth; have HCC := Lib.hid hCC; have HLEN := Lib.hid hlen; have HONE := Lib.hid hone; have HCS := Lib.hid hcs; have HS2 := Lib.hid hs
          clear hrg hth hCC hlen hone hcs hz64 hs hsz
          rw [show ((64 : Nat) : Int) = 64 from rfl]
          go_wp2_with (first
            | (with_reducible refine wpList_load_mid rfl 86 (.tmp 3) rfl X.heap.size 0 rfl C.toList _ HRG.out Tryd.underlying86 rfl (HI.out.trans (by rw [HLEN.out])) ?_)
            | (with_reducible refine wpList_store_mid rfl 86 (.tmp 2) (.tmp 83) rfl w.heap.size 0 C rfl rfl HTH.out (HI.out.trans (by rw [HCS.out, HLEN.out])) (by have := all_oneCell_toArray HONE.out; simpa using this) ?_))
          refine bodyPost_ret (results_cell (t := 2) (ty := 86) rfl _ _ w.heap.size C.toList _ rfl (World.rangeAt_setCells_same _ _ _ _ (by rw [← HCS.out]; exact HTH.out)) Tryd.underlying86 rfl (HI.out.trans (by rw [HLEN.out]))) rfl ⟨?_, ?_⟩
          · rw [HCC.out]
          · exact below_setCells hbl (Nat.le_refl _) _ _
end Go.Proofs.YthbbeojhipcjiaaDoor
namespace Go.Proofs.YthbbeojhipcjiaaDoor
open Go.RowKit

/-- the table of what each round adds lies where the program laid it -/
def RoundsIn (w : World) : Prop := w.rangeAt 0 0 kCells.toList ∧ 0 < w.heap.size
theorem RoundsIn.below {w w' : World} (h : RoundsIn w) (hb : Below w.heap.size w w') : RoundsIn w' :=
  ⟨fun j v hv => (hb.cell (p := ⟨0, 0 + j, none⟩) h.2).trans (h.1 j v hv), Nat.lt_of_lt_of_le h.2 hb.size⟩
theorem info_u32 : (Tryd.prog.info? 82).map (·.size) = some 1 := by kernel_rfl
theorem run_index_u32 (W : World) (t : TypeId) (n : Nat) (cs : Array Value) (i : Nat) (v : Value) (h : Tryd.prog.underlying t = some (.array n 82)) (hi : i < n) (hc : cs[i]? = some v) :
    (Instr.index t (.agg cs) (.int .i64 (i : Int))).run Tryd.prog W = .ok v W := by
  have hs : (sizeOf 82).run Tryd.prog W = .ok 1 W := by
    cases hq : Tryd.prog.info? 82 with
    | none => have := info_u32; simp [hq] at this
    | some j =>
      have : j.size = 1 := by have := info_u32; simpa [hq] using this
      simp [sizeOf, typeInfo, hq, this]
  simp [Instr.index, run_underlying h, asIntOf, part, hs, hi, hc]
def i8Cells (a b c d e f g h : Int) : Array Value := #[.int .u32 a, .int .u32 b, .int .u32 c, .int .u32 d, .int .u32 e, .int .u32 f, .int .u32 g, .int .u32 h]
theorem i8_one (a b c d e f g h : Int) : (i8Cells a b c d e f g h).all (·.oneCell') = true := by kernel_rfl
theorem i8_size (a b c d e f g h : Int) : (i8Cells a b c d e f g h).size = 8 := rfl
theorem i8_words (s r : S8) : i8Cells (((s.a.toNat : Int) + (r.a.toNat : Int)) % 4294967296) (((s.b.toNat : Int) + (r.b.toNat : Int)) % 4294967296) (((s.c.toNat : Int) + (r.c.toNat : Int)) % 4294967296) (((s.d.toNat : Int) + (r.d.toNat : Int)) % 4294967296)
    (((s.e.toNat : Int) + (r.e.toNat : Int)) % 4294967296) (((s.f.toNat : Int) + (r.f.toNat : Int)) % 4294967296) (((s.g.toNat : Int) + (r.g.toNat : Int)) % 4294967296) (((s.h.toNat : Int) + (r.h.toNat : Int)) % 4294967296) = h0Cells (addS s r) := by
  simp only [w_add]; rfl
theorem info_eight : (Tryd.prog.info? 87).map (·.size) = some 8 := by kernel_rfl
theorem size_alloc_lit (w : World) (o : Obj) : (w.alloc o).heap.size = w.heap.size + 1 := by simp
theorem t1h_int (a b c d e f g h k w : UInt32) : (((h.toNat : Int) + ((xorW (xorW (rotr e 6) (rotr e 11)) (rotr e 25)).toNat : Int) + bits .xor .u32 (bits .and .u32 (e.toNat : Int) (f.toNat : Int)) (bits .and .u32 (bits .xor .u32 IntKind.u32.max (e.toNat : Int)) (g.toNat : Int)) + (k.toNat : Int)) % 4294967296 + (w.toNat : Int)) % 4294967296 =
    ((t1W ⟨a, b, c, d, e, f, g, h⟩ k w).toNat : Int) := by
  rw [w_not, w_and, w_and, w_xor]
  unfold t1W
  rw [← w_add, ← w_add, ← w_add, ← w_add]
  show (((h.toNat : Int) + ((up1 e).toNat : Int) + ((chW e f g).toNat : Int) + (k.toNat : Int)) % 4294967296 + (w.toNat : Int)) % 4294967296 = _
  dsimp only
  omega
theorem t2h_int (a b c d e f g h : UInt32) : (((xorW (xorW (rotr a 2) (rotr a 13)) (rotr a 22)).toNat : Int) + bits .xor .u32 (bits .xor .u32 (bits .and .u32 (a.toNat : Int) (b.toNat : Int)) (bits .and .u32 (a.toNat : Int) (c.toNat : Int))) (bits .and .u32 (b.toNat : Int) (c.toNat : Int))) % 4294967296 =
    ((t2W ⟨a, b, c, d, e, f, g, h⟩).toNat : Int) := by
  rw [w_and, w_and, w_and, w_xor, w_xor, w_add]
  rfl
set_option maxRecDepth 100000 in
set_option maxHeartbeats 1000000 in
theorem stir_any (s8 : S8) (b : ByteArray) (hb : b.size = 64) (w : World) (hr : RoundsIn w) :
    Calls Tryd.prog 64 #[.agg (h0Cells s8), .string b] w fun e w' => e = .returned (.agg (h0Cells (blockW b.data.toList 0 s8))) ∧ Below w.heap.size w w' := by
  obtain ⟨hz, hi⟩ := zero_of_info Tryd.zero64
  rw [← wC_zero b.data.toList 0] at hz
  have hsz0 := wC_size b.data.toList 0 0 (by omega)
  have hsz := wC_size b.data.toList 0 64 (Nat.le_refl _)
  have HZ := Lib.hid hz; have HI := Lib.hid hi; have HB := Lib.hid hb; have HR := Lib.hid hr; have HS0 := Lib.hid hsz0; have HS := Lib.hid hsz; clear hz hi hb hr hsz0 hsz
  have hone := all_oneCell_toArray (wC_one b.data.toList 0 64)
  have HONE : Hid ((wC b.data.toList 0 64).all (·.oneCell') = true) := Lib.hid (by simpa using hone)
  clear hone
  unfold h0Cells
  go_enter Tryd.func64, Tryd.ntmps64
  go_wp2_with fail
  refine (spread_any _ HB.out _).mono ?_
  rintro e W1 ⟨rfl, hb1⟩
  have HB1 := Lib.hid hb1; clear hb1
  go_wp2_with (first
    | (with_reducible refine wpList_alloc_var 86 (.agg (wC b.data.toList 0 0)) HZ.out ?_)
    | (refine wpList_store_new rfl 86 (.tmp 5) (.tmp 21) (wC b.data.toList 0 0) (wC b.data.toList 0 64) rfl rfl rfl (HI.out.trans (by rw [HS.out])) (by rw [HS.out, HS0.out]) HONE.out ?_))
  have hX : Below w.heap.size w (W1.alloc (.cells (wC b.data.toList 0 64) 86)) := by
    have h2 := (((Below.refl w.heap.size w).alloc (Nat.le_refl _) (.cells (h0Cells s8) 87)).alloc (by simp) (.cells #[.int .u32 0, .int .u32 0, .int .u32 0, .int .u32 0, .int .u32 0, .int .u32 0, .int .u32 0, .int .u32 0] 87))
    have h3 := h2.trans (HB1.out.mono (by simp; omega))
    exact h3.alloc h3.size _
  have hbox : (W1.alloc (.cells (wC b.data.toList 0 64) 86)).heap[w.heap.size]? = some (.cells (h0Cells s8) 87) := by
    have h1 : ((w.alloc (.cells (h0Cells s8) 87)).alloc (.cells #[.int .u32 0, .int .u32 0, .int .u32 0, .int .u32 0, .int .u32 0, .int .u32 0, .int .u32 0, .int .u32 0] 87)).heap[w.heap.size]? = some (.cells (h0Cells s8) 87) :=
      (Below.heap_alloc _ _ _ (by simp)).trans (heap_alloc_last w _)
    have h2 := HB1.out.block w.heap.size (by simp; omega)
    have h3 : w.heap.size < W1.heap.size := by have := HB1.out.size; simp at this; omega
    exact (Below.heap_alloc _ _ _ h3).trans (h2.trans h1)
  have hout : (W1.alloc (.cells (wC b.data.toList 0 64) 86)).heap[w.heap.size + 1]? = some (.cells #[.int .u32 0, .int .u32 0, .int .u32 0, .int .u32 0, .int .u32 0, .int .u32 0, .int .u32 0, .int .u32 0] 87) := by
    have h1 := heap_alloc_last (w.alloc (.cells (h0Cells s8) 87)) (.cells #[.int .u32 0, .int .u32 0, .int .u32 0, .int .u32 0, .int .u32 0, .int .u32 0, .int .u32 0, .int .u32 0] 87)
    simp only [size_alloc_lit] at h1
    have h2 := HB1.out.block (w.heap.size + 1) (by simp)
    have h3 : w.heap.size + 1 < W1.heap.size := by have := HB1.out.size; simp at this; omega
    exact (Below.heap_alloc _ _ _ h3).trans (h2.trans h1)
  have hwd : ∀ i, i < 64 → (W1.alloc (.cells (wC b.data.toList 0 64) 86)).cell? ⟨W1.heap.size, i, none⟩ = some (.int .u32 ((schedW b.data.toList 0 i).toNat : Int)) := fun i hi => arr_at W1 _ _ i _ (wC_at b.data.toList 0 64 i hi)
  have hrd : RoundsIn (W1.alloc (.cells (wC b.data.toList 0 64) 86)) := HR.out.below hX
  generalize W1.alloc (.cells (wC b.data.toList 0 64) 86) = X at *
  generalize W1.heap.size = bw at *
  simp only [Act.put, List.setIfInBounds_toArray, List.set_cons_succ, List.set_cons_zero]
  have c0 : X.cell? ⟨w.heap.size, 0, none⟩ = some (.int .u32 (s8.a.toNat : Int)) := cell_of_heap hbox 0
  have c1 : X.cell? ⟨w.heap.size, 1, none⟩ = some (.int .u32 (s8.b.toNat : Int)) := cell_of_heap hbox 1
  have c2 : X.cell? ⟨w.heap.size, 2, none⟩ = some (.int .u32 (s8.c.toNat : Int)) := cell_of_heap hbox 2
  have c3 : X.cell? ⟨w.heap.size, 3, none⟩ = some (.int .u32 (s8.d.toNat : Int)) := cell_of_heap hbox 3
  have c4 : X.cell? ⟨w.heap.size, 4, none⟩ = some (.int .u32 (s8.e.toNat : Int)) := cell_of_heap hbox 4
  have c5 : X.cell? ⟨w.heap.size, 5, none⟩ = some (.int .u32 (s8.f.toNat : Int)) := cell_of_heap hbox 5
  have c6 : X.cell? ⟨w.heap.size, 6, none⟩ = some (.int .u32 (s8.g.toNat : Int)) := cell_of_heap hbox 6
  have c7 : X.cell? ⟨w.heap.size, 7, none⟩ = some (.int .u32 (s8.h.toNat : Int)) := cell_of_heap hbox 7
  have HX := Lib.hid hX; have HOUT := Lib.hid hout; have HWD := Lib.hid hwd; have HRD := Lib.hid hrd
  have HBOX := Lib.hid hbox
  clear hX hout hwd hrd hbox HB1
  go_quiet (fail)
  generalize wC b.data.toList 0 64 = CW
  have hrd2 : (X.drewN nq).rangeAt 0 0 kCells.toList := HRD.out.1
  have hlk : kCells.toList.length = 64 := by rw [Array.length_toList]; exact kCells_size
  have hkat := kCells_at
  generalize kCells = KA at *
  have HKA := Lib.hid hkat; have HRD2 := Lib.hid hrd2; have HLK := Lib.hid hlk
  clear hkat hrd2 hlk c0 c1 c2 c3 c4 c5 c6 c7
  go_wp2_with (with_reducible refine wpList_load_mid rfl 86 (.global 0) rfl 0 0 rfl KA.toList _ HRD2.out Tryd.underlying86 rfl (HI.out.trans (by rw [HLK.out])) ?_)
  go_loopw [6, 7, 8, 9, 10, 11, 12, 13, 39] (fun a0 a1 a2 a3 a4 a5 a6 a7 i W => ∃ k q : Nat, k ≤ 64 ∧ i = .int .i64 (k : Int) ∧ W = X.drewN q ∧ a0 = .int .u32 ((roundsW b.data.toList 0 s8 k).a.toNat : Int) ∧ a1 = .int .u32 ((roundsW b.data.toList 0 s8 k).b.toNat : Int) ∧ a2 = .int .u32 ((roundsW b.data.toList 0 s8 k).c.toNat : Int) ∧ a3 = .int .u32 ((roundsW b.data.toList 0 s8 k).d.toNat : Int) ∧
    a4 = .int .u32 ((roundsW b.data.toList 0 s8 k).e.toNat : Int) ∧ a5 = .int .u32 ((roundsW b.data.toList 0 s8 k).f.toNat : Int) ∧ a6 = .int .u32 ((roundsW b.data.toList 0 s8 k).g.toNat : Int) ∧ a7 = .int .u32 ((roundsW b.data.toList 0 s8 k).h.toNat : Int)) (fun _ _ _ _ _ _ _ _ i _ => 64 - (intOf i).toNat)
  case atStart => exact ⟨0, _, by omega, rfl, rfl, rfl, rfl, rfl, rfl, rfl, rfl, rfl, rfl⟩
  case round =>
    obtain ⟨k, q, hk, rfl, rfl, rfl, rfl, rfl, rfl, rfl, rfl, rfl, rfl⟩ := hrel
    by_cases hk64 : k < 64
    · have hd64 : decide ((k : Int) < 64) = true := by simp; omega
      have bk : (k : Int) < 64 := by omega
      have hnx : roundsW b.data.toList 0 s8 (k + 1) = roundW (roundsW b.data.toList 0 s8 k) (kAt k) (schedW b.data.toList 0 k) := rfl
      have hka := HKA.out k hk64
      have dW : (X.drewN q).cell? ⟨bw, k, none⟩ = some (.int .u32 ((schedW b.data.toList 0 k).toNat : Int)) := HWD.out k hk64
      have hix : ∀ W, (Instr.index 86 (.agg KA) (.int .i64 (k : Int))).run Tryd.prog W = .ok (.int .u32 ((kAt k).toNat : Int)) W := fun W => run_index_u32 W _ _ KA k _ Tryd.underlying86 hk64 hka
      clear hka
      generalize kAt k = kk at *
      generalize schedW b.data.toList 0 k = ww at *
      generalize roundsW b.data.toList 0 s8 k = r at *
      obtain ⟨ra, rb, rc, rd, re, rf, rg, rh⟩ := r
      have HIX := Lib.hid hix; clear hix
      have HNX := Lib.hid hnx; clear hnx
      have ht1 := t1h_int ra rb rc rd re rf rg rh kk ww
      have ht2 := t2h_int ra rb rc rd re rf rg rh
      have hv1 := w_add (t1W ⟨ra, rb, rc, rd, re, rf, rg, rh⟩ kk ww) (t2W ⟨ra, rb, rc, rd, re, rf, rg, rh⟩)
      have hv2 := w_add rd (t1W ⟨ra, rb, rc, rd, re, rf, rg, rh⟩ kk ww)
      have HNX2 : Hid (roundsW b.data.toList 0 s8 (k + 1) = ⟨addW (t1W ⟨ra, rb, rc, rd, re, rf, rg, rh⟩ kk ww) (t2W ⟨ra, rb, rc, rd, re, rf, rg, rh⟩), ra, rb, rc, addW rd (t1W ⟨ra, rb, rc, rd, re, rf, rg, rh⟩ kk ww), re, rf, rg⟩) := Lib.hid HNX.out
      generalize t1W ⟨ra, rb, rc, rd, re, rf, rg, rh⟩ kk ww = xx at *
      generalize t2W ⟨ra, rb, rc, rd, re, rf, rg, rh⟩ = yy at *
      have HT1 := Lib.hid ht1; have HT2 := Lib.hid ht2; have HV1 := Lib.hid hv1; have HV2 := Lib.hid hv2
      clear ht1 ht2 hv1 hv2 HNX
      generalize hW : X.drewN q = W at *
      have HW := Lib.hid hW; clear hW
      dsimp only
      go_wp2
      rw [HIX.out]
      simp only [Result.andThen_ok]
      rw [Oper.upon_value]
      repeat go_step
      have hif : (if IntKind.u32.signed = true then (-1 : Int) else IntKind.u32.max) = IntKind.u32.max := rfl
      rw [hif]
      clear hif
      refine wp_region_quiet_lit (by kernel_rfl) (by kernel_rfl) ?_
      repeat (go_big_quiet_step ((go_at_call 80; exact Calls.quiet_of_same (turned_q _ _ _ _ (by decide) (by decide) (by decide) (by decide) (by decide) (by decide) _))))
      refine wpQuiet_nil ?_
      intro _ hw
      obtain ⟨nq2, rfl⟩ := hw
      rw [HT1.out]
      generalize bits .xor .u32 (bits .and .u32 (re.toNat : Int) (rf.toNat : Int)) (bits .and .u32 (bits .xor .u32 IntKind.u32.max (re.toNat : Int)) (rg.toNat : Int)) = ch
      go_wp2_with (go_at_call 80; refine (turned_q _ _ _ _ (by decide) (by decide) (by decide) (by decide) (by decide) (by decide) _).mono ?_; rintro e w' ⟨rfl, rfl⟩)
      have HWN := World.drewN_drewN (w := X) (n := q) (m := nq2)
      rw [HW.out] at HWN
      refine ⟨⟨k + 1, q + nq2, by omega, by go_num, HWN, ?_, ?_, ?_, ?_, ?_, ?_, ?_, ?_⟩, by simp [intOf]; omega⟩
      · rw [HT2.out, HV1.out, HNX2.out]
      · rw [HNX2.out]
      · rw [HNX2.out]
      · rw [HNX2.out]
      · rw [HV2.out, HNX2.out]
      · rw [HNX2.out]
      · rw [HNX2.out]
      · rw [HNX2.out]
    · obtain rfl : k = 64 := by omega
      have hgoal : blockW b.data.toList 0 s8 = addS s8 (roundsW b.data.toList 0 s8 64) := rfl
      generalize roundsW b.data.toList 0 s8 64 = r at *
      have HG := Lib.hid hgoal; clear hgoal
      have hbox := HBOX.out
      have c0 : (X.drewN q).cell? ⟨w.heap.size, 0, none⟩ = some (.int .u32 (s8.a.toNat : Int)) := cell_of_heap hbox 0
      have c1 : (X.drewN q).cell? ⟨w.heap.size, 1, none⟩ = some (.int .u32 (s8.b.toNat : Int)) := cell_of_heap hbox 1
      have c2 : (X.drewN q).cell? ⟨w.heap.size, 2, none⟩ = some (.int .u32 (s8.c.toNat : Int)) := cell_of_heap hbox 2
      have c3 : (X.drewN q).cell? ⟨w.heap.size, 3, none⟩ = some (.int .u32 (s8.d.toNat : Int)) := cell_of_heap hbox 3
      have c4 : (X.drewN q).cell? ⟨w.heap.size, 4, none⟩ = some (.int .u32 (s8.e.toNat : Int)) := cell_of_heap hbox 4
      have c5 : (X.drewN q).cell? ⟨w.heap.size, 5, none⟩ = some (.int .u32 (s8.f.toNat : Int)) := cell_of_heap hbox 5
      have c6 : (X.drewN q).cell? ⟨w.heap.size, 6, none⟩ = some (.int .u32 (s8.g.toNat : Int)) := cell_of_heap hbox 6
      have c7 : (X.drewN q).cell? ⟨w.heap.size, 7, none⟩ = some (.int .u32 (s8.h.toNat : Int)) := cell_of_heap hbox 7
      have hth : (X.drewN q).there (w.heap.size + 1) 0 8 := fun j hj => by
        have hb : (X.drewN q).heap[w.heap.size + 1]? = some (.cells #[.int .u32 0, .int .u32 0, .int .u32 0, .int .u32 0, .int .u32 0, .int .u32 0, .int .u32 0, .int .u32 0] 87) := HOUT.out
        rw [Nat.zero_add]
        refine ⟨?_, frozen_of_heap hb⟩
        rw [cell_of_heap hb, Array.getElem?_eq_getElem (by simpa using hj)]; rfl
      have hbl : Below w.heap.size w (X.drewN q) := belowDrewN HX.out q
      generalize X.drewN q = W at *
      have HTH := Lib.hid hth
      clear hth hbox
      rw [show ((64 : Nat) : Int) = 64 from rfl]
      have HIE := Lib.hid info_eight
      iterate 117 go_step
      refine wpList_store_mid (P := Tryd.prog) rfl 87 (.tmp 4) (.tmp 123) rfl (w.heap.size + 1) 0 (i8Cells (((s8.a.toNat : Int) + (r.a.toNat : Int)) % 4294967296) (((s8.b.toNat : Int) + (r.b.toNat : Int)) % 4294967296) (((s8.c.toNat : Int) + (r.c.toNat : Int)) % 4294967296) (((s8.d.toNat : Int) + (r.d.toNat : Int)) % 4294967296) (((s8.e.toNat : Int) + (r.e.toNat : Int)) % 4294967296) (((s8.f.toNat : Int) + (r.f.toNat : Int)) % 4294967296) (((s8.g.toNat : Int) + (r.g.toNat : Int)) % 4294967296) (((s8.h.toNat : Int) + (r.h.toNat : Int)) % 4294967296)) rfl rfl (by rw [i8_size]; exact HTH.out) (HIE.out.trans (by rw [i8_size])) (i8_one _ _ _ _ _ _ _ _) ?_
      rw [i8_words]
      repeat go_step

      refine bodyPost_ret (results_cell (t := 4) (ty := 87) rfl _ _ (w.heap.size + 1) (h0Cells (addS s8 r)).toList _ rfl ?_ Tryd.underlying87 rfl HIE.out) rfl ⟨?_, ?_⟩
      · exact World.rangeAt_setCells_same _ _ _ _ HTH.out
      · rw [HG.out]; rfl
      · exact below_setCells hbl (by omega) _ _
end Go.Proofs.YthbbeojhipcjiaaDoor
namespace Go.Proofs.YthbbeojhipcjiaaDoor
open Go.RowKit

theorem Tryd.zero32 : (Tryd.prog.info? 118).map (fun i => (i.zero, i.size)) = some (some (.agg (Array.replicate 32 (.int .u8 0))), 32) := by kernel_rfl
/-- an array of bytes, so far -/
def bC (n : Nat) (l : List UInt8) : Array Value := (cells l).toArray ++ Array.replicate (n - l.length) (.int .u8 0)
theorem bC_zero (n : Nat) : bC n [] = Array.replicate n (.int .u8 0) := by simp [bC, cells]
theorem bC_size (n : Nat) (l : List UInt8) (h : l.length ≤ n) : (bC n l).size = n := by simp [bC, cells]; omega
theorem bC_at (n : Nat) (l : List UInt8) (j : Nat) (h : j < l.length) : (bC n l)[j]? = some (.int .u8 (l[j].toNat : Int)) := by
  unfold bC cells
  rw [Array.getElem?_append_left (by simpa using h)]
  simp [h]
theorem bC_here (n : Nat) (l : List UInt8) (h : l.length < n) : (bC n l)[l.length]? = some (.int .u8 0) := by
  unfold bC cells
  rw [Array.getElem?_append_right (by simp), Array.getElem?_replicate, if_pos (by simp; omega)]
theorem bC_next (n : Nat) (l : List UInt8) (c : UInt8) (h : l.length < n) : (bC n l).setIfInBounds l.length (.int .u8 (c.toNat : Int)) = bC n (l ++ [c]) := by
  apply Array.ext_getElem?
  intro j
  rw [Array.getElem?_setIfInBounds, bC_size n l (by omega)]
  by_cases hj : l.length = j
  · subst hj
    rw [if_pos rfl, if_pos h, bC_at n (l ++ [c]) l.length (by simp)]
    simp
  · rw [if_neg hj]
    by_cases hjk : j < l.length
    · rw [bC_at n l j hjk, bC_at n (l ++ [c]) j (by simp; omega)]
      simp [List.getElem_append_left hjk]
    · unfold bC cells
      rw [Array.getElem?_append_right (by simp; omega), Array.getElem?_append_right (by simp; omega)]
      simp only [Array.getElem?_replicate, List.size_toArray, List.length_map, List.length_append, List.length_cons, List.length_nil]
      by_cases h64 : j < n
      · rw [if_pos (by omega), if_pos (by omega)]
      · rw [if_neg (by omega), if_neg (by omega)]
theorem byte4_at (x : UInt32) (j : Nat) (hj : j < 4) : (((byte4 x).getD j 0).toNat : Int) = (x.toNat : Int) / 2 ^ (24 - 8 * j) % 256 := by
  have hx := x.toNat_lt
  have e : ∀ n : Nat, ((UInt8.ofNat n).toNat : Int) = (n : Int) % 256 := fun n => by rw [UInt8.toNat_ofNat']; omega
  match j, hj with
  | 0, _ => exact (e _).trans (by simp)
  | 1, _ => exact (e _).trans (by simp)
  | 2, _ => exact (e _).trans (by simp)
  | 3, _ => exact (e _).trans (by simp)
theorem conv_arr (w : World) (l : List UInt8) (cs : Array Value) (e : TypeId) (n c : Nat) (hn : n = l.length) (h : cs.toList = cells l) :
    (convert 67 9 (.slice (some ⟨w.heap.size, 0, none⟩) n c)).run Tryd.prog (w.alloc (.cells cs e)) = .ok (.string ⟨l.toArray⟩) (w.alloc (.cells cs e)) := by
  subst hn
  refine run_convert_bytes_back (P := Tryd.prog) _ 67 9 5 ⟨w.heap.size, 0, none⟩ c l Tryd.underlying67 Tryd.underlying5 Tryd.underlying9 (fun j hj => ?_)
  exact new_cells w cs e j _ (by rw [h]; simp [cells, hj])
set_option maxRecDepth 100000 in
set_option maxHeartbeats 1000000 in
theorem printed_any (s : S8) (w : World) :
    Calls Tryd.prog 66 #[.agg (h0Cells s)] w fun e w' => e = .returned (.string ⟨(outL s).toArray⟩) ∧ Below w.heap.size w w' := by
  obtain ⟨hz, hi⟩ := zero_of_info Tryd.zero32
  rw [← bC_zero 32] at hz
  have HZ := Lib.hid hz; have HI := Lib.hid hi; clear hz hi
  unfold h0Cells
  go_enter Tryd.func66, Tryd.ntmps66
  go_wp2_with (with_reducible refine wpList_alloc_var 118 (.agg (bC 32 [])) HZ.out ?_)
  have he : (#[.int .u32 (s.a.toNat : Int), .int .u32 (s.b.toNat : Int), .int .u32 (s.c.toNat : Int), .int .u32 (s.d.toNat : Int), .int .u32 (s.e.toNat : Int), .int .u32 (s.f.toNat : Int), .int .u32 (s.g.toNat : Int), .int .u32 (s.h.toNat : Int)] : Array Value) = eightC s.get := rfl
  rw [he]
  clear he
  have hat := eightC_at s.get
  generalize eightC s.get = E8 at *
  have hXb : Below w.heap.size w (w.alloc (.cells E8 87)) := (Below.refl _ _).alloc (Nat.le_refl _) _
  have hXs : w.heap.size + 1 = (w.alloc (.cells E8 87)).heap.size := by simp
  rw [hXs]
  generalize w.alloc (.cells E8 87) = X at *
  have HAT := Lib.hid hat; clear hat hXs
  go_loopw [8] (fun i W => ∃ k : Nat, k ≤ 8 ∧ i = .int .i64 (k : Int) ∧ W = X.alloc (.cells (bC 32 (outN s k)) 118)) (fun i _ => 8 - (intOf i).toNat)
  case atStart => exact ⟨0, by omega, rfl, rfl⟩
  case round =>
    obtain ⟨k, hk, rfl, rfl⟩ := hrel
    by_cases hlt : k < 8
    · have hd : decide ((k : Int) < 8) = true := by simp; omega
      have hix := run_index_u32 (X.alloc (.cells (bC 32 (outN s k)) 118)) 87 8 E8 k _ Tryd.underlying87 hlt (HAT.out k hlt)
      have hl := outN_len s k
      have hn : outN s (k + 1) = outN s k ++ byte4 (s.get k) := rfl
      generalize s.get k = x at *
      generalize outN s k = O at *
      have HIX := Lib.hid hix; have HL := Lib.hid hl; have HN := Lib.hid hn; clear hix hl hn
      go_wp2
      rw [HIX.out]
      simp only [Result.andThen_ok]
      rw [Oper.upon_value]
      go_wp2
      go_loopw [12] (fun i W => ∃ j : Nat, j ≤ 4 ∧ i = .int .i64 (j : Int) ∧ W = X.alloc (.cells (bC 32 (O ++ (byte4 x).take j)) 118)) (fun i _ => 4 - (intOf i).toNat)
      case atStart => exact ⟨0, by omega, rfl, by simp⟩
      case round =>
        obtain ⟨j, hj, rfl, rfl⟩ := hrel
        by_cases hj4 : j < 4
        · have hlen : (O ++ (byte4 x).take j).length = 4 * k + j := by
            have h4 : (byte4 x).length = 4 := rfl
            rw [List.length_append, HL.out, List.length_take, h4]; omega
          have hhere := arr_at X (bC 32 (O ++ (byte4 x).take j)) 118 _ _ (bC_here 32 (O ++ (byte4 x).take j) (by omega))
          have hnx := bC_next 32 (O ++ (byte4 x).take j) ((byte4 x).getD j 0) (by omega)
          have htk : O ++ (byte4 x).take j ++ [(byte4 x).getD j 0] = O ++ (byte4 x).take (j + 1) := by
            have h4 : j < (byte4 x).length := hj4
            rw [List.take_succ_eq_append_getElem h4, List.append_assoc]
            simp [List.getD, h4]
          rw [htk] at hnx
          rw [hlen] at hnx hhere
          have hi : (4 * (k : Int) + (j : Int)) < 32 := by omega
          generalize hC : bC 32 (O ++ (byte4 x).take j) = C at *
          have HNX := Lib.hid hnx; have HLEN := Lib.hid hlen; have HTK := Lib.hid htk; have HC := Lib.hid hC; clear hnx hlen htk hC
          go_wp2
          rw [byte4_at x j hj4] at HNX
          exact ⟨⟨j + 1, by omega, by go_num, by rw [HNX.out]⟩, by simp [intOf]; omega⟩
        · obtain rfl : j = 4 := by omega
          have h4 : (byte4 x).take 4 = byte4 x := rfl
          rw [h4, show ((4 : Nat) : Int) = 4 from rfl]
          go_wp2
          exact ⟨⟨k + 1, by omega, by go_num, by rw [HN.out]⟩, by simp [intOf]; omega⟩
    · obtain rfl : k = 8 := by omega
      rw [outN_all, show ((8 : Nat) : Int) = 8 from rfl]
      have hc8 : bC 32 (outL s) = (cells (outL s)).toArray := by
        unfold bC; rw [outL_len]; simp
      have hcv := fun n c hn => conv_arr X (outL s) (cells (outL s)).toArray 118 n c hn rfl
      have hcv32 := hcv 32 32 (outL_len s)
      rw [hc8]
      have hbl : Below w.heap.size w (X.alloc (.cells (cells (outL s)).toArray 118)) := hXb.alloc hXb.size _
      generalize (cells (outL s)).toArray = C at *
      clear hcv hc8
      go_wp2
      go_ret
      exact ⟨rfl, hbl⟩
end Go.Proofs.YthbbeojhipcjiaaDoor
