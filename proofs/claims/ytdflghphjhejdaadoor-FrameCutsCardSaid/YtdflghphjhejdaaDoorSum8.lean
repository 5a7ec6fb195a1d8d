/- The reference's Sum: the loop that prints eight words as bytes. -/
import Derived.Test.YtdflghphjhejdaaDoorSumEight
namespace Go.Proofs.YtdflghphjhejdaaDoor
open Go.RowKit

/-- the bytes of the first words -/
def outN (s : S8) : Nat → List UInt8
  | 0 => []
  | k + 1 => outN s k ++ byte4 (s.get k)
theorem outN_len (s : S8) (k : Nat) : (outN s k).length = 4 * k := by
  induction k with
  | zero => rfl
  | succ k ih => rw [outN, List.length_append, ih]; show 4 * k + 4 = _; omega
theorem outN_all (s : S8) : outN s 8 = outL s := rfl
theorem byte4_cells (x : UInt32) : cells (byte4 x) = [Value.int .u8 (IntKind.u8.wrap ((x.toNat : Int) / 16777216)), .int .u8 (IntKind.u8.wrap ((x.toNat : Int) / 65536)), .int .u8 (IntKind.u8.wrap ((x.toNat : Int) / 256)), .int .u8 (IntKind.u8.wrap (x.toNat : Int))] := by
  have e : ∀ n : Nat, ((UInt8.ofNat n).toNat : Int) = (n : Int) % 256 := fun n => by rw [UInt8.toNat_ofNat']; omega
  have g : ∀ n : Int, IntKind.u8.wrap n = n % 256 := fun n => by rw [IntKind.wrap_u8]
  unfold byte4 cells
  simp only [List.map_cons, List.map_nil, e, g]
  have h1 : ((x.toNat / 16777216 : Nat) : Int) = (x.toNat : Int) / 16777216 := by omega
  have h2 : ((x.toNat / 65536 : Nat) : Int) = (x.toNat : Int) / 65536 := by omega
  have h3 : ((x.toNat / 256 : Nat) : Int) = (x.toNat : Int) / 256 := by omega
  rw [h1, h2, h3]
set_option maxRecDepth 100000 in
set_option maxHeartbeats 2000000 in
theorem refOut_loop {x0 x1 x2 x3 x5 x6 x7 x8 x9 x10 x11 x12 x13 x14 x15 x16 x17 x18 x19 x22 x23 x24 x25 x26 x27 x28 x29 x30 x31 x32 x33 x34 x35 x36 x37 x38 x39 x40 x41 x42 x43 x44 x45 x46 x47 x48 x49 x50 x51 x52 x53 x54 x55 x56 x57 x58 x59 x60 x61 x62 x63 x64 x65 x66 x67 x68 x69 x70 x71 x72 x73 x74 x75 x76 x77 x78 x79 x80 x81 x82 x83 x84 x85 x86 x87 x88 x89 x90 x91 x92 x93 x94 x95 x96 x97 x98 x99 x100 x101 x102 x103 x104 x105 x106 x107 x108 x109 x110 x111 x112 x113 x114 x115 x116 x117 x118 x119 x120 x121 x122 x123 x124 x125 x126 x127 x128 x129 x130 x131 x132 x133 x134 x135 x136 x137 x138 x139 x140 x141 x142 x143 x144 x145 x146 x147 x148 x149 x150 x151 x152 x153 x154 x155 x156 x157 x158 x159 x160 x161 x162 x163 x164 x165 x166 x167 x168 x169 x170 x171 x172 x173 x174 x175 x176 x177 x178 x179 x180 x181 x182 x183 x184 x185 x186 x187 x188 x189 x190 x191 x192 x193 x194 x195 x196 x197 x198 x199 x200 x201 x202 x203 x204 x205 x206 x207 x208 x209 x210 x211 x212 x213 x214 x215 x216 x217 x218 x219 x220 x221 x222 x223 x224 x225 x226 x227 x228 x229 x230 x231 x232 x233 x234 x235 x236 x237 x238 x239 x240 x241 x242 x243 x244 x245 x246 x247 x248 x249 x250 x251 x252 x253 x254 x255 x256 x257 x258 x259 x260 x261 x262 x263 x264 x265 x266 x267 x268 x269 x270 x271 x272 x273 x274 x275 x276 : Value} (X : World) (s : S8) (hb : Nat) (Q : Exit → Act → World → Prop) (hH : X.heap[hb]? = some (.cells (h0Cells s) 46))
    (hexit : ∀ (y21 y249 y250 y251 y252 y253 y254 y255 y256 y257 y258 y259 y260 y261 y262 y263 y264 y265 y266 y267 y268 y269 y270 y271 y272 y273 y274 : Value) (v : Value) W, Buf W X.heap.size v (outL s) → Below X.heap.size X W → Q (.exit 14) ⟨#[x0, x1, x2, x3, .pointer (some ⟨hb, 0, none⟩), x5, x6, x7, x8, x9, x10, x11, x12, x13, x14, x15, x16, x17, x18, x19, v, y21, x22, x23, x24, x25, x26, x27, x28, x29, x30, x31, x32, x33, x34, x35, x36, x37, x38, x39, x40, x41, x42, x43, x44, x45, x46, x47, x48, x49, x50, x51, x52, x53, x54, x55, x56, x57, x58, x59, x60, x61, x62, x63, x64, x65, x66, x67, x68, x69, x70, x71, x72, x73, x74, x75, x76, x77, x78, x79, x80, x81, x82, x83, x84, x85, x86, x87, x88, x89, x90, x91, x92, x93, x94, x95, x96, x97, x98, x99, x100, x101, x102, x103, x104, x105, x106, x107, x108, x109, x110, x111, x112, x113, x114, x115, x116, x117, x118, x119, x120, x121, x122, x123, x124, x125, x126, x127, x128, x129, x130, x131, x132, x133, x134, x135, x136, x137, x138, x139, x140, x141, x142, x143, x144, x145, x146, x147, x148, x149, x150, x151, x152, x153, x154, x155, x156, x157, x158, x159, x160, x161, x162, x163, x164, x165, x166, x167, x168, x169, x170, x171, x172, x173, x174, x175, x176, x177, x178, x179, x180, x181, x182, x183, x184, x185, x186, x187, x188, x189, x190, x191, x192, x193, x194, x195, x196, x197, x198, x199, x200, x201, x202, x203, x204, x205, x206, x207, x208, x209, x210, x211, x212, x213, x214, x215, x216, x217, x218, x219, x220, x221, x222, x223, x224, x225, x226, x227, x228, x229, x230, x231, x232, x233, x234, x235, x236, x237, x238, x239, x240, x241, x242, x243, x244, x245, x246, x247, x248, y249, y250, y251, y252, y253, y254, y255, y256, y257, y258, y259, y260, y261, y262, y263, y264, y265, y266, y267, y268, y269, y270, y271, y272, y273, y274, x275, x276], []⟩ W) :
    Code.wp Tryd.prog (refLoop 42) Q ⟨#[x0, x1, x2, x3, .pointer (some ⟨hb, 0, none⟩), x5, x6, x7, x8, x9, x10, x11, x12, x13, x14, x15, x16, x17, x18, x19, .slice none 0 0, .int .i64 0, x22, x23, x24, x25, x26, x27, x28, x29, x30, x31, x32, x33, x34, x35, x36, x37, x38, x39, x40, x41, x42, x43, x44, x45, x46, x47, x48, x49, x50, x51, x52, x53, x54, x55, x56, x57, x58, x59, x60, x61, x62, x63, x64, x65, x66, x67, x68, x69, x70, x71, x72, x73, x74, x75, x76, x77, x78, x79, x80, x81, x82, x83, x84, x85, x86, x87, x88, x89, x90, x91, x92, x93, x94, x95, x96, x97, x98, x99, x100, x101, x102, x103, x104, x105, x106, x107, x108, x109, x110, x111, x112, x113, x114, x115, x116, x117, x118, x119, x120, x121, x122, x123, x124, x125, x126, x127, x128, x129, x130, x131, x132, x133, x134, x135, x136, x137, x138, x139, x140, x141, x142, x143, x144, x145, x146, x147, x148, x149, x150, x151, x152, x153, x154, x155, x156, x157, x158, x159, x160, x161, x162, x163, x164, x165, x166, x167, x168, x169, x170, x171, x172, x173, x174, x175, x176, x177, x178, x179, x180, x181, x182, x183, x184, x185, x186, x187, x188, x189, x190, x191, x192, x193, x194, x195, x196, x197, x198, x199, x200, x201, x202, x203, x204, x205, x206, x207, x208, x209, x210, x211, x212, x213, x214, x215, x216, x217, x218, x219, x220, x221, x222, x223, x224, x225, x226, x227, x228, x229, x230, x231, x232, x233, x234, x235, x236, x237, x238, x239, x240, x241, x242, x243, x244, x245, x246, x247, x248, x249, x250, x251, x252, x253, x254, x255, x256, x257, x258, x259, x260, x261, x262, x263, x264, x265, x266, x267, x268, x269, x270, x271, x272, x273, x274, x275, x276], []⟩ X := by
  obtain ⟨i0, hi, hz0, hz1, hz2⟩ := info_parts Tryd.infoByte
  have HE := Lib.hid hexit; clear hexit
  have HH := Lib.hid hH
  have hlt : hb < X.heap.size := (Array.getElem?_eq_some_iff.1 hH).1
  clear hH
  dsimp only []
  conv => arg 2; whnf
  go_loopw [20, 21] (fun v i W => ∃ k : Nat, k ≤ 8 ∧ i = .int .i64 (k : Int) ∧ Buf W X.heap.size v (outN s k) ∧ Below X.heap.size X W) (fun _ i _ => 8 - (intOf i).toNat)
  case atStart => exact ⟨0, by omega, rfl, ⟨rfl, Or.inl ⟨rfl, rfl⟩⟩, Below.refl _ _⟩
  case round =>
    obtain ⟨k, hk, rfl, hown, hbl⟩ := hrel
    have hbs := hbl.size
    by_cases hk8 : k < 8
    · have hd : decide ((k : Int) < 8) = true := by simp; omega
      have bk : (k : Int) < 8 := by omega
      have hS := (hbl.block hb hlt).trans HH.out
      have d2 : wr.cell? ⟨hb, k, none⟩ = some (.int .u32 ((s.get k).toNat : Int)) := by rw [cell_of_heap hS, eightC_s, eightC_at _ _ hk8]
      have hl := outN_len s k
      have hc4 := byte4_cells (s.get k)
      have hn : outN s (k + 1) = outN s k ++ byte4 (s.get k) := rfl
      have hx : (s.get k).toNat < 4294967296 := (s.get k).toNat_lt
      have hb4 : (byte4 (s.get k)).length = 4 := rfl
      generalize byte4 (s.get k) = b4 at *
      generalize (s.get k).toNat = x at *
      have HC := Lib.hid hc4; have HN := Lib.hid hn; have HL := Lib.hid hl; have HB4 := Lib.hid hb4; clear hc4 hn hS hl hb4
      go_wp2
      have hltw : hb < wr.drew.heap.size := Nat.lt_of_lt_of_le hlt hbs
      have hne := World.new_ne wr ⟨hb, k, none⟩ d2
      go_region_held3 (fun w' => w'.cell? ⟨hb, k, none⟩ = some (.int .u32 (x : Int))) (first | go_keep | exact (((Below.refl X.heap.size _).grown hg' (by simp; omega) (fun j hj => (hown.lt j hj).1)).cell (p := ⟨hb, k, none⟩) hlt).trans ((old_at wr.drew _ hb k hltw).trans d2))
        ((refine step_append_own rfl (.tmp 253) (.tmp 273) 23 rfl X.heap.size 5 i0 _ 1 1 Tryd.underlying23 hi hz0 hz1 hz2 rfl (by decide) _ _ _ rfl (World.ownsRow.alloc (World.ownsRow.drew hown) _) ⟨_, 0, none⟩ 4 4 [.int .u8 _, .int .u8 _, .int .u8 _, .int .u8 _] rfl rfl (new_cells _ #[_, _, _, _] _) (four_cells _ _ _ _) (by unfold maxLen; have := HL.out; omega) (by have := HL.out; omega) (by simp; omega) ?_; intro v' w1 hown' hg' hn'))
      have hb1 : Below X.heap.size X w1 := (hbl.drew.alloc hbs _).grown hg' (by simp; omega) (fun j hj => (hown.lt j hj).1)
      go_wp2
      go_roundw
      case rel => exact ⟨k + 1, by omega, by go_num, Buf.cut hown' (by rw [HN.out, List.length_append, HB4.out]) (by rw [HN.out, cells_app, HC.out]), hb1⟩
      case measure => simp [intOf]; omega
    · have hd : decide ((k : Int) < 8) = false := by simp; omega
      obtain rfl : k = 8 := by omega
      go_wp2
      exact HE.out _ _ _ _ _ _ _ _ _ _ _ _ _ _ _ _ _ _ _ _ _ _ _ _ _ _ _ _ wr hown hbl
end Go.Proofs.YtdflghphjhejdaaDoor
