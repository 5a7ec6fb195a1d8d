/- Texts merged by program, in build order: Sum6, Sum5, Sum7, RefSum, PkceRef. -/
import Derived.Test.YtlcpehmdhnakpaaDoorG04
import Derived.Test.YtlcpehmdhnakpaaDoorG05
import Derived.Test.YtlcpehmdhnakpaaDoorG06
set_option linter.unusedVariables false
set_option linter.unusedSimpArgs false
namespace Go.Proofs.YtlcpehmdhnakpaaDoor
open Go.RowKit

set_option maxRecDepth 100000 in
set_option maxHeartbeats 2000000 in
theorem refShift_loop {x0 x1 x2 x3 x4 x5 x6 x7 x8 x9 x10 x11 x12 x13 x15 x16 x17 x19 x20 x21 x22 x23 x24 x25 x26 x27 x28 x29 x30 x31 x32 x33 x34 x35 x36 x37 x38 x39 x40 x41 x42 x43 x44 x45 x46 x47 x48 x49 x50 x51 x52 x53 x54 x55 x56 x57 x58 x59 x60 x61 x62 x63 x64 x65 x66 x67 x68 x69 x70 x71 x72 x73 x74 x75 x76 x77 x78 x79 x80 x81 x82 x83 x84 x85 x86 x87 x88 x89 x90 x91 x92 x93 x94 x95 x96 x97 x98 x99 x100 x101 x102 x103 x104 x105 x106 x107 x108 x109 x110 x111 x112 x113 x114 x115 x116 x117 x118 x119 x120 x121 x122 x123 x124 x125 x126 x127 x128 x129 x130 x131 x132 x133 x134 x135 x136 x137 x138 x139 x140 x141 x142 x143 x144 x145 x146 x147 x148 x149 x150 x151 x152 x153 x154 x155 x156 x157 x158 x159 x160 x161 x162 x163 x164 x165 x166 x167 x168 x169 x170 x171 x172 x173 x174 x175 x176 x177 x178 x179 x180 x181 x182 x183 x184 x185 x186 x187 x188 x189 x190 x191 x192 x193 x194 x195 x196 x197 x198 x199 x200 x201 x202 x203 x204 x205 x206 x207 x208 x209 x210 x211 x212 x213 x214 x215 x216 x217 x218 x219 x220 x221 x222 x223 x224 x225 x226 x227 x228 x229 x230 x231 x232 x233 x234 x235 x236 x237 x238 x239 x240 x241 x242 x243 x244 x245 x246 x247 x248 x249 x250 x251 x252 x253 x254 x255 x256 x257 x258 x259 x260 x261 x262 x263 x264 x265 x266 x267 x268 x269 x270 x271 x272 x273 x274 x275 x276 : Value} (X : World) (s : S8) (q : Nat) (Q : Exit → Act → World → Prop)
    (hexit : ∀ (y18 y217 y218 y219 y220 y221 y222 y223 y224 y225 y226 : Value), Q (.exit 10) ⟨#[x0, x1, x2, x3, x4, x5, x6, x7, x8, x9, x10, x11, x12, x13, .pointer (some ⟨X.heap.size, 0, none⟩), x15, x16, x17, y18, x19, x20, x21, x22, x23, x24, x25, x26, x27, x28, x29, x30, x31, x32, x33, x34, x35, x36, x37, x38, x39, x40, x41, x42, x43, x44, x45, x46, x47, x48, x49, x50, x51, x52, x53, x54, x55, x56, x57, x58, x59, x60, x61, x62, x63, x64, x65, x66, x67, x68, x69, x70, x71, x72, x73, x74, x75, x76, x77, x78, x79, x80, x81, x82, x83, x84, x85, x86, x87, x88, x89, x90, x91, x92, x93, x94, x95, x96, x97, x98, x99, x100, x101, x102, x103, x104, x105, x106, x107, x108, x109, x110, x111, x112, x113, x114, x115, x116, x117, x118, x119, x120, x121, x122, x123, x124, x125, x126, x127, x128, x129, x130, x131, x132, x133, x134, x135, x136, x137, x138, x139, x140, x141, x142, x143, x144, x145, x146, x147, x148, x149, x150, x151, x152, x153, x154, x155, x156, x157, x158, x159, x160, x161, x162, x163, x164, x165, x166, x167, x168, x169, x170, x171, x172, x173, x174, x175, x176, x177, x178, x179, x180, x181, x182, x183, x184, x185, x186, x187, x188, x189, x190, x191, x192, x193, x194, x195, x196, x197, x198, x199, x200, x201, x202, x203, x204, x205, x206, x207, x208, x209, x210, x211, x212, x213, x214, x215, x216, y217, y218, y219, y220, y221, y222, y223, y224, y225, y226, x227, x228, x229, x230, x231, x232, x233, x234, x235, x236, x237, x238, x239, x240, x241, x242, x243, x244, x245, x246, x247, x248, x249, x250, x251, x252, x253, x254, x255, x256, x257, x258, x259, x260, x261, x262, x263, x264, x265, x266, x267, x268, x269, x270, x271, x272, x273, x274, x275, x276], []⟩ ((X.alloc (.cells (eightC (shiftF s 0)) 66)).drewN q)) :
    Code.wp Tryd.prog (refLoop 31) Q ⟨#[x0, x1, x2, x3, x4, x5, x6, x7, x8, x9, x10, x11, x12, x13, .pointer (some ⟨X.heap.size, 0, none⟩), x15, x16, x17, .int .i64 7, x19, x20, x21, x22, x23, x24, x25, x26, x27, x28, x29, x30, x31, x32, x33, x34, x35, x36, x37, x38, x39, x40, x41, x42, x43, x44, x45, x46, x47, x48, x49, x50, x51, x52, x53, x54, x55, x56, x57, x58, x59, x60, x61, x62, x63, x64, x65, x66, x67, x68, x69, x70, x71, x72, x73, x74, x75, x76, x77, x78, x79, x80, x81, x82, x83, x84, x85, x86, x87, x88, x89, x90, x91, x92, x93, x94, x95, x96, x97, x98, x99, x100, x101, x102, x103, x104, x105, x106, x107, x108, x109, x110, x111, x112, x113, x114, x115, x116, x117, x118, x119, x120, x121, x122, x123, x124, x125, x126, x127, x128, x129, x130, x131, x132, x133, x134, x135, x136, x137, x138, x139, x140, x141, x142, x143, x144, x145, x146, x147, x148, x149, x150, x151, x152, x153, x154, x155, x156, x157, x158, x159, x160, x161, x162, x163, x164, x165, x166, x167, x168, x169, x170, x171, x172, x173, x174, x175, x176, x177, x178, x179, x180, x181, x182, x183, x184, x185, x186, x187, x188, x189, x190, x191, x192, x193, x194, x195, x196, x197, x198, x199, x200, x201, x202, x203, x204, x205, x206, x207, x208, x209, x210, x211, x212, x213, x214, x215, x216, x217, x218, x219, x220, x221, x222, x223, x224, x225, x226, x227, x228, x229, x230, x231, x232, x233, x234, x235, x236, x237, x238, x239, x240, x241, x242, x243, x244, x245, x246, x247, x248, x249, x250, x251, x252, x253, x254, x255, x256, x257, x258, x259, x260, x261, x262, x263, x264, x265, x266, x267, x268, x269, x270, x271, x272, x273, x274, x275, x276], []⟩ ((X.alloc (.cells (h0Cells s) 66)).drewN q) := by
  have HE := Lib.hid hexit; clear hexit
  rw [← shiftF_start]
  dsimp only []
  conv => arg 2; whnf
  go_loopw [18] (fun i W => ∃ j : Nat, j ≤ 7 ∧ i = .int .i64 (j : Int) ∧ W = (X.alloc (.cells (eightC (shiftF s j)) 66)).drewN q) (fun i _ => (intOf i).toNat)
  case atStart => exact ⟨7, by omega, rfl, rfl⟩
  case round =>
    obtain ⟨j, hj, rfl, rfl⟩ := hrel
    by_cases hj0 : 0 < j
    · have hd : decide ((0 : Int) < (j : Int)) = true := by simp; omega
      obtain ⟨n1, hn1⟩ : ∃ n, j - 1 = n := ⟨_, rfl⟩
      have hr : shiftF s j n1 = s.get n1 := by unfold shiftF; rw [if_neg (by omega)]
      have d1 := arr_at X (eightC (shiftF s j)) 66 n1 _ (eightC_at _ n1 (by omega))
      rw [hr] at d1
      have dj := arr_at X (eightC (shiftF s j)) 66 j _ (eightC_at _ j (by omega))
      have hnx := shiftF_next s j hj0 hj
      rw [hn1] at hnx
      have w1 : IntKind.i64.wrap ((j : Int) - 1) = (n1 : Int) := by rw [IntKind.wrap_i64]; omega
      have e1 : (j : Int) - 1 = (n1 : Int) := by omega
      have b1 : (n1 : Int) < 8 := by omega
      have bj : (j : Int) < 8 := by omega
      have hm : n1 + 1 = j := by omega
      have hm7 : n1 ≤ 7 := by omega
      generalize shiftF s j = fj at *
      have HNX := Lib.hid hnx; have HM := Lib.hid hm; clear hnx hr hn1 hm
      go_wp2
      go_roundw
      case rel => exact ⟨n1, hm7, rfl, by rw [arr_store, HNX.out]⟩
      case measure => have := HM.out; simp [intOf]; omega
    · have hd : decide ((0 : Int) < (j : Int)) = false := by simp; omega
      obtain rfl : j = 0 := by omega
      go_wp2
      exact HE.out _ _ _ _ _ _ _ _ _ _ _
end Go.Proofs.YtlcpehmdhnakpaaDoor
namespace Go.Proofs.YtlcpehmdhnakpaaDoor
open Go.RowKit

theorem t1_int (a b c d e f g h k w : UInt32) : ((h.toNat : Int) + bits .xor .u32 (bits .xor .u32 ((rotr e 6).toNat : Int) ((rotr e 11).toNat : Int)) ((rotr e 25).toNat : Int) + bits .xor .u32 (bits .and .u32 (e.toNat : Int) (f.toNat : Int)) (bits .and .u32 (bits .xor .u32 IntKind.u32.max (e.toNat : Int)) (g.toNat : Int)) + (k.toNat : Int) + (w.toNat : Int)) % 4294967296 =
    ((t1W ⟨a, b, c, d, e, f, g, h⟩ k w).toNat : Int) := by
  rw [w_not, w_xor, w_xor, w_and, w_and, w_xor]
  unfold t1W
  rw [← w_add, ← w_add, ← w_add, ← w_add]
  show ((h.toNat : Int) + ((up1 e).toNat : Int) + ((chW e f g).toNat : Int) + (k.toNat : Int) + (w.toNat : Int)) % 4294967296 = _
  dsimp only
  omega
theorem t2_int (a b c d e f g h : UInt32) : (bits .xor .u32 (bits .xor .u32 ((rotr a 2).toNat : Int) ((rotr a 13).toNat : Int)) ((rotr a 22).toNat : Int) + bits .xor .u32 (bits .xor .u32 (bits .and .u32 (a.toNat : Int) (b.toNat : Int)) (bits .and .u32 (a.toNat : Int) (c.toNat : Int))) (bits .and .u32 (b.toNat : Int) (c.toNat : Int))) % 4294967296 =
    ((t2W ⟨a, b, c, d, e, f, g, h⟩).toNat : Int) := by
  rw [w_xor, w_xor, w_and, w_and, w_and, w_xor, w_xor, w_add]
  rfl
set_option maxRecDepth 100000 in
set_option maxHeartbeats 4000000 in
theorem refRounds_loop {x0 x1 x2 x4 x5 x6 x7 x8 x10 x11 x12 x13 x16 x17 x18 x19 x20 x21 x22 x23 x24 x25 x26 x27 x28 x29 x30 x31 x32 x33 x34 x35 x36 x37 x38 x39 x40 x41 x42 x43 x44 x45 x46 x47 x48 x49 x50 x51 x52 x53 x54 x55 x56 x57 x58 x59 x60 x61 x62 x63 x64 x65 x66 x67 x68 x69 x70 x71 x72 x73 x74 x75 x76 x77 x78 x79 x80 x81 x82 x83 x84 x85 x86 x87 x88 x89 x90 x91 x92 x93 x94 x95 x96 x97 x98 x99 x100 x101 x102 x103 x104 x105 x106 x107 x108 x109 x110 x111 x112 x113 x114 x115 x116 x117 x118 x119 x120 x121 x122 x123 x124 x125 x126 x127 x128 x129 x130 x131 x132 x133 x134 x135 x136 x137 x138 x139 x140 x141 x142 x143 x144 x145 x146 x147 x148 x149 x150 x151 x152 x153 x154 x155 x156 x157 x158 x159 x160 x161 x162 x163 x164 x165 x166 x167 x168 x169 x170 x171 x172 x173 x174 x175 x176 x177 x178 x179 x180 x181 x182 x183 x184 x185 x186 x187 x188 x189 x190 x191 x192 x193 x194 x195 x196 x197 x198 x199 x200 x201 x202 x203 x204 x205 x206 x207 x208 x209 x210 x211 x212 x213 x214 x215 x216 x217 x218 x219 x220 x221 x222 x223 x224 x225 x226 x227 x228 x229 x230 x231 x232 x233 x234 x235 x236 x237 x238 x239 x240 x241 x242 x243 x244 x245 x246 x247 x248 x249 x250 x251 x252 x253 x254 x255 x256 x257 x258 x259 x260 x261 x262 x263 x264 x265 x266 x267 x268 x269 x270 x271 x272 x273 x274 x275 x276 : Value} (X : World) (M : List UInt8) (p : Nat) (s : S8) (kb bw : Nat) (Q : Exit → Act → World → Prop) (hkb : kb < X.heap.size) (hbw : bw < X.heap.size)
    (hK : ∀ i, i < 64 → X.cell? ⟨kb, i, none⟩ = some (.int .u32 ((kAt i).toNat : Int))) (hW : ∀ i, i < 64 → X.cell? ⟨bw, i, none⟩ = some (.int .u32 ((schedW M p i).toNat : Int)))
    (hexit : ∀ (y15 y16 y17 y18 y149 y150 y151 y152 y153 y154 y155 y156 y157 y158 y159 y160 y161 y162 y163 y164 y165 y166 y167 y168 y169 y170 y171 y172 y173 y174 y175 y176 y177 y178 y179 y180 y181 y182 y183 y184 y185 y186 y187 y188 y189 y190 y191 y192 y193 y194 y195 y196 y197 y198 y199 y200 y201 y202 y203 y204 y205 y206 y207 y208 y209 y210 y211 y212 y213 y214 y215 y216 y217 y218 y219 y220 y221 y222 y223 y224 y225 y226 y227 y228 y229 y230 y231 y232 y233 y234 y235 : Value) (q : Nat), Q (.exit 8) ⟨#[x0, x1, x2, .pointer (some ⟨kb, 0, none⟩), x4, x5, x6, x7, x8, .pointer (some ⟨bw, 0, none⟩), x10, x11, x12, x13, .pointer (some ⟨X.heap.size, 0, none⟩), y15, y16, y17, y18, x19, x20, x21, x22, x23, x24, x25, x26, x27, x28, x29, x30, x31, x32, x33, x34, x35, x36, x37, x38, x39, x40, x41, x42, x43, x44, x45, x46, x47, x48, x49, x50, x51, x52, x53, x54, x55, x56, x57, x58, x59, x60, x61, x62, x63, x64, x65, x66, x67, x68, x69, x70, x71, x72, x73, x74, x75, x76, x77, x78, x79, x80, x81, x82, x83, x84, x85, x86, x87, x88, x89, x90, x91, x92, x93, x94, x95, x96, x97, x98, x99, x100, x101, x102, x103, x104, x105, x106, x107, x108, x109, x110, x111, x112, x113, x114, x115, x116, x117, x118, x119, x120, x121, x122, x123, x124, x125, x126, x127, x128, x129, x130, x131, x132, x133, x134, x135, x136, x137, x138, x139, x140, x141, x142, x143, x144, x145, x146, x147, x148, y149, y150, y151, y152, y153, y154, y155, y156, y157, y158, y159, y160, y161, y162, y163, y164, y165, y166, y167, y168, y169, y170, y171, y172, y173, y174, y175, y176, y177, y178, y179, y180, y181, y182, y183, y184, y185, y186, y187, y188, y189, y190, y191, y192, y193, y194, y195, y196, y197, y198, y199, y200, y201, y202, y203, y204, y205, y206, y207, y208, y209, y210, y211, y212, y213, y214, y215, y216, y217, y218, y219, y220, y221, y222, y223, y224, y225, y226, y227, y228, y229, y230, y231, y232, y233, y234, y235, x236, x237, x238, x239, x240, x241, x242, x243, x244, x245, x246, x247, x248, x249, x250, x251, x252, x253, x254, x255, x256, x257, x258, x259, x260, x261, x262, x263, x264, x265, x266, x267, x268, x269, x270, x271, x272, x273, x274, x275, x276], []⟩ ((X.alloc (.cells (h0Cells (roundsW M p s 64)) 66)).drewN q)) :
    Code.wp Tryd.prog (refLoop 26) Q ⟨#[x0, x1, x2, .pointer (some ⟨kb, 0, none⟩), x4, x5, x6, x7, x8, .pointer (some ⟨bw, 0, none⟩), x10, x11, x12, x13, .pointer (some ⟨X.heap.size, 0, none⟩), .int .i64 0, x16, x17, x18, x19, x20, x21, x22, x23, x24, x25, x26, x27, x28, x29, x30, x31, x32, x33, x34, x35, x36, x37, x38, x39, x40, x41, x42, x43, x44, x45, x46, x47, x48, x49, x50, x51, x52, x53, x54, x55, x56, x57, x58, x59, x60, x61, x62, x63, x64, x65, x66, x67, x68, x69, x70, x71, x72, x73, x74, x75, x76, x77, x78, x79, x80, x81, x82, x83, x84, x85, x86, x87, x88, x89, x90, x91, x92, x93, x94, x95, x96, x97, x98, x99, x100, x101, x102, x103, x104, x105, x106, x107, x108, x109, x110, x111, x112, x113, x114, x115, x116, x117, x118, x119, x120, x121, x122, x123, x124, x125, x126, x127, x128, x129, x130, x131, x132, x133, x134, x135, x136, x137, x138, x139, x140, x141, x142, x143, x144, x145, x146, x147, x148, x149, x150, x151, x152, x153, x154, x155, x156, x157, x158, x159, x160, x161, x162, x163, x164, x165, x166, x167, x168, x169, x170, x171, x172, x173, x174, x175, x176, x177, x178, x179, x180, x181, x182, x183, x184, x185, x186, x187, x188, x189, x190, x191, x192, x193, x194, x195, x196, x197, x198, x199, x200, x201, x202, x203, x204, x205, x206, x207, x208, x209, x210, x211, x212, x213, x214, x215, x216, x217, x218, x219, x220, x221, x222, x223, x224, x225, x226, x227, x228, x229, x230, x231, x232, x233, x234, x235, x236, x237, x238, x239, x240, x241, x242, x243, x244, x245, x246, x247, x248, x249, x250, x251, x252, x253, x254, x255, x256, x257, x258, x259, x260, x261, x262, x263, x264, x265, x266, x267, x268, x269, x270, x271, x272, x273, x274, x275, x276], []⟩ (X.alloc (.cells (h0Cells s) 66)) := by
  have HE := Lib.hid hexit; clear hexit
  have HK := Lib.hid hK; have HW := Lib.hid hW; clear hK hW
  dsimp only []
  conv => arg 2; whnf
  go_loopw [15] (fun i W => ∃ k q : Nat, k ≤ 64 ∧ i = .int .i64 (k : Int) ∧ W = (X.alloc (.cells (h0Cells (roundsW M p s k)) 66)).drewN q) (fun i _ => 64 - (intOf i).toNat)
  case atStart => exact ⟨0, 0, by omega, rfl, rfl⟩
  case round =>
    obtain ⟨k, q, hk, rfl, rfl⟩ := hrel
    by_cases hk64 : k < 64
    · have hd64 : decide ((k : Int) < 64) = true := by simp; omega
      have bk : (k : Int) < 64 := by omega
      have hnx : roundsW M p s (k + 1) = roundW (roundsW M p s k) (kAt k) (schedW M p k) := rfl
      have dK := (old_at X (.cells (h0Cells (roundsW M p s k)) 66) kb k hkb).trans (HK.out k hk64)
      have dW := (old_at X (.cells (h0Cells (roundsW M p s k)) 66) bw k hbw).trans (HW.out k hk64)
      generalize kAt k = kk at *
      generalize schedW M p k = ww at *
      generalize roundsW M p s k = r at *
      obtain ⟨ra, rb, rc, rd, re, rf, rg, rh⟩ := r
      have HNX := Lib.hid hnx; clear hnx
      have c0 : ((X.alloc (.cells (h0Cells ⟨ra, rb, rc, rd, re, rf, rg, rh⟩) 66)).drewN q).cell? ⟨X.heap.size, 0, none⟩ = some (.int .u32 (ra.toNat : Int)) := arr_at X _ _ 0 _ rfl
      have c1 : ((X.alloc (.cells (h0Cells ⟨ra, rb, rc, rd, re, rf, rg, rh⟩) 66)).drewN q).cell? ⟨X.heap.size, 1, none⟩ = some (.int .u32 (rb.toNat : Int)) := arr_at X _ _ 1 _ rfl
      have c2 : ((X.alloc (.cells (h0Cells ⟨ra, rb, rc, rd, re, rf, rg, rh⟩) 66)).drewN q).cell? ⟨X.heap.size, 2, none⟩ = some (.int .u32 (rc.toNat : Int)) := arr_at X _ _ 2 _ rfl
      have c4 : ((X.alloc (.cells (h0Cells ⟨ra, rb, rc, rd, re, rf, rg, rh⟩) 66)).drewN q).cell? ⟨X.heap.size, 4, none⟩ = some (.int .u32 (re.toNat : Int)) := arr_at X _ _ 4 _ rfl
      have c5 : ((X.alloc (.cells (h0Cells ⟨ra, rb, rc, rd, re, rf, rg, rh⟩) 66)).drewN q).cell? ⟨X.heap.size, 5, none⟩ = some (.int .u32 (rf.toNat : Int)) := arr_at X _ _ 5 _ rfl
      have c6 : ((X.alloc (.cells (h0Cells ⟨ra, rb, rc, rd, re, rf, rg, rh⟩) 66)).drewN q).cell? ⟨X.heap.size, 6, none⟩ = some (.int .u32 (rg.toNat : Int)) := arr_at X _ _ 6 _ rfl
      have c7 : ((X.alloc (.cells (h0Cells ⟨ra, rb, rc, rd, re, rf, rg, rh⟩) 66)).drewN q).cell? ⟨X.heap.size, 7, none⟩ = some (.int .u32 (rh.toNat : Int)) := arr_at X _ _ 7 _ rfl
      change ((X.alloc (.cells (h0Cells ⟨ra, rb, rc, rd, re, rf, rg, rh⟩) 66)).drewN q).cell? _ = _ at dK
      change ((X.alloc (.cells (h0Cells ⟨ra, rb, rc, rd, re, rf, rg, rh⟩) 66)).drewN q).cell? _ = _ at dW
      generalize hW1 : (X.alloc (.cells (h0Cells ⟨ra, rb, rc, rd, re, rf, rg, rh⟩) 66)).drewN q = W at *
      have HW1 := Lib.hid hW1; clear hW1
      go_wp2
      go_quiet ((go_at_call 28; exact Calls.quiet_of_same (turn_q _ _ (by decide) (by decide) _)))
      go_wp2
      go_quiet ((go_at_call 28; exact quiet_more (turn_q _ _ (by decide) (by decide) _)))
      rw [t1_int ra rb rc rd re rf rg rh kk ww, t2_int ra rb rc rd re rf rg rh]
      have HNX2 : Hid (roundsW M p s (k + 1) = ⟨addW (t1W ⟨ra, rb, rc, rd, re, rf, rg, rh⟩ kk ww) (t2W ⟨ra, rb, rc, rd, re, rf, rg, rh⟩), ra, rb, rc, addW rd (t1W ⟨ra, rb, rc, rd, re, rf, rg, rh⟩ kk ww), re, rf, rg⟩) := Lib.hid HNX.out
      generalize t1W ⟨ra, rb, rc, rd, re, rf, rg, rh⟩ kk ww = xx at *
      generalize t2W ⟨ra, rb, rc, rd, re, rf, rg, rh⟩ = yy at *
      clear HNX c0 c1 c2 c4 c5 c6 c7 dK dW
      go_wp2
      rw [← HW1.out, World.drewN_drewN, World.drewN_drewN]
      refine refShift_loop X ⟨ra, rb, rc, rd, re, rf, rg, rh⟩ _ _ ?_
      intros
      have c4 := arr_at X (eightC (shiftF ⟨ra, rb, rc, rd, re, rf, rg, rh⟩ 0)) 66 4 (.int .u32 (rd.toNat : Int)) rfl
      have c0 := arr_at X (eightC (shiftF ⟨ra, rb, rc, rd, re, rf, rg, rh⟩ 0)) 66 0 (.int .u32 (ra.toNat : Int)) rfl
      have hend := shiftF_end ⟨ra, rb, rc, rd, re, rf, rg, rh⟩ xx yy
      generalize eightC (shiftF ⟨ra, rb, rc, rd, re, rf, rg, rh⟩ 0) = C at *
      have HEND := Lib.hid hend; clear hend
      go_wp2
      go_roundw
      case rel => exact ⟨k + 1, _, by omega, by go_num, by rw [arr_store, arr_store, w_add, w_add, HEND.out, HNX2.out]⟩
      case measure => simp [intOf]; omega
    · have hd64 : decide ((k : Int) < 64) = false := by simp; omega
      obtain rfl : k = 64 := by omega
      go_wp2
      exact HE.out _ _ _ _ _ _ _ _ _ _ _ _ _ _ _ _ _ _ _ _ _ _ _ _ _ _ _ _ _ _ _ _ _ _ _ _ _ _ _ _ _ _ _ _ _ _ _ _ _ _ _ _ _ _ _ _ _ _ _ _ _ _ _ _ _ _ _ _ _ _ _ _ _ _ _ _ _ _ _ _ _ _ _ _ _ _ _ _ _ _ _ _
end Go.Proofs.YtlcpehmdhnakpaaDoor
namespace Go.Proofs.YtlcpehmdhnakpaaDoor
open Go.RowKit

set_option maxRecDepth 100000 in
set_option maxHeartbeats 2000000 in
theorem refAdd_loop {x0 x1 x2 x3 x5 x6 x7 x8 x9 x10 x11 x12 x13 x15 x16 x17 x18 x20 x21 x22 x23 x24 x25 x26 x27 x28 x29 x30 x31 x32 x33 x34 x35 x36 x37 x38 x39 x40 x41 x42 x43 x44 x45 x46 x47 x48 x49 x50 x51 x52 x53 x54 x55 x56 x57 x58 x59 x60 x61 x62 x63 x64 x65 x66 x67 x68 x69 x70 x71 x72 x73 x74 x75 x76 x77 x78 x79 x80 x81 x82 x83 x84 x85 x86 x87 x88 x89 x90 x91 x92 x93 x94 x95 x96 x97 x98 x99 x100 x101 x102 x103 x104 x105 x106 x107 x108 x109 x110 x111 x112 x113 x114 x115 x116 x117 x118 x119 x120 x121 x122 x123 x124 x125 x126 x127 x128 x129 x130 x131 x132 x133 x134 x135 x136 x137 x138 x139 x140 x141 x142 x143 x144 x145 x146 x147 x148 x149 x150 x151 x152 x153 x154 x155 x156 x157 x158 x159 x160 x161 x162 x163 x164 x165 x166 x167 x168 x169 x170 x171 x172 x173 x174 x175 x176 x177 x178 x179 x180 x181 x182 x183 x184 x185 x186 x187 x188 x189 x190 x191 x192 x193 x194 x195 x196 x197 x198 x199 x200 x201 x202 x203 x204 x205 x206 x207 x208 x209 x210 x211 x212 x213 x214 x215 x216 x217 x218 x219 x220 x221 x222 x223 x224 x225 x226 x227 x228 x229 x230 x231 x232 x233 x234 x235 x236 x237 x238 x239 x240 x241 x242 x243 x244 x245 x246 x247 x248 x249 x250 x251 x252 x253 x254 x255 x256 x257 x258 x259 x260 x261 x262 x263 x264 x265 x266 x267 x268 x269 x270 x271 x272 x273 x274 x275 x276 : Value} (X : World) (h s : S8) (hb sb B : Nat) (Q : Exit → Act → World → Prop) (hH : X.heap[hb]? = some (.cells (h0Cells h) 66)) (hS : X.heap[sb]? = some (.cells (h0Cells s) 66)) (hne : sb ≠ hb) (hB : B ≤ hb)
    (hexit : ∀ (y19 y236 y237 y238 y239 y240 y241 y242 y243 y244 y245 y246 y247 y248 : Value) W, W.heap[hb]? = some (.cells (h0Cells (addS h s)) 66) → W.heap.size = X.heap.size → (∀ b, b ≠ hb → W.heap[b]? = X.heap[b]?) → Below B X W → Q (.exit 12) ⟨#[x0, x1, x2, x3, .pointer (some ⟨hb, 0, none⟩), x5, x6, x7, x8, x9, x10, x11, x12, x13, .pointer (some ⟨sb, 0, none⟩), x15, x16, x17, x18, y19, x20, x21, x22, x23, x24, x25, x26, x27, x28, x29, x30, x31, x32, x33, x34, x35, x36, x37, x38, x39, x40, x41, x42, x43, x44, x45, x46, x47, x48, x49, x50, x51, x52, x53, x54, x55, x56, x57, x58, x59, x60, x61, x62, x63, x64, x65, x66, x67, x68, x69, x70, x71, x72, x73, x74, x75, x76, x77, x78, x79, x80, x81, x82, x83, x84, x85, x86, x87, x88, x89, x90, x91, x92, x93, x94, x95, x96, x97, x98, x99, x100, x101, x102, x103, x104, x105, x106, x107, x108, x109, x110, x111, x112, x113, x114, x115, x116, x117, x118, x119, x120, x121, x122, x123, x124, x125, x126, x127, x128, x129, x130, x131, x132, x133, x134, x135, x136, x137, x138, x139, x140, x141, x142, x143, x144, x145, x146, x147, x148, x149, x150, x151, x152, x153, x154, x155, x156, x157, x158, x159, x160, x161, x162, x163, x164, x165, x166, x167, x168, x169, x170, x171, x172, x173, x174, x175, x176, x177, x178, x179, x180, x181, x182, x183, x184, x185, x186, x187, x188, x189, x190, x191, x192, x193, x194, x195, x196, x197, x198, x199, x200, x201, x202, x203, x204, x205, x206, x207, x208, x209, x210, x211, x212, x213, x214, x215, x216, x217, x218, x219, x220, x221, x222, x223, x224, x225, x226, x227, x228, x229, x230, x231, x232, x233, x234, x235, y236, y237, y238, y239, y240, y241, y242, y243, y244, y245, y246, y247, y248, x249, x250, x251, x252, x253, x254, x255, x256, x257, x258, x259, x260, x261, x262, x263, x264, x265, x266, x267, x268, x269, x270, x271, x272, x273, x274, x275, x276], []⟩ W) :
    Code.wp Tryd.prog (refLoop 37) Q ⟨#[x0, x1, x2, x3, .pointer (some ⟨hb, 0, none⟩), x5, x6, x7, x8, x9, x10, x11, x12, x13, .pointer (some ⟨sb, 0, none⟩), x15, x16, x17, x18, .int .i64 0, x20, x21, x22, x23, x24, x25, x26, x27, x28, x29, x30, x31, x32, x33, x34, x35, x36, x37, x38, x39, x40, x41, x42, x43, x44, x45, x46, x47, x48, x49, x50, x51, x52, x53, x54, x55, x56, x57, x58, x59, x60, x61, x62, x63, x64, x65, x66, x67, x68, x69, x70, x71, x72, x73, x74, x75, x76, x77, x78, x79, x80, x81, x82, x83, x84, x85, x86, x87, x88, x89, x90, x91, x92, x93, x94, x95, x96, x97, x98, x99, x100, x101, x102, x103, x104, x105, x106, x107, x108, x109, x110, x111, x112, x113, x114, x115, x116, x117, x118, x119, x120, x121, x122, x123, x124, x125, x126, x127, x128, x129, x130, x131, x132, x133, x134, x135, x136, x137, x138, x139, x140, x141, x142, x143, x144, x145, x146, x147, x148, x149, x150, x151, x152, x153, x154, x155, x156, x157, x158, x159, x160, x161, x162, x163, x164, x165, x166, x167, x168, x169, x170, x171, x172, x173, x174, x175, x176, x177, x178, x179, x180, x181, x182, x183, x184, x185, x186, x187, x188, x189, x190, x191, x192, x193, x194, x195, x196, x197, x198, x199, x200, x201, x202, x203, x204, x205, x206, x207, x208, x209, x210, x211, x212, x213, x214, x215, x216, x217, x218, x219, x220, x221, x222, x223, x224, x225, x226, x227, x228, x229, x230, x231, x232, x233, x234, x235, x236, x237, x238, x239, x240, x241, x242, x243, x244, x245, x246, x247, x248, x249, x250, x251, x252, x253, x254, x255, x256, x257, x258, x259, x260, x261, x262, x263, x264, x265, x266, x267, x268, x269, x270, x271, x272, x273, x274, x275, x276], []⟩ X := by
  have HE := Lib.hid hexit; clear hexit
  have HH := Lib.hid hH; have HS := Lib.hid hS; clear hH hS
  dsimp only []
  conv => arg 2; whnf
  go_loopw [19] (fun i W => ∃ k : Nat, k ≤ 8 ∧ i = .int .i64 (k : Int) ∧ W.heap[hb]? = some (.cells (eightC (sumF h s k)) 66) ∧ W.heap.size = X.heap.size ∧ (∀ b, b ≠ hb → W.heap[b]? = X.heap[b]?) ∧ Below B X W) (fun i _ => 8 - (intOf i).toNat)
  case atStart => exact ⟨0, by omega, rfl, by rw [sumF_start]; exact HH.out, rfl, fun _ _ => rfl, Below.refl _ _⟩
  case round =>
    obtain ⟨k, hk, rfl, hH, hz, hfar, hbl⟩ := hrel
    by_cases hk8 : k < 8
    · have hd : decide ((k : Int) < 8) = true := by simp; omega
      have bk : (k : Int) < 8 := by omega
      have hS := (hfar sb hne).trans HS.out
      have e1 : sumF h s k k = h.get k := by unfold sumF; rw [if_neg (by omega)]
      have d1 : wr.cell? ⟨hb, k, none⟩ = some (.int .u32 ((h.get k).toNat : Int)) := by rw [cell_of_heap hH, eightC_at _ _ hk8, e1]
      have d2 : wr.cell? ⟨sb, k, none⟩ = some (.int .u32 ((s.get k).toNat : Int)) := by rw [cell_of_heap hS, eightC_s, eightC_at _ _ hk8]
      have fz : wr.frozen? ⟨hb, k, none⟩ = false := frozen_of_heap hH
      have hnx := sumF_next h s k hk8
      have hv := w_add (h.get k) (s.get k)
      generalize addW (h.get k) (s.get k) = xk at *
      generalize h.get k = hkk at *
      generalize s.get k = skk at *
      have hlt : hb < wr.heap.size := (Array.getElem?_eq_some_iff.1 hH).1
      have HH2 := Lib.hid hH; have HZ := Lib.hid hz; have HF := Lib.hid hfar; have HNX := Lib.hid hnx; have HV := Lib.hid hv; clear hH hz hfar hnx hv e1 hS
      go_wp2
      refine wp_region_quiet_tail 9 (by kernel_rfl) (by kernel_rfl) ?_
      simp only [List.take_succ_cons, List.take_zero, List.drop_succ_cons, List.drop_zero]
      repeat (go_big_quiet_step (fail))
      refine wpQuiet_nil ?_
      go_wp2
      go_roundw
      case rel =>
        rw [HV.out]
        refine ⟨k + 1, by omega, by go_num, ?_, ?_, fun b hb' => ?_, ?_⟩
        · rw [← HNX.out]; exact heap_set_cell (w := wr.drew) HH2.out _
        · rw [← HZ.out]; simp [World.setCell]
        · rw [← HF.out b hb']; exact Below.heap_setCell wr.drew _ _ b (fun e => hb' (by rw [e]))
        · exact hbl.drew.setCell hB _
      case measure => simp [intOf]; omega
    · have hd : decide ((k : Int) < 8) = false := by simp; omega
      obtain rfl : k = 8 := by omega
      have HH2 := Lib.hid hH; have HZ := Lib.hid hz; have HF := Lib.hid hfar; clear hH hz hfar
      go_wp2
      exact HE.out _ _ _ _ _ _ _ _ _ _ _ _ _ _ wr (by rw [← sumF_end]; exact HH2.out) HZ.out HF.out hbl
end Go.Proofs.YtlcpehmdhnakpaaDoor
namespace Go.Proofs.YtlcpehmdhnakpaaDoor
open Go.RowKit

set_option maxRecDepth 100000 in
set_option maxHeartbeats 2000000 in
theorem refSum_any (s : ByteArray) (hs : s.size ≤ 1048576) (w : World) :
    Calls Tryd.prog 15 #[.string s] w fun e w' => e = .returned (.string ⟨(sumL s.data.toList).toArray⟩) ∧ Below w.heap.size w w' := by
  obtain ⟨hz, hi⟩ := zero_of_info Tryd.zero64
  go_enter Tryd.func15, Tryd.ntmps15
  refine wp_seq_k fun K hK => ?_
  refine wp_region_lit (wpList_plain rfl fun K1 hK1 => hK1 _ _ (wpList_nil (hK _ _ ?_)))
  clear hK hK1 K K1
  refine wp_seq_k fun K hK => ?_
  refine wp_region_lit (wpList_plain rfl fun K1 hK1 => wp_build_is 65 _ kCells rfl (by kernel_rfl) (hK1 _ _ ?_))
  refine wpList_plain rfl fun K2 hK2 => wp_alloc_var 65 _ rfl hz (hK2 _ _ ?_)
  refine wpList_plain rfl fun K3 hK3 => wp_store_new 65 (.tmp 3) (.tmp 22) _ kCells rfl rfl rfl (by kernel_rfl) (by kernel_rfl) kCells_one (hK3 _ _ (wpList_nil (hK _ _ ?_)))
  have HZ := Lib.hid hz
  clear hK hK1 hK2 hK3 K K1 K2 K3 hz hi
  have hsz : kCells.size = 64 := kCells_size
  have hkat := kCells_at
  generalize kCells = KA at *
  have HKA := Lib.hid hkat; clear hkat
  go_wp2_with (at_builtin; fail)
  have hX1 : ((w.alloc (.cells KA 65)).alloc (.cells (h0Cells h0) 66)).heap[w.heap.size]? = some (.cells KA 65) := (Below.heap_alloc _ _ _ (by simp)).trans (heap_alloc_last w _)
  have hX2 : ((w.alloc (.cells KA 65)).alloc (.cells (h0Cells h0) 66)).heap[w.heap.size + 1]? = some (.cells (h0Cells h0) 66) := by
    have := heap_alloc_last (w.alloc (.cells KA 65)) (.cells (h0Cells h0) 66)
    simpa using this
  have hXs : ((w.alloc (.cells KA 65)).alloc (.cells (h0Cells h0) 66)).heap.size = w.heap.size + 2 := by simp
  have hXb : Below w.heap.size w ((w.alloc (.cells KA 65)).alloc (.cells (h0Cells h0) 66)) := ((Below.refl _ _).alloc (Nat.le_refl _) _).alloc (by simp) _
  have hXe : ((w.alloc (.cells KA 65)).alloc (.cells #[.int .u32 1779033703, .int .u32 3144134277, .int .u32 1013904242, .int .u32 2773480762, .int .u32 1359893119, .int .u32 2600822924, .int .u32 528734635, .int .u32 1541459225] 66)) = ((w.alloc (.cells KA 65)).alloc (.cells (h0Cells h0) 66)) := rfl
  rw [hXe]
  clear hXe
  generalize ((w.alloc (.cells KA 65)).alloc (.cells (h0Cells h0) 66)) = X at *
  obtain ⟨W, v0, g0, cap0, hcv, hm0, hbW, hg0⟩ := conv_mbuf X X.heap.size (Nat.le_refl _) s (by unfold maxLen; omega)
  rw [hcv]
  simp only [Result.andThen_ok]
  rw [Oper.upon_value]
  have hsl : s.data.toList.length = s.size := rfl
  have HXS := Lib.hid hXs; clear hXs
  have hm1 := hm0.alloc (.cells #[.int .u8 128] 5)
  have hb1 := hbW.alloc hbW.size (.cells #[.int .u8 128] 5)
  have HM1 := Lib.hid hm1; have HB1 := Lib.hid hb1; clear hm1 hb1
  go_wp2_with (at_builtin; refine wpList_append_mbuf _ rfl (.tmp 25) (.tmp 26) rfl rfl HM1.out HB1.out.size (by omega) ⟨W.heap.size, 0, none⟩ 1 128 rfl (new_cells W #[_] _ 0 _ rfl) ?_)
  intro v1 w1 g1 cap1 hm1 hgr1
  have hb1 := grown_below HB1.out HB1.out.size hgr1 hg0
  clear HM1 HB1 hgr1 hcv hm0 hbW hg0
  go_wp2
  go_loopw [5] (fun v wr => ∃ z g cap, z ≤ zerosN s.size ∧ MBuf wr X.heap.size v (s.data.toList ++ [128] ++ List.replicate z 0) g cap ∧ Below X.heap.size X wr) (fun v _ => zerosN s.size + s.size + 1 - vlen v)
  case atStart => exact ⟨0, g1, cap1, Nat.zero_le _, by simpa using hm1, hb1⟩
  case round =>
    obtain ⟨z, g, cap, hz, hm, hb⟩ := hrel
    have hbs := hb.size
    have hlen : (s.data.toList ++ [128] ++ List.replicate z 0).length = s.size + 1 + z := by simp; omega
    have hval := hm.val
    rw [hlen] at hval
    subst hval
    have hlz : s.size + 1 + z + 1 ≤ 140737488355328 := by unfold zerosN at hz; omega
    have hbg := hm.base
    by_cases hlt : z < zerosN s.size
    · have hmod : (((s.size : Int) + 1 + (z : Int)) % 64 != 56) = true := by
        unfold zerosN at hlt
        simp; omega
      have hm2 := hm.alloc (.cells #[.int .u8 0] 5)
      have hb2 := hb.alloc hbs (.cells #[.int .u8 0] 5)
      have HM2 := Lib.hid hm2; have HB2 := Lib.hid hb2; have HLEN := Lib.hid hlen; clear hm2 hb2 hlen hm
      go_wp2_with (at_builtin; refine wpList_append_mbuf _ rfl (.tmp 32) (.tmp 33) rfl rfl HM2.out HB2.out.size (by rw [HLEN.out]; omega) ⟨wr.heap.size, 0, none⟩ 1 0 rfl (new_cells wr #[_] _ 0 _ rfl) ?_)
      intro v3 w3 g3 cap3 hm3 hgr3
      have hb3 := grown_below HB2.out HB2.out.size hgr3 hbg
      have hm3' : MBuf w3 X.heap.size v3 (s.data.toList ++ [128] ++ List.replicate (z + 1) 0) g3 cap3 := by simpa [List.replicate_succ'] using hm3
      have hl3 : vlen v3 = s.size + 1 + (z + 1) := by rw [vlen_mbuf hm3']; simp; omega
      have HM3 := Lib.hid hm3'; clear hm3 hm3'
      go_wp2
      go_roundw
      case rel => exact ⟨z + 1, g3, cap3, by omega, HM3.out, hb3⟩
      case measure => rw [show vlen _ = s.size + 1 + (z + 1) from hl3]; simp [vlen]; omega
    · have hmod : (((s.size : Int) + 1 + (z : Int)) % 64 != 56) = false := by
        unfold zerosN at hlt hz
        simp; omega
      have hze : z = zerosN s.size := by omega
      subst hze
      have HLEN := Lib.hid hlen
      generalize hP : s.data.toList ++ [128] ++ List.replicate (zerosN s.size) 0 = P0 at *
      clear hlen hlz hz hlt
      have hPl : P0.length ≤ 1048704 := by
        rw [HLEN.out]; unfold zerosN; omega
      have hv1 : Value.slice (some ⟨g, 0, none⟩) (s.size + 1 + zerosN s.size) cap = .slice (some ⟨g, 0, none⟩) P0.length cap := by rw [HLEN.out]
      rw [hv1] at hm ⊢
      have hmod2 : ((P0.length : Int) % 64 != 56) = false := by rw [HLEN.out]; simpa using hmod
      have HP0 := Lib.hid hP
      clear hmod hv1 hP
      go_wp2
      go_loopw [5, 7] (fun v i wr => ∃ (c g cap : Nat), c ≤ 8 ∧ i = .int .i64 (7 - (c : Int)) ∧ MBuf wr X.heap.size v (P0 ++ (lenL s.size).take c) g cap ∧ Below X.heap.size X wr) (fun _ i _ => (intOf i + 1).toNat)
      case atStart => exact ⟨0, g, cap, by omega, rfl, by simpa using hm, hb⟩
      case round =>
        obtain ⟨c, g, cap, hc, rfl, hm, hb⟩ := hrel
        have hbs := hb.size
        by_cases hlt : c < 8
        · have hge : decide ((0 : Int) ≤ 7 - (c : Int)) = true := by simp; omega
          have e1 : wrap64 (8 * (7 - (c : Int))) = 8 * (7 - (c : Int)) := IntWalk.wrap64_in _ ⟨by omega, by omega⟩
          have e2 : IntKind.u64.wrap (8 * (7 - (c : Int))) = 8 * (7 - (c : Int)) := by rw [IntKind.wrap_u64]; omega
          have e3 : min (8 * (7 - (c : Int))).toNat 64 = 8 * (7 - c) := by omega
          have hby := len_byte s.size c
          have hnx := lenL_next s.size c hlt
          have hll : (P0 ++ (lenL s.size).take c).length ≤ 1048712 := by
            rw [List.length_append, List.length_take]; omega
          have hval := hm.val
          have hbg := hm.base
          generalize UInt8.ofNat (8 * s.size / 256 ^ (7 - c)) = b at *
          have HBY := Lib.hid hby; have HNX := Lib.hid hnx; have HLL := Lib.hid hll; clear hby hnx hll
          subst hval
          go_wp2_with (at_builtin; refine wpList_append_mbuf _ rfl (.tmp 43) (.tmp 50) rfl rfl (hm.alloc _) (hb.alloc hbs _).size (by have := HLL.out; omega) ⟨wr.heap.size, 0, none⟩ 1 b rfl ((new_cells wr #[_] _ 0 _ rfl).trans (by rw [HBY.out])) ?_)
          intro v3 w3 g3 cap3 hm3 hgr3
          have hb3 := grown_below (hb.alloc hbs _) (hb.alloc hbs _).size hgr3 hbg
          have hm3' : MBuf w3 X.heap.size v3 (P0 ++ (lenL s.size).take (c + 1)) g3 cap3 := by rw [HNX.out]; exact hm3
          have HM3 := Lib.hid hm3'; clear hm3 hm3' hm hb
          go_wp2
          go_roundw
          case rel => exact ⟨c + 1, g3, cap3, by omega, by go_num, HM3.out, hb3⟩
          case measure => simp [intOf]; omega
        · have hce : c = 8 := by omega
          subst hce
          have e8 : (7 : Int) - ((8 : Nat) : Int) = -1 := rfl
          rw [e8]
          clear e8
          have h8 : (lenL s.size).take 8 = lenL s.size := List.take_of_length_le (by simp [lenL])
          rw [h8] at hm
          have hval := hm.val
          subst hval
          have hK : wr.heap[w.heap.size]? = some (.cells KA 65) := (hb.block _ (by rw [HXS.out]; omega)).trans hX1
          have hH : wr.heap[w.heap.size + 1]? = some (.cells (h0Cells h0) 66) := (hb.block _ (by rw [HXS.out]; omega)).trans hX2
          have hbw : Below w.heap.size w wr := hXb.trans (hb.mono hXb.size)
          have hMlen : (P0 ++ lenL s.size).length ≤ 1048712 := by
            have h' : (lenL s.size).length = 8 := rfl
            rw [List.length_append, h']; omega
          have hM64 : (P0 ++ lenL s.size).length % 64 = 0 := by
            have h : ((P0.length : Int) % 64) = 56 := by simpa using hmod2
            have h' : (lenL s.size).length = 8 := rfl
            rw [List.length_append, h']; omega
          have hcl := hm.cell
          have hgl := hm.lt
          have hgb := hm.base
          rw [HXS.out] at hgb
          generalize hMM : P0 ++ lenL s.size = M at *
          have hK' := Lib.hid hK; have hH' := Lib.hid hH; have HCL := Lib.hid hcl; have HBW := Lib.hid hbw; have HM := Lib.hid hMM
          clear hK hH hcl hbw hMM hm hb hbs hX1 hX2 hXb hm1 hb1
          go_wp2
          generalize hwr0 : wr = wr0 at *
          clear hwr0
          go_loopw [8] (fun i wr => ∃ j : Nat, 64 * j ≤ M.length ∧ i = .int .i64 ((64 * j : Nat) : Int) ∧ wr.heap[w.heap.size]? = some (.cells KA 65) ∧ wr.heap[w.heap.size + 1]? = some (.cells (h0Cells (blocksW M j)) 66) ∧
            (∀ j (hj : j < M.length), wr.cell? ⟨g, j, none⟩ = some (.int .u8 (M[j].toNat : Int))) ∧ g < wr.heap.size ∧ Below w.heap.size w wr) (fun i _ => M.length - (intOf i).toNat)
          case atStart => exact ⟨0, Nat.zero_le _, rfl, hK'.out, hH'.out, HCL.out, hgl, HBW.out⟩
          case round =>
            obtain ⟨j, hj, rfl, hK, hH, hcl, hgl, hbw⟩ := hrel
            by_cases hlt : 64 * j < M.length
            · have hlt' : decide (((64 * j : Nat) : Int) < (M.length : Int)) = true := by simp; omega
              generalize hp : 64 * j = p at *
              have hZ : ∀ w, (zeroValue 65).run Tryd.prog w = .ok (.agg (wC M p 0)) w := by rw [wC_zero]; exact HZ.out
              have HZ2 := Lib.hid hZ; clear hZ
              have hpM : p + 64 ≤ M.length := by omega
              have hb0 : blocksW M (j + 1) = blockW M p (blocksW M j) := by rw [← hp]; rfl
              generalize blocksW M j = hv at *
              have HB := Lib.hid hb0; have HP := Lib.hid hp; have HC2 := Lib.hid hcl; have HK := Lib.hid hK; have HH := Lib.hid hH; have HBW2 := Lib.hid hbw
              clear hb0 hp hcl hK hH hbw
              go_wp2_with (with_reducible refine wpList_alloc_var 65 (.agg (wC M p 0)) HZ2.out ?_)
              refine refSched_loop M p _ _ wr _ hpM hMlen HC2.out hgl ?_
              intros
              rename_i q
              have hsz2 : wr.heap.size = wr.heap.size := rfl
              have hwl : w.heap.size + 1 < wr.heap.size := (Array.getElem?_eq_some_iff.1 HH.out).1
              have hK2 : ∀ i, i < 64 → ((wr.alloc (.cells (wC M p 64) 65)).drewN q).cell? ⟨w.heap.size, i, none⟩ = some (.int .u32 ((kAt i).toNat : Int)) := fun i hi =>
                (old_at wr _ w.heap.size i (by omega)).trans ((cell_of_heap HK.out i).trans (HKA.out i hi))
              have hW2 : ∀ i, i < 64 → ((wr.alloc (.cells (wC M p 64) 65)).drewN q).cell? ⟨wr.heap.size, i, none⟩ = some (.int .u32 ((schedW M p i).toNat : Int)) := fun i hi =>
                arr_at wr _ _ i _ (wC_at M p 64 i hi)
              have hB2 : Below wr.heap.size wr ((wr.alloc (.cells (wC M p 64) 65)).drewN q) := belowDrewN ((Below.refl _ _).alloc (Nat.le_refl _) _) q
              have hs2 : ((wr.alloc (.cells (wC M p 64) 65)).drewN q).heap.size = wr.heap.size + 1 := by simp
              generalize (wr.alloc (.cells (wC M p 64) 65)).drewN q = X2 at *
              have hH2 : X2.heap[w.heap.size + 1]? = some (.cells (h0Cells hv) 66) := (hB2.block _ hwl).trans HH.out
              obtain ⟨va, vb, vc, vd, ve, vf, vg, vh⟩ := hv
              have c0 : X2.cell? ⟨w.heap.size + 1, 0, none⟩ = some (.int .u32 (va.toNat : Int)) := cell_of_heap hH2 0
              have c1 : X2.cell? ⟨w.heap.size + 1, 1, none⟩ = some (.int .u32 (vb.toNat : Int)) := cell_of_heap hH2 1
              have c2 : X2.cell? ⟨w.heap.size + 1, 2, none⟩ = some (.int .u32 (vc.toNat : Int)) := cell_of_heap hH2 2
              have c3 : X2.cell? ⟨w.heap.size + 1, 3, none⟩ = some (.int .u32 (vd.toNat : Int)) := cell_of_heap hH2 3
              have c4 : X2.cell? ⟨w.heap.size + 1, 4, none⟩ = some (.int .u32 (ve.toNat : Int)) := cell_of_heap hH2 4
              have c5 : X2.cell? ⟨w.heap.size + 1, 5, none⟩ = some (.int .u32 (vf.toNat : Int)) := cell_of_heap hH2 5
              have c6 : X2.cell? ⟨w.heap.size + 1, 6, none⟩ = some (.int .u32 (vg.toNat : Int)) := cell_of_heap hH2 6
              have c7 : X2.cell? ⟨w.heap.size + 1, 7, none⟩ = some (.int .u32 (vh.toNat : Int)) := cell_of_heap hH2 7
              have HK2 := Lib.hid hK2; have HW2 := Lib.hid hW2; have HB2 := Lib.hid hB2; have HS2 := Lib.hid hs2; have HH2 := Lib.hid hH2
              clear hK2 hW2 hB2 hs2 hH2 hsz2
              go_wp2
              clear c0 c1 c2 c3 c4 c5 c6 c7
              refine refRounds_loop X2 M p ⟨va, vb, vc, vd, ve, vf, vg, vh⟩ w.heap.size wr.heap.size _ (by rw [HS2.out]; omega) (by rw [HS2.out]; omega) HK2.out HW2.out ?_
              intros
              rename_i q3
              have hwl2 : w.heap.size + 1 < X2.heap.size := by rw [HS2.out]; omega
              have hB3 : Below X2.heap.size X2 ((X2.alloc (.cells (h0Cells (roundsW M p ⟨va, vb, vc, vd, ve, vf, vg, vh⟩ 64)) 66)).drewN q3) := belowDrewN ((Below.refl _ _).alloc (Nat.le_refl _) _) q3
              have hS3 : ((X2.alloc (.cells (h0Cells (roundsW M p ⟨va, vb, vc, vd, ve, vf, vg, vh⟩ 64)) 66)).drewN q3).heap[X2.heap.size]? = some (.cells (h0Cells (roundsW M p ⟨va, vb, vc, vd, ve, vf, vg, vh⟩ 64)) 66) := heap_alloc_last X2 _
              generalize (X2.alloc (.cells (h0Cells (roundsW M p ⟨va, vb, vc, vd, ve, vf, vg, vh⟩ 64)) 66)).drewN q3 = X3 at *
              have hH3 := (hB3.block _ hwl2).trans HH2.out
              have HB3 := Lib.hid hB3; have HS3 := Lib.hid hS3; have HH3 := Lib.hid hH3
              clear hB3 hS3 hH3
              go_wp2
              refine refAdd_loop X3 ⟨va, vb, vc, vd, ve, vf, vg, vh⟩ (roundsW M p ⟨va, vb, vc, vd, ve, vf, vg, vh⟩ 64) (w.heap.size + 1) X2.heap.size w.heap.size _ HH3.out HS3.out (by omega) (by omega) ?_
              intro y19 y236 y237 y238 y239 y240 y241 y242 y243 y244 y245 y246 y247 y248 W4 hH4 hz4 hf4 hb4
              have hb14 : Below w.heap.size w W4 := ((HBW2.out.trans (HB2.out.mono (by omega))).trans (HB3.out.mono (by omega))).trans hb4
              have hK4 : W4.heap[w.heap.size]? = some (.cells KA 65) := (hf4 _ (by omega)).trans ((HB3.out.block _ (by omega)).trans ((HB2.out.block _ (by omega)).trans HK.out))
              have hg4 : W4.heap[g]? = wr.heap[g]? := (hf4 _ (by omega)).trans ((HB3.out.block _ (by rw [HS2.out]; omega)).trans (HB2.out.block _ hgl))
              have hc4 : ∀ j (hj : j < M.length), W4.cell? ⟨g, j, none⟩ = some (.int .u8 (M[j].toNat : Int)) := fun j hj => (World.cell?_of_block (a := ⟨g, j, none⟩) hg4).trans (HC2.out j hj)
              have hgl4 : g < W4.heap.size := by rw [hz4]; have := HB3.out.size; have := HS2.out; omega
              have HH4 := Lib.hid hH4; have HB4 := Lib.hid hb14; have HK4 := Lib.hid hK4; have HC4 := Lib.hid hc4
              clear hH4 hz4 hf4 hb4 hb14 hK4 hg4 hc4
              go_wp2
              go_roundw
              case rel => exact ⟨j + 1, by have := HP.out; omega, by have := HP.out; go_num, HK4.out, by rw [HB.out]; exact HH4.out, HC4.out, hgl4, HB4.out⟩
              case measure => simp [intOf]; omega
            · have hlt' : decide (((64 * j : Nat) : Int) < (M.length : Int)) = false := by simp; omega
              have hje : j = M.length / 64 := by omega
              have hwl : w.heap.size + 1 < wr.heap.size := (Array.getElem?_eq_some_iff.1 hH).1
              have HH := Lib.hid hH; have HB := Lib.hid hbw; have HJ := Lib.hid hje
              clear hH hK hcl hbw hje
              go_wp2
              refine refOut_loop wr (blocksW M j) (w.heap.size + 1) _ HH.out ?_
              intros
              rename_i vo W5 hbuf hb5
              have htx := hbuf.text
              have hb15 : Below w.heap.size w W5 := HB.out.trans (hb5.mono (by omega))
              clear hbuf hb5
              go_wp2
              go_ret
              refine ⟨ret_str ?_, hb15⟩
              have e : M = padL s.data.toList := by
                rw [← HM.out, ← HP0.out]; rfl
              rw [HJ.out, e]; rfl
end Go.Proofs.YtlcpehmdhnakpaaDoor
namespace Go.Proofs.YtlcpehmdhnakpaaDoor
open Go.RowKit
set_option linter.unusedVariables false
set_option linter.unusedSimpArgs false

theorem enc_le (l : List UInt8) : (enc l).length ≤ 2 * l.length + 4 := by
  rw [enc_len]; omega
theorem all_take (l : List UInt8) (k : Nat) (hk : k < l.length) (h : ∀ i (hi : i < l.length), i < k → plainB l[i] = true) (hp : plainB l[k] = true) : ∀ i (hi : i < l.length), i < k + 1 → plainB l[i] = true := fun i hi hlt => by
  rcases Nat.lt_or_ge i k with h1 | h1
  · exact h i hi h1
  · obtain rfl : i = k := by omega
    exact hp
theorem all_plain (l : List UInt8) (h : ∀ i (hi : i < l.length), plainB l[i] = true) : l.all plainB = true := by
  rw [List.all_eq_true]
  intro x hx
  obtain ⟨i, hi, rfl⟩ := List.mem_iff_getElem.1 hx
  exact h i hi
theorem not_plain (l : List UInt8) (k : Nat) (hk : k < l.length) (h : plainB l[k] = false) : l.all plainB = false := by
  rw [Bool.eq_false_iff]
  intro he
  have := List.all_eq_true.1 he _ (List.getElem_mem hk)
  rw [h] at this; cases this
set_option maxRecDepth 100000 in
set_option maxHeartbeats 4000000 in
theorem refGood_any (c : ByteArray) (hc : c.size ≤ 46912496117759) (w : World) :
    Calls Tryd.prog 25 #[.string c] w fun e w' => e = .returned (.bool (goodB c.data.toList)) ∧ Below w.heap.size w w' := by
  have hu := refUn_says c hc w
  unfold goodB dec
  have HU := Lib.hid hu
  clear hu
  cases hn : unS 0 0 c.data.toList with
  | none =>
    go_enter Tryd.func25, Tryd.ntmps25
    go_wp2_with fail
    refine HU.out.mono ?_
    rintro e w1 ⟨h | ⟨h, rfl⟩, hb⟩
    · obtain ⟨o, ho, rfl⟩ := h
      rw [hn] at ho; cases ho
    · have HB := Lib.hid hb; clear hb hn h
      dsimp only
      go_wp2
      go_ret
      exact ⟨rfl, HB.out⟩
  | some o =>
    by_cases he : enc o = c.data.toList
    · obtain ⟨O, hO⟩ : ∃ O : ByteArray, (⟨o.toArray⟩ : ByteArray) = O := ⟨_, rfl⟩
      have hOs : O.size = o.length := by rw [← hO]; show o.toArray.size = _; simp
      have hd : (Option.bind (some o) fun o => if enc o = c.data.toList then some o else none) = some o := by rw [Option.bind_some, if_pos he]
      rw [hd]
      have HOs := Lib.hid hOs; have HO := Lib.hid hO
      go_enter Tryd.func25, Tryd.ntmps25
      go_wp2_with fail
      refine HU.out.mono ?_
      rintro e w1 ⟨h | ⟨h, rfl⟩, hb⟩
      · obtain ⟨o', ho', rfl⟩ := h
        rw [hn] at ho'
        cases ho'
        rw [decide_eq_true he, HO.out]
        have HB := Lib.hid hb
        clear hb hn he hd hO hOs
        dsimp only
        go_wp2
        go_ret
        exact ⟨ret_bool (by rw [← HOs.out, Bool.eq_iff_iff]; simp; omega), HB.out⟩
      · rw [hn] at h; cases h
    · have hd : (Option.bind (some o) fun o => if enc o = c.data.toList then some o else none) = none := by rw [Option.bind_some, if_neg he]
      rw [hd]
      go_enter Tryd.func25, Tryd.ntmps25
      go_wp2_with fail
      refine HU.out.mono ?_
      rintro e w1 ⟨h | ⟨h, rfl⟩, hb⟩
      · obtain ⟨o', ho', rfl⟩ := h
        rw [hn] at ho'
        cases ho'
        rw [decide_eq_false he]
        have HB := Lib.hid hb
        clear hb hn he hd
        dsimp only
        go_wp2
        go_ret
        exact ⟨rfl, HB.out⟩
      · rw [hn] at h; cases h
end Go.Proofs.YtlcpehmdhnakpaaDoor
