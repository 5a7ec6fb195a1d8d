/- The reference's Sum: the sixty-four rounds. -/
import Derived.Test.YtdflghphjhejdaaDoorSum6
namespace Go.Proofs.YtdflghphjhejdaaDoor
open Go.RowKit

theorem t1_int (a b c d e f g h k w : UInt32) : ((h.toNat : Int) + bits .xor .u32 (bits .xor .u32 ((rotr e 6).toNat : Int) ((rotr e 11).toNat : Int)) ((rotr e 25).toNat : Int) + bits .xor .u32 (bits .and .u32 (e.toNat : Int) (f.toNat : Int)) (bits .and .u32 (bits .xor .u32 IntKind.u32.max (e.toNat : Int)) (g.toNat : Int)) + (k.toNat : Int) + (w.toNat : Int)) % 4294967296 =
    ((t1W ⟨a, b, c, d, e, f, g, h⟩ k w).toNat : Int) := by
  rw [w_not, w_xor, w_xor, w_and, w_and, w_xor]
  unfold t1W
  rw [← w_add, ← w_add, ← w_add, ← w_add]
  show ((h.toNat : Int) + ((up1 e).toNat : Int) + ((chW e f g).toNat : Int) + (k.toNat : Int) + (w.toNat : Int)) % 4294967296 = _
  dsimp only
  omega
theorem t2_int (a b c d e f g h : UInt32) : (bits .xor .u32 (bits .xor .u32 ((rotr a 2).toNat : Int) ((rotr a 13).toNat : Int)) ((rotr a 22).toNat : Int) + bits .xor .u32 (bits .xor .u32 (bits .and .u32 (a.toNat : Int) (b.toNat : Int)) (bits .and .u32 (a.toNat : Int) (c.toNat : Int))) (bits .and .u32 (b.toNat : Int) (c.toNat : Int))) % 4294967296 =
    ((t2W ⟨a, b, c, d, e, f, g, h⟩).toNat : Int) := by
  rw [w_xor, w_xor, w_and, w_and, w_and, w_xor, w_xor, w_add]
  rfl
set_option maxRecDepth 100000 in
set_option maxHeartbeats 4000000 in
theorem refRounds_loop {x0 x1 x2 x4 x5 x6 x7 x8 x10 x11 x12 x13 x16 x17 x18 x19 x20 x21 x22 x23 x24 x25 x26 x27 x28 x29 x30 x31 x32 x33 x34 x35 x36 x37 x38 x39 x40 x41 x42 x43 x44 x45 x46 x47 x48 x49 x50 x51 x52 x53 x54 x55 x56 x57 x58 x59 x60 x61 x62 x63 x64 x65 x66 x67 x68 x69 x70 x71 x72 x73 x74 x75 x76 x77 x78 x79 x80 x81 x82 x83 x84 x85 x86 x87 x88 x89 x90 x91 x92 x93 x94 x95 x96 x97 x98 x99 x100 x101 x102 x103 x104 x105 x106 x107 x108 x109 x110 x111 x112 x113 x114 x115 x116 x117 x118 x119 x120 x121 x122 x123 x124 x125 x126 x127 x128 x129 x130 x131 x132 x133 x134 x135 x136 x137 x138 x139 x140 x141 x142 x143 x144 x145 x146 x147 x148 x149 x150 x151 x152 x153 x154 x155 x156 x157 x158 x159 x160 x161 x162 x163 x164 x165 x166 x167 x168 x169 x170 x171 x172 x173 x174 x175 x176 x177 x178 x179 x180 x181 x182 x183 x184 x185 x186 x187 x188 x189 x190 x191 x192 x193 x194 x195 x196 x197 x198 x199 x200 x201 x202 x203 x204 x205 x206 x207 x208 x209 x210 x211 x212 x213 x214 x215 x216 x217 x218 x219 x220 x221 x222 x223 x224 x225 x226 x227 x228 x229 x230 x231 x232 x233 x234 x235 x236 x237 x238 x239 x240 x241 x242 x243 x244 x245 x246 x247 x248 x249 x250 x251 x252 x253 x254 x255 x256 x257 x258 x259 x260 x261 x262 x263 x264 x265 x266 x267 x268 x269 x270 x271 x272 x273 x274 x275 x276 : Value} (X : World) (M : List UInt8) (p : Nat) (s : S8) (kb bw : Nat) (Q : Exit → Act → World → Prop) (hkb : kb < X.heap.size) (hbw : bw < X.heap.size)
    (hK : ∀ i, i < 64 → X.cell? ⟨kb, i, none⟩ = some (.int .u32 ((kAt i).toNat : Int))) (hW : ∀ i, i < 64 → X.cell? ⟨bw, i, none⟩ = some (.int .u32 ((schedW M p i).toNat : Int)))
    (hexit : ∀ (y15 y16 y17 y18 y149 y150 y151 y152 y153 y154 y155 y156 y157 y158 y159 y160 y161 y162 y163 y164 y165 y166 y167 y168 y169 y170 y171 y172 y173 y174 y175 y176 y177 y178 y179 y180 y181 y182 y183 y184 y185 y186 y187 y188 y189 y190 y191 y192 y193 y194 y195 y196 y197 y198 y199 y200 y201 y202 y203 y204 y205 y206 y207 y208 y209 y210 y211 y212 y213 y214 y215 y216 y217 y218 y219 y220 y221 y222 y223 y224 y225 y226 y227 y228 y229 y230 y231 y232 y233 y234 y235 : Value) (q : Nat), Q (.exit 8) ⟨#[x0, x1, x2, .pointer (some ⟨kb, 0, none⟩), x4, x5, x6, x7, x8, .pointer (some ⟨bw, 0, none⟩), x10, x11, x12, x13, .pointer (some ⟨X.heap.size, 0, none⟩), y15, y16, y17, y18, x19, x20, x21, x22, x23, x24, x25, x26, x27, x28, x29, x30, x31, x32, x33, x34, x35, x36, x37, x38, x39, x40, x41, x42, x43, x44, x45, x46, x47, x48, x49, x50, x51, x52, x53, x54, x55, x56, x57, x58, x59, x60, x61, x62, x63, x64, x65, x66, x67, x68, x69, x70, x71, x72, x73, x74, x75, x76, x77, x78, x79, x80, x81, x82, x83, x84, x85, x86, x87, x88, x89, x90, x91, x92, x93, x94, x95, x96, x97, x98, x99, x100, x101, x102, x103, x104, x105, x106, x107, x108, x109, x110, x111, x112, x113, x114, x115, x116, x117, x118, x119, x120, x121, x122, x123, x124, x125, x126, x127, x128, x129, x130, x131, x132, x133, x134, x135, x136, x137, x138, x139, x140, x141, x142, x143, x144, x145, x146, x147, x148, y149, y150, y151, y152, y153, y154, y155, y156, y157, y158, y159, y160, y161, y162, y163, y164, y165, y166, y167, y168, y169, y170, y171, y172, y173, y174, y175, y176, y177, y178, y179, y180, y181, y182, y183, y184, y185, y186, y187, y188, y189, y190, y191, y192, y193, y194, y195, y196, y197, y198, y199, y200, y201, y202, y203, y204, y205, y206, y207, y208, y209, y210, y211, y212, y213, y214, y215, y216, y217, y218, y219, y220, y221, y222, y223, y224, y225, y226, y227, y228, y229, y230, y231, y232, y233, y234, y235, x236, x237, x238, x239, x240, x241, x242, x243, x244, x245, x246, x247, x248, x249, x250, x251, x252, x253, x254, x255, x256, x257, x258, x259, x260, x261, x262, x263, x264, x265, x266, x267, x268, x269, x270, x271, x272, x273, x274, x275, x276], []⟩ ((X.alloc (.cells (h0Cells (roundsW M p s 64)) 46)).drewN q)) :
    Code.wp Tryd.prog (refLoop 26) Q ⟨#[x0, x1, x2, .pointer (some ⟨kb, 0, none⟩), x4, x5, x6, x7, x8, .pointer (some ⟨bw, 0, none⟩), x10, x11, x12, x13, .pointer (some ⟨X.heap.size, 0, none⟩), .int .i64 0, x16, x17, x18, x19, x20, x21, x22, x23, x24, x25, x26, x27, x28, x29, x30, x31, x32, x33, x34, x35, x36, x37, x38, x39, x40, x41, x42, x43, x44, x45, x46, x47, x48, x49, x50, x51, x52, x53, x54, x55, x56, x57, x58, x59, x60, x61, x62, x63, x64, x65, x66, x67, x68, x69, x70, x71, x72, x73, x74, x75, x76, x77, x78, x79, x80, x81, x82, x83, x84, x85, x86, x87, x88, x89, x90, x91, x92, x93, x94, x95, x96, x97, x98, x99, x100, x101, x102, x103, x104, x105, x106, x107, x108, x109, x110, x111, x112, x113, x114, x115, x116, x117, x118, x119, x120, x121, x122, x123, x124, x125, x126, x127, x128, x129, x130, x131, x132, x133, x134, x135, x136, x137, x138, x139, x140, x141, x142, x143, x144, x145, x146, x147, x148, x149, x150, x151, x152, x153, x154, x155, x156, x157, x158, x159, x160, x161, x162, x163, x164, x165, x166, x167, x168, x169, x170, x171, x172, x173, x174, x175, x176, x177, x178, x179, x180, x181, x182, x183, x184, x185, x186, x187, x188, x189, x190, x191, x192, x193, x194, x195, x196, x197, x198, x199, x200, x201, x202, x203, x204, x205, x206, x207, x208, x209, x210, x211, x212, x213, x214, x215, x216, x217, x218, x219, x220, x221, x222, x223, x224, x225, x226, x227, x228, x229, x230, x231, x232, x233, x234, x235, x236, x237, x238, x239, x240, x241, x242, x243, x244, x245, x246, x247, x248, x249, x250, x251, x252, x253, x254, x255, x256, x257, x258, x259, x260, x261, x262, x263, x264, x265, x266, x267, x268, x269, x270, x271, x272, x273, x274, x275, x276], []⟩ (X.alloc (.cells (h0Cells s) 46)) := by
  have HE := Lib.hid hexit; clear hexit
  have HK := Lib.hid hK; have HW := Lib.hid hW; clear hK hW
  dsimp only []
  conv => arg 2; whnf
  go_loopw [15] (fun i W => ∃ k q : Nat, k ≤ 64 ∧ i = .int .i64 (k : Int) ∧ W = (X.alloc (.cells (h0Cells (roundsW M p s k)) 46)).drewN q) (fun i _ => 64 - (intOf i).toNat)
  case atStart => exact ⟨0, 0, by omega, rfl, rfl⟩
  case round =>
    obtain ⟨k, q, hk, rfl, rfl⟩ := hrel
    by_cases hk64 : k < 64
    · have hd64 : decide ((k : Int) < 64) = true := by simp; omega
      have bk : (k : Int) < 64 := by omega
      have hnx : roundsW M p s (k + 1) = roundW (roundsW M p s k) (kAt k) (schedW M p k) := rfl
      have dK := (old_at X (.cells (h0Cells (roundsW M p s k)) 46) kb k hkb).trans (HK.out k hk64)
      have dW := (old_at X (.cells (h0Cells (roundsW M p s k)) 46) bw k hbw).trans (HW.out k hk64)
      generalize kAt k = kk at *
      generalize schedW M p k = ww at *
      generalize roundsW M p s k = r at *
      obtain ⟨ra, rb, rc, rd, re, rf, rg, rh⟩ := r
      have HNX := Lib.hid hnx; clear hnx
      have c0 : ((X.alloc (.cells (h0Cells ⟨ra, rb, rc, rd, re, rf, rg, rh⟩) 46)).drewN q).cell? ⟨X.heap.size, 0, none⟩ = some (.int .u32 (ra.toNat : Int)) := arr_at X _ _ 0 _ rfl
      have c1 : ((X.alloc (.cells (h0Cells ⟨ra, rb, rc, rd, re, rf, rg, rh⟩) 46)).drewN q).cell? ⟨X.heap.size, 1, none⟩ = some (.int .u32 (rb.toNat : Int)) := arr_at X _ _ 1 _ rfl
      have c2 : ((X.alloc (.cells (h0Cells ⟨ra, rb, rc, rd, re, rf, rg, rh⟩) 46)).drewN q).cell? ⟨X.heap.size, 2, none⟩ = some (.int .u32 (rc.toNat : Int)) := arr_at X _ _ 2 _ rfl
      have c4 : ((X.alloc (.cells (h0Cells ⟨ra, rb, rc, rd, re, rf, rg, rh⟩) 46)).drewN q).cell? ⟨X.heap.size, 4, none⟩ = some (.int .u32 (re.toNat : Int)) := arr_at X _ _ 4 _ rfl
      have c5 : ((X.alloc (.cells (h0Cells ⟨ra, rb, rc, rd, re, rf, rg, rh⟩) 46)).drewN q).cell? ⟨X.heap.size, 5, none⟩ = some (.int .u32 (rf.toNat : Int)) := arr_at X _ _ 5 _ rfl
      have c6 : ((X.alloc (.cells (h0Cells ⟨ra, rb, rc, rd, re, rf, rg, rh⟩) 46)).drewN q).cell? ⟨X.heap.size, 6, none⟩ = some (.int .u32 (rg.toNat : Int)) := arr_at X _ _ 6 _ rfl
      have c7 : ((X.alloc (.cells (h0Cells ⟨ra, rb, rc, rd, re, rf, rg, rh⟩) 46)).drewN q).cell? ⟨X.heap.size, 7, none⟩ = some (.int .u32 (rh.toNat : Int)) := arr_at X _ _ 7 _ rfl
      change ((X.alloc (.cells (h0Cells ⟨ra, rb, rc, rd, re, rf, rg, rh⟩) 46)).drewN q).cell? _ = _ at dK
      change ((X.alloc (.cells (h0Cells ⟨ra, rb, rc, rd, re, rf, rg, rh⟩) 46)).drewN q).cell? _ = _ at dW
      generalize hW1 : (X.alloc (.cells (h0Cells ⟨ra, rb, rc, rd, re, rf, rg, rh⟩) 46)).drewN q = W at *
      have HW1 := Lib.hid hW1; clear hW1
      go_wp2
      go_quiet ((go_at_call 21; exact Calls.quiet_of_same (turn_q _ _ (by decide) (by decide) _)))
      go_wp2
      go_quiet ((go_at_call 21; exact quiet_more (turn_q _ _ (by decide) (by decide) _)))
      rw [t1_int ra rb rc rd re rf rg rh kk ww, t2_int ra rb rc rd re rf rg rh]
      have HNX2 : Hid (roundsW M p s (k + 1) = ⟨addW (t1W ⟨ra, rb, rc, rd, re, rf, rg, rh⟩ kk ww) (t2W ⟨ra, rb, rc, rd, re, rf, rg, rh⟩), ra, rb, rc, addW rd (t1W ⟨ra, rb, rc, rd, re, rf, rg, rh⟩ kk ww), re, rf, rg⟩) := Lib.hid HNX.out
      generalize t1W ⟨ra, rb, rc, rd, re, rf, rg, rh⟩ kk ww = xx at *
      generalize t2W ⟨ra, rb, rc, rd, re, rf, rg, rh⟩ = yy at *
      clear HNX c0 c1 c2 c4 c5 c6 c7 dK dW
      go_wp2
      rw [← HW1.out, World.drewN_drewN, World.drewN_drewN]
      refine refShift_loop X ⟨ra, rb, rc, rd, re, rf, rg, rh⟩ _ _ ?_
      intros
      have c4 := arr_at X (eightC (shiftF ⟨ra, rb, rc, rd, re, rf, rg, rh⟩ 0)) 46 4 (.int .u32 (rd.toNat : Int)) rfl
      have c0 := arr_at X (eightC (shiftF ⟨ra, rb, rc, rd, re, rf, rg, rh⟩ 0)) 46 0 (.int .u32 (ra.toNat : Int)) rfl
      have hend := shiftF_end ⟨ra, rb, rc, rd, re, rf, rg, rh⟩ xx yy
      generalize eightC (shiftF ⟨ra, rb, rc, rd, re, rf, rg, rh⟩ 0) = C at *
      have HEND := Lib.hid hend; clear hend
      go_wp2
      go_roundw
      case rel => exact ⟨k + 1, _, by omega, by go_num, by rw [arr_store, arr_store, w_add, w_add, HEND.out, HNX2.out]⟩
      case measure => simp [intOf]; omega
    · have hd64 : decide ((k : Int) < 64) = false := by simp; omega
      obtain rfl : k = 64 := by omega
      go_wp2
      exact HE.out _ _ _ _ _ _ _ _ _ _ _ _ _ _ _ _ _ _ _ _ _ _ _ _ _ _ _ _ _ _ _ _ _ _ _ _ _ _ _ _ _ _ _ _ _ _ _ _ _ _ _ _ _ _ _ _ _ _ _ _ _ _ _ _ _ _ _ _ _ _ _ _ _ _ _ _ _ _ _ _ _ _ _ _ _ _ _ _ _ _ _ _
end Go.Proofs.YtdflghphjhejdaaDoor
