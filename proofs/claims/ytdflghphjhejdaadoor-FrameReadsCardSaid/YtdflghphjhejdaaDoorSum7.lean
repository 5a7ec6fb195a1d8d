/- The reference's Sum: the loop that adds eight words to eight. -/
import Derived.Test.YtdflghphjhejdaaDoorSumEight
namespace Go.Proofs.YtdflghphjhejdaaDoor
open Go.RowKit

set_option maxRecDepth 100000 in
set_option maxHeartbeats 2000000 in
theorem refAdd_loop {x0 x1 x2 x3 x5 x6 x7 x8 x9 x10 x11 x12 x13 x15 x16 x17 x18 x20 x21 x22 x23 x24 x25 x26 x27 x28 x29 x30 x31 x32 x33 x34 x35 x36 x37 x38 x39 x40 x41 x42 x43 x44 x45 x46 x47 x48 x49 x50 x51 x52 x53 x54 x55 x56 x57 x58 x59 x60 x61 x62 x63 x64 x65 x66 x67 x68 x69 x70 x71 x72 x73 x74 x75 x76 x77 x78 x79 x80 x81 x82 x83 x84 x85 x86 x87 x88 x89 x90 x91 x92 x93 x94 x95 x96 x97 x98 x99 x100 x101 x102 x103 x104 x105 x106 x107 x108 x109 x110 x111 x112 x113 x114 x115 x116 x117 x118 x119 x120 x121 x122 x123 x124 x125 x126 x127 x128 x129 x130 x131 x132 x133 x134 x135 x136 x137 x138 x139 x140 x141 x142 x143 x144 x145 x146 x147 x148 x149 x150 x151 x152 x153 x154 x155 x156 x157 x158 x159 x160 x161 x162 x163 x164 x165 x166 x167 x168 x169 x170 x171 x172 x173 x174 x175 x176 x177 x178 x179 x180 x181 x182 x183 x184 x185 x186 x187 x188 x189 x190 x191 x192 x193 x194 x195 x196 x197 x198 x199 x200 x201 x202 x203 x204 x205 x206 x207 x208 x209 x210 x211 x212 x213 x214 x215 x216 x217 x218 x219 x220 x221 x222 x223 x224 x225 x226 x227 x228 x229 x230 x231 x232 x233 x234 x235 x236 x237 x238 x239 x240 x241 x242 x243 x244 x245 x246 x247 x248 x249 x250 x251 x252 x253 x254 x255 x256 x257 x258 x259 x260 x261 x262 x263 x264 x265 x266 x267 x268 x269 x270 x271 x272 x273 x274 x275 x276 : Value} (X : World) (h s : S8) (hb sb B : Nat) (Q : Exit → Act → World → Prop) (hH : X.heap[hb]? = some (.cells (h0Cells h) 46)) (hS : X.heap[sb]? = some (.cells (h0Cells s) 46)) (hne : sb ≠ hb) (hB : B ≤ hb)
    (hexit : ∀ (y19 y236 y237 y238 y239 y240 y241 y242 y243 y244 y245 y246 y247 y248 : Value) W, W.heap[hb]? = some (.cells (h0Cells (addS h s)) 46) → W.heap.size = X.heap.size → (∀ b, b ≠ hb → W.heap[b]? = X.heap[b]?) → Below B X W → Q (.exit 12) ⟨#[x0, x1, x2, x3, .pointer (some ⟨hb, 0, none⟩), x5, x6, x7, x8, x9, x10, x11, x12, x13, .pointer (some ⟨sb, 0, none⟩), x15, x16, x17, x18, y19, x20, x21, x22, x23, x24, x25, x26, x27, x28, x29, x30, x31, x32, x33, x34, x35, x36, x37, x38, x39, x40, x41, x42, x43, x44, x45, x46, x47, x48, x49, x50, x51, x52, x53, x54, x55, x56, x57, x58, x59, x60, x61, x62, x63, x64, x65, x66, x67, x68, x69, x70, x71, x72, x73, x74, x75, x76, x77, x78, x79, x80, x81, x82, x83, x84, x85, x86, x87, x88, x89, x90, x91, x92, x93, x94, x95, x96, x97, x98, x99, x100, x101, x102, x103, x104, x105, x106, x107, x108, x109, x110, x111, x112, x113, x114, x115, x116, x117, x118, x119, x120, x121, x122, x123, x124, x125, x126, x127, x128, x129, x130, x131, x132, x133, x134, x135, x136, x137, x138, x139, x140, x141, x142, x143, x144, x145, x146, x147, x148, x149, x150, x151, x152, x153, x154, x155, x156, x157, x158, x159, x160, x161, x162, x163, x164, x165, x166, x167, x168, x169, x170, x171, x172, x173, x174, x175, x176, x177, x178, x179, x180, x181, x182, x183, x184, x185, x186, x187, x188, x189, x190, x191, x192, x193, x194, x195, x196, x197, x198, x199, x200, x201, x202, x203, x204, x205, x206, x207, x208, x209, x210, x211, x212, x213, x214, x215, x216, x217, x218, x219, x220, x221, x222, x223, x224, x225, x226, x227, x228, x229, x230, x231, x232, x233, x234, x235, y236, y237, y238, y239, y240, y241, y242, y243, y244, y245, y246, y247, y248, x249, x250, x251, x252, x253, x254, x255, x256, x257, x258, x259, x260, x261, x262, x263, x264, x265, x266, x267, x268, x269, x270, x271, x272, x273, x274, x275, x276], []⟩ W) :
    Code.wp Tryd.prog (refLoop 37) Q ⟨#[x0, x1, x2, x3, .pointer (some ⟨hb, 0, none⟩), x5, x6, x7, x8, x9, x10, x11, x12, x13, .pointer (some ⟨sb, 0, none⟩), x15, x16, x17, x18, .int .i64 0, x20, x21, x22, x23, x24, x25, x26, x27, x28, x29, x30, x31, x32, x33, x34, x35, x36, x37, x38, x39, x40, x41, x42, x43, x44, x45, x46, x47, x48, x49, x50, x51, x52, x53, x54, x55, x56, x57, x58, x59, x60, x61, x62, x63, x64, x65, x66, x67, x68, x69, x70, x71, x72, x73, x74, x75, x76, x77, x78, x79, x80, x81, x82, x83, x84, x85, x86, x87, x88, x89, x90, x91, x92, x93, x94, x95, x96, x97, x98, x99, x100, x101, x102, x103, x104, x105, x106, x107, x108, x109, x110, x111, x112, x113, x114, x115, x116, x117, x118, x119, x120, x121, x122, x123, x124, x125, x126, x127, x128, x129, x130, x131, x132, x133, x134, x135, x136, x137, x138, x139, x140, x141, x142, x143, x144, x145, x146, x147, x148, x149, x150, x151, x152, x153, x154, x155, x156, x157, x158, x159, x160, x161, x162, x163, x164, x165, x166, x167, x168, x169, x170, x171, x172, x173, x174, x175, x176, x177, x178, x179, x180, x181, x182, x183, x184, x185, x186, x187, x188, x189, x190, x191, x192, x193, x194, x195, x196, x197, x198, x199, x200, x201, x202, x203, x204, x205, x206, x207, x208, x209, x210, x211, x212, x213, x214, x215, x216, x217, x218, x219, x220, x221, x222, x223, x224, x225, x226, x227, x228, x229, x230, x231, x232, x233, x234, x235, x236, x237, x238, x239, x240, x241, x242, x243, x244, x245, x246, x247, x248, x249, x250, x251, x252, x253, x254, x255, x256, x257, x258, x259, x260, x261, x262, x263, x264, x265, x266, x267, x268, x269, x270, x271, x272, x273, x274, x275, x276], []⟩ X := by
  have HE := Lib.hid hexit; clear hexit
  have HH := Lib.hid hH; have HS := Lib.hid hS; clear hH hS
  dsimp only []
  conv => arg 2; whnf
  go_loopw [19] (fun i W => ∃ k : Nat, k ≤ 8 ∧ i = .int .i64 (k : Int) ∧ W.heap[hb]? = some (.cells (eightC (sumF h s k)) 46) ∧ W.heap.size = X.heap.size ∧ (∀ b, b ≠ hb → W.heap[b]? = X.heap[b]?) ∧ Below B X W) (fun i _ => 8 - (intOf i).toNat)
  case atStart => exact ⟨0, by omega, rfl, by rw [sumF_start]; exact HH.out, rfl, fun _ _ => rfl, Below.refl _ _⟩
  case round =>
    obtain ⟨k, hk, rfl, hH, hz, hfar, hbl⟩ := hrel
    by_cases hk8 : k < 8
    · have hd : decide ((k : Int) < 8) = true := by simp; omega
      have bk : (k : Int) < 8 := by omega
      have hS := (hfar sb hne).trans HS.out
      have e1 : sumF h s k k = h.get k := by unfold sumF; rw [if_neg (by omega)]
      have d1 : wr.cell? ⟨hb, k, none⟩ = some (.int .u32 ((h.get k).toNat : Int)) := by rw [cell_of_heap hH, eightC_at _ _ hk8, e1]
      have d2 : wr.cell? ⟨sb, k, none⟩ = some (.int .u32 ((s.get k).toNat : Int)) := by rw [cell_of_heap hS, eightC_s, eightC_at _ _ hk8]
      have fz : wr.frozen? ⟨hb, k, none⟩ = false := frozen_of_heap hH
      have hnx := sumF_next h s k hk8
      have hv := w_add (h.get k) (s.get k)
      generalize addW (h.get k) (s.get k) = xk at *
      generalize h.get k = hkk at *
      generalize s.get k = skk at *
      have hlt : hb < wr.heap.size := (Array.getElem?_eq_some_iff.1 hH).1
      have HH2 := Lib.hid hH; have HZ := Lib.hid hz; have HF := Lib.hid hfar; have HNX := Lib.hid hnx; have HV := Lib.hid hv; clear hH hz hfar hnx hv e1 hS
      go_wp2
      refine wp_region_quiet_tail 9 (by kernel_rfl) (by kernel_rfl) ?_
      simp only [List.take_succ_cons, List.take_zero, List.drop_succ_cons, List.drop_zero]
      repeat (go_big_quiet_step (fail))
      refine wpQuiet_nil ?_
      go_wp2
      go_roundw
      case rel =>
        rw [HV.out]
        refine ⟨k + 1, by omega, by go_num, ?_, ?_, fun b hb' => ?_, ?_⟩
        · rw [← HNX.out]; exact heap_set_cell (w := wr.drew) HH2.out _
        · rw [← HZ.out]; simp [World.setCell]
        · rw [← HF.out b hb']; exact Below.heap_setCell wr.drew _ _ b (fun e => hb' (by rw [e]))
        · exact hbl.drew.setCell hB _
      case measure => simp [intOf]; omega
    · have hd : decide ((k : Int) < 8) = false := by simp; omega
      obtain rfl : k = 8 := by omega
      have HH2 := Lib.hid hH; have HZ := Lib.hid hz; have HF := Lib.hid hfar; clear hH hz hfar
      go_wp2
      exact HE.out _ _ _ _ _ _ _ _ _ _ _ _ _ _ wr (by rw [← sumF_end]; exact HH2.out) HZ.out HF.out hbl
end Go.Proofs.YtdflghphjhejdaaDoor
