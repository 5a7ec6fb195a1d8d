/- The reference's Sum: the loop that makes a block's schedule. -/
import Derived.Test.YtdflghphjhejdaaDoorSumBase
import Derived.Test.YtdflghphjhejdaaDoorQTail
namespace Go.Proofs.YtdflghphjhejdaaDoor
open Go.RowKit

noncomputable def refLoop (n : Nat) : Code := (Tryd.f16.body.bind (loopOf n)).getD .skip
theorem sched_int (x16 x15 x7 x2 : UInt32) : ((x16.toNat : Int) + bits .xor .u32 (bits .xor .u32 ((rotr x15 7).toNat : Int) ((rotr x15 18).toNat : Int)) ((x15.toNat : Int) / 8) + (x7.toNat : Int) + bits .xor .u32 (bits .xor .u32 ((rotr x2 17).toNat : Int) ((rotr x2 19).toNat : Int)) ((x2.toNat : Int) / 1024)) % 4294967296 =
    ((addW (addW (addW x16 (lo0 x15)) x7) (lo1 x2)).toNat : Int) := by
  have s3 : (x15.toNat : Int) / 8 = ((natW (x15.toNat / 8)).toNat : Int) := by
    have := x15.toNat_lt
    rw [natW_nat _ (by omega)]; omega
  have s10 : (x2.toNat : Int) / 1024 = ((natW (x2.toNat / 1024)).toNat : Int) := by
    have := x2.toNat_lt
    rw [natW_nat _ (by omega)]; omega
  rw [s3, s10, w_xor, w_xor, w_xor, w_xor, ← w_add, ← w_add, ← w_add]
  show ((x16.toNat : Int) + ((lo0 x15).toNat : Int) + (x7.toNat : Int) + ((lo1 x2).toNat : Int)) % 4294967296 = _
  omega
set_option maxRecDepth 100000 in
set_option maxHeartbeats 2000000 in
theorem refSched_loop {x0 x1 x2 x3 x4 x6 x7 x11 x12 x13 x14 x15 x16 x17 x18 x19 x20 x21 x22 x23 x24 x25 x26 x27 x28 x29 x30 x31 x32 x33 x34 x35 x36 x37 x38 x39 x40 x41 x42 x43 x44 x45 x46 x47 x48 x49 x50 x51 x52 x53 x54 x55 x56 x57 x58 x59 x60 x61 x62 x63 x64 x65 x66 x67 x68 x69 x70 x71 x72 x73 x74 x75 x76 x77 x78 x79 x80 x81 x82 x83 x84 x85 x86 x87 x88 x89 x90 x91 x92 x93 x94 x95 x96 x97 x98 x99 x100 x101 x102 x103 x104 x105 x106 x107 x108 x109 x110 x111 x112 x113 x114 x115 x116 x117 x118 x119 x120 x121 x122 x123 x124 x125 x126 x127 x128 x129 x130 x131 x132 x133 x134 x135 x136 x137 x138 x139 x140 x141 x142 x143 x144 x145 x146 x147 x148 x149 x150 x151 x152 x153 x154 x155 x156 x157 x158 x159 x160 x161 x162 x163 x164 x165 x166 x167 x168 x169 x170 x171 x172 x173 x174 x175 x176 x177 x178 x179 x180 x181 x182 x183 x184 x185 x186 x187 x188 x189 x190 x191 x192 x193 x194 x195 x196 x197 x198 x199 x200 x201 x202 x203 x204 x205 x206 x207 x208 x209 x210 x211 x212 x213 x214 x215 x216 x217 x218 x219 x220 x221 x222 x223 x224 x225 x226 x227 x228 x229 x230 x231 x232 x233 x234 x235 x236 x237 x238 x239 x240 x241 x242 x243 x244 x245 x246 x247 x248 x249 x250 x251 x252 x253 x254 x255 x256 x257 x258 x259 x260 x261 x262 x263 x264 x265 x266 x267 x268 x269 x270 x271 x272 x273 x274 x275 x276 : Value} (M : List UInt8) (p g cap : Nat) (wr : World) (Q : Exit → Act → World → Prop) (hpM : p + 64 ≤ M.length) (hMm : M.length ≤ 1048712)
    (hcl : ∀ j (hj : j < M.length), wr.cell? ⟨g, j, none⟩ = some (.int .u8 (M[j].toNat : Int))) (hgl : g < wr.heap.size)
    (hexit : ∀ (y10 y11 y12 y13 y58 y59 y60 y61 y62 y63 y64 y65 y66 y67 y68 y69 y70 y71 y72 y73 y74 y75 y76 y77 y78 y79 y80 y81 y82 y83 y84 y85 y86 y87 y88 y89 y90 y91 y92 y93 y94 y95 y96 y97 y98 y99 y100 y101 y102 y103 y104 y105 y106 y107 y108 y109 y110 y111 y112 y113 y114 y115 y116 y117 y118 y119 y120 y121 y122 y123 y124 y125 y126 y127 y128 y129 y130 y131 y132 y133 y134 y135 y136 y137 y138 y139 y140 y141 y142 y143 y144 y145 y146 y147 : Value) (q : Nat), Q (.exit 6) ⟨#[x0, x1, x2, x3, x4, .slice (some ⟨g, 0, none⟩) M.length cap, x6, x7, .int .i64 (p : Int), .pointer (some ⟨wr.heap.size, 0, none⟩), y10, y11, y12, y13, x14, x15, x16, x17, x18, x19, x20, x21, x22, x23, x24, x25, x26, x27, x28, x29, x30, x31, x32, x33, x34, x35, x36, x37, x38, x39, x40, x41, x42, x43, x44, x45, x46, x47, x48, x49, x50, x51, x52, x53, x54, x55, x56, x57, y58, y59, y60, y61, y62, y63, y64, y65, y66, y67, y68, y69, y70, y71, y72, y73, y74, y75, y76, y77, y78, y79, y80, y81, y82, y83, y84, y85, y86, y87, y88, y89, y90, y91, y92, y93, y94, y95, y96, y97, y98, y99, y100, y101, y102, y103, y104, y105, y106, y107, y108, y109, y110, y111, y112, y113, y114, y115, y116, y117, y118, y119, y120, y121, y122, y123, y124, y125, y126, y127, y128, y129, y130, y131, y132, y133, y134, y135, y136, y137, y138, y139, y140, y141, y142, y143, y144, y145, y146, y147, x148, x149, x150, x151, x152, x153, x154, x155, x156, x157, x158, x159, x160, x161, x162, x163, x164, x165, x166, x167, x168, x169, x170, x171, x172, x173, x174, x175, x176, x177, x178, x179, x180, x181, x182, x183, x184, x185, x186, x187, x188, x189, x190, x191, x192, x193, x194, x195, x196, x197, x198, x199, x200, x201, x202, x203, x204, x205, x206, x207, x208, x209, x210, x211, x212, x213, x214, x215, x216, x217, x218, x219, x220, x221, x222, x223, x224, x225, x226, x227, x228, x229, x230, x231, x232, x233, x234, x235, x236, x237, x238, x239, x240, x241, x242, x243, x244, x245, x246, x247, x248, x249, x250, x251, x252, x253, x254, x255, x256, x257, x258, x259, x260, x261, x262, x263, x264, x265, x266, x267, x268, x269, x270, x271, x272, x273, x274, x275, x276], []⟩ ((wr.alloc (.cells (wC M p 64) 45)).drewN q)) :
    Code.wp Tryd.prog (refLoop 16) Q ⟨#[x0, x1, x2, x3, x4, .slice (some ⟨g, 0, none⟩) M.length cap, x6, x7, .int .i64 (p : Int), .pointer (some ⟨wr.heap.size, 0, none⟩), .int .i64 0, x11, x12, x13, x14, x15, x16, x17, x18, x19, x20, x21, x22, x23, x24, x25, x26, x27, x28, x29, x30, x31, x32, x33, x34, x35, x36, x37, x38, x39, x40, x41, x42, x43, x44, x45, x46, x47, x48, x49, x50, x51, x52, x53, x54, x55, x56, x57, x58, x59, x60, x61, x62, x63, x64, x65, x66, x67, x68, x69, x70, x71, x72, x73, x74, x75, x76, x77, x78, x79, x80, x81, x82, x83, x84, x85, x86, x87, x88, x89, x90, x91, x92, x93, x94, x95, x96, x97, x98, x99, x100, x101, x102, x103, x104, x105, x106, x107, x108, x109, x110, x111, x112, x113, x114, x115, x116, x117, x118, x119, x120, x121, x122, x123, x124, x125, x126, x127, x128, x129, x130, x131, x132, x133, x134, x135, x136, x137, x138, x139, x140, x141, x142, x143, x144, x145, x146, x147, x148, x149, x150, x151, x152, x153, x154, x155, x156, x157, x158, x159, x160, x161, x162, x163, x164, x165, x166, x167, x168, x169, x170, x171, x172, x173, x174, x175, x176, x177, x178, x179, x180, x181, x182, x183, x184, x185, x186, x187, x188, x189, x190, x191, x192, x193, x194, x195, x196, x197, x198, x199, x200, x201, x202, x203, x204, x205, x206, x207, x208, x209, x210, x211, x212, x213, x214, x215, x216, x217, x218, x219, x220, x221, x222, x223, x224, x225, x226, x227, x228, x229, x230, x231, x232, x233, x234, x235, x236, x237, x238, x239, x240, x241, x242, x243, x244, x245, x246, x247, x248, x249, x250, x251, x252, x253, x254, x255, x256, x257, x258, x259, x260, x261, x262, x263, x264, x265, x266, x267, x268, x269, x270, x271, x272, x273, x274, x275, x276], []⟩ (wr.alloc (.cells (wC M p 0) 45)) := by
  have HE := Lib.hid hexit; clear hexit
  dsimp only []
  conv => arg 2; whnf
  go_loopw [10] (fun i W => ∃ k q : Nat, k ≤ 64 ∧ i = .int .i64 (k : Int) ∧ W = (wr.alloc (.cells (wC M p k) 45)).drewN q) (fun i _ => 64 - (intOf i).toNat)
  case atStart => exact ⟨0, 0, by omega, rfl, rfl⟩
  case round =>
    obtain ⟨k, q, hk, rfl, rfl⟩ := hrel
    by_cases hk64 : k < 64
    · have hd64 : decide ((k : Int) < 64) = true := by simp; omega
      by_cases hk16 : k < 16
      · have hd16 : decide ((k : Int) < 16) = true := by simp; omega
        have hQM : p + 4 * k + 3 < M.length := by omega
        have hwd := word_nat M (p + 4 * k) hQM
        rw [← schedW_first M p k hk16] at hwd
        have hnx := wC_next M p k hk64
        have d0 := (old_at wr (.cells (wC M p k) 45) g _ hgl).trans (hcl (p + 4 * k) (by omega))
        have d1 := (old_at wr (.cells (wC M p k) 45) g _ hgl).trans (hcl (p + 4 * k + 1) (by omega))
        have d2 := (old_at wr (.cells (wC M p k) 45) g _ hgl).trans (hcl (p + 4 * k + 2) (by omega))
        have d3 := (old_at wr (.cells (wC M p k) 45) g _ hgl).trans (hcl (p + 4 * k + 3) (by omega))
        have l0 := M[p + 4 * k].toNat_lt
        have l1 := M[p + 4 * k + 1].toNat_lt
        have l2 := M[p + 4 * k + 2].toNat_lt
        have l3 := M[p + 4 * k + 3].toNat_lt
        generalize M[p + 4 * k].toNat = b0 at *
        generalize M[p + 4 * k + 1].toNat = b1 at *
        generalize M[p + 4 * k + 2].toNat = b2 at *
        generalize M[p + 4 * k + 3].toNat = b3 at *
        generalize (schedW M p k).toNat = sw at *
        have hws := wC_size M p k hk
        generalize wC M p k = C at *
        have HWD := Lib.hid hwd; have HNX := Lib.hid hnx; have HCL := Lib.hid hcl; clear hwd hnx hcl
        go_wp2
        refine wp_region_quiet_tail 31 (by kernel_rfl) (by kernel_rfl) ?_
        simp only [List.take_succ_cons, List.take_zero, List.drop_succ_cons, List.drop_zero]
        repeat (go_big_quiet_step (fail))
        refine wpQuiet_nil ?_
        go_wp2
        go_roundw
        case rel => exact ⟨k + 1, q + 1, by omega, by go_num, by rw [arr_store, ← HWD.out, HNX.out]⟩
        case measure => simp [intOf]; omega
      · have hd16 : decide ((k : Int) < 16) = false := by simp; omega
        have hwd := schedW_next M p k (by omega)
        have hnx := wC_next M p k hk64
        have hal : ∀ x : Nat, x < k → (wr.alloc (.cells (wC M p k) 45)).cell? ⟨wr.heap.size, x, none⟩ = some (.int .u32 ((schedW M p x).toNat : Int)) := fun x hx => arr_at wr _ _ x _ (wC_at M p k x hx)
        have dk := arr_at wr (wC M p k) 45 k _ (wC_here M p k hk64)
        have d15 := hal (k - 15) (by omega)
        have d2 := hal (k - 2) (by omega)
        have d16 := hal (k - 16) (by omega)
        have d7 := hal (k - 7) (by omega)
        obtain ⟨n15, hn15⟩ : ∃ n, k - 15 = n := ⟨_, rfl⟩
        obtain ⟨n2, hn2⟩ : ∃ n, k - 2 = n := ⟨_, rfl⟩
        obtain ⟨n16, hn16⟩ : ∃ n, k - 16 = n := ⟨_, rfl⟩
        obtain ⟨n7, hn7⟩ : ∃ n, k - 7 = n := ⟨_, rfl⟩
        rw [hn15] at d15 hwd
        rw [hn2] at d2 hwd
        rw [hn16] at d16 hwd
        rw [hn7] at d7 hwd
        have w15 : IntKind.i64.wrap ((k : Int) - 15) = (n15 : Int) := by rw [IntKind.wrap_i64]; omega
        have w2 : IntKind.i64.wrap ((k : Int) - 2) = (n2 : Int) := by rw [IntKind.wrap_i64]; omega
        have w16 : IntKind.i64.wrap ((k : Int) - 16) = (n16 : Int) := by rw [IntKind.wrap_i64]; omega
        have w7 : IntKind.i64.wrap ((k : Int) - 7) = (n7 : Int) := by rw [IntKind.wrap_i64]; omega
        have b15 : (n15 : Int) < 64 := by omega
        have b2 : (n2 : Int) < 64 := by omega
        have b16 : (n16 : Int) < 64 := by omega
        have b7 : (n7 : Int) < 64 := by omega
        have bk : (k : Int) < 64 := by omega
        clear hal hcl hn15 hn2 hn16 hn7
        generalize schedW M p n15 = x15 at *
        generalize schedW M p n2 = x2 at *
        generalize schedW M p n16 = x16 at *
        generalize schedW M p n7 = x7 at *
        have hws := wC_size M p k hk
        generalize schedW M p k = xk at *
        generalize wC M p k = C at *
        have hsi := sched_int x16 x15 x7 x2
        rw [← hwd] at hsi
        clear hwd
        have HSI := Lib.hid hsi; have HNX := Lib.hid hnx; clear hsi hnx
        change ((wr.alloc (.cells C 45)).drewN q).cell? _ = _ at d15
        change ((wr.alloc (.cells C 45)).drewN q).cell? _ = _ at d2
        change ((wr.alloc (.cells C 45)).drewN q).cell? _ = _ at d16
        change ((wr.alloc (.cells C 45)).drewN q).cell? _ = _ at d7
        change ((wr.alloc (.cells C 45)).drewN q).cell? _ = _ at dk
        have fk : ((wr.alloc (.cells C 45)).drewN q).frozen? ⟨wr.heap.size, k, none⟩ = false := by simp
        generalize hW : (wr.alloc (.cells C 45)).drewN q = W at *
        have HW := Lib.hid hW; clear hW
        go_wp2
        go_quiet ((go_at_call 21; exact Calls.quiet_of_same (turn_q _ _ (by decide) (by decide) _)))
        go_wp2
        go_quiet ((go_at_call 21; exact quiet_more (turn_q _ _ (by decide) (by decide) _)))
        go_wp2
        generalize hE : bits .xor .u32 (bits .xor .u32 ((rotr x15 7).toNat : Int) ((rotr x15 18).toNat : Int)) ((x15.toNat : Int) / 8) = E1
        generalize hE2 : bits .xor .u32 (bits .xor .u32 ((rotr x2 17).toNat : Int) ((rotr x2 19).toNat : Int)) ((x2.toNat : Int) / 1024) = E2
        have HSI2 := HSI.out
        rw [hE, hE2] at HSI2
        have HS := Lib.hid HSI2
        clear hE hE2 HSI2 HSI
        refine wp_region_quiet_tail 15 (by kernel_rfl) (by kernel_rfl) ?_
        simp only [List.take_succ_cons, List.take_zero, List.drop_succ_cons, List.drop_zero]
        repeat (go_big_quiet_step (fail))
        refine wpQuiet_nil ?_
        go_wp2
        go_roundw
        case rel => exact ⟨k + 1, _, by omega, by go_num, by rw [← HW.out, HS.out]; simp only [World.drewN_drewN]; rw [arr_store, HNX.out]⟩
        case measure => simp [intOf]; omega
    · have hd64 : decide ((k : Int) < 64) = false := by simp; omega
      obtain rfl : k = 64 := by omega
      have HCL := Lib.hid hcl; clear hcl
      go_wp2
      exact HE.out _ _ _ _ _ _ _ _ _ _ _ _ _ _ _ _ _ _ _ _ _ _ _ _ _ _ _ _ _ _ _ _ _ _ _ _ _ _ _ _ _ _ _ _ _ _ _ _ _ _ _ _ _ _ _ _ _ _ _ _ _ _ _ _ _ _ _ _ _ _ _ _ _ _ _ _ _ _ _ _ _ _ _ _ _ _ _ _ _ _ _ _ _ _ _
end Go.Proofs.YtdflghphjhejdaaDoor
