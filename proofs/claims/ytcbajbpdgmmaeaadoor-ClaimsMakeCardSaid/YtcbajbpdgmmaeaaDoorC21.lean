/- Texts merged by program, in build order: ClaimsMake, ClaimsField, JsonGroupO. -/
import Derived.Test.YtcbajbpdgmmaeaaDoorC20
import Derived.Test.YtcbajbpdgmmaeaaDoorC13
import Derived.Deep.RegionLaw
import Derived.Test.YtcbajbpdgmmaeaaDoorC08
namespace Go.Proofs.YtcbajbpdgmmaeaaDoor
open Go.RowKit
set_option linter.unusedVariables false
set_option linter.unusedSimpArgs false

theorem ten_ones (a b c d : Int) : ∀ u ∈ [Value.int .i64 a, .int .i64 b, .string ⟨#[]⟩, .slice none 0 0, .slice none 0 0, .int .i64 c, .int .i64 d, .string ⟨#[]⟩, .slice none 0 0, .slice none 0 0], u.oneCell' = true := by
  intro u hu
  simp only [List.mem_cons, List.not_mem_nil, or_false] at hu
  rcases hu with rfl | rfl | rfl | rfl | rfl | rfl | rfl | rfl | rfl | rfl <;> rfl
set_option maxRecDepth 100000 in
set_option maxHeartbeats 8000000 in
theorem makeSays_any : MakeSays := by
  intro iss sub aud nonce iat exp h1 h2 h3 h4 hmi hme w
  obtain ⟨i0, hi, hz0, hz1, hz2⟩ := info_parts Tryd.infoValR
  obtain ⟨j0, hj, hy0, hy1, hy2⟩ := info_parts Tryd.infoStrR
  obtain ⟨R, hR⟩ : ∃ R, w.heap.size = R := ⟨_, rfl⟩
  obtain ⟨W1, hW1⟩ : ∃ W1, W1 = w.alloc (.cells #[.int .i64 0, .int .i64 0, .string ⟨#[]⟩, .slice none 0 0, .slice none 0 0] 28) := ⟨_, rfl⟩
  have b1 : Below R w W1 := by rw [hW1, ← hR]; exact (Below.refl _ _).alloc (Nat.le_refl _) _
  have k1 : W1.heap[R]? = some (.cells #[.int .i64 0, .int .i64 0, .string ⟨#[]⟩, .slice none 0 0, .slice none 0 0] 28 (0, 0)) := by rw [hW1, ← hR]; exact heap_alloc_last w _
  have z1 : W1.heap.size = R + 1 := by rw [hW1]; simp [hR]
  obtain ⟨I, hI⟩ : ∃ D : ByteArray, (⟨iss.toArray⟩ : ByteArray) = D := ⟨_, rfl⟩
  obtain ⟨S, hS⟩ : ∃ D : ByteArray, (⟨sub.toArray⟩ : ByteArray) = D := ⟨_, rfl⟩
  obtain ⟨A, hA⟩ : ∃ D : ByteArray, (⟨aud.toArray⟩ : ByteArray) = D := ⟨_, rfl⟩
  obtain ⟨NO, hNO⟩ : ∃ D : ByteArray, (⟨nonce.toArray⟩ : ByteArray) = D := ⟨_, rfl⟩
  obtain ⟨W2, hW2⟩ : ∃ W2, W2 = W1.alloc (.cells #[.string ⟨#[105, 115, 115]⟩, .string I, .string ⟨#[115, 117, 98]⟩, .string S, .string ⟨#[97, 117, 100]⟩, .string A] 44) := ⟨_, rfl⟩
  have b2 : Below W1.heap.size W1 W2 := by rw [hW2]; exact (Below.refl _ _).alloc (Nat.le_refl _) _
  have k2 : W2.heap[W1.heap.size]? = some (.cells #[.string ⟨#[105, 115, 115]⟩, .string I, .string ⟨#[115, 117, 98]⟩, .string S, .string ⟨#[97, 117, 100]⟩, .string A] 44 (0, 0)) := by rw [hW2]; exact heap_alloc_last W1 _
  have z2 : W2.heap.size = R + 2 := by rw [hW2]; simp [z1]
  obtain ⟨l3, hl3⟩ : ∃ l, [textV iss, textV sub, textV aud] = l := ⟨_, rfl⟩
  obtain ⟨k3, hk3⟩ : ∃ l, [wIss, wSub, wAud] = l := ⟨_, rfl⟩
  have z3 : l3.length = 3 := by rw [← hl3]; rfl
  have y3 : k3.length = 3 := by rw [← hk3]; rfl
  have hobj : Calls Tryd.prog 19 #[.slice (some ⟨W1.heap.size, 0, none⟩) 3 3] W2 fun e w' => (∃ B b B' b' xs, e = .returned (.agg #[.int .i64 6, .int .i64 0, .string ⟨#[]⟩, .slice B 3 b, .slice B' 3 b']) ∧
      w'.ownsRow (R + 1) 28 5 (.slice B 3 b) 3 xs ∧ w'.ownsRow (R + 1) 9 1 (.slice B' 3 b') 3 (ksCells k3) ∧
      (∀ i (h : i < l3.length), ∃ c0 c1 c2 c3 c4, xs[i * 5]? = some c0 ∧ xs[i * 5 + 1]? = some c1 ∧ xs[i * 5 + 2]? = some c2 ∧ xs[i * 5 + 3]? = some c3 ∧ xs[i * 5 + 4]? = some c4 ∧ VIs W1 0 0 l3[i] [c0, c1, c2, c3, c4])) ∧ Below W2.heap.size W2 w' := by
    have h := objectO_any (some ⟨W1.heap.size, 0, none⟩) 3 (claimP iss sub aud) (by simp [claimP]) (by
      intro p hp
      simp only [claimP, List.mem_cons, List.not_mem_nil, or_false] at hp
      unfold maxLen
      rcases hp with rfl | rfl | rfl
      · exact ⟨show wIss.length ≤ _ by decide, by show iss.length ≤ _; omega⟩
      · exact ⟨show wSub.length ≤ _ by decide, by show sub.length ≤ _; omega⟩
      · exact ⟨show wAud.length ≤ _ by decide, by show aud.length ≤ _; omega⟩) W2 (prs_ofC k2 (by rw [← hI, ← hS, ← hA]; rfl))
    rw [claimP_obj] at h
    refine h.mono fun e w' ⟨⟨B, b, B', b', xs, q1, _, q3, q4, q5⟩, q6⟩ => ⟨⟨B, b, B', b', xs, q1, own_base q3 (by omega), ?_, ?_⟩, q6⟩
    · rw [← hk3]; exact own_base q4 (by omega)
    · intro i hi
      subst hl3
      obtain ⟨c0, c1, c2, c3, c4, e0, e1, e2, e3, e4, hv⟩ := q5 i hi
      exact ⟨c0, c1, c2, c3, c4, e0, e1, e2, e3, e4, hv W1⟩
  rw [z1] at hobj
  have hin : ∀ (n : Int) (W : World), Calls Tryd.prog 20 #[.int .i64 n] W fun e w' => e = .returned (.agg #[.int .i64 3, .int .i64 n, .string ⟨#[]⟩, .slice none 0 0, .slice none 0 0]) ∧ Below W.heap.size W w' := number_any8
  have hfin5 : nonce = [] → claimV iss sub aud nonce iat exp = .mk 6 0 [] (l3 ++ [numV iat, numV exp]) (k3 ++ [wIat, wExp]) := fun h => by
    subst h; rw [← hl3, ← hk3]; rfl
  have hfin6 : nonce ≠ [] → claimV iss sub aud nonce iat exp = .mk 6 0 [] ((l3 ++ [numV iat, numV exp]) ++ [textV nonce]) ((k3 ++ [wIat, wExp]) ++ [wNonce]) := fun h => by
    unfold claimV claimL claimK; rw [if_neg h, if_neg h, ← hl3, ← hk3]; rfl
  have hnv : ∀ i (h : i < [numV iat, numV exp].length), ∃ c0 c1 c2 c3 c4, [Value.int .i64 3, .int .i64 iat, .string ⟨#[]⟩, .slice none 0 0, .slice none 0 0, .int .i64 3, .int .i64 exp, .string ⟨#[]⟩, .slice none 0 0, .slice none 0 0][i * 5]? = some c0 ∧ [Value.int .i64 3, .int .i64 iat, .string ⟨#[]⟩, .slice none 0 0, .slice none 0 0, .int .i64 3, .int .i64 exp, .string ⟨#[]⟩, .slice none 0 0, .slice none 0 0][i * 5 + 1]? = some c1 ∧ [Value.int .i64 3, .int .i64 iat, .string ⟨#[]⟩, .slice none 0 0, .slice none 0 0, .int .i64 3, .int .i64 exp, .string ⟨#[]⟩, .slice none 0 0, .slice none 0 0][i * 5 + 2]? = some c2 ∧ [Value.int .i64 3, .int .i64 iat, .string ⟨#[]⟩, .slice none 0 0, .slice none 0 0, .int .i64 3, .int .i64 exp, .string ⟨#[]⟩, .slice none 0 0, .slice none 0 0][i * 5 + 3]? = some c3 ∧ [Value.int .i64 3, .int .i64 iat, .string ⟨#[]⟩, .slice none 0 0, .slice none 0 0, .int .i64 3, .int .i64 exp, .string ⟨#[]⟩, .slice none 0 0, .slice none 0 0][i * 5 + 4]? = some c4 ∧ VIs W1 0 0 [numV iat, numV exp][i] [c0, c1, c2, c3, c4] := fun i hi => by
    match i, hi with
    | 0, _ => exact ⟨_, _, _, _, _, rfl, rfl, rfl, rfl, rfl, numV_mk W1 0 0 iat⟩
    | 1, _ => exact ⟨_, _, _, _, _, rfl, rfl, rfl, rfl, rfl, numV_mk W1 0 0 exp⟩
  have hnt := textV_mk W1 0 0 nonce h4
  rw [hNO] at hnt
  have htv : ∀ i (h : i < [textV nonce].length), ∃ c0 c1 c2 c3 c4, [Value.int .i64 4, .int .i64 0, .string NO, .slice none 0 0, .slice none 0 0][i * 5]? = some c0 ∧ [Value.int .i64 4, .int .i64 0, .string NO, .slice none 0 0, .slice none 0 0][i * 5 + 1]? = some c1 ∧ [Value.int .i64 4, .int .i64 0, .string NO, .slice none 0 0, .slice none 0 0][i * 5 + 2]? = some c2 ∧ [Value.int .i64 4, .int .i64 0, .string NO, .slice none 0 0, .slice none 0 0][i * 5 + 3]? = some c3 ∧ [Value.int .i64 4, .int .i64 0, .string NO, .slice none 0 0, .slice none 0 0][i * 5 + 4]? = some c4 ∧ VIs W1 0 0 [textV nonce][i] [c0, c1, c2, c3, c4] := fun i hi => by
    match i, hi with
    | 0, _ => exact ⟨_, _, _, _, _, rfl, rfl, rfl, rfl, rfl, hnt⟩
  have hkz : ∀ x ∈ (k3 ++ [wIat, wExp]) ++ [wNonce], x.length ≤ 9223372036854775807 := fun x hx => by
    rw [← hk3] at hx
    simp only [List.cons_append, List.nil_append, List.mem_cons, List.not_mem_nil, or_false] at hx
    rcases hx with rfl | rfl | rfl | rfl | rfl | rfl <;> decide
  rw [hI, hS, hA, hNO]
  obtain ⟨CV, hCV⟩ : ∃ c, claimV iss sub aud nonce iat exp = c := ⟨_, rfl⟩
  rw [hCV] at hfin5 hfin6 ⊢
  have hnon : nonce = [] ↔ NO.size = 0 := by rw [← hNO]; show _ ↔ nonce.toArray.size = 0; simp
  have HO := Lib.hid hobj; have HI1 := Lib.hid (hin iat); have HI2 := Lib.hid (hin exp); have F5 := Lib.hid hfin5; have F6 := Lib.hid hfin6; have HR := Lib.hid hR; have HW1 := Lib.hid hW1; have HW2 := Lib.hid hW2; have B1 := Lib.hid b1; have B2 := Lib.hid b2; have K1 := Lib.hid k1; have Z1 := Lib.hid z1; have Z2 := Lib.hid z2; have HNO := Lib.hid hNO; have ZL3 := Lib.hid z3; have ZK3 := Lib.hid y3; have HNV := Lib.hid hnv; have HTV := Lib.hid htv; have HKZ := Lib.hid hkz
  clear hobj hin hfin5 hfin6 hR hW1 hW2 b1 b2 k1 z1 k2 z2 hI hS hA hNO hCV hl3 hk3 z3 y3 hnv hnt htv hkz h1 h2 h3 h4 hmi hme hnon
  go_enter Tryd.func11, Tryd.ntmps11
  go_wp2_with fail
  rw [← HW1.out, ← HW2.out, HR.out]
  refine HO.out.mono ?_
  rintro e w3 ⟨⟨X3, x3, Y3, y3, xs3, rfl, rl3, rk3, el3⟩, hb3⟩
  obtain ⟨w4, hw4⟩ : ∃ w4, w4 = w3.alloc (.cells #[.int .i64 6, .int .i64 0, .string ⟨#[]⟩, .slice X3 3 x3, .slice Y3 3 y3] 28) := ⟨_, rfl⟩
  have g4 : Below w3.heap.size w3 w4 := by rw [hw4]; exact (Below.refl _ _).alloc (Nat.le_refl _) _
  have q4 : w4.heap[w3.heap.size]? = some (.cells #[.int .i64 6, .int .i64 0, .string ⟨#[]⟩, .slice X3 3 x3, .slice Y3 3 y3] 28 (0, 0)) := by rw [hw4]; exact heap_alloc_last w3 _
  have s3 : R + 2 ≤ w3.heap.size := by have := hb3.size; have := Z2.out; omega
  have hp3 : R + 1 ≤ w3.heap.size := by omega
  have o4 : OSt (R + 1) w3.heap.size 0 0 W1 w4 (.slice X3 3 x3) (.slice Y3 3 y3) l3 k3 xs3 := by
    refine ⟨q4, ?_, ?_, fun e => ?_, el3, ?_⟩
    · rw [ZL3.out]; exact own_below rl3 g4
    · rw [ZK3.out]; exact own_below rk3 g4
    · have := (rl3.lt _ e).2; omega
    · have := (B2.out.chain (hb3.chain g4)); rw [Z1.out] at this; exact this
  have m4 : w4.heap[R]? = some (.cells #[.int .i64 0, .int .i64 0, .string ⟨#[]⟩, .slice none 0 0, .slice none 0 0] 28 (0, 0)) := blk_below K1.out (B2.out.chain (hb3.chain g4))
  obtain ⟨p, hp⟩ : ∃ p, w3.heap.size = p := ⟨_, rfl⟩
  have O4 := Lib.hid o4; have HW4 := Lib.hid hw4; have M4 := Lib.hid m4
  have z4 : w4.heap.size = p + 1 := by rw [hw4]; simp [hp]
  obtain ⟨⟨e0, e1, e2, e3, e4⟩, f0, f1, f2, f3, f4⟩ := box_of q4
  rw [hp] at O4 s3 hp3 e0 e1 e2 e3 e4 f0 f1 f2 f3 f4
  have HP := Lib.hid hp; have Z4 := Lib.hid z4
  obtain ⟨W4, hW4⟩ : ∃ W4, W4 = w4.alloc (.cells #[.string ⟨#[105, 97, 116]⟩, .string ⟨#[101, 120, 112]⟩] 9) := ⟨_, rfl⟩
  have hb5 : Below w4.heap.size w4 W4 := by rw [hW4]; exact (Below.refl _ _).alloc (Nat.le_refl _) _
  have oK4 := O4.out.later hp3 hb5
  rw [hW4] at oK4
  have OK4 := Lib.hid oK4; have rK4 := Lib.hid oK4.rowK
  rw [ZK3.out] at rK4
  clear hw4 g4 q4 o4 m4 hb3 rl3 rk3 el3 z4 hp hb5 oK4 hW4 W4
  dsimp only
  go_upto_region 2 with fail
  rw [← HW4.out, HP.out]
  go_upto_region 3 with (at_builtin; (refine wpList_append_own_at _ rfl (.tmp 23) (.tmp 24) 26 rfl (R + 1) 9 j0 _ 1 16 Tryd.underlying26 hj hy0 hy1 hy2 rfl (by decide) _ _ _ rfl rK4.out ⟨_, 0, none⟩ 2 2 [.string ⟨#[105, 97, 116]⟩, .string ⟨#[101, 120, 112]⟩] rfl rfl (new_cells _ #[_, _] _) (by intro u hu; simp at hu; rcases hu with rfl | rfl <;> rfl) (by unfold maxLen; omega) (by omega) (by have := Z4.out; simp; omega) ?_; intro v5 w5 hown hgrow hnil hat; obtain ⟨KA5, kc5, rfl⟩ := own_form hown; obtain ⟨⟨p0, p1, p2, p3, p4⟩, q0, q1, q2, q3, q4⟩ := box_of (OK4.out.varK hgrow)))
  have o5 := OK4.out.keysMore hp3 [wIat, wExp] (by rw [ZK3.out]; exact hown) hgrow
  have bw5 : Below w4.heap.size w4 (w5.setCell ⟨p, 4, none⟩ (.slice KA5 (3 + 2) kc5)) → True := fun _ => trivial
  have m5 : (w5.setCell ⟨p, 4, none⟩ (.slice KA5 (3 + 2) kc5)).heap[R]? = some (.cells #[.int .i64 0, .int .i64 0, .string ⟨#[]⟩, .slice none 0 0, .slice none 0 0] 28 (0, 0)) := by
    rw [set_there _ (by omega)]
    exact grown_block hgrow (alloc_block M4.out) (fun e => by have := (rK4.out.lt _ e).1; omega)
  obtain ⟨w6, hw6⟩ : ∃ w6, w6 = w5.setCell ⟨p, 4, none⟩ (.slice KA5 (3 + 2) kc5) := ⟨_, rfl⟩
  rw [← hw6] at o5 m5 ⊢
  have z6 : p < w6.heap.size := o5.psize
  have st6 : ∀ W, Below w6.heap.size w6 W → W.cell? ⟨p, 3, none⟩ = some (.slice X3 3 x3) := fun W hb => (box_of (o5.later hp3 hb).var).1.2.2.2.1
  have rl6 : ∀ W, Below w6.heap.size w6 W → W.ownsRow (R + 1) 28 5 (.slice X3 3 x3) 3 xs3 := fun W hb => by
    have := (o5.later hp3 hb).rowL; rw [ZL3.out] at this; exact this
  have c6 := st6 w6 (Below.refl _ _)
  have O6 := Lib.hid o5; have M6 := Lib.hid m5; have ST6 := Lib.hid st6; have RL6 := Lib.hid rl6
  clear o5 m5 st6 rl6 bw5 hown hgrow hnil hat p0 p1 p2 p3 p4 q0 q1 q2 q3 q4 e0 e1 e2 e3 e4 f0 f1 f2 f3 f4 hw6
  go_region_law (first
    | (refine step_append_opt rfl (.tmp 28) (.tmp 33) 25 rfl (R + 1) 28 i0 _ 5 80 Tryd.underlying25 hi hz0 hz1 hz2 rfl (by decide) _ _ xs3 rfl r8.out (some ⟨w8.heap.size, 0, none⟩) 2 2 [.int .i64 3, .int .i64 iat, .string ⟨#[]⟩, .slice none 0 0, .slice none 0 0, .int .i64 3, .int .i64 exp, .string ⟨#[]⟩, .slice none 0 0, .slice none 0 0] rfl rfl (.inr ⟨_, rfl, new_cells _ #[_, _, _, _, _, _, _, _, _, _] _⟩) (ten_ones _ _ _ _) ?_ ?_ ?_ ?_; (· unfold maxLen; omega); (· omega); (· have := hb8'.size; simp; omega); intro v9 w9 hown hgrow hat; obtain ⟨A9, c9, rfl⟩ := own_form hown; obtain ⟨⟨p0, p1, p2, p3, p4⟩, q0, q1, q2, q3, q4⟩ := box_of ((O6.out.later hp3 (hb8'.alloc hb8'.size (.cells #[.int .i64 3, .int .i64 iat, .string ⟨#[]⟩, .slice none 0 0, .slice none 0 0, .int .i64 3, .int .i64 exp, .string ⟨#[]⟩, .slice none 0 0, .slice none 0 0] 28))).varL hgrow))
    | (go_simp; go_at_call 20; (with_reducible refine (HI1.out _).mono ?_); rintro e7 w7 ⟨rfl, hb7⟩; have hb7' := (below_drew2 _ _ hb7); have c7 := ST6.out w7 hb7'; dsimp only)
    | (go_simp; go_at_call 20; (with_reducible refine (HI2.out _).mono ?_); rintro e8 w8 ⟨rfl, hb8⟩; have hb8' := hb7'.chain hb8; have c8 := ST6.out w8 hb8'; have c8' := ST6.out _ (hb8'.alloc hb8'.size (.cells #[.int .i64 3, .int .i64 iat, .string ⟨#[]⟩, .slice none 0 0, .slice none 0 0, .int .i64 3, .int .i64 exp, .string ⟨#[]⟩, .slice none 0 0, .slice none 0 0] 28)); have r8 := Lib.hid (RL6.out _ (hb8'.alloc hb8'.size (.cells #[.int .i64 3, .int .i64 iat, .string ⟨#[]⟩, .slice none 0 0, .slice none 0 0, .int .i64 3, .int .i64 exp, .string ⟨#[]⟩, .slice none 0 0, .slice none 0 0] 28))); dsimp only))
  all_goals
    have o9 := (O6.out.later hp3 (hb8'.alloc hb8'.size (.cells #[.int .i64 3, .int .i64 iat, .string ⟨#[]⟩, .slice none 0 0, .slice none 0 0, .int .i64 3, .int .i64 exp, .string ⟨#[]⟩, .slice none 0 0, .slice none 0 0] 28))).itemsMore hp3 [numV iat, numV exp] _ HNV.out (by rw [ZL3.out]; exact hown) hgrow hat
    have m9 : (w9.setCell ⟨p, 3, none⟩ (.slice A9 (3 + 2) c9)).heap[R]? = some (.cells #[.int .i64 0, .int .i64 0, .string ⟨#[]⟩, .slice none 0 0, .slice none 0 0] 28 (0, 0)) := by
      rw [set_there _ (by omega)]
      exact grown_block hgrow (blk_below M6.out (hb8'.alloc hb8'.size _)) (fun e => by have := (r8.out.lt _ e).1; omega)
    obtain ⟨wa, hwa⟩ : ∃ wa, wa = w9.setCell ⟨p, 3, none⟩ (.slice A9 (3 + 2) c9) := ⟨_, rfl⟩
    change Exit.then _ _ _ _ (w9.setCell ⟨p, 3, none⟩ (.slice A9 (3 + 2) c9))
    rw [← hwa] at o9 m9 ⊢
    obtain ⟨⟨a0, a1, a2, a3, a4⟩, b0, b1, b2, b3, b4⟩ := box_of o9.var
    have hpa := o9.psize
    have rk9 := o9.rowK
    have e5 : (k3 ++ [wIat, wExp]).length = 5 := by rw [List.length_append, ZK3.out]; rfl
    have e6 : (l3 ++ [numV iat, numV exp]).length = 5 := by rw [List.length_append, ZL3.out]; rfl
    have O9 := Lib.hid o9; have M9 := Lib.hid m9; have E5 := Lib.hid e5; have E6 := Lib.hid e6
    clear o9 m9 rk9 e5 e6 hwa hown hgrow hat c6 c7 c8 c8' r8 hb7 hb7' hb8 hb8' p0 p1 p2 p3 p4 q0 q1 q2 q3 q4
    by_cases hno : nonce = []
    · obtain rfl : NO = ⟨#[]⟩ := by rw [← HNO.out, hno]
      have HCV := Lib.hid (F5.out hno)
      obtain ⟨⟨m0, m1, m2, m3, m4⟩, n0, n1, n2, n3, n4⟩ := box_of M9.out
      go_wp2
      obtain ⟨wf, hwf⟩ : ∃ wf, wf = set5 wa R 0 (.int .i64 6) (.int .i64 0) (.string ⟨#[]⟩) (.slice A9 (3 + 2) c9) (.slice KA5 (3 + 2) kc5) := ⟨_, rfl⟩
      change bodyPost _ _ _ _ _ (set5 wa R 0 (.int .i64 6) (.int .i64 0) (.string ⟨#[]⟩) (.slice A9 (3 + 2) c9) (.slice KA5 (3 + 2) kc5))
      rw [← hwf]
      have hx : wf.heap[R]? = some (.cells #[.int .i64 6, .int .i64 0, .string ⟨#[]⟩, .slice A9 (3 + 2) c9, .slice KA5 (3 + 2) kc5] 28 (0, 0)) := by
        have := set5_here (o := 0) (c0 := .int .i64 6) (c1 := .int .i64 0) (c2 := .string ⟨#[]⟩) (c3 := .slice A9 (3 + 2) c9) (c4 := .slice KA5 (3 + 2) kc5) M9.out
        rw [hwf]; simpa using this
      have hvf := O9.out.done (wf := wf) (r := R) hp3 (Nat.zero_le _) (Nat.zero_le _) (Nat.lt_succ_self _) (Nat.zero_le _) (by rw [E6.out]; decide) (by rw [E5.out]; decide) (fun x hx => HKZ.out x (List.mem_append_left _ hx)) (fun b hb => by rw [hwf]; exact set5_there hb) (by rw [hwf, set5_size])
      have hbf : Below w.heap.size w wf := by rw [hwf, HR.out]; exact (B1.out.trans (O9.out.low.mono (Nat.le_succ _))).trans (set5_below (Nat.le_refl _))
      obtain ⟨⟨t0, t1, t2, t3, t4⟩, -⟩ := box_of hx
      have HVF := Lib.hid hvf; have HBF := Lib.hid hbf
      clear hvf hbf hx hwf m0 m1 m2 m3 m4 n0 n1 n2 n3 n4 a0 a1 a2 a3 a4 b0 b1 b2 b3 b4
      refine bodyPost_ret (v := .agg #[.int .i64 6, .int .i64 0, .string ⟨#[]⟩, .slice A9 (3 + 2) c9, .slice KA5 (3 + 2) kc5]) (by simp [results, Tryd.results11, go_sem, t0, t1, t2, t3, t4]) rfl ?_
      exact ⟨⟨[_, _, _, _, _], _, _, rfl, by rw [HCV.out]; exact HVF.out, Nat.le_refl _⟩, HBF.out⟩
    · have hn1 : (NO.toList == []) = false := by
        rw [← HNO.out, bt_list]; simp [hno]
      have HCV := Lib.hid (F6.out hno)
      clear hno
      obtain ⟨WB, hWB⟩ : ∃ WB, WB = wa.alloc (.cells #[.string ⟨#[110, 111, 110, 99, 101]⟩] 9) := ⟨_, rfl⟩
      have bb : Below wa.heap.size wa WB := by rw [hWB]; exact (Below.refl _ _).alloc (Nat.le_refl _) _
      have oB := O9.out.later hp3 bb
      rw [hWB] at oB
      have OB := Lib.hid oB; have rB := Lib.hid oB.rowK
      rw [E5.out] at rB
      have ZA := Lib.hid hpa
      clear oB bb hWB WB hpa
      go_upto_region 6 with (at_builtin; (refine wpList_append_own_at _ rfl (.tmp 39) (.tmp 40) 26 rfl (R + 1) 9 j0 _ 1 16 Tryd.underlying26 hj hy0 hy1 hy2 rfl (by decide) _ _ _ rfl rB.out ⟨_, 0, none⟩ 1 1 [.string ⟨#[110, 111, 110, 99, 101]⟩] rfl rfl (new_cells _ #[_] _) (by intro u hu; simp at hu; subst hu; rfl) (by unfold maxLen; omega) (by omega) (by have := ZA.out; simp; omega) ?_; intro vb wb hown hgrow hnil hat; obtain ⟨KB, kcb, rfl⟩ := own_form hown; obtain ⟨⟨p0, p1, p2, p3, p4⟩, q0, q1, q2, q3, q4⟩ := box_of (OB.out.varK hgrow)))
      have oc := OB.out.keysMore hp3 [wNonce] (by rw [E5.out]; exact hown) hgrow
      have mc : (wb.setCell ⟨p, 4, none⟩ (.slice KB (5 + 1) kcb)).heap[R]? = some (.cells #[.int .i64 0, .int .i64 0, .string ⟨#[]⟩, .slice none 0 0, .slice none 0 0] 28 (0, 0)) := by
        rw [set_there _ (by omega)]
        exact grown_block hgrow (alloc_block M9.out) (fun e => by have := (rB.out.lt _ e).1; omega)
      obtain ⟨wc, hwc⟩ : ∃ wc, wc = wb.setCell ⟨p, 4, none⟩ (.slice KB (5 + 1) kcb) := ⟨_, rfl⟩
      change Code.wp _ _ _ _ (wb.setCell ⟨p, 4, none⟩ (.slice KB (5 + 1) kcb))
      rw [← hwc] at oc mc ⊢
      have ZC := Lib.hid oc.psize
      obtain ⟨⟨a0, a1, a2, a3, a4⟩, b0, b1, b2, b3, b4⟩ := box_of oc.var
      obtain ⟨WD, hWD⟩ : ∃ WD, WD = wc.alloc (.cells #[.int .i64 4, .int .i64 0, .string NO, .slice none 0 0, .slice none 0 0] 28) := ⟨_, rfl⟩
      have bd : Below wc.heap.size wc WD := by rw [hWD]; exact (Below.refl _ _).alloc (Nat.le_refl _) _
      have oD := oc.later hp3 bd
      rw [hWD] at oD
      have OD := Lib.hid oD; have rD := Lib.hid oD.rowL
      rw [E6.out] at rD
      have MC := Lib.hid mc
      clear oc mc hwc oD bd hWD WD hown hgrow hnil hat p0 p1 p2 p3 p4 q0 q1 q2 q3 q4
      go_upto_region 7 with (at_builtin; (refine wpList_append_own_at _ rfl (.tmp 44) (.tmp 47) 25 rfl (R + 1) 28 i0 _ 5 80 Tryd.underlying25 hi hz0 hz1 hz2 rfl (by decide) _ _ _ rfl rD.out ⟨_, 0, none⟩ 1 1 [.int .i64 4, .int .i64 0, .string NO, .slice none 0 0, .slice none 0 0] rfl rfl (new_cells _ #[_, _, _, _, _] _) (by intro u hu; simp at hu; rcases hu with rfl | rfl | rfl | rfl | rfl <;> rfl) (by unfold maxLen; omega) (by omega) (by have := ZC.out; simp; omega) ?_; intro vd wd hown hgrow hnil hat; obtain ⟨AD, cd, rfl⟩ := own_form hown; obtain ⟨⟨p0, p1, p2, p3, p4⟩, q0, q1, q2, q3, q4⟩ := box_of (OD.out.varL hgrow)))
      have oe := OD.out.itemsMore hp3 [textV nonce] _ HTV.out (by rw [E6.out]; exact hown) hgrow hat
      have me : (wd.setCell ⟨p, 3, none⟩ (.slice AD (5 + 1) cd)).heap[R]? = some (.cells #[.int .i64 0, .int .i64 0, .string ⟨#[]⟩, .slice none 0 0, .slice none 0 0] 28 (0, 0)) := by
        rw [set_there _ (by omega)]
        exact grown_block hgrow (alloc_block MC.out) (fun e => by have := (rD.out.lt _ e).1; omega)
      obtain ⟨we, hwe⟩ : ∃ we, we = wd.setCell ⟨p, 3, none⟩ (.slice AD (5 + 1) cd) := ⟨_, rfl⟩
      change Code.wp _ _ _ _ (wd.setCell ⟨p, 3, none⟩ (.slice AD (5 + 1) cd))
      rw [← hwe] at oe me ⊢
      obtain ⟨⟨c0, c1, c2, c3, c4⟩, -⟩ := box_of oe.var
      obtain ⟨⟨m0, m1, m2, m3, m4⟩, n0, n1, n2, n3, n4⟩ := box_of me
      have OE := Lib.hid oe; have ME := Lib.hid me
      have E7 : Hid (((k3 ++ [wIat, wExp]) ++ [wNonce]).length ≤ 9223372036854775807) := Lib.hid (by rw [List.length_append, E5.out]; decide)
      have E8 : Hid (((l3 ++ [numV iat, numV exp]) ++ [textV nonce]).length ≤ 9223372036854775807) := Lib.hid (by rw [List.length_append, E6.out]; show 5 + 1 ≤ _; decide)
      clear oe me hwe hown hgrow hnil hat p0 p1 p2 p3 p4 q0 q1 q2 q3 q4 a0 a1 a2 a3 a4 b0 b1 b2 b3 b4
      go_wp2
      obtain ⟨wf, hwf⟩ : ∃ wf, wf = set5 we R 0 (.int .i64 6) (.int .i64 0) (.string ⟨#[]⟩) (.slice AD (5 + 1) cd) (.slice KB (5 + 1) kcb) := ⟨_, rfl⟩
      change bodyPost _ _ _ _ _ (set5 we R 0 (.int .i64 6) (.int .i64 0) (.string ⟨#[]⟩) (.slice AD (5 + 1) cd) (.slice KB (5 + 1) kcb))
      rw [← hwf]
      have hx : wf.heap[R]? = some (.cells #[.int .i64 6, .int .i64 0, .string ⟨#[]⟩, .slice AD (5 + 1) cd, .slice KB (5 + 1) kcb] 28 (0, 0)) := by
        have := set5_here (o := 0) (c0 := .int .i64 6) (c1 := .int .i64 0) (c2 := .string ⟨#[]⟩) (c3 := .slice AD (5 + 1) cd) (c4 := .slice KB (5 + 1) kcb) ME.out
        rw [hwf]; simpa using this
      have hvf := OE.out.done (wf := wf) (r := R) hp3 (Nat.zero_le _) (Nat.zero_le _) (Nat.lt_succ_self _) (Nat.zero_le _) E8.out E7.out HKZ.out (fun b hb => by rw [hwf]; exact set5_there hb) (by rw [hwf, set5_size])
      have hbf : Below w.heap.size w wf := by rw [hwf, HR.out]; exact (B1.out.trans (OE.out.low.mono (Nat.le_succ _))).trans (set5_below (Nat.le_refl _))
      obtain ⟨⟨t0, t1, t2, t3, t4⟩, -⟩ := box_of hx
      have HVF := Lib.hid hvf; have HBF := Lib.hid hbf
      clear hvf hbf hx hwf m0 m1 m2 m3 m4 n0 n1 n2 n3 n4 c0 c1 c2 c3 c4
      refine bodyPost_ret (v := .agg #[.int .i64 6, .int .i64 0, .string ⟨#[]⟩, .slice AD (5 + 1) cd, .slice KB (5 + 1) kcb]) (by simp [results, Tryd.results11, go_sem, t0, t1, t2, t3, t4]) rfl ?_
      exact ⟨⟨[_, _, _, _, _], _, _, rfl, by rw [HCV.out]; exact HVF.out, Nat.le_refl _⟩, HBF.out⟩
end Go.Proofs.YtcbajbpdgmmaeaaDoor
namespace Go.Proofs.YtcbajbpdgmmaeaaDoor
open Go.RowKit
set_option linter.unusedVariables false
set_option linter.unusedSimpArgs false

theorem isV_any {v : V} {key want : List UInt8} : isV v key want = (decide (((fieldV key v).getD V.zero).kind = 4) && decide (((fieldV key v).getD V.zero).text = want)) := by
  unfold isV
  cases hf : fieldV key v with
  | none => rfl
  | some u => rfl
set_option maxRecDepth 100000 in
set_option maxHeartbeats 4000000 in
theorem tells_any (v : V) (key want : List UInt8) (w : World) (L N : Nat) (cs : List Value) (hs : v.slim 1000000) (hd : v.depth ≤ 65537) (hv : VIs w L N v cs) (hN : N ≤ w.heap.size) :
    Calls Tryd.prog 26 #[.agg cs.toArray, .string ⟨key.toArray⟩, .string ⟨want.toArray⟩] w fun e w' => e = .returned (.bool (isV v key want)) ∧ Below w.heap.size w w' := by
  obtain ⟨k1, k2, k3, k4, hform⟩ := hv.form
  have hb1 := (Below.refl w.heap.size w).alloc (Nat.le_refl _) (.cells cs.toArray 28)
  have hc := (field_any v key (w.alloc (.cells cs.toArray 28)) L N cs hs hd (hv.below (hb1.mono hN)) (by simp; omega)).mono (R' := fun e w' => (∃ a b c d, e = .returned (.tuple #[.agg #[.int .i64 ((fieldV key v).getD V.zero).kind, .int .i64 ((fieldV key v).getD V.zero).num, .string ⟨((fieldV key v).getD V.zero).text.toArray⟩, .slice a ((fieldV key v).getD V.zero).list.length b, .slice c ((fieldV key v).getD V.zero).keys.length d], .bool (fieldV key v).isSome])) ∧ Below (w.alloc (.cells cs.toArray 28)).heap.size (w.alloc (.cells cs.toArray 28)) w') fun e w' ⟨⟨ds, he, h1, _⟩, h2⟩ => by
    obtain ⟨a, b, c, d, hds⟩ := h1.form
    exact ⟨⟨a, b, c, d, by rw [he, hds]⟩, h2⟩
  have hs := @isV_any v key want
  obtain ⟨KEY, hKEY⟩ : ∃ D : ByteArray, (⟨key.toArray⟩ : ByteArray) = D := ⟨_, rfl⟩
  obtain ⟨u, hu⟩ : ∃ u, (fieldV key v).getD V.zero = u := ⟨_, rfl⟩
  obtain ⟨s, hss⟩ : ∃ s, (fieldV key v).isSome = s := ⟨_, rfl⟩
  rw [hu, hss] at hc
  rw [hu] at hs
  rw [hKEY] at hc ⊢
  obtain ⟨I, hI⟩ : ∃ I, isV v key want = I := ⟨_, rfl⟩
  rw [hI] at hs ⊢
  obtain ⟨uk, un, ut, ul, us⟩ := u
  simp only [V.kind, V.num, V.text, V.list, V.keys] at hc hs
  obtain ⟨n1, hn1⟩ : ∃ n, ul.length = n := ⟨_, rfl⟩
  obtain ⟨m1, hm1⟩ : ∃ n, us.length = n := ⟨_, rfl⟩
  rw [hn1, hm1] at hc
  obtain ⟨a, b, t, A, n, c, A', n', c', rfl⟩ : ∃ a b t A n c A' n' c', cs = [.int .i64 a, .int .i64 b, .string t, .slice A n c, .slice A' n' c'] := ⟨_, _, _, _, _, _, _, _, _, hform⟩
  have HC := Lib.hid hc; have HB1 := Lib.hid hb1
  clear hc hb1 hform hv hN hu hss hI hKEY hn1 hm1 hd
  obtain rfl := hs
  go_enter Tryd.func26, Tryd.ntmps26
  go_wp2_with fail
  refine HC.out.mono ?_
  rintro e w2 ⟨⟨x1, x2, x3, x4, rfl⟩, hb2⟩
  have HB2 := Lib.hid (HB1.out.chain hb2); clear hb2
  dsimp only
  by_cases hk : uk = 4
  · have hk2 : (uk == 4) = true := by simp [hk]
    have htl := toList_eq ut want
    have HK := Lib.hid hk; clear hk
    go_wp2
    go_ret
    exact ⟨ret_bool (by rw [HK.out]; by_cases h : ut = want <;> simp [h]), HB2.out.alloc HB2.out.size _⟩
  · have hk2 : (uk == 4) = false := by simp [hk]
    have HK := Lib.hid hk; clear hk
    go_wp2
    go_ret
    exact ⟨ret_bool (by simp [HK.out]), HB2.out.alloc HB2.out.size _⟩
set_option maxRecDepth 100000 in
set_option maxHeartbeats 4000000 in
theorem lasts_any (v : V) (now : Int) (hm : moment now) (w : World) (L N : Nat) (cs : List Value) (hs : v.slim 1000000) (hd : v.depth ≤ 65537) (hx : moment ((fieldV wExp v).getD V.zero).num) (hv : VIs w L N v cs) (hN : N ≤ w.heap.size) :
    Calls Tryd.prog 27 #[.agg cs.toArray, .int .i64 now] w fun e w' => e = .returned (.bool (decide (((fieldV wExp v).getD V.zero).kind = 3) && decide (now < ((fieldV wExp v).getD V.zero).num))) ∧ Below w.heap.size w w' := by
  obtain ⟨k1, k2, k3, k4, hform⟩ := hv.form
  have hb1 := (Below.refl w.heap.size w).alloc (Nat.le_refl _) (.cells cs.toArray 28)
  have hc := (field_any v wExp (w.alloc (.cells cs.toArray 28)) L N cs hs hd (hv.below (hb1.mono hN)) (by simp; omega)).mono (R' := fun e w' => (∃ a b c d, e = .returned (.tuple #[.agg #[.int .i64 ((fieldV wExp v).getD V.zero).kind, .int .i64 ((fieldV wExp v).getD V.zero).num, .string ⟨((fieldV wExp v).getD V.zero).text.toArray⟩, .slice a ((fieldV wExp v).getD V.zero).list.length b, .slice c ((fieldV wExp v).getD V.zero).keys.length d], .bool (fieldV wExp v).isSome])) ∧ Below (w.alloc (.cells cs.toArray 28)).heap.size (w.alloc (.cells cs.toArray 28)) w') fun e w' ⟨⟨ds, he, h1, _⟩, h2⟩ => by
    obtain ⟨a, b, c, d, hds⟩ := h1.form
    exact ⟨⟨a, b, c, d, by rw [he, hds]⟩, h2⟩
  obtain ⟨u, hu⟩ : ∃ u, (fieldV wExp v).getD V.zero = u := ⟨_, rfl⟩
  obtain ⟨s, hss⟩ : ∃ s, (fieldV wExp v).isSome = s := ⟨_, rfl⟩
  rw [hu, hss] at hc
  rw [hu] at hx ⊢
  obtain ⟨uk, un, ut, ul, us⟩ := u
  simp only [V.kind, V.num, V.text, V.list, V.keys] at hc hx ⊢
  obtain ⟨n1, hn1⟩ : ∃ n, ul.length = n := ⟨_, rfl⟩
  obtain ⟨m1, hm1⟩ : ∃ n, us.length = n := ⟨_, rfl⟩
  obtain ⟨T, hT⟩ : ∃ D : ByteArray, (⟨ut.toArray⟩ : ByteArray) = D := ⟨_, rfl⟩
  rw [hn1, hm1, hT] at hc
  have hst := stretch_any now un hm hx
  have hord := fl_order now un hm hx
  obtain ⟨f1, hf1⟩ : ∃ f, fl now = f := ⟨_, rfl⟩
  obtain ⟨f2, hf2⟩ : ∃ f, fl un = f := ⟨_, rfl⟩
  rw [hf1, hf2] at hst hord
  obtain ⟨a, b, t, A, n, c, A', n', c', rfl⟩ : ∃ a b t A n c A' n' c', cs = [.int .i64 a, .int .i64 b, .string t, .slice A n c, .slice A' n' c'] := ⟨_, _, _, _, _, _, _, _, _, hform⟩
  have HC : Hid (Calls Tryd.prog 25 #[.agg #[.int .i64 a, .int .i64 b, .string t, .slice A n c, .slice A' n' c'], .string ⟨#[101, 120, 112]⟩] (w.alloc (.cells #[.int .i64 a, .int .i64 b, .string t, .slice A n c, .slice A' n' c'] 28)) fun e w' => (∃ a b c d, e = .returned (.tuple #[.agg #[.int .i64 uk, .int .i64 un, .string T, .slice a n1 b, .slice c m1 d], .bool s])) ∧ Below (w.alloc (.cells #[.int .i64 a, .int .i64 b, .string t, .slice A n c, .slice A' n' c'] 28)).heap.size (w.alloc (.cells #[.int .i64 a, .int .i64 b, .string t, .slice A n c, .slice A' n' c'] 28)) w') := Lib.hid hc
  have HB1 := Lib.hid hb1; have HST := Lib.hid hst
  clear hc hb1 hst hform hv hN hu hss hn1 hm1 hd hs hT hx hm hf1 hf2
  go_enter Tryd.func27, Tryd.ntmps27
  go_wp2_with fail
  refine HC.out.mono ?_
  rintro e w2 ⟨⟨x1, x2, x3, x4, rfl⟩, hb2⟩
  have HB2 := Lib.hid (HB1.out.chain hb2); clear hb2
  dsimp only
  go_wp2_with fail
  refine (HST.out _).mono ?_
  rintro e _ ⟨rfl, rfl⟩
  dsimp only
  by_cases hk : uk = 3
  · have hk2 : (uk == 3) = true := by simp [hk]
    have HK := Lib.hid hk; clear hk
    go_wp2
    go_ret
    exact ⟨ret_bool (by by_cases h : now < un <;> simp [HK.out, h]), HB2.out.alloc HB2.out.size _⟩
  · have hk2 : (uk == 3) = false := by simp [hk]
    have HK := Lib.hid hk; clear hk
    go_wp2
    go_ret
    exact ⟨ret_bool (by simp [HK.out]), HB2.out.alloc HB2.out.size _⟩
end Go.Proofs.YtcbajbpdgmmaeaaDoor
namespace Go.Proofs.YtcbajbpdgmmaeaaDoor
open Go.RowKit
set_option linter.unusedVariables false
set_option linter.unusedSimpArgs false

theorem quotedC_len {s t r : List UInt8} (h : quotedC s = some (t, r)) : t.length ≤ s.length ∧ r.length < s.length := by
  have e := quotedC_only h
  have h1 := quoteJ_len t; have h2 := qL_ge t
  have h3 := congrArg List.length e
  rw [List.length_append] at h3
  constructor <;> omega
theorem groupC_obj (f : Nat) (s : List UInt8) (ks : List (List UInt8)) (l : List V) : groupC (f + 1) true s ks l = (match quotedC s with
    | none => none
    | some (t, r0) => if beginsB r0 [58] then (match valueC f (r0.drop 1) with
      | none => none
      | some (x, r) => if beginsB r [44] then groupC f true (r.drop 1) (ks ++ [t]) (l ++ [x]) else if beginsB r [125] then some (.mk 6 0 [] (l ++ [x]) (ks ++ [t]), r.drop 1) else none) else none) := by
  conv => lhs; unfold groupC
  simp only [if_true]
  cases quotedC s with
  | none => rfl
  | some y =>
    obtain ⟨t, r0⟩ := y
    dsimp only
    cases beginsB r0 [58] with
    | true => rfl
    | false => rfl
set_option maxRecDepth 100000 in
set_option maxHeartbeats 20000000 in
theorem groupObj (B m : Nat) (ih : ∀ f s, f ≤ m → s.length ≤ 4096 → 2 * s.length + 1 ≤ f → ValueSays B f s) (f : Nat) (s : List UInt8) (hf : f ≤ m + 1) (hs : s.length ≤ 4096) (hfs : 2 * s.length + 2 ≤ f) : GroupSays B f true s := by
  intro w hk hB
  show Calls Tryd.prog 42 #[.string ⟨s.toArray⟩, .int .i64 6, .string ⟨#[125]⟩] w _
  have hcp : ∀ w, Calls Tryd.prog 54 #[.string ⟨s.toArray⟩, .string ⟨#[125]⟩] w fun e w' => e = .returned (.tuple #[.string ⟨(if beginsB s [125] then s.drop 1 else s).toArray⟩, .bool (beginsB s [125])]) ∧ w' = w := fun w => cutPrefix_any s [125] w
  obtain ⟨GA, hGA⟩ : ∃ GA, groupA f true s = GA := ⟨_, rfl⟩
  rw [hGA]
  cases hb : beginsB s [125] with
  | true =>
    rw [hb] at hcp
    have e : GA = some (.mk 6 0 [] [] [], s.drop 1) := hGA.symm.trans (by unfold groupA; exact if_pos hb)
    subst e
    have HCP := Lib.hid hcp; clear hcp hGA hb ih hk
    go_enter Tryd.func42, Tryd.ntmps42
    go_wp2_with (go_at_call 54; refine (HCP.out _).mono ?_; rintro e1 w1 ⟨rfl, rfl⟩)
    refine bodyPost_ret (v := .tuple #[.agg #[.int .i64 6, .int .i64 0, .string ⟨#[]⟩, .slice none 0 0, .slice none 0 0], .string ⟨(s.drop 1).toArray⟩, .bool true]) (by simp [results, Tryd.results42, go_sem]) rfl ?_
    refine ⟨⟨_, _, _, _, _, _, _, _, _, _, _, rfl, rfl, rfl, ?_⟩, ((Below.refl _ _).alloc (Nat.le_refl _) _).alloc (by simp) _⟩
    exact VIs.mk (t := []) (l := []) (ks := []) ⟨by simp, by simp, by simp, by simp⟩ (.inl rfl) (.inl rfl)
  | false =>
    rw [hb] at hcp
    obtain ⟨i0, hi, hz0, hz1, hz2⟩ := info_parts Tryd.infoVal
    obtain ⟨j0, hj, hy0, hy1, hy2⟩ := info_parts Tryd.infoStrG
    have e : GA = groupC f true s [] [] := hGA.symm.trans (by unfold groupA; exact if_neg (by rw [if_pos rfl]; simp [hb]))
    have EG := Lib.hid e
    obtain ⟨R, hR⟩ : ∃ R, w.heap.size = R := ⟨_, rfl⟩
    obtain ⟨W2, hW2⟩ : ∃ W2, W2 = ((w.alloc (.cells #[.int .i64 0, .int .i64 0, .string ⟨#[]⟩, .slice none 0 0, .slice none 0 0] 28)).alloc (.cells #[.int .i64 6, .int .i64 0, .string ⟨#[]⟩, .slice none 0 0, .slice none 0 0] 28)) := ⟨_, rfl⟩
    have gst : GSt R 6 w W2 (.slice none 0 0) (.slice none 0 0) [] [] [] := by
      refine ⟨?_, ?_, ⟨rfl, .inl ⟨rfl, rfl⟩⟩, ⟨rfl, .inl ⟨rfl, rfl⟩⟩, fun i hi => absurd hi (Nat.not_lt_zero _), ?_, ?_⟩
      · rw [hW2, ← hR]
        have := heap_alloc_last (w.alloc (.cells #[.int .i64 0, .int .i64 0, .string ⟨#[]⟩, .slice none 0 0, .slice none 0 0] 28)) (.cells #[.int .i64 6, .int .i64 0, .string ⟨#[]⟩, .slice none 0 0, .slice none 0 0] 28)
        simpa using this
      · rw [hW2, ← hR, Below.heap_alloc _ _ _ (by simp)]; exact heap_alloc_last w _
      · rw [hW2, ← hR]; exact ((Below.refl _ _).alloc (Nat.le_refl _) _).alloc (by simp) _
      · rw [hW2, ← hR]; simp
    have HCP := Lib.hid hcp; have GST := Lib.hid gst; have HR := Lib.hid hR; have HW2 := Lib.hid hW2; have HK := Lib.hid hk; have IH := Lib.hid ih
    clear hcp hGA hb ih hk gst hR hW2 e
    go_enter Tryd.func42, Tryd.ntmps42
    go_wp2_with (go_at_call 54; refine (HCP.out _).mono ?_; rintro e1 w1 ⟨rfl, rfl⟩)
    rw [← HW2.out]
    go_loopw [0] (fun sv wr => ∃ (s1 : List UInt8) (l : List V) (lv : Value) (xs : List Value) (ks : List (List UInt8)) (kv : Value) (f1 : Nat), sv = .string ⟨s1.toArray⟩ ∧ s1.length + l.length ≤ 4096 ∧ ks.length = l.length ∧ (∀ z ∈ ks, z.length ≤ 4096) ∧ f1 ≤ f ∧ 2 * s1.length + 2 ≤ f1 ∧ groupC f1 true s1 ks l = GA ∧ GSt R 6 w wr lv kv l ks xs) (fun sv _ => strLen sv)
    case atStart => exact ⟨s, [], _, [], [], _, f, rfl, by simp; omega, rfl, by simp, Nat.le_refl _, hfs, EG.out.symm, GST.out⟩
    case round =>
      obtain ⟨s1, l, lv, xs, ks, kv, f1, rfl, hsl, hkl, hkz, hf1, hf2, hG, gst⟩ := hrel
      obtain ⟨f2, rfl⟩ : ∃ f2, f1 = f2 + 1 := ⟨f1 - 1, by omega⟩
      rw [groupC_obj] at hG
      have hR := HR.out
      have hsz := gst.size
      have hqn := fun w => quoted_any ⟨s1.toArray⟩ (by rw [str_sizeL]; omega) w
      simp only [toListS] at hqn
      have GS := Lib.hid gst; have HKZ := Lib.hid hkz; have HKL := Lib.hid hkl
      have hkm : ks.length ≤ 4096 := by omega
      clear hkl
      cases hq : quotedC s1 with
      | none =>
        rw [hq] at hG
        have hqr : quotedR s1 = ([], [], false) := by unfold quotedR; rw [hq]
        rw [hqr] at hqn
        have e : GA = none := hG.symm
        subst e
        have HQN := Lib.hid hqn; clear hqn hG hq hqr hR gst hkz
        go_wp2_with fail
        refine (HQN.out _).mono ?_
        rintro e2 w2 ⟨rfl, hb2⟩
        dsimp only
        have g2 := GS.out.later hb2
        obtain ⟨⟨e0, e1, e2, e3, e4⟩, f0, f1, f2', f3, f4⟩ := box_of g2.res
        have G2 := Lib.hid g2; clear g2
        rw [HR.out]
        go_wp2_with fail
        obtain ⟨wf, hwf⟩ : ∃ wf, wf = set5 (w2) R 0 (.int .i64 0) (.int .i64 0) (.string ⟨#[]⟩) (.slice none 0 0) (.slice none 0 0) := ⟨_, rfl⟩
        change bodyPost _ _ _ _ _ (set5 (w2) R 0 (.int .i64 0) (.int .i64 0) (.string ⟨#[]⟩) (.slice none 0 0) (.slice none 0 0))
        rw [← hwf]
        have hx : wf.heap[R]? = some (.cells #[.int .i64 0, .int .i64 0, .string ⟨#[]⟩, .slice none 0 0, .slice none 0 0] 28 (0, 0)) := by rw [hwf]; exact set5_here (G2.out).res
        have hbf : Below R w wf := by rw [hwf]; exact (G2.out).low.trans (set5_below (Nat.le_refl _))
        obtain ⟨⟨x0, x1, x2, x3, x4⟩, -⟩ := box_of hx
        have HBF := Lib.hid hbf
        clear hbf hwf hx e0 e1 e2 e3 e4 f0 f1 f2' f3 f4
        refine bodyPost_ret (v := .tuple #[.agg #[.int .i64 0, .int .i64 0, .string ⟨#[]⟩, .slice none 0 0, .slice none 0 0], .string ⟨#[]⟩, .bool false]) (by simp [results, Tryd.results42, go_sem, x0, x1, x2, x3, x4]) rfl ?_
        exact ⟨⟨_, _, _, _, _, _, _, _, _, [], _, rfl, rfl⟩, by rw [HR.out]; exact HBF.out⟩
      | some y =>
        obtain ⟨kt, r0⟩ := y
        rw [hq] at hG
        have hqr : quotedR s1 = (kt, r0, true) := by unfold quotedR; rw [hq]
        rw [hqr] at hqn
        obtain ⟨hkt, hr0⟩ := quotedC_len hq
        obtain ⟨S0, hS0⟩ : ∃ S0 : ByteArray, S0 = ⟨r0.toArray⟩ := ⟨_, rfl⟩
        have hS0l : S0.size = r0.length := by rw [hS0, str_sizeL]
        have hS0d : S0.data.toList = r0 := by rw [hS0, toListS]
        dsimp only at hqn
        rw [← hS0] at hqn
        have hhp := fun w => Tryd.strings_HasPrefix S0 ⟨#[58]⟩ w
        simp only [hasPrefix_begins] at hhp
        rw [hS0d] at hhp
        cases h58 : beginsB r0 [58] with
        | false =>
          rw [show beginsB r0 (⟨#[58]⟩ : ByteArray).data.toList = false from h58] at hhp
          dsimp only at hG
          rw [h58] at hG
          have e : GA = none := hG.symm
          subst e
          have HQN := Lib.hid hqn; have HHP := Lib.hid hhp; clear hqn hG hq hqr hR gst hkz hhp hS0 hS0d h58
          go_wp2_with fail
          refine (HQN.out _).mono ?_
          rintro e2 w2 ⟨rfl, hb2⟩
          dsimp only
          have g2 := GS.out.later hb2
          obtain ⟨⟨e0, e1, e2, e3, e4⟩, f0, f1, f2', f3, f4⟩ := box_of g2.res
          have G2 := Lib.hid g2; clear g2
          rw [HR.out]
          go_wp2_with (go_at_call 40; refine (HHP.out _).mono ?_; rintro e3 w3 ⟨rfl, rfl⟩)
          obtain ⟨wf, hwf⟩ : ∃ wf, wf = set5 (w3) R 0 (.int .i64 0) (.int .i64 0) (.string ⟨#[]⟩) (.slice none 0 0) (.slice none 0 0) := ⟨_, rfl⟩
          change bodyPost _ _ _ _ _ (set5 (w3) R 0 (.int .i64 0) (.int .i64 0) (.string ⟨#[]⟩) (.slice none 0 0) (.slice none 0 0))
          rw [← hwf]
          have hx : wf.heap[R]? = some (.cells #[.int .i64 0, .int .i64 0, .string ⟨#[]⟩, .slice none 0 0, .slice none 0 0] 28 (0, 0)) := by rw [hwf]; exact set5_here (G2.out).res
          have hbf : Below R w wf := by rw [hwf]; exact (G2.out).low.trans (set5_below (Nat.le_refl _))
          obtain ⟨⟨x0, x1, x2, x3, x4⟩, -⟩ := box_of hx
          have HBF := Lib.hid hbf
          clear hbf hwf hx e0 e1 e2 e3 e4 f0 f1 f2' f3 f4
          refine bodyPost_ret (v := .tuple #[.agg #[.int .i64 0, .int .i64 0, .string ⟨#[]⟩, .slice none 0 0, .slice none 0 0], .string ⟨#[]⟩, .bool false]) (by simp [results, Tryd.results42, go_sem, x0, x1, x2, x3, x4]) rfl ?_
          exact ⟨⟨_, _, _, _, _, _, _, _, _, [], _, rfl, rfl⟩, by rw [HR.out]; exact HBF.out⟩
        | true =>
          rw [show beginsB r0 (⟨#[58]⟩ : ByteArray).data.toList = true from h58] at hhp
          dsimp only at hG
          rw [h58, if_pos rfl] at hG
          have hr1 : 1 ≤ r0.length := by
            have := congrArg List.length (begins_one h58)
            simp at this; omega
          have hr1' : 1 ≤ S0.size := by omega
          have hex : S0.extract 1 S0.size = ⟨(r0.drop 1).toArray⟩ := by rw [extS, hS0d]
          have hdl : (r0.drop 1).length = r0.length - 1 := by rw [List.length_drop]
          obtain ⟨r1, hr1e⟩ : ∃ r1, r0.drop 1 = r1 := ⟨_, rfl⟩
          rw [hr1e] at hex hG hdl
          have hlow := gst.low
          have hvs := IH.out f2 r1 (by omega) (by omega) (by omega)
          have HQN := Lib.hid hqn; have HHP := Lib.hid hhp; have HEX := Lib.hid hex; have HG0 := Lib.hid hG; have HVS := Lib.hid hvs
          clear hqn hG hq hqr hR gst hkz hhp hS0 hS0d h58 hex hr1e hvs hlow hS0l
          go_wp2_with fail
          refine (HQN.out _).mono ?_
          rintro e2 w2 ⟨rfl, hb2⟩
          dsimp only
          obtain ⟨IT, hIT⟩ : ∃ IT, IT = Obj.cells #[.string ⟨kt.toArray⟩] 9 := ⟨_, rfl⟩
          have g3 := GS.out.later hb2
          have g4 := GS.out.later (hb2.alloc hb2.size IT)
          have hzw := hb2.size
          rw [hIT] at g4
          obtain ⟨⟨e0, e1, e2, e3, e4⟩, f0, f1, f2', f3, f4⟩ := box_of g3.var
          have G4 := Lib.hid g4; have HB2 := Lib.hid hb2
          clear g3 g4 hb2 hIT
          rw [HR.out]
          go_wp2_with (first
            | (go_at_call 40; refine (HHP.out _).mono ?_; rintro e3 w3 ⟨rfl, rfl⟩)
            | (at_builtin; go_loud (refine wpList_append_own_at _ rfl (.tmp 46) (.tmp 48) 26 rfl (R + 2) 9 j0 _ 1 16 Tryd.underlying26 hj hy0 hy1 hy2 rfl (by decide) _ _ _ rfl G4.out.rowK ⟨_, 0, none⟩ 1 1 [.string ⟨kt.toArray⟩] rfl rfl (new_cells _ #[_] _) (by intro u hu; simp at hu; subst hu; rfl) (by unfold maxLen; omega) (by omega) (by simp; omega) ?_; intro v5 w5 hown hgrow hnil hat; obtain ⟨KA, kc, rfl⟩ := own_form hown; obtain ⟨⟨p0, p1, p2, p3, p4⟩, q0, q1, q2, q3, q4⟩ := box_of (G4.out.varK hgrow))))
          have g6 := G4.out.key kt hown hgrow hat
          obtain ⟨w6, hw6⟩ : ∃ w6, w6 = w5.setCell ⟨R + 1, 4, none⟩ (.slice KA (ks.length + 1) kc) := ⟨_, rfl⟩
          rw [← hw6] at g6 ⊢
          clear hw6 e0 e1 e2 e3 e4 f0 f1 f2' f3 f4 p0 p1 p2 p3 p4 q0 q1 q2 q3 q4 hown hgrow hnil hat hzw
          rw [HEX.out]
          have hR := HR.out
          have hval := HVS.out w6 (HK.out.below (g6.low.mono (by omega))) (by have := g6.size; omega)
          have hsz6 := g6.size
          have hG := HG0.out
          have GS6 := Lib.hid g6
          clear g6 hR HVS HG0 HQN HHP HEX
          have hkz6 : Hid (∀ z ∈ ks ++ [kt], z.length ≤ 4096) := Lib.hid (fun z hz => by
            rcases List.mem_append.1 hz with h | h
            · exact HKZ.out z h
            · simp at h; subst h; omega)
          cases hv : valueC f2 r1 with
          | none =>
            rw [hv] at hG hval
            have e : GA = none := hG.symm
            subst e
            have HV := Lib.hid hval; clear hG hval hv
            refine (HV.out).mono ?_
            rintro e2 w2 ⟨⟨k, n, t, A, a, b, A', a', b', rest, ok, rfl, hok⟩, hb2⟩
            subst hok
            dsimp only
            have hb3 := hb2.alloc hb2.size (.cells #[.int .i64 k, .int .i64 n, .string t, .slice A a b, .slice A' a' b'] 28)
            have g2 := GS6.out.later hb3
            obtain ⟨⟨e0, e1, e2, e3, e4⟩, f0, f1, f2', f3, f4⟩ := box_of g2.res
            have G2 := Lib.hid g2; clear g2 hb3
            go_wp2_with fail
            have g2 := G2.out
            obtain ⟨wf, hwf⟩ : ∃ wf, wf = set5 (w2.alloc (.cells #[.int .i64 k, .int .i64 n, .string t, .slice A a b, .slice A' a' b'] 28)) R 0 (.int .i64 0) (.int .i64 0) (.string ⟨#[]⟩) (.slice none 0 0) (.slice none 0 0) := ⟨_, rfl⟩
            change bodyPost _ _ _ _ _ (set5 (w2.alloc (.cells #[.int .i64 k, .int .i64 n, .string t, .slice A a b, .slice A' a' b'] 28)) R 0 (.int .i64 0) (.int .i64 0) (.string ⟨#[]⟩) (.slice none 0 0) (.slice none 0 0))
            rw [← hwf]
            have hx : wf.heap[R]? = some (.cells #[.int .i64 0, .int .i64 0, .string ⟨#[]⟩, .slice none 0 0, .slice none 0 0] 28 (0, 0)) := by rw [hwf]; exact set5_here g2.res
            have hbf : Below R w wf := by rw [hwf]; exact g2.low.trans (set5_below (Nat.le_refl _))
            obtain ⟨⟨x0, x1, x2, x3, x4⟩, -⟩ := box_of hx
            have HBF := Lib.hid hbf
            clear hbf hwf hx e0 e1 e2 e3 e4 f0 f1 f2' f3 f4 g2
            refine bodyPost_ret (v := .tuple #[.agg #[.int .i64 0, .int .i64 0, .string ⟨#[]⟩, .slice none 0 0, .slice none 0 0], .string ⟨#[]⟩, .bool false]) (by simp [results, Tryd.results42, go_sem, x0, x1, x2, x3, x4]) rfl ?_
            exact ⟨⟨_, _, _, _, _, _, _, _, _, [], _, rfl, rfl⟩, by rw [HR.out]; exact HBF.out⟩
          | some y =>
            obtain ⟨x, r⟩ := y
            have hlen := valueC_len hv
            rw [hv] at hval
            have hG2 : (if beginsB r [44] then groupC f2 true (r.drop 1) (ks ++ [kt]) (l ++ [x]) else if beginsB r [125] then some (.mk 6 0 [] (l ++ [x]) (ks ++ [kt]), r.drop 1) else none) = GA := by rw [hv] at hG; exact hG
            have hc44 : ∀ w, Calls Tryd.prog 54 #[.string ⟨r.toArray⟩, .string ⟨#[44]⟩] w fun e w' => e = .returned (.tuple #[.string ⟨(if beginsB r [44] then r.drop 1 else r).toArray⟩, .bool (beginsB r [44])]) ∧ w' = w := fun w => cutPrefix_any r [44] w
            have hc93 : ∀ w, Calls Tryd.prog 54 #[.string ⟨r.toArray⟩, .string ⟨#[125]⟩] w fun e w' => e = .returned (.tuple #[.string ⟨(if beginsB r [125] then r.drop 1 else r).toArray⟩, .bool (beginsB r [125])]) ∧ w' = w := fun w => cutPrefix_any r [125] w
            obtain ⟨z44, hz44⟩ : ∃ z, beginsB r [44] = z := ⟨_, rfl⟩
            rw [hz44] at hc44 hG2
            have HG := Lib.hid hG2; have HC44 := Lib.hid hc44; have HC93 := Lib.hid hc93; have HV := Lib.hid hval; have HLEN := Lib.hid hlen; have HZ44 := Lib.hid hz44
            clear hG2 hc44 hc93 hval hG hlen hv hz44
            refine (HV.out).mono ?_
            rintro e2 w2 ⟨⟨k, n, t, A, a, b, A', a', b', rest, ok, rfl, hok, hrest, hx⟩, hb2⟩
            subst hok; subst hrest
            dsimp only
            obtain ⟨IT, hIT⟩ : ∃ IT, IT = Obj.cells #[.int .i64 k, .int .i64 n, .string t, .slice A a b, .slice A' a' b'] 28 := ⟨_, rfl⟩
            have hb3 := hb2.alloc hb2.size IT
            have g3 := GS6.out.later hb3
            have g4 := GS6.out.later (hb3.alloc hb3.size IT)
            have hx4 := hx.below (((Below.refl w2.heap.size w2).alloc (Nat.le_refl _) IT).alloc (by simp) IT)
            have hzw := hb2.size
            rw [hIT] at g3 g4 hx4 hb3
            obtain ⟨⟨e0, e1, e2, e3, e4⟩, f0, f1, f2', f3, f4⟩ := box_of g3.var
            obtain ⟨-, y0, y1, y2, y3, y4⟩ := box_of g4.var
            have G4 := Lib.hid g4; have HX4 := Lib.hid hx4; have HB3 := Lib.hid hb3
            clear g3 g4 hx4 hb3 hx hIT
            go_wp2_with (at_builtin; go_loud (refine wpList_append_own_at _ rfl (.tmp 63) (.tmp 65) 25 rfl (R + 2) 28 i0 _ 5 80 Tryd.underlying25 hi hz0 hz1 hz2 rfl (by decide) _ _ _ rfl G4.out.rowL ⟨_, 0, none⟩ 1 1 [.int .i64 k, .int .i64 n, .string t, .slice A a b, .slice A' a' b'] rfl rfl (new_cells1 _ _ #[_, _, _, _, _] _) (by intro u hu; simp at hu; rcases hu with rfl | rfl | rfl | rfl | rfl <;> rfl) (by unfold maxLen; omega) (by omega) (by simp; omega) ?_; intro v5 w5 hown hgrow hnil hat; obtain ⟨A5, c5, rfl⟩ := own_form hown; obtain ⟨⟨p0, p1, p2, p3, p4⟩, q0, q1, q2, q3, q4⟩ := box_of (G4.out.varL hgrow)))
            have g6 := G4.out.item x HX4.out hsz6 (by simp; omega) (fun g hg => by
              have h1 := GS6.out.rowL.lt g; have h2 := GS6.out.rowK.lt g
              rcases hg with hg | hg
              · have := (h1 hg).2; omega
              · have := (h2 hg).2; omega) hown hgrow hat
            obtain ⟨w6, hw6⟩ : ∃ w6, w6 = w5.setCell ⟨R + 1, 3, none⟩ (.slice A5 (l.length + 1) c5) := ⟨_, rfl⟩
            rw [← hw6] at g6 ⊢
            have G6 := Lib.hid g6
            clear g6 hw6 e0 e1 e2 e3 e4 f0 f1 f2' f3 f4 y0 y1 y2 y3 y4 p0 p1 p2 p3 p4 q0 q1 q2 q3 q4 hown hgrow hnil hat
            cases z44 with
            | true =>
              refine (HC44.out _).mono ?_
              rintro e7 w7 ⟨rfl, rfl⟩
              dsimp only
              go_wp2_with fail
              have hl7 := HLEN.out
              have hkl7 := HKL.out
              refine ⟨⟨_, ⟨rest.tail, rfl, l ++ [x], by simp; omega, _, _, ks ++ [kt], by simp; omega, hkz6.out, _, f2, by omega, by simp; omega, ?_, G6.out⟩, rfl, HR.out.symm⟩, ?_⟩
              · have h := HG.out
                rw [if_pos trivial, List.drop_one] at h
                exact h
              · show ByteArray.size ⟨rest.tail.toArray⟩ < ByteArray.size ⟨s1.toArray⟩
                rw [str_sizeL, str_sizeL, List.length_tail]; omega
            | false =>
              obtain ⟨z125, hz125⟩ : ∃ z, beginsB rest [125] = z := ⟨_, rfl⟩
              have hc93 := HC93.out
              rw [hz125] at hc93
              have HZ93 := Lib.hid hz125; have HC93' := Lib.hid hc93
              clear hz125 hc93 HC93
              obtain ⟨⟨e0, e1, e2, e3, e4⟩, f0, f1, f2', f3, f4⟩ := box_of G6.out.var
              obtain ⟨⟨p0, p1, p2, p3, p4⟩, q0, q1, q2, q3, q4⟩ := box_of G6.out.res
              obtain ⟨rs, hrs⟩ : ∃ rs, (if z125 = true then rest.drop 1 else rest) = rs := ⟨_, rfl⟩
              rw [hrs] at HC93'
              have HRS := Lib.hid hrs
              clear hrs
              cases z125
              all_goals
                refine (HC44.out _).mono ?_
                rintro e7 w7 ⟨rfl, rfl⟩
                dsimp only
                go_wp2_with (go_at_call 54; refine (HC93'.out _).mono ?_; rintro e8 w8 ⟨rfl, rfl⟩)
                obtain ⟨wf, hwf⟩ : ∃ wf, wf = set5 w8 R 0 (.int .i64 6) (.int .i64 0) (.string ⟨#[]⟩) (.slice A5 (l.length + 1) c5) (.slice KA (ks.length + 1) kc) := ⟨_, rfl⟩
                change bodyPost _ _ _ _ _ (set5 w8 R 0 (.int .i64 6) (.int .i64 0) (.string ⟨#[]⟩) (.slice A5 (l.length + 1) c5) (.slice KA (ks.length + 1) kc))
                rw [← hwf]
                have hx : wf.heap[R]? = some (.cells #[.int .i64 6, .int .i64 0, .string ⟨#[]⟩, .slice A5 (l.length + 1) c5, .slice KA (ks.length + 1) kc] 28 (0, 0)) := by rw [hwf]; exact set5_here G6.out.res
                have hbf : Below R w wf := by rw [hwf]; exact G6.out.low.trans (set5_below (Nat.le_refl _))
                have hvf : VIs wf R wf.heap.size (.mk 6 0 [] (l ++ [x]) (ks ++ [kt])) [.int .i64 6, .int .i64 0, .string ⟨#[]⟩, .slice A5 (l.length + 1) c5, .slice KA (ks.length + 1) kc] :=
                  G6.out.done (by simp; omega) (by simp; omega) (fun z hz => by have := hkz6.out z hz; omega) (fun b hb => by rw [hwf]; exact set5_there hb) (by rw [hwf, set5_size])
                obtain ⟨⟨x0, x1, x2, x3, x4⟩, -⟩ := box_of hx
                have HBF := Lib.hid hbf; have HVF := Lib.hid hvf
                clear hbf hvf hwf hx e0 e1 e2 e3 e4 f0 f1 f2' f3 f4 p0 p1 p2 p3 p4 q0 q1 q2 q3 q4
              · have e : GA = none := HG.out.symm.trans (by simp [HZ93.out])
                subst e
                refine bodyPost_ret (v := .tuple #[.agg #[.int .i64 6, .int .i64 0, .string ⟨#[]⟩, .slice A5 (l.length + 1) c5, .slice KA (ks.length + 1) kc], .string ⟨rs.toArray⟩, .bool false]) (by simp [results, Tryd.results42, go_sem, x0, x1, x2, x3, x4]) rfl ?_
                exact ⟨⟨_, _, _, _, _, _, _, _, _, _, _, rfl, rfl⟩, by rw [HR.out]; exact HBF.out⟩
              · have e : GA = some (.mk 6 0 [] (l ++ [x]) (ks ++ [kt]), rs) := HG.out.symm.trans (by rw [← HRS.out]; simp [HZ93.out])
                subst e
                refine bodyPost_ret (v := .tuple #[.agg #[.int .i64 6, .int .i64 0, .string ⟨#[]⟩, .slice A5 (l.length + 1) c5, .slice KA (ks.length + 1) kc], .string ⟨rs.toArray⟩, .bool true]) (by simp [results, Tryd.results42, go_sem, x0, x1, x2, x3, x4]) rfl ?_
                exact ⟨⟨_, _, _, _, _, _, _, _, _, _, _, rfl, rfl, rfl, by rw [HR.out]; exact HVF.out⟩, by rw [HR.out]; exact HBF.out⟩
end Go.Proofs.YtcbajbpdgmmaeaaDoor
