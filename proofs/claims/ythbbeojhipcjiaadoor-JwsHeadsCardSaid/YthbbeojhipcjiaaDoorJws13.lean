/- Texts merged by program, in build order: RefB64, JwsSign, Equal, Decode, JwsSplit, JwsVerify. -/
import Derived.Test.YthbbeojhipcjiaaDoorJws11
import Derived.Test.YthbbeojhipcjiaaDoorJws06
import Derived.Test.YthbbeojhipcjiaaDoorJws12
import Derived.Test.YthbbeojhipcjiaaDoorJws08
import Derived.Lib.Split
import Derived.Lib.IndexBytes
namespace Go.Proofs.YthbbeojhipcjiaaDoor
open Go.RowKit

def ltrI (n : Int) : Int := ((ltr n.toNat).toNat : Int)
theorem ltrI_of {n : Int} {m : Nat} (h : n = m) : ltrI n = ((ltr m).toNat : Int) := by subst h; rfl
theorem sixtyI_any (n : Int) (h0 : 0 ≤ n) (h1 : n < 64) (w : World) :
    Calls Tryd.prog 36 #[.int .i64 n] w fun e w' => e = .returned (.int .u8 (ltrI n)) ∧ w = w' := sixty_any n h0 h1 w
def RefAt (l : List UInt8) (k : Nat) (acc : List UInt8) : Prop := enc l = acc ++ enc (l.drop k)

theorem refAt_end {l acc : List UInt8} {k : Nat} (h : RefAt l k acc) (hk : l.length ≤ k) : acc = enc l := by
  unfold RefAt at h; rw [h, List.drop_eq_nil_of_le hk]; simp [enc]
theorem refAt_3 {l acc : List UInt8} {k : Nat} (h : RefAt l k acc) (hk : k + 2 < l.length) : RefAt l (k + 3) (acc ++ chunk (l[k].toNat * 65536 + l[k + 1].toNat * 256 + l[k + 2].toNat)) := by
  unfold RefAt at h ⊢
  rw [h, List.drop_eq_getElem_cons (show k < l.length by omega), List.drop_eq_getElem_cons (show k + 1 < l.length by omega), List.drop_eq_getElem_cons (show k + 2 < l.length by omega), enc, List.append_assoc]
theorem refAt_2 {l acc : List UInt8} {k : Nat} (h : RefAt l k acc) (hk : k + 2 = l.length) : RefAt l (k + 3) (acc ++ (chunk (l[k].toNat * 65536 + l[k + 1].toNat * 256)).take 3) := by
  unfold RefAt at h ⊢
  rw [h, List.drop_eq_getElem_cons (show k < l.length by omega), List.drop_eq_getElem_cons (show k + 1 < l.length by omega), List.drop_eq_nil_of_le (show l.length ≤ k + 1 + 1 by omega), List.drop_eq_nil_of_le (show l.length ≤ k + 3 by omega)]
  simp [enc]
theorem refAt_1 {l acc : List UInt8} {k : Nat} (h : RefAt l k acc) (hk : k + 1 = l.length) : RefAt l (k + 3) (acc ++ (chunk (l[k].toNat * 65536)).take 2) := by
  unfold RefAt at h ⊢
  rw [h, List.drop_eq_getElem_cons (show k < l.length by omega), List.drop_eq_nil_of_le (show l.length ≤ k + 1 by omega), List.drop_eq_nil_of_le (show l.length ≤ k + 3 by omega)]
  simp [enc]

theorem four_ltr (l : List UInt8) (V : Nat) (v : Int) (h : v = V) : cells l ++ [Value.int .u8 (ltrI (v / 262144)), .int .u8 (ltrI (v / 4096 % 64)), .int .u8 (ltrI (v / 64 % 64)), .int .u8 (ltrI (v % 64))] = cells (l ++ chunk V) := by
  subst h
  rw [cells_app, ltrI_of (m := V / 262144) (by omega), ltrI_of (m := V / 4096 % 64) (by omega), ltrI_of (m := V / 64 % 64) (by omega), ltrI_of (m := V % 64) (by omega)]; rfl
theorem three_ltr (l : List UInt8) (V : Nat) (v : Int) (h : v = V) : cells l ++ [Value.int .u8 (ltrI (v / 262144)), .int .u8 (ltrI (v / 4096 % 64)), .int .u8 (ltrI (v / 64 % 64))] = cells (l ++ (chunk V).take 3) := by
  subst h
  rw [cells_app, ltrI_of (m := V / 262144) (by omega), ltrI_of (m := V / 4096 % 64) (by omega), ltrI_of (m := V / 64 % 64) (by omega)]; rfl
theorem two_ltr (l : List UInt8) (V : Nat) (v : Int) (h : v = V) : cells l ++ [Value.int .u8 (ltrI (v / 262144)), .int .u8 (ltrI (v / 4096 % 64))] = cells (l ++ (chunk V).take 2) := by
  subst h
  rw [cells_app, ltrI_of (m := V / 262144) (by omega), ltrI_of (m := V / 4096 % 64) (by omega)]; rfl

set_option maxHeartbeats 1000000 in
set_option maxRecDepth 100000 in
theorem refB64_any (s : ByteArray) (hs : s.size ≤ 46912496117759) (w : World) :
    Calls Tryd.prog 16 #[.string s] w fun e w' => e = .returned (.string ⟨(enc s.data.toList).toArray⟩) ∧ Below w.heap.size w w' := by
  obtain ⟨i0, hi, hz0, hz1, hz2⟩ := info_parts Tryd.infoByte
  go_enter Tryd.func16, Tryd.ntmps16
  go_wp2
  go_loopw [3, 4] (fun v i wr => ∃ (k : Nat) (acc : List UInt8), k ≤ s.size + 2 ∧ i = .int .i64 k ∧ Buf wr w.heap.size v acc ∧ acc.length ≤ 2 * k ∧ RefAt s.data.toList k acc ∧ Below w.heap.size w wr) (fun _ i _ => s.size - (intOf i).toNat)
  case atStart => exact ⟨0, [], Nat.zero_le _, rfl, World.ownsRow_nil _ _ _ _, Nat.zero_le _, rfl, Below.refl _ _⟩
  case round =>
    obtain ⟨k, acc, hk, rfl, hown, hal, hat, hb⟩ := hrel
    have HA := Lib.hid hat; clear hat
    have hbs := hb.size
    by_cases hlt : k < s.size
    · by_cases h3 : k + 2 < s.size
      · have ha := s[k].toNat_lt
        have hb' := s[k + 1].toNat_lt
        have hc := s[k + 2].toNat_lt
        go_wp2
        refine wp_loop_rounds 4 ?_
        rw [rounds_succ]
        go_wp2
        rw [rounds_succ]
        go_wp2
        rw [rounds_succ]
        go_wp2
        rw [rounds_succ]
        go_wp2_with (first
          | (go_at_call 36; refine (sixtyI_any _ (by omega) (by omega) _).mono ?_; rintro e w' ⟨rfl, rfl⟩)
          | (at_builtin; refine wpList_append_own _ rfl (.tmp 52) (.tmp 56) 67 rfl w.heap.size 5 i0 _ 1 1 Tryd.underlying67 hi hz0 hz1 hz2 rfl (by decide) _ _ _ rfl (World.ownsRow.alloc hown _) ⟨_, 0, none⟩ 4 4 [.int .u8 _, .int .u8 _, .int .u8 _, .int .u8 _] rfl rfl (new_cells_take _ #[_, _, _, _] _ 4) (four_cells _ _ _ _) (by unfold maxLen; omega) (by omega) (by simp; omega) ?_))
        intro v' w1 hown' hg' _
        have hb1 : Below w.heap.size w w1 := (hb.alloc hbs _).grown hg' (by simp; omega) (fun j hj => (hown.lt j hj).1)
        go_wp2
        go_roundw
        case rel => exact ⟨k + 3, _, by omega, by go_num, Buf.cut hown' (by simp [chunk]) (four_ltr _ (s[k].toNat * 65536 + s[k + 1].toNat * 256 + s[k + 2].toNat) _ (by omega)), by simp [chunk]; omega, refAt_3 HA.out h3, hb1⟩
        case measure => simp [intOf]; omega
      · by_cases h2 : k + 1 < s.size
        · have ha := s[k].toNat_lt
          have hb' := s[k + 1].toNat_lt
          go_wp2
          refine wp_loop_rounds 4 ?_
          rw [rounds_succ]
          go_wp2
          rw [rounds_succ]
          go_wp2
          rw [rounds_succ]
          go_wp2
          rw [rounds_succ]
          go_wp2_with (first
            | (go_at_call 36; refine (sixtyI_any _ (by omega) (by omega) _).mono ?_; rintro e w' ⟨rfl, rfl⟩)
            | (at_builtin; refine wpList_append_own _ rfl (.tmp 52) (.tmp 56) 67 rfl w.heap.size 5 i0 _ 1 1 Tryd.underlying67 hi hz0 hz1 hz2 rfl (by decide) _ _ _ rfl (World.ownsRow.alloc hown _) ⟨_, 0, none⟩ 3 4 [.int .u8 _, .int .u8 _, .int .u8 _] rfl rfl (new_cells_take _ #[_, _, _, _] _ 3) (three_cells _ _ _) (by unfold maxLen; omega) (by omega) (by simp; omega) ?_))
          intro v' w1 hown' hg' _
          have hb1 : Below w.heap.size w w1 := (hb.alloc hbs _).grown hg' (by simp; omega) (fun j hj => (hown.lt j hj).1)
          go_wp2
          go_roundw
          case rel => exact ⟨k + 3, _, by omega, by go_num, Buf.cut hown' (by simp [chunk]) (three_ltr _ (s[k].toNat * 65536 + s[k + 1].toNat * 256) _ (by omega)), by simp [chunk]; omega, refAt_2 HA.out (by show _ = s.size; omega), hb1⟩
          case measure => simp [intOf]; omega
        · have ha := s[k].toNat_lt
          go_wp2
          refine wp_loop_rounds 4 ?_
          rw [rounds_succ]
          go_wp2
          rw [rounds_succ]
          go_wp2
          rw [rounds_succ]
          go_wp2
          rw [rounds_succ]
          go_wp2_with (first
            | (go_at_call 36; refine (sixtyI_any _ (by omega) (by omega) _).mono ?_; rintro e w' ⟨rfl, rfl⟩)
            | (at_builtin; refine wpList_append_own _ rfl (.tmp 52) (.tmp 56) 67 rfl w.heap.size 5 i0 _ 1 1 Tryd.underlying67 hi hz0 hz1 hz2 rfl (by decide) _ _ _ rfl (World.ownsRow.alloc hown _) ⟨_, 0, none⟩ 2 4 [.int .u8 _, .int .u8 _] rfl rfl (new_cells_take _ #[_, _, _, _] _ 2) (two_cells _ _) (by unfold maxLen; omega) (by omega) (by simp; omega) ?_))
          intro v' w1 hown' hg' _
          have hb1 : Below w.heap.size w w1 := (hb.alloc hbs _).grown hg' (by simp; omega) (fun j hj => (hown.lt j hj).1)
          go_wp2
          go_roundw
          case rel => exact ⟨k + 3, _, by omega, by go_num, Buf.cut hown' (by simp [chunk]) (two_ltr _ (s[k].toNat * 65536) _ (by omega)), by simp [chunk]; omega, refAt_1 HA.out (by show _ = s.size; omega), hb1⟩
          case measure => simp [intOf]; omega
    · have hcv := hown.text
      go_wp2
      go_ret
      exact ⟨ret_str (refAt_end HA.out (by show s.size ≤ k; omega)), hb⟩
end Go.Proofs.YthbbeojhipcjiaaDoor
namespace Go.Proofs.YthbbeojhipcjiaaDoor
open Go.RowKit
set_option linter.unusedVariables false
set_option linter.unusedSimpArgs false

theorem bytes_list (l : List UInt8) : (⟨l.toArray⟩ : ByteArray).data.toList = l := by simp
theorem bytes_size (l : List UInt8) : (⟨l.toArray⟩ : ByteArray).size = l.length := by show l.toArray.size = _; simp
theorem bytes_app (a b : List UInt8) : (⟨a.toArray⟩ : ByteArray) ++ ⟨b.toArray⟩ = ⟨(a ++ b).toArray⟩ := by apply ByteArray.ext; simp
theorem frontT_le {id p : List UInt8} (hid : id.length ≤ 1000) (hp : p.length ≤ 10000) : (frontT id p).length ≤ 30000 := by
  have h1 := headT_le id
  have h2 := enc_len (headT id)
  have h3 := enc_len p
  unfold frontT
  simp only [List.length_append, List.length_singleton]
  omega
set_option maxRecDepth 100000 in
theorem refHead_any (id : List UInt8) (hid : id.length ≤ 1000000) (w : World) : Calls Tryd.prog 28 #[.string ⟨id.toArray⟩] w fun e w' => e = .returned (.string ⟨(headT id).toArray⟩) ∧ Below w.heap.size w w' := by
  have hq := refQuoteJ_any ⟨id.toArray⟩ (by rw [bytes_size]; omega) w
  rw [bytes_list] at hq
  have hql : (quoteJ id).length ≤ 6 * id.length + 2 := by have := quoteT_le id; simp [quoteJ]; omega
  obtain ⟨Q, hQ⟩ : ∃ Q : ByteArray, (⟨(quoteJ id).toArray⟩ : ByteArray) = Q := ⟨_, rfl⟩
  have zQ : Q.size ≤ 6000002 := by rw [← hQ, bytes_size]; omega
  rw [hQ] at hq
  have n1 : ∀ W, (Op.stringOp .add ⟨#[123, 34, 97, 108, 103, 34, 58, 34, 72, 83, 50, 53, 54, 34, 44, 34, 107, 105, 100, 34, 58]⟩ Q).run Tryd.prog W = .ok (.string (⟨#[123, 34, 97, 108, 103, 34, 58, 34, 72, 83, 50, 53, 54, 34, 44, 34, 107, 105, 100, 34, 58]⟩ ++ Q)) W := fun W => run_string_add_sum W _ _ (by show 21 + Q.size ≤ _; omega)
  have n2 : ∀ W, (Op.stringOp .add (⟨#[123, 34, 97, 108, 103, 34, 58, 34, 72, 83, 50, 53, 54, 34, 44, 34, 107, 105, 100, 34, 58]⟩ ++ Q) ⟨#[125]⟩).run Tryd.prog W = .ok (.string ⟨(headT id).toArray⟩) W := fun W => by
    rw [run_string_add_sum W _ _ (by rw [ByteArray.size_append]; show 21 + Q.size + 1 ≤ _; omega), ← hQ]
    congr 2

  obtain ⟨H, hH⟩ : ∃ H, headT id = H := ⟨_, rfl⟩
  rw [hH] at n2 ⊢
  have HQ := Lib.hid hq
  clear hq hql hQ zQ hH
  go_enter Tryd.func28, Tryd.ntmps28
  go_wp2_with fail
  refine (HQ.out).mono ?_
  rintro e1 w1 ⟨rfl, hb1⟩
  have HB := Lib.hid hb1; clear hb1
  dsimp only
  go_wp2
  go_ret
  exact ⟨rfl, HB.out⟩

set_option maxRecDepth 100000 in
set_option maxHeartbeats 2000000 in
theorem sign_any (id sec p : List UInt8) (hid : id.length ≤ 1000) (hsec : sec.length ≤ 1000) (hp : p.length ≤ 10000) (w : World) (hj : JwsIn w) :
    Calls Tryd.prog 12 #[.agg #[.string ⟨id.toArray⟩, .string ⟨sec.toArray⟩], .string ⟨p.toArray⟩] w fun e w' => e = .returned (.string ⟨(signT id sec p).toArray⟩) ∧ Below w.heap.size w w' := by
  obtain ⟨R, hR⟩ : ∃ R, w.heap.size = R := ⟨_, rfl⟩
  have hfl := frontT_le hid hp
  have hh := fun W (hj : JwsIn W) => head_any id sec (by omega) W hj
  have he := fun W => encode_any ⟨(headT id).toArray⟩ (by rw [bytes_size]; have := headT_le id; omega) W
  have hq := fun W => encode_any ⟨p.toArray⟩ (by rw [bytes_size]; omega) W
  have hm := fun W (hr : RoundsIn W) => mac_any ⟨sec.toArray⟩ ⟨(frontT id p).toArray⟩ (by rw [bytes_size]; omega) (by rw [bytes_size]; omega) W hr
  have hn := fun W => encode_any ⟨(macL sec (frontT id p)).toArray⟩ (by rw [bytes_size, macL_len]; omega) W
  simp only [bytes_list] at he hq hm hn
  have e1 : (⟨(frontT id p).toArray⟩ : ByteArray) = ⟨(enc (headT id)).toArray⟩ ++ ⟨#[46]⟩ ++ ⟨(enc p).toArray⟩ := by apply ByteArray.ext; simp [frontT]
  have e2 : (⟨(signT id sec p).toArray⟩ : ByteArray) = ⟨(frontT id p).toArray⟩ ++ ⟨#[46]⟩ ++ ⟨(enc (macL sec (frontT id p))).toArray⟩ := by
    obtain ⟨M, hM⟩ : ∃ M, macL sec (frontT id p) = M := ⟨_, rfl⟩
    have : signT id sec p = frontT id p ++ [46] ++ enc M := by rw [← hM, signT]
    rw [this, hM]
    apply ByteArray.ext; simp
  have l1 : (enc (headT id)).length ≤ 20000 := by have := enc_len (headT id); have := headT_le id; omega
  have l2 : (enc p).length ≤ 20000 := by have := enc_len p; omega
  have l3 : (enc (macL sec (frontT id p))).length ≤ 100 := by have := enc_len (macL sec (frontT id p)); rw [macL_len] at this; omega
  rw [e2]
  obtain ⟨H, hH⟩ : ∃ H : ByteArray, (⟨(headT id).toArray⟩ : ByteArray) = H := ⟨_, rfl⟩
  obtain ⟨E, hE⟩ : ∃ E : ByteArray, (⟨(enc (headT id)).toArray⟩ : ByteArray) = E := ⟨_, rfl⟩
  obtain ⟨P, hP⟩ : ∃ P : ByteArray, (⟨p.toArray⟩ : ByteArray) = P := ⟨_, rfl⟩
  obtain ⟨Q, hQ⟩ : ∃ Q : ByteArray, (⟨(enc p).toArray⟩ : ByteArray) = Q := ⟨_, rfl⟩
  obtain ⟨F, hF⟩ : ∃ F : ByteArray, (⟨(frontT id p).toArray⟩ : ByteArray) = F := ⟨_, rfl⟩
  obtain ⟨M, hM⟩ : ∃ M : ByteArray, (⟨(macL sec (frontT id p)).toArray⟩ : ByteArray) = M := ⟨_, rfl⟩
  obtain ⟨N, hN⟩ : ∃ N : ByteArray, (⟨(enc (macL sec (frontT id p))).toArray⟩ : ByteArray) = N := ⟨_, rfl⟩
  have zE : E.size ≤ 20000 := by rw [← hE, bytes_size]; exact l1
  have zQ : Q.size ≤ 20000 := by rw [← hQ, bytes_size]; exact l2
  have zF : F.size ≤ 30000 := by rw [← hF, bytes_size]; exact hfl
  have zN : N.size ≤ 100 := by rw [← hN, bytes_size]; exact l3
  rw [hH] at hh he
  rw [hE] at he
  rw [hP, hQ] at hq
  rw [hF, hM] at hm
  rw [hM, hN] at hn
  rw [hF, hE, hQ] at e1
  rw [hF, hN, hP]
  have n1 : ∀ W, (Op.stringOp .add E ⟨#[46]⟩).run Tryd.prog W = .ok (.string (E ++ ⟨#[46]⟩)) W := fun W => run_string_add_sum W _ _ (by show E.size + 1 ≤ _; omega)
  have n2 : ∀ W, (Op.stringOp .add (E ++ ⟨#[46]⟩) Q).run Tryd.prog W = .ok (.string F) W := fun W => by rw [e1]; exact run_string_add_sum W _ _ (by rw [ByteArray.size_append]; show E.size + 1 + Q.size ≤ _; omega)
  have n3 : ∀ W, (Op.stringOp .add F ⟨#[46]⟩).run Tryd.prog W = .ok (.string (F ++ ⟨#[46]⟩)) W := fun W => run_string_add_sum W _ _ (by show F.size + 1 ≤ _; omega)
  have n4 : ∀ W, (Op.stringOp .add (F ++ ⟨#[46]⟩) N).run Tryd.prog W = .ok (.string (F ++ ⟨#[46]⟩ ++ N)) W := fun W => run_string_add_sum W _ _ (by rw [ByteArray.size_append]; show F.size + 1 + N.size ≤ _; omega)
  obtain ⟨W1, hW1⟩ : ∃ W1, W1 = w.alloc (.cells #[.string ⟨id.toArray⟩, .string ⟨sec.toArray⟩] 33) := ⟨_, rfl⟩
  have b1 : Below w.heap.size w W1 := by rw [hW1]; exact (Below.refl _ _).alloc (Nat.le_refl _) _
  have k1 : W1.heap[w.heap.size]? = some (.cells #[.string ⟨id.toArray⟩, .string ⟨sec.toArray⟩] 33 (0, 0)) := by rw [hW1]; exact heap_alloc_last w _
  have z1 : W1.heap.size = w.heap.size + 1 := by rw [hW1]; simp
  have hsc : ∀ W, Below W1.heap.size W1 W → W.cell? ⟨w.heap.size, 1, none⟩ = some (.string ⟨sec.toArray⟩) := fun W hb => (hb.cell (p := ⟨w.heap.size, 1, none⟩) (by show w.heap.size < _; omega)).trans (cell_here k1)
  have hc0 : W1.cell? ⟨w.heap.size, 0, none⟩ = some (.string ⟨id.toArray⟩) := cell_here k1
  have hc1 : W1.cell? ⟨w.heap.size, 1, none⟩ = some (.string ⟨sec.toArray⟩) := cell_here k1
  rw [hR] at hsc hc0 hc1
  have hj1 := hj.below b1
  have HJ1 := Lib.hid hj1
  have HH := Lib.hid hh; have HE := Lib.hid he; have HQ := Lib.hid hq; have HM := Lib.hid hm; have HN := Lib.hid hn; have HSC := Lib.hid hsc; have HB1 := Lib.hid b1; have HW := Lib.hid hW1; have HRR := Lib.hid hR
  clear hh he hq hm hn e1 e2 hH hE hP hQ hF hM hN zE zQ zF zN l1 l2 l3 hfl b1 k1 z1 hsc hW1 hR hj hj1
  go_enter Tryd.func12, Tryd.ntmps12
  go_wp2_with fail
  rw [← HW.out, HRR.out]
  (try go_wp2_with fail)
  refine (HH.out _ HJ1.out).mono ?_
  rintro e2 w2 ⟨rfl, hb2⟩
  have HB2 := Lib.hid hb2; clear hb2
  dsimp only
  go_wp2_with fail
  refine (HE.out _).mono ?_
  rintro e3 w3 ⟨rfl, hb3⟩
  have HB3 := Lib.hid (HB2.out.chain hb3); clear hb3
  dsimp only
  go_wp2_with fail
  refine (HQ.out _).mono ?_
  rintro e4 w4 ⟨rfl, hb4⟩
  have HB4 := Lib.hid (HB3.out.chain hb4); clear hb4 hc0 hc1
  have hc4 := HSC.out _ HB4.out
  dsimp only
  go_wp2_with fail
  refine (HM.out _ (HJ1.out.below HB4.out).rounds).mono ?_
  rintro e5 w5 ⟨rfl, hb5⟩
  have HB5 := Lib.hid (HB4.out.chain hb5); clear hb5
  dsimp only
  go_wp2_with fail
  refine (HN.out _).mono ?_
  rintro e6 w6 ⟨rfl, hb6⟩
  have HB6 := Lib.hid (HB5.out.chain hb6); clear hb6 hc4
  dsimp only
  go_wp2
  go_ret
  exact ⟨rfl, HB1.out.trans (HB6.out.mono HB1.out.size)⟩

set_option maxRecDepth 100000 in
set_option maxHeartbeats 2000000 in
theorem refSign_any (id sec p : List UInt8) (hid : id.length ≤ 1000) (hsec : sec.length ≤ 1000) (hp : p.length ≤ 10000) (w : World) :
    Calls Tryd.prog 13 #[.agg #[.string ⟨id.toArray⟩, .string ⟨sec.toArray⟩], .string ⟨p.toArray⟩] w fun e w' => e = .returned (.string ⟨(signT id sec p).toArray⟩) ∧ Below w.heap.size w w' := by
  obtain ⟨R, hR⟩ : ∃ R, w.heap.size = R := ⟨_, rfl⟩
  have hfl := frontT_le hid hp
  have hh := fun W => refHead_any id (by omega) W
  have he := fun W => refB64_any ⟨(headT id).toArray⟩ (by rw [bytes_size]; have := headT_le id; omega) W
  have hq := fun W => refB64_any ⟨p.toArray⟩ (by rw [bytes_size]; omega) W
  have hm := fun W => refMac_any ⟨sec.toArray⟩ ⟨(frontT id p).toArray⟩ (by rw [bytes_size]; omega) (by rw [bytes_size]; omega) W
  have hn := fun W => refB64_any ⟨(macL sec (frontT id p)).toArray⟩ (by rw [bytes_size, macL_len]; omega) W
  simp only [bytes_list] at he hq hm hn
  have e1 : (⟨(frontT id p).toArray⟩ : ByteArray) = ⟨(enc (headT id)).toArray⟩ ++ ⟨#[46]⟩ ++ ⟨(enc p).toArray⟩ := by apply ByteArray.ext; simp [frontT]
  have e2 : (⟨(signT id sec p).toArray⟩ : ByteArray) = ⟨(frontT id p).toArray⟩ ++ ⟨#[46]⟩ ++ ⟨(enc (macL sec (frontT id p))).toArray⟩ := by
    obtain ⟨M, hM⟩ : ∃ M, macL sec (frontT id p) = M := ⟨_, rfl⟩
    have : signT id sec p = frontT id p ++ [46] ++ enc M := by rw [← hM, signT]
    rw [this, hM]
    apply ByteArray.ext; simp
  have l1 : (enc (headT id)).length ≤ 20000 := by have := enc_len (headT id); have := headT_le id; omega
  have l2 : (enc p).length ≤ 20000 := by have := enc_len p; omega
  have l3 : (enc (macL sec (frontT id p))).length ≤ 100 := by have := enc_len (macL sec (frontT id p)); rw [macL_len] at this; omega
  rw [e2]
  obtain ⟨H, hH⟩ : ∃ H : ByteArray, (⟨(headT id).toArray⟩ : ByteArray) = H := ⟨_, rfl⟩
  obtain ⟨E, hE⟩ : ∃ E : ByteArray, (⟨(enc (headT id)).toArray⟩ : ByteArray) = E := ⟨_, rfl⟩
  obtain ⟨P, hP⟩ : ∃ P : ByteArray, (⟨p.toArray⟩ : ByteArray) = P := ⟨_, rfl⟩
  obtain ⟨Q, hQ⟩ : ∃ Q : ByteArray, (⟨(enc p).toArray⟩ : ByteArray) = Q := ⟨_, rfl⟩
  obtain ⟨F, hF⟩ : ∃ F : ByteArray, (⟨(frontT id p).toArray⟩ : ByteArray) = F := ⟨_, rfl⟩
  obtain ⟨M, hM⟩ : ∃ M : ByteArray, (⟨(macL sec (frontT id p)).toArray⟩ : ByteArray) = M := ⟨_, rfl⟩
  obtain ⟨N, hN⟩ : ∃ N : ByteArray, (⟨(enc (macL sec (frontT id p))).toArray⟩ : ByteArray) = N := ⟨_, rfl⟩
  have zE : E.size ≤ 20000 := by rw [← hE, bytes_size]; exact l1
  have zQ : Q.size ≤ 20000 := by rw [← hQ, bytes_size]; exact l2
  have zF : F.size ≤ 30000 := by rw [← hF, bytes_size]; exact hfl
  have zN : N.size ≤ 100 := by rw [← hN, bytes_size]; exact l3
  rw [hH] at hh he
  rw [hE] at he
  rw [hP, hQ] at hq
  rw [hF, hM] at hm
  rw [hM, hN] at hn
  rw [hF, hE, hQ] at e1
  rw [hF, hN, hP]
  have n1 : ∀ W, (Op.stringOp .add E ⟨#[46]⟩).run Tryd.prog W = .ok (.string (E ++ ⟨#[46]⟩)) W := fun W => run_string_add_sum W _ _ (by show E.size + 1 ≤ _; omega)
  have n2 : ∀ W, (Op.stringOp .add (E ++ ⟨#[46]⟩) Q).run Tryd.prog W = .ok (.string F) W := fun W => by rw [e1]; exact run_string_add_sum W _ _ (by rw [ByteArray.size_append]; show E.size + 1 + Q.size ≤ _; omega)
  have n3 : ∀ W, (Op.stringOp .add F ⟨#[46]⟩).run Tryd.prog W = .ok (.string (F ++ ⟨#[46]⟩)) W := fun W => run_string_add_sum W _ _ (by show F.size + 1 ≤ _; omega)
  have n4 : ∀ W, (Op.stringOp .add (F ++ ⟨#[46]⟩) N).run Tryd.prog W = .ok (.string (F ++ ⟨#[46]⟩ ++ N)) W := fun W => run_string_add_sum W _ _ (by rw [ByteArray.size_append]; show F.size + 1 + N.size ≤ _; omega)
  obtain ⟨W1, hW1⟩ : ∃ W1, W1 = w.alloc (.cells #[.string ⟨id.toArray⟩, .string ⟨sec.toArray⟩] 33) := ⟨_, rfl⟩
  have b1 : Below w.heap.size w W1 := by rw [hW1]; exact (Below.refl _ _).alloc (Nat.le_refl _) _
  have k1 : W1.heap[w.heap.size]? = some (.cells #[.string ⟨id.toArray⟩, .string ⟨sec.toArray⟩] 33 (0, 0)) := by rw [hW1]; exact heap_alloc_last w _
  have z1 : W1.heap.size = w.heap.size + 1 := by rw [hW1]; simp
  have hsc : ∀ W, Below W1.heap.size W1 W → W.cell? ⟨w.heap.size, 1, none⟩ = some (.string ⟨sec.toArray⟩) := fun W hb => (hb.cell (p := ⟨w.heap.size, 1, none⟩) (by show w.heap.size < _; omega)).trans (cell_here k1)
  have hc0 : W1.cell? ⟨w.heap.size, 0, none⟩ = some (.string ⟨id.toArray⟩) := cell_here k1
  have hc1 : W1.cell? ⟨w.heap.size, 1, none⟩ = some (.string ⟨sec.toArray⟩) := cell_here k1
  rw [hR] at hsc hc0 hc1
  have HH := Lib.hid hh; have HE := Lib.hid he; have HQ := Lib.hid hq; have HM := Lib.hid hm; have HN := Lib.hid hn; have HSC := Lib.hid hsc; have HB1 := Lib.hid b1; have HW := Lib.hid hW1; have HRR := Lib.hid hR
  clear hh he hq hm hn e1 e2 hH hE hP hQ hF hM hN zE zQ zF zN l1 l2 l3 hfl b1 k1 z1 hsc hW1 hR
  go_enter Tryd.func13, Tryd.ntmps13
  go_wp2_with fail
  rw [← HW.out, HRR.out]
  (try go_wp2_with fail)
  refine (HH.out _).mono ?_
  rintro e2 w2 ⟨rfl, hb2⟩
  have HB2 := Lib.hid hb2; clear hb2
  dsimp only
  go_wp2_with fail
  refine (HE.out _).mono ?_
  rintro e3 w3 ⟨rfl, hb3⟩
  have HB3 := Lib.hid (HB2.out.chain hb3); clear hb3
  dsimp only
  go_wp2_with fail
  refine (HQ.out _).mono ?_
  rintro e4 w4 ⟨rfl, hb4⟩
  have HB4 := Lib.hid (HB3.out.chain hb4); clear hb4 hc0 hc1
  have hc4 := HSC.out _ HB4.out
  dsimp only
  go_wp2_with fail
  refine (HM.out _).mono ?_
  rintro e5 w5 ⟨rfl, hb5⟩
  have HB5 := Lib.hid (HB4.out.chain hb5); clear hb5
  dsimp only
  go_wp2_with fail
  refine (HN.out _).mono ?_
  rintro e6 w6 ⟨rfl, hb6⟩
  have HB6 := Lib.hid (HB5.out.chain hb6); clear hb6 hc4
  dsimp only
  go_wp2
  go_ret
  exact ⟨rfl, HB1.out.trans (HB6.out.mono HB1.out.size)⟩

end Go.Proofs.YthbbeojhipcjiaaDoor
namespace Go.Proofs.YthbbeojhipcjiaaDoor
open Go.RowKit
/-- the lists are of one length, and alike up to k -/
def Alike (a b : List UInt8) (k : Nat) : Prop := a.length = b.length ∧ a.take k = b.take k
/-- what the loop holds: 0 just where they are alike so far -/
def Held (a b : List UInt8) (k : Nat) (U : Int) : Prop := 0 ≤ U ∧ U < 2 ^ 63 ∧ (U = 0 ↔ Alike a b k)

theorem held_start (a b : List UInt8) (ha : a.length < 2 ^ 63) (hb : b.length < 2 ^ 63) : Held a b 0 (bits .xor .i64 a.length b.length) := by
  rw [bits_xor_nat .i64 63 (by decide) wraps_i64 _ _ ha hb]
  refine ⟨Int.natCast_nonneg _, by exact_mod_cast Nat.xor_lt_two_pow ha hb, ?_⟩
  simp only [Alike, List.take_zero, and_true]
  rw [Int.natCast_eq_zero]
  exact xor_zero_iff _ _

theorem take_succ' (l : List UInt8) (k : Nat) (h : k < l.length) : l.take (k + 1) = l.take k ++ [l[k]] := List.take_succ_eq_append_getElem h

theorem held_in (a b : List UInt8) (k : Nat) (U : Int) (h : Held a b k U) (ha : k < a.length) (hb : k < b.length) :
    Held a b (k + 1) (bits .or .i64 U (wrap64 (bits .xor .u8 (a[k].toNat : Int) (b[k].toNat : Int)))) := by
  obtain ⟨h0, h1, h2⟩ := h
  obtain ⟨u, rfl⟩ := Int.eq_ofNat_of_zero_le h0
  have hu : u < 2 ^ 63 := by exact_mod_cast h1
  have x8 := a[k].toNat_lt
  have y8 := b[k].toNat_lt
  rw [u8_xor_nat _ _ x8 y8]
  have hx : a[k].toNat ^^^ b[k].toNat < 2 ^ 63 := Nat.lt_trans (Nat.xor_lt_two_pow (n := 8) x8 y8) (by decide)
  rw [IntWalk.wrap64_in _ ⟨by omega, by omega⟩]
  rw [(bits_nat .i64 63 (by decide) wraps_i64 u _ hu hx).2]
  refine ⟨Int.natCast_nonneg _, by exact_mod_cast Nat.or_lt_two_pow hu hx, ?_⟩
  rw [Int.natCast_eq_zero, Nat.or_eq_zero_iff, xor_zero_iff]
  rw [Int.natCast_eq_zero] at h2
  rw [h2]
  unfold Alike
  rw [take_succ' a k ha, take_succ' b k hb]
  constructor
  · rintro ⟨⟨hl, ht⟩, he⟩
    exact ⟨hl, by rw [ht, UInt8.toNat_inj.1 he]⟩
  · rintro ⟨hl, ht⟩
    have := List.append_inj ht (by simp; omega)
    exact ⟨⟨hl, this.1⟩, by simpa using congrArg (fun l => l.map UInt8.toNat) this.2⟩

theorem held_out (a b : List UInt8) (k : Nat) (U : Int) (h : Held a b k U) (ha : k < a.length) (hb : b.length ≤ k) :
    Held a b (k + 1) (bits .or .i64 U (wrap64 (bits .xor .u8 (a[k].toNat : Int) 0))) := by
  obtain ⟨h0, h1, h2⟩ := h
  obtain ⟨u, rfl⟩ := Int.eq_ofNat_of_zero_le h0
  have hu : u < 2 ^ 63 := by exact_mod_cast h1
  have x8 := a[k].toNat_lt
  have e0 : bits .xor .u8 (a[k].toNat : Int) 0 = ((a[k].toNat ^^^ 0 : Nat) : Int) := u8_xor_nat _ 0 x8 (by decide)
  rw [e0]
  have hx : a[k].toNat ^^^ 0 < 2 ^ 63 := Nat.lt_trans (Nat.xor_lt_two_pow (n := 8) x8 (by decide)) (by decide)
  rw [IntWalk.wrap64_in _ ⟨by omega, by omega⟩]
  rw [(bits_nat .i64 63 (by decide) wraps_i64 u _ hu hx).2]
  refine ⟨Int.natCast_nonneg _, by exact_mod_cast Nat.or_lt_two_pow hu hx, ?_⟩
  rw [Int.natCast_eq_zero, Nat.or_eq_zero_iff]
  rw [Int.natCast_eq_zero] at h2
  rw [h2]
  unfold Alike
  constructor
  · rintro ⟨⟨hl, _⟩, _⟩; omega
  · rintro ⟨hl, _⟩; omega

def eqB (a b : ByteArray) : Bool := decide (a.data.toList = b.data.toList)

theorem held_end (a b : ByteArray) (U : Int) (h : Held a.data.toList b.data.toList a.size U) : (U == 0) = eqB a b := by
  rw [Bool.eq_iff_iff]
  unfold eqB
  simp only [beq_iff_eq, decide_eq_true_iff]
  rw [h.2.2]
  unfold Alike
  have hs : a.data.toList.length = a.size := rfl
  constructor
  · rintro ⟨hl, ht⟩
    rw [List.take_of_length_le (by omega), List.take_of_length_le (by omega)] at ht
    exact ht
  · intro h; rw [h]; exact ⟨rfl, rfl⟩

set_option maxRecDepth 100000 in
theorem equal_any (a b : ByteArray) (ha : a.size ≤ maxLen) (hb : b.size ≤ maxLen) (w : World) :
    Calls Tryd.prog 33 #[.string a, .string b] w fun e w' => e = .returned (.bool (eqB a b)) ∧ w = w' := by
  unfold maxLen at ha hb
  have hstart := held_start a.data.toList b.data.toList (show a.size < 2 ^ 63 by omega) (show b.size < 2 ^ 63 by omega)
  have HS := Lib.hid hstart; clear hstart
  go_enter Tryd.func33, Tryd.ntmps33
  go_wp2
  go_loop [5, 15] (fun u i => ∃ (k : Nat) (U : Int), k ≤ a.size ∧ i = .int .i64 k ∧ u = .int .i64 U ∧ Held a.data.toList b.data.toList k U) (fun _ i => a.size - (intOf i).toNat)
  case atStart => exact ⟨0, _, Nat.zero_le _, rfl, rfl, HS.out⟩
  case round =>
    obtain ⟨k, U, hk, rfl, rfl, hh⟩ := hrel
    have HH := Lib.hid hh; clear hh
    by_cases hlt : k < a.size
    · by_cases hltb : k < b.size
      · go_wp2
        go_round
        case rel => exact ⟨k + 1, _, by omega, by go_num, rfl, held_in _ _ k U HH.out hlt hltb⟩
        case measure => simp [intOf]; omega
      · go_wp2
        go_round
        case rel => exact ⟨k + 1, _, by omega, by go_num, rfl, held_out _ _ k U HH.out hlt (Nat.le_of_not_lt hltb)⟩
        case measure => simp [intOf]; omega
    · go_wp2
      go_ret
      have hke : k = a.size := by omega
      subst hke
      exact ⟨ret_bool (held_end a b U HH.out), rfl⟩
end Go.Proofs.YthbbeojhipcjiaaDoor
namespace Go.Proofs.YthbbeojhipcjiaaDoor
open Go.RowKit

theorem ix_any (c : UInt8) (w : World) :
    Calls Tryd.prog 48 #[.string ⟨#[65, 66, 67, 68, 69, 70, 71, 72, 73, 74, 75, 76, 77, 78, 79, 80, 81, 82, 83, 84, 85, 86, 87, 88, 89, 90, 97, 98, 99, 100, 101, 102, 103, 104, 105, 106, 107, 108, 109, 110, 111, 112, 113, 114, 115, 116, 117, 118, 119, 120, 121, 122, 48, 49, 50, 51, 52, 53, 54, 55, 56, 57, 45, 95]⟩, .int .u8 c.toNat] w fun e w' => e = .returned (.int .i64 (ix c)) ∧ w = w' := by
  refine (indexByte_any _ _ w).mono fun e w' ⟨he, hw⟩ => ⟨?_, hw⟩
  rw [he]
  refine ret_int ?_
  have : (c.toNat : Int).toNat.toUInt8 = c := by simp
  rw [this]; rfl

theorem push6_lt (H : Nat) (d : Nat) (hd : d < 64) : push6 H d < 4294967296 := by unfold push6; omega
theorem or_push6 (H : Nat) (d : Int) (h0 : 0 ≤ d) (h1 : d < 64) : bits .or .u32 ((H : Int) * 64 % 4294967296) d = (push6 H d.toNat : Int) := by
  rw [bits_join .u32 32 (by decide) (fun n h0 h1 => by rw [IntKind.wrap_u32]; omega) 6 _ _ (by omega) (by omega) (by omega) (by omega) (by omega) (by omega)]
  unfold push6; omega
def DecAt (l : List UInt8) (k : Nat) (H bits : Nat) (acc : List UInt8) : Prop := dec l = (decS H bits (l.drop k)).map (acc ++ ·)
theorem decAt_start (l : List UInt8) : DecAt l 0 0 0 [] := by unfold DecAt; rw [List.drop_zero, decS_dec]; simp
theorem decAt_bad {l acc : List UInt8} {k H bits : Nat} (h : DecAt l k H bits acc) (hk : k < l.length) (hc : ix l[k] < 0) : dec l = none := by
  unfold DecAt at h; rw [h, List.drop_eq_getElem_cons hk, decS, if_pos hc]; rfl
theorem decAt_0 {l acc : List UInt8} {k H : Nat} (h : DecAt l k H 0 acc) (hk : k < l.length) (hc : 0 ≤ ix l[k]) : DecAt l (k + 1) (push6 H (ix l[k]).toNat) 6 acc := by
  unfold DecAt at h ⊢; rw [h, List.drop_eq_getElem_cons hk, decS, if_neg (by omega), if_pos (by decide)]
theorem decAt_s {l acc : List UInt8} {k H bits : Nat} (h : DecAt l k H bits acc) (hb : 2 ≤ bits) (hk : k < l.length) (hc : 0 ≤ ix l[k]) :
    DecAt l (k + 1) (push6 H (ix l[k]).toNat) (bits - 2) (acc ++ [UInt8.ofNat (push6 H (ix l[k]).toNat / 2 ^ (bits - 2))]) := by
  unfold DecAt at h ⊢; rw [h, List.drop_eq_getElem_cons hk, decS, if_neg (by omega), if_neg (by omega), Option.map_map]; congr 1; funext x; simp
theorem decAt_end {l acc : List UInt8} {H bits : Nat} (h : DecAt l l.length H bits acc) (hb : bits < 6) (hm : H % 2 ^ bits = 0) : dec l = some acc := by
  unfold DecAt at h; rw [h, List.drop_length, decS, if_pos ⟨hb, hm⟩]; simp
theorem decAt_not {l acc : List UInt8} {H bits : Nat} (h : DecAt l l.length H bits acc) (hb : bits = 6 ∨ H % 2 ^ bits ≠ 0) : dec l = none := by
  unfold DecAt at h; rw [h, List.drop_length, decS, if_neg (by omega)]; rfl

/-- what Decode answers -/
def DecSays (l : List UInt8) (e : Ending) : Prop :=
  (∃ o, dec l = some o ∧ e = .returned (.tuple #[.string ⟨o.toArray⟩, .int .i64 0])) ∨ (dec l = none ∧ e = .returned (.tuple #[.string ⟨#[]⟩, .int .i64 2]))

set_option maxHeartbeats 1000000 in
set_option maxRecDepth 100000 in
theorem decode_says (s : ByteArray) (hs : s.size ≤ 46912496117759) (w : World) :
    Calls Tryd.prog 30 #[.string s] w fun e w' => DecSays s.data.toList e ∧ Below w.heap.size w w' := by
  obtain ⟨i0, hi, hz0, hz1, hz2⟩ := info_parts Tryd.infoByte
  go_enter Tryd.func30, Tryd.ntmps30
  go_wp2_with (at_make; refine wpList_make_own _ rfl _ _ 67 rfl w.heap.size 5 i0 _ 1 Tryd.underlying67 hi hz0 hz1 _ _ _ (s.size / 4 * 3 + 3) rfl rfl (by omega) (by rw [hz2]; omega) (by unfold maxLen; omega) (Nat.le_refl _) ?_)
  intro w0 hown0 hg0
  have hb0 : Below w.heap.size w w0 := (Below.refl _ _).grown hg0 (Nat.le_refl _) (by simp)
  go_wp2
  go_loopw [4, 5, 6, 17] (fun v h b i wr => ∃ (k H bits : Nat) (acc : List UInt8), k ≤ s.size ∧ i = .int .i64 k ∧ h = .int .u32 H ∧ H < 4294967296 ∧ b = .int .i64 bits ∧ (bits = 0 ∨ bits = 6 ∨ bits = 4 ∨ bits = 2) ∧ Buf wr w.heap.size v acc ∧ acc.length ≤ k ∧ DecAt s.data.toList k H bits acc ∧ Below w.heap.size w wr) (fun _ _ _ i _ => s.size - (intOf i).toNat)
  case atStart => exact ⟨0, 0, 0, [], Nat.zero_le _, rfl, rfl, by decide, rfl, .inl rfl, hown0, Nat.zero_le _, decAt_start _, hb0⟩
  case round =>
    obtain ⟨k, H, bts, acc, hk, rfl, rfl, hH, rfl, h0642, hown, hal, hat, hb⟩ := hrel
    have HA := Lib.hid hat; clear hat
    have hbs := hb.size
    by_cases hlt : k < s.size
    · by_cases hc : ix s[k] < 0
      · have HC := Lib.hid hc
        have HO := Lib.hid h0642; clear h0642
        go_wp2_with (go_at_call 48; refine (ix_any _ _).mono ?_; rintro e w' ⟨rfl, rfl⟩)
        go_ret2
        exact ⟨Or.inr ⟨decAt_bad HA.out hlt HC.out, rfl⟩, hb⟩
      · have hc : 0 ≤ ix s[k] := by omega
        have hix : ix s[k] < 64 := by rcases ix_cases s[k] with h | h <;> omega
        have HC := Lib.hid hc
        have hp := push6_lt H (ix s[k]).toNat (by omega)
        have ho := or_push6 H (ix s[k]) (by omega) hix
        rcases h0642 with rfl | rfl | rfl | rfl
        · go_wp2_with (go_at_call 48; refine (ix_any _ _).mono ?_; rintro e w' ⟨rfl, rfl⟩)
          go_roundw
          case rel => exact ⟨k + 1, push6 H (ix s[k]).toNat, 6, acc, by omega, by go_num, rfl, hp, rfl, .inr (.inl rfl), hown, by omega, decAt_0 HA.out hlt HC.out, hb⟩
          case measure => simp [intOf]; omega
        · go_wp2_with (first
            | (go_at_call 48; refine (ix_any _ _).mono ?_; rintro e w' ⟨rfl, rfl⟩)
            | (at_builtin; refine wpList_append_own _ rfl (.tmp 37) (.tmp 42) 67 rfl w.heap.size 5 i0 _ 1 1 Tryd.underlying67 hi hz0 hz1 hz2 rfl (by decide) _ _ _ rfl (World.ownsRow.alloc hown _) ⟨_, 0, none⟩ 1 1 [.int .u8 _] rfl rfl (new_cells _ #[_] _) (one_cell _) (by unfold maxLen; omega) (by omega) (by simp; omega) ?_))
          intro v' w1 hown' hg' _
          have hb1 : Below w.heap.size w w1 := (hb.alloc hbs _).grown hg' (by simp; omega) (fun j hj => (hown.lt j hj).1)
          go_wp2
          go_roundw
          case rel => exact ⟨k + 1, push6 H (ix s[k]).toNat, 4, acc ++ [UInt8.ofNat (push6 H (ix s[k]).toNat / 16)], by omega, by go_num, rfl, hp, rfl, .inr (.inr (.inl rfl)), Buf.cut hown' (by simp) (cells_byte _ (push6 H (ix s[k]).toNat / 16) _ _ (by omega) rfl), by simp; omega, decAt_s HA.out (by decide) hlt HC.out, hb1⟩
          case measure => simp [intOf]; omega
        · go_wp2_with (first
            | (go_at_call 48; refine (ix_any _ _).mono ?_; rintro e w' ⟨rfl, rfl⟩)
            | (at_builtin; refine wpList_append_own _ rfl (.tmp 37) (.tmp 42) 67 rfl w.heap.size 5 i0 _ 1 1 Tryd.underlying67 hi hz0 hz1 hz2 rfl (by decide) _ _ _ rfl (World.ownsRow.alloc hown _) ⟨_, 0, none⟩ 1 1 [.int .u8 _] rfl rfl (new_cells _ #[_] _) (one_cell _) (by unfold maxLen; omega) (by omega) (by simp; omega) ?_))
          intro v' w1 hown' hg' _
          have hb1 : Below w.heap.size w w1 := (hb.alloc hbs _).grown hg' (by simp; omega) (fun j hj => (hown.lt j hj).1)
          go_wp2
          go_roundw
          case rel => exact ⟨k + 1, push6 H (ix s[k]).toNat, 2, acc ++ [UInt8.ofNat (push6 H (ix s[k]).toNat / 4)], by omega, by go_num, rfl, hp, rfl, .inr (.inr (.inr rfl)), Buf.cut hown' (by simp) (cells_byte _ (push6 H (ix s[k]).toNat / 4) _ _ (by omega) rfl), by simp; omega, decAt_s HA.out (by decide) hlt HC.out, hb1⟩
          case measure => simp [intOf]; omega
        · go_wp2_with (first
            | (go_at_call 48; refine (ix_any _ _).mono ?_; rintro e w' ⟨rfl, rfl⟩)
            | (at_builtin; refine wpList_append_own _ rfl (.tmp 37) (.tmp 42) 67 rfl w.heap.size 5 i0 _ 1 1 Tryd.underlying67 hi hz0 hz1 hz2 rfl (by decide) _ _ _ rfl (World.ownsRow.alloc hown _) ⟨_, 0, none⟩ 1 1 [.int .u8 _] rfl rfl (new_cells _ #[_] _) (one_cell _) (by unfold maxLen; omega) (by omega) (by simp; omega) ?_))
          intro v' w1 hown' hg' _
          have hb1 : Below w.heap.size w w1 := (hb.alloc hbs _).grown hg' (by simp; omega) (fun j hj => (hown.lt j hj).1)
          go_wp2
          go_roundw
          case rel => exact ⟨k + 1, push6 H (ix s[k]).toNat, 0, acc ++ [UInt8.ofNat (push6 H (ix s[k]).toNat / 1)], by omega, by go_num, rfl, hp, rfl, .inl rfl, Buf.cut hown' (by simp) (cells_byte _ (push6 H (ix s[k]).toNat / 1) _ _ (by omega) rfl), by simp; omega, decAt_s HA.out (by decide) hlt HC.out, hb1⟩
          case measure => simp [intOf]; omega
    · have hke : k = s.size := by omega
      subst hke
      have hcv := hown.text
      rcases h0642 with rfl | rfl | rfl | rfl
      · have hq : bits .and .u32 (H : Int) 0 = 0 := by have := and_mask H (by omega) (by omega) 0 (by decide); simpa using this
        go_wp2
        go_ret2
        exact ⟨Or.inl ⟨acc, decAt_end HA.out (by decide) (by omega), rfl⟩, hb⟩
      · go_wp2
        go_ret2
        exact ⟨Or.inr ⟨decAt_not HA.out (.inl rfl), rfl⟩, hb⟩
      · have hq : bits .and .u32 (H : Int) 15 = (H : Int) % 16 := and_mask H (by omega) (by omega) 4 (by decide)
        by_cases hm : H % 16 = 0
        · have ht : ((H : Int) % 16 != 0) = false := by simp; omega
          have HM := Lib.hid hm; clear hm
          go_wp2
          go_ret2
          exact ⟨Or.inl ⟨acc, decAt_end HA.out (by decide) HM.out, rfl⟩, hb⟩
        · have ht : ((H : Int) % 16 != 0) = true := by simp; omega
          have HM := Lib.hid hm; clear hm
          go_wp2
          go_ret2
          exact ⟨Or.inr ⟨decAt_not HA.out (.inr HM.out), rfl⟩, hb⟩
      · have hq : bits .and .u32 (H : Int) 3 = (H : Int) % 4 := and_mask H (by omega) (by omega) 2 (by decide)
        by_cases hm : H % 4 = 0
        · have ht : ((H : Int) % 4 != 0) = false := by simp; omega
          have HM := Lib.hid hm; clear hm
          go_wp2
          go_ret2
          exact ⟨Or.inl ⟨acc, decAt_end HA.out (by decide) HM.out, rfl⟩, hb⟩
        · have ht : ((H : Int) % 4 != 0) = true := by simp; omega
          have HM := Lib.hid hm; clear hm
          go_wp2
          go_ret2
          exact ⟨Or.inr ⟨decAt_not HA.out (.inr HM.out), rfl⟩, hb⟩
end Go.Proofs.YthbbeojhipcjiaaDoor
namespace Go.Proofs.YthbbeojhipcjiaaDoor
open Go.RowKit

theorem splitK_one (c : UInt8) : ∀ (n : Nat) (l : List UInt8), Lib.count l [c] = n → Lib.splitK [c] 0 n l = splitL c l := by
  intro n
  induction n with
  | zero =>
    intro l h
    by_cases hk : atL c l < l.length
    · have hi : Lib.index l [c] = (atL c l : Int) := by rw [Lib.index_one, atL_index, if_pos hk]
      have := Lib.count_hit (sub := [c]) (by simp) hi
      omega
    · exact (splitL_last (by omega)).symm
  | succ n ih =>
    intro l h
    by_cases hk : atL c l < l.length
    · have hi : Lib.index l [c] = (atL c l : Int) := by rw [Lib.index_one, atL_index, if_pos hk]
      have h2 := Lib.count_hit (sub := [c]) (by simp) hi
      have h3 := ih (l.drop (atL c l + 1)) (by simp only [List.length_singleton] at h2; omega)
      unfold Lib.splitK
      have hm : ¬ (Lib.index l [c] == -1) = true := fun e => by have := beq_iff_eq.1 e; omega
      rw [if_neg hm, hi, splitL_more hk]
      simp only [Int.toNat_natCast, Nat.add_zero, List.length_singleton]
      rw [h3]
    · have hi : Lib.index l [c] = -1 := by rw [Lib.index_one, atL_index, if_neg hk]
      have := Lib.count_miss hi
      omega
def scellsJ (l : List (List UInt8)) : List Value := l.map fun p => Value.string ⟨p.toArray⟩
theorem splitB_one (s : List UInt8) (c : UInt8) : (Lib.splitB ⟨#[c]⟩ 0 (Lib.countB ⟨s.toArray⟩ ⟨#[c]⟩) ⟨s.toArray⟩).map Value.string = scellsJ (splitL c s) := by
  have h := Lib.splitB_data ⟨#[c]⟩ 0 (Lib.countB ⟨s.toArray⟩ ⟨#[c]⟩) ⟨s.toArray⟩
  have e : (⟨s.toArray⟩ : ByteArray).data.toList = s := by simp
  have e2 : (⟨#[c]⟩ : ByteArray).data.toList = [c] := rfl
  rw [e, e2, splitK_one c _ s (by show _ = Lib.count _ _; rw [e2])] at h
  rw [← h]
  unfold scellsJ
  rw [List.map_map]
  refine List.map_congr_left fun x _ => ?_
  show Value.string x = Value.string ⟨x.data.toList.toArray⟩
  rw [← str_eta]
theorem splitB_len (s : List UInt8) (c : UInt8) : Lib.countB ⟨s.toArray⟩ ⟨#[c]⟩ + 1 = (splitL c s).length := by
  have h1 := Lib.splitB_all ⟨#[c]⟩ (Nat.le_refl 1) 0 _ ⟨s.toArray⟩ rfl
  have h2 := congrArg List.length (splitB_one s c)
  rw [List.length_map, h1] at h2
  rw [h2]; simp [scellsJ]
theorem jsplit_any (s : List UInt8) (hs : s.length ≤ 4096) (w : World) (hj : JwsIn w) :
    Calls Tryd.prog 29 #[.string ⟨s.toArray⟩, .string ⟨#[46]⟩] w fun e w' => e = .returned (.slice (some ⟨w.heap.size, 0, none⟩) (splitL 46 s).length (splitL 46 s).length) ∧ w' = w.alloc (.cells (scellsJ (splitL 46 s)).toArray 9) := by
  obtain ⟨m, hm⟩ := hj.var
  have h := Tryd.strings_Split ⟨s.toArray⟩ ⟨#[46]⟩ m w (by show s.toArray.size < _; simp; omega) hm (by decide)
  rw [splitB_one, splitB_len] at h
  exact h
end Go.Proofs.YthbbeojhipcjiaaDoor
namespace Go.Proofs.YthbbeojhipcjiaaDoor
open Go.RowKit
set_option linter.unusedVariables false
set_option linter.unusedSimpArgs false

/-- where the first key stands that has this head; -1: nowhere -/
def FoundAt (l : PL) (x : List UInt8) (i : Int) : Prop :=
  (∃ k : Nat, ∃ h : k < l.length, i = k ∧ headT l[k].1 = x ∧ ∀ j (hj : j < k), headT (l[j]'(by omega)).1 ≠ x) ∨ (i = -1 ∧ ∀ j (hj : j < l.length), headT l[j].1 ≠ x)
/-- the keys that are looked at are not too long -/
def FitAt (l : PL) (x : List UInt8) : Prop := ∀ k (h : k < l.length), (∀ j (hj : j < k), headT (l[j]'(by omega)).1 ≠ x) → l[k].1.length ≤ 1000 ∧ l[k].2.length ≤ 1000

set_option maxRecDepth 100000 in
set_option maxHeartbeats 2000000 in
theorem pred_any (id sec x : List UInt8) (B : Nat) (hid : id.length ≤ 1000000) (w : World) (hj : JwsIn w) (hB : B < w.heap.size) (hx : w.cell? ⟨B, 0, none⟩ = some (.string ⟨x.toArray⟩)) :
    Calls Tryd.prog 32 #[.agg #[.string ⟨id.toArray⟩, .string ⟨sec.toArray⟩], .pointer (some ⟨B, 0, none⟩)] w fun e w' => (∃ b : Bool, e = .returned (.bool b) ∧ (b = true ↔ headT id = x)) ∧ Below w.heap.size w w' := by
  obtain ⟨W1, hW1⟩ : ∃ W1, W1 = w.alloc (.cells #[.string ⟨id.toArray⟩, .string ⟨sec.toArray⟩] 33) := ⟨_, rfl⟩
  have b1 : Below w.heap.size w W1 := by rw [hW1]; exact (Below.refl _ _).alloc (Nat.le_refl _) _
  have z1 : W1.heap.size = w.heap.size + 1 := by rw [hW1]; simp
  have k1 : W1.heap[w.heap.size]? = some (.cells #[.string ⟨id.toArray⟩, .string ⟨sec.toArray⟩] 33 (0, 0)) := by rw [hW1]; exact heap_alloc_last w _
  have ST : ∀ W, Below W1.heap.size W1 W → ((W.cell? ⟨w.heap.size, 0, none⟩ = some (.string ⟨id.toArray⟩) ∧ W.cell? ⟨w.heap.size, 1, none⟩ = some (.string ⟨sec.toArray⟩)) ∧ W.cell? ⟨B, 0, none⟩ = some (.string ⟨x.toArray⟩)) ∧ Below W1.heap.size W1 W := fun W hb =>
    ⟨⟨⟨(hb.cell (p := ⟨w.heap.size, 0, none⟩) (by show w.heap.size < _; omega)).trans (cell_here k1), (hb.cell (p := ⟨w.heap.size, 1, none⟩) (by show w.heap.size < _; omega)).trans (cell_here k1)⟩,
      (hb.cell (p := ⟨B, 0, none⟩) (by show B < _; omega)).trans ((b1.cell (p := ⟨B, 0, none⟩) hB).trans hx)⟩, hb⟩
  have hh := fun W (hb : Below W1.heap.size W1 W) => head_any id sec hid W ((hj.below b1).below hb)
  obtain ⟨h, hhd⟩ : ∃ h, headT id = h := ⟨_, rfl⟩
  rw [hhd] at hh ⊢
  have STH := Lib.hid ST; have HH := Lib.hid hh; have HW := Lib.hid hW1; have HB1 := Lib.hid b1; have Z1 := Lib.hid z1
  clear ST hh hW1 b1 k1 hj hx hhd z1
  obtain ⟨q, hq⟩ : ∃ q : Bool, (h == x) = q := ⟨_, rfl⟩
  have hiff : q = true ↔ h = x := by rw [← hq]; simp
  have HIFF := Lib.hid hiff; clear hiff
  go_enter Tryd.func32, Tryd.ntmps32
  go_upto_region 1 with fail
  rw [← HW.out]
  go_region_held3 (fun W => ((W.cell? ⟨w.heap.size, 0, none⟩ = some (.string ⟨id.toArray⟩) ∧ W.cell? ⟨w.heap.size, 1, none⟩ = some (.string ⟨sec.toArray⟩)) ∧ W.cell? ⟨B, 0, none⟩ = some (.string ⟨x.toArray⟩)) ∧ Below W1.heap.size W1 W)
    (first | exact STH.out _ (by repeat (first | (with_reducible exact Below.refl _ _) | (with_reducible apply Below.drew) | (with_reducible refine Below.alloc ?_ (by (first | omega | (simp only [World.size_alloc, World.size_drew, set_size]; omega) | (simp; omega))) _) | (with_reducible refine Below.setCell ?_ (by (first | omega | (simp only [World.size_alloc, World.size_drew, set_size]; omega) | (simp; omega))) _) | (with_reducible refine Below.chain ?_ hbx))))
    (first | (go_at_call 26; (with_reducible refine (HH.out _ (by repeat (first | (with_reducible exact Below.refl _ _) | (with_reducible apply Below.drew) | (with_reducible refine Below.alloc ?_ (by (first | omega | (simp only [World.size_alloc, World.size_drew, set_size]; omega) | (simp; omega))) _) | (with_reducible refine Below.setCell ?_ (by (first | omega | (simp only [World.size_alloc, World.size_drew, set_size]; omega) | (simp; omega))) _) | (with_reducible refine Below.chain ?_ hbx)))).mono ?_); rintro e wx ⟨rfl, hbx⟩))
  all_goals
    go_wp2_with fail
    go_ret
    exact ⟨⟨_, rfl, HIFF.out⟩, HB1.out.trans (Below.mono (w := W1) (by repeat (first | (with_reducible exact Below.refl _ _) | (with_reducible apply Below.drew) | (with_reducible refine Below.alloc ?_ (by (first | omega | (simp only [World.size_alloc, World.size_drew, set_size]; omega) | (simp; omega))) _) | (with_reducible refine Below.setCell ?_ (by (first | omega | (simp only [World.size_alloc, World.size_drew, set_size]; omega) | (simp; omega))) _) | (with_reducible refine Below.chain ?_ hbx))) HB1.out.size)⟩
set_option maxRecDepth 100000 in
set_option maxHeartbeats 2000000 in
theorem indexF_any (A : Option Addr) (c : Nat) (l : PL) (x : List UInt8) (B : Nat) (hl : l.length ≤ 4611686018427387904) (hfit : FitAt l x) (w : World) (hp : Prs w w.heap.size A l) (hj : JwsIn w) (hB : B < w.heap.size) (hx : w.cell? ⟨B, 0, none⟩ = some (.string ⟨x.toArray⟩)) :
    Calls Tryd.prog 31 #[.slice A l.length c, .func (.func 32) #[] #[.pointer (some ⟨B, 0, none⟩)]] w fun e w' => (∃ i, e = .returned (.int .i64 i) ∧ FoundAt l x i) ∧ Below w.heap.size w w' := by
  obtain ⟨n, hn⟩ : ∃ n, l.length = n := ⟨_, rfl⟩
  rw [hn] at hl ⊢
  have hpr := fun (k : Nat) (h : k < l.length) (hb : ∀ j (hj : j < k), headT (l[j]'(by omega)).1 ≠ x) (W : World) (hw : Below w.heap.size w W) => pred_any l[k].1 l[k].2 x B (by have := (hfit k h hb).1; omega) W (hj.below hw) (Nat.lt_of_lt_of_le hB hw.size) ((hw.cell (p := ⟨B, 0, none⟩) hB).trans hx)
  have HN := Lib.hid hn; have HPR := Lib.hid hpr; have HP := Lib.hid hp
  clear hn hpr hp hfit hj hx
  go_enter Tryd.func31, Tryd.ntmps31
  go_wp2
  go_loopw [8] (fun i wr => ∃ k : Nat, k ≤ n ∧ i = .int .i64 k ∧ (∀ j (hj : j < l.length), j < k → headT l[j].1 ≠ x) ∧ Below w.heap.size w wr) (fun i _ => n - (intOf i).toNat)
  case atStart => exact ⟨0, Nat.zero_le _, rfl, fun _ _ h => absurd h (Nat.not_lt_zero _), Below.refl _ _⟩
  case round =>
    obtain ⟨k, hk, rfl, hb, hbw⟩ := hrel
    have HB := Lib.hid hb; have HBW := Lib.hid hbw
    clear hb
    by_cases hlt : k < n
    · have hkl : k < l.length := by have := HN.out; omega
      obtain ⟨a, rfl, hab, h1, h2⟩ := (HP.out.below hbw) k hkl
      have hc := HPR.out k hkl (fun j hj => HB.out j (by omega) hj) wr hbw
      have g1 : headT l[k].1 = x → FoundAt l x k := fun e => Or.inl ⟨k, hkl, rfl, e, fun j hj => HB.out j (by omega) hj⟩
      have g2 : headT l[k].1 ≠ x → ∀ j (hj : j < l.length), j < k + 1 → headT l[j].1 ≠ x := fun e j hj h => by
        rcases Nat.lt_succ_iff_lt_or_eq.1 h with h | h
        · exact HB.out j hj h
        · subst h; exact e
      have HC := Lib.hid hc; have G1 := Lib.hid g1; have G2 := Lib.hid g2
      clear hc g1 g2 hbw
      have hk0 : (0 : Int) ≤ k := by omega
      have hk1 : (k : Int) < n := by omega
      generalize l[k] = y at *
      obtain ⟨ya, yb⟩ := y
      dsimp only at h1 h2
      go_wp2_with fail
      refine (HC.out).mono ?_
      rintro e w1 ⟨⟨b, rfl, hb⟩, hb1⟩
      have HB1 := Lib.hid hb1; clear hb1
      cases b with
      | true =>
        have HE := Lib.hid (G1.out (hb.1 rfl)); clear hb
        dsimp only
        go_wp2
        go_ret
        exact ⟨⟨_, rfl, HE.out⟩, HBW.out.chain HB1.out⟩
      | false =>
        have HE := Lib.hid (G2.out (fun e => by have := hb.2 e; cases this)); clear hb
        dsimp only
        go_wp2
        go_roundw
        case rel => exact ⟨k + 1, by omega, by go_num, HE.out, HBW.out.chain HB1.out⟩
        case measure => simp [intOf]; omega
    · have hke : k = n := by omega
      subst hke
      go_wp2
      go_ret
      exact ⟨⟨_, rfl, Or.inr ⟨rfl, fun j hj => HB.out j hj (by have := HN.out; omega)⟩⟩, HBW.out⟩
end Go.Proofs.YthbbeojhipcjiaaDoor
