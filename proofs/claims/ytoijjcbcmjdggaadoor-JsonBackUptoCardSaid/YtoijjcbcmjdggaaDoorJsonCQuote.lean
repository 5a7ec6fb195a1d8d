/- JSON: the code's quote: a text between ", into a builder. -/
import Derived.Test.YtoijjcbcmjdggaaDoorJsonQuote
import Derived.Test.YtoijjcbcmjdggaaDoorBuilder
import Derived.Test.YtoijjcbcmjdggaaDoorJsonKit
namespace Go.Proofs.YtoijjcbcmjdggaaDoor
open Go.RowKit

theorem itoa_dec (n : Int) : Lib.itoa n = decI n := by
  have h : ∀ u : Nat, Lib.decDigits u = decL u := by
    intro u
    induction u using Nat.strongRecOn with
    | _ u ih =>
      rw [Lib.decDigits, decL]
      by_cases h : u < 10
      · rw [dif_pos h, if_pos h]; unfold digit; rw [Nat.mod_eq_of_lt h]
      · rw [dif_neg h, if_neg h, ih (u / 10) (by omega)]; rfl
  unfold Lib.itoa decI
  by_cases hn : n < 0
  · rw [if_pos hn, if_pos hn, h]
  · rw [if_neg hn, if_neg hn, h]
    congr 1; omega
theorem hexs_low (c : UInt8) (h32 : c.toNat < 32) (h2 : c.toNat / 16 < (⟨#[48, 49, 50, 51, 52, 53, 54, 55, 56, 57, 97, 98, 99, 100, 101, 102]⟩ : ByteArray).size) : (((⟨#[48, 49, 50, 51, 52, 53, 54, 55, 56, 57, 97, 98, 99, 100, 101, 102]⟩ : ByteArray)[c.toNat / 16].toNat : Nat) : Int) = ((UInt8.ofNat (48 + c.toNat / 16)).toNat : Int) := by
  have h3 : hexJs[c.toNat / 16] = hexl (c.toNat / 16) := hexl_at h2 (by omega)
  change ((hexJs[c.toNat / 16].toNat : Nat) : Int) = _
  generalize hexJs[c.toNat / 16] = q at *
  subst h3
  have : hexl (c.toNat / 16) = UInt8.ofNat (48 + c.toNat / 16) := by unfold hexl; rw [if_pos (by omega)]
  rw [this]
theorem hexl_low (c : UInt8) (h2 : c.toNat % 16 < (⟨#[48, 49, 50, 51, 52, 53, 54, 55, 56, 57, 97, 98, 99, 100, 101, 102]⟩ : ByteArray).size) : (((⟨#[48, 49, 50, 51, 52, 53, 54, 55, 56, 57, 97, 98, 99, 100, 101, 102]⟩ : ByteArray)[c.toNat % 16].toNat : Nat) : Int) = ((hexl (c.toNat % 16)).toNat : Int) := by
  have h3 : hexJs[c.toNat % 16] = hexl (c.toNat % 16) := hexl_at h2 (by omega)
  change ((hexJs[c.toNat % 16].toNat : Nat) : Int) = _
  generalize hexJs[c.toNat % 16] = q at *
  subst h3
  rfl
theorem qL_app (a b : List UInt8) : qL (a ++ b) = qL a ++ qL b := by simp [qL]
theorem qL_take (l : List UInt8) (k : Nat) : (qL (l.take k)).length ≤ (qL l).length := by
  conv => rhs; rw [← List.take_append_drop k l, qL_app, List.length_append]
  omega
theorem quoteC_pos (c : UInt8) : 1 ≤ (quoteC c).length := by
  unfold quoteC; split
  · simp
  · split <;> simp
theorem qL_ge (l : List UInt8) : l.length ≤ (qL l).length := by
  induction l with
  | nil => simp
  | cons c r ih =>
    have := quoteC_pos c
    have e : qL (c :: r) = quoteC c ++ qL r := by simp [qL]
    rw [e, List.length_append, List.length_cons]; omega
theorem quoteJ_len (l : List UInt8) : (quoteJ l).length = (qL l).length + 2 := by rw [quoteJ_q]; simp
theorem writeByteI (B b : Nat) (l : List UInt8) (c : UInt8) (x : Int) (hx : x = c.toNat) (w : World) (h : Bld w B b l) (hlen : l.length + 1 ≤ 140737488355328) (hBw : B ≤ w.heap.size) :
    Calls Tryd.prog 39 #[.pointer (some ⟨b, 0, none⟩), .int .u8 x] w fun e w' => e = .returned .nilIface ∧ Bld w' B b (l ++ [c]) ∧ Below B w w' ∧ Keeps b w w' := by
  subst hx; exact writeByte_any B b l c w h hlen hBw
theorem and15 (x : Int) (h0 : 0 ≤ x) (h1 : x < 256) : bits .and .u8 x 15 = x % 16 :=
  bits_mask .u8 8 (by decide) (fun n h0 h1 => by rw [IntKind.wrap_u8]; omega) 4 (by decide) x h0 h1
set_option maxRecDepth 100000 in
set_option maxHeartbeats 2000000 in
theorem quote_any (B b : Nat) (acc t : List UInt8) (w : World) (hlen : acc.length + (quoteJ t).length ≤ 140737488355328) (h : Bld w B b acc) (hBw : B ≤ w.heap.size) :
    Calls Tryd.prog 38 #[.pointer (some ⟨b, 0, none⟩), .string ⟨t.toArray⟩] w fun e w' => e = .returned (.tuple #[]) ∧ Bld w' B b (acc ++ quoteJ t) ∧ Below B w w' := by
  have w1 := fun (acc : List UInt8) (c : UInt8) (x : Int) (hx : x = c.toNat) (wq : World) (h : Bld wq B b acc) (hl : acc.length + 1 ≤ 140737488355328) (hB : B ≤ wq.heap.size) => writeByteI B b acc c x hx wq h hl hB
  have hsz : (⟨t.toArray⟩ : ByteArray).size = t.length := by show t.toArray.size = _; simp
  obtain ⟨s, hs⟩ : ∃ s : ByteArray, s = ⟨t.toArray⟩ := ⟨_, rfl⟩
  obtain rfl : t = s.data.toList := by rw [hs]
  rw [← hs] at hsz ⊢
  have hq := quoteJ_q s.data.toList
  rw [quoteJ_len] at hlen
  rw [hq]
  have hsl : s.data.toList.length = s.size := rfl
  have hqt := qL_take s.data.toList
  have hge := qL_ge s.data.toList
  obtain ⟨T, hT⟩ : ∃ T, (qL s.data.toList).length = T := ⟨_, rfl⟩
  rw [hT] at hlen hqt hge
  rw [hsl] at hge
  have QT := Lib.hid hqt; have HT := Lib.hid hT; clear hqt hT
  clear hs hsz hq
  have W1 := Lib.hid w1; have HH := Lib.hid h
  clear w1 h
  go_enter Tryd.func38, Tryd.ntmps38
  go_wp2_with (go_at_call 39; with_reducible refine (W1.out acc 34 34 rfl _ HH.out (by omega) hBw).mono ?_; rintro e1 w1 ⟨rfl, hb1, hw1, -⟩)
  go_loopw [10] (fun i wr => ∃ k : Nat, k ≤ s.size ∧ i = .int .i64 k ∧ Bld wr B b (acc ++ 34 :: qL (s.data.toList.take k)) ∧ Below B w wr) (fun i _ => s.size - (intOf i).toNat)
  case atStart => exact ⟨0, Nat.zero_le _, rfl, by simpa [qL] using hb1, hw1⟩
  case round =>
    obtain ⟨k, hk, rfl, hbl, hbw⟩ := hrel
    have hbs : B ≤ wr.heap.size := Nat.le_trans hBw hbw.size
    by_cases hlt : k < s.size
    · have hsn := take_snoc s k hlt
      have hqk := QT.out (k + 1)
      have hn : acc ++ 34 :: qL (s.data.toList.take (k + 1)) = (acc ++ 34 :: qL (s.data.toList.take k)) ++ quoteC s[k] := by rw [hsn, qL_snoc]; simp
      have hl2 : (acc ++ 34 :: qL (s.data.toList.take k)).length + (quoteC s[k]).length + 1 ≤ 140737488355328 := by
        have := congrArg List.length hn
        rw [List.length_append, List.length_append, List.length_cons] at this
        rw [List.length_append, List.length_cons]
        rw [List.length_append, List.length_cons] at this
        omega
      have hu := s[k].toNat_lt
      generalize acc ++ 34 :: qL (s.data.toList.take k) = ac at *
      have HN := Lib.hid hn; have HBL := Lib.hid hbl
      clear hn hsn hqk hb1 hw1 hbl
      have hshr : (s[k].toNat : Int) / 16 < 16 := by omega
      by_cases hp : s[k] = 34 ∨ s[k] = 92
      · have hq : quoteC s[k] = [92] ++ [s[k]] := by unfold quoteC; rw [if_pos hp]; rfl
        have HQ := Lib.hid hq
        rw [hq] at hl2
        have hl2' : ac.length + 3 ≤ 140737488355328 := hl2
        by_cases h34 : s[k] = 34
        · have t1 : ((s[k].toNat : Int) == 34) = true := by rw [h34]; rfl
          have H34 := Lib.hid h34; clear h34 hp hq
          go_wp2_with (first
            | (go_at_call 39; with_reducible refine (W1.out ac 92 92 rfl _ HBL.out (by omega) hbs).mono ?_; rintro e2 w2 ⟨rfl, hb2, hw2, -⟩)
            | (go_at_call 39; with_reducible refine (W1.out (ac ++ [92]) s[k] _ rfl _ hb2 (by simp; omega) (Nat.le_trans hbs hw2.size)).mono ?_; rintro e3 w3 ⟨rfl, hb3, hw3, -⟩))
          go_roundw
          case rel => exact ⟨k + 1, by omega, by go_num, by rw [HN.out, HQ.out]; simpa using hb3, (hbw.trans hw2).trans hw3⟩
          case measure => simp [intOf]; omega
        · have h92 : s[k] = 92 := by rcases hp with h | h; exact absurd h h34; exact h
          have t1 : ((s[k].toNat : Int) == 34) = false := by rw [h92]; rfl
          have t2 : ((s[k].toNat : Int) == 92) = true := by rw [h92]; rfl
          have H34 := Lib.hid h34; have H92 := Lib.hid h92; clear h34 h92 hp hq
          go_wp2_with (first
            | (go_at_call 39; with_reducible refine (W1.out ac 92 92 rfl _ HBL.out (by omega) hbs).mono ?_; rintro e2 w2 ⟨rfl, hb2, hw2, -⟩)
            | (go_at_call 39; with_reducible refine (W1.out (ac ++ [92]) s[k] _ rfl _ hb2 (by simp; omega) (Nat.le_trans hbs hw2.size)).mono ?_; rintro e3 w3 ⟨rfl, hb3, hw3, -⟩))
          go_roundw
          case rel => exact ⟨k + 1, by omega, by go_num, by rw [HN.out, HQ.out]; simpa using hb3, (hbw.trans hw2).trans hw3⟩
          case measure => simp [intOf]; omega
      · have h34 : s[k].toNat ≠ 34 := fun e => hp (Or.inl (UInt8.toNat_inj.1 e))
        have h92 : s[k].toNat ≠ 92 := fun e => hp (Or.inr (UInt8.toNat_inj.1 e))
        have t1 : ((s[k].toNat : Int) == 34) = false := by simp; omega
        have t2 : ((s[k].toNat : Int) == 92) = false := by simp; omega
        by_cases h32 : s[k].toNat < 32
        · have t3 : decide ((s[k].toNat : Int) < 32) = true := by simp; omega
          have hq : quoteC s[k] = [92, 117, 48, 48] ++ [UInt8.ofNat (48 + s[k].toNat / 16)] ++ [hexl (s[k].toNat % 16)] := by unfold quoteC; rw [if_neg hp, if_pos h32]; rfl
          rw [hq] at hl2
          have hl2' : ac.length + 7 ≤ 140737488355328 := hl2
          have hx1 := hexs_low s[k] h32
          have hx2 := hexl_low s[k]
          have ha := and15 (s[k].toNat : Int) (by omega) (by omega)
          have HQ := Lib.hid hq; have HP := Lib.hid hp
          have HX1 := Lib.hid hx1; have HX2 := Lib.hid hx2
          have ws : ∀ wq : World, Bld wq B b ac → B ≤ wq.heap.size → Calls Tryd.prog 35 #[.pointer (some ⟨b, 0, none⟩), .string ⟨#[92, 117, 48, 48]⟩] wq fun e w' => e = .returned (.tuple #[.int .i64 4, .nilIface]) ∧ Bld w' B b (ac ++ [92, 117, 48, 48]) ∧ Below B wq w' ∧ Keeps b wq w' := fun wq h hB => writeString_any B b ac ⟨#[92, 117, 48, 48]⟩ wq h (by show ac.length + 4 ≤ 140737488355328; omega) hB
          have WS := Lib.hid ws
          clear hq hp ws h34 h92 hx1 hx2
          go_wp2_with (first
            | (go_at_call 35; with_reducible refine (WS.out _ HBL.out hbs).mono ?_; rintro e2 w2 ⟨rfl, hb2, hw2, -⟩)
            | (go_at_call 39; with_reducible refine (W1.out (ac ++ [92, 117, 48, 48]) (UInt8.ofNat (48 + s[k].toNat / 16)) _ (HX1.out _) _ hb2 (by simp; omega) (Nat.le_trans hbs hw2.size)).mono ?_; rintro e3 w3 ⟨rfl, hb3, hw3, -⟩)
            | (go_at_call 39; with_reducible refine (W1.out ((ac ++ [92, 117, 48, 48]) ++ [UInt8.ofNat (48 + s[k].toNat / 16)]) (hexl (s[k].toNat % 16)) _ (HX2.out _) _ hb3 (by simp; omega) (Nat.le_trans hbs (Nat.le_trans hw2.size hw3.size))).mono ?_; rintro e4 w4 ⟨rfl, hb4, hw4, -⟩))
          go_roundw
          case rel => exact ⟨k + 1, by omega, by go_num, by rw [HN.out, HQ.out]; simpa using hb4, ((hbw.trans hw2).trans hw3).trans hw4⟩
          case measure => simp [intOf]; omega
        · have t3 : decide ((s[k].toNat : Int) < 32) = false := by simp; omega
          have hq : quoteC s[k] = [s[k]] := by unfold quoteC; rw [if_neg hp, if_neg h32]
          rw [hq] at hl2
          have hl2' : ac.length + 2 ≤ 140737488355328 := hl2
          have HQ := Lib.hid hq; have HP := Lib.hid hp
          clear hq hp
          go_wp2_with (go_at_call 39; with_reducible refine (W1.out ac s[k] _ rfl _ HBL.out (by omega) hbs).mono ?_; rintro e2 w2 ⟨rfl, hb2, hw2, -⟩)
          go_roundw
          case rel => exact ⟨k + 1, by omega, by go_num, by rw [HN.out, HQ.out]; exact hb2, hbw.trans hw2⟩
          case measure => simp [intOf]; omega
    · obtain rfl : k = s.size := by omega
      rw [take_all] at hbl
      go_wp2_with (go_at_call 39; with_reducible refine (W1.out _ 34 34 rfl _ hbl (by have := HT.out; simp; omega) hbs).mono ?_; rintro e2 w2 ⟨rfl, hb2, hw2, -⟩)
      go_end0
      exact ⟨rfl, by simpa using hb2, hbw.trans hw2⟩
end Go.Proofs.YtoijjcbcmjdggaaDoor
