/- Texts merged by program, in build order: JsonCQuote, JsonCode, JsonCodeV, JwkText. -/
import Derived.Test.YtjgjajnpbcghmaaDoorM03
import Derived.Test.YtjgjajnpbcghmaaDoorM02
import Derived.Lib.ParseIntB
import Derived.Test.YtjgjajnpbcghmaaDoorM01
namespace Go.Proofs.YtjgjajnpbcghmaaDoor
open Go.RowKit

theorem itoa_dec (n : Int) : Lib.itoa n = decI n := by
  have h : ∀ u : Nat, Lib.decDigits u = decL u := by
    intro u
    induction u using Nat.strongRecOn with
    | _ u ih =>
      rw [Lib.decDigits, decL]
      by_cases h : u < 10
      · rw [dif_pos h, if_pos h]; unfold digit; rw [Nat.mod_eq_of_lt h]
      · rw [dif_neg h, if_neg h, ih (u / 10) (by omega)]; rfl
  unfold Lib.itoa decI
  by_cases hn : n < 0
  · rw [if_pos hn, if_pos hn, h]
  · rw [if_neg hn, if_neg hn, h]
    congr 1; omega
theorem hexs_low (c : UInt8) (h32 : c.toNat < 32) (h2 : c.toNat / 16 < (⟨#[48, 49, 50, 51, 52, 53, 54, 55, 56, 57, 97, 98, 99, 100, 101, 102]⟩ : ByteArray).size) : (((⟨#[48, 49, 50, 51, 52, 53, 54, 55, 56, 57, 97, 98, 99, 100, 101, 102]⟩ : ByteArray)[c.toNat / 16].toNat : Nat) : Int) = ((UInt8.ofNat (48 + c.toNat / 16)).toNat : Int) := by
  have h3 : hexJs[c.toNat / 16] = hexl (c.toNat / 16) := hexl_at h2 (by omega)
  change ((hexJs[c.toNat / 16].toNat : Nat) : Int) = _
  generalize hexJs[c.toNat / 16] = q at *
  subst h3
  have : hexl (c.toNat / 16) = UInt8.ofNat (48 + c.toNat / 16) := by unfold hexl; rw [if_pos (by omega)]
  rw [this]
theorem hexl_low (c : UInt8) (h2 : c.toNat % 16 < (⟨#[48, 49, 50, 51, 52, 53, 54, 55, 56, 57, 97, 98, 99, 100, 101, 102]⟩ : ByteArray).size) : (((⟨#[48, 49, 50, 51, 52, 53, 54, 55, 56, 57, 97, 98, 99, 100, 101, 102]⟩ : ByteArray)[c.toNat % 16].toNat : Nat) : Int) = ((hexl (c.toNat % 16)).toNat : Int) := by
  have h3 : hexJs[c.toNat % 16] = hexl (c.toNat % 16) := hexl_at h2 (by omega)
  change ((hexJs[c.toNat % 16].toNat : Nat) : Int) = _
  generalize hexJs[c.toNat % 16] = q at *
  subst h3
  rfl
theorem qL_app (a b : List UInt8) : qL (a ++ b) = qL a ++ qL b := by simp [qL]
theorem qL_take (l : List UInt8) (k : Nat) : (qL (l.take k)).length ≤ (qL l).length := by
  conv => rhs; rw [← List.take_append_drop k l, qL_app, List.length_append]
  omega
theorem quoteC_pos (c : UInt8) : 1 ≤ (quoteC c).length := by
  unfold quoteC; split
  · simp
  · split <;> simp
theorem qL_ge (l : List UInt8) : l.length ≤ (qL l).length := by
  induction l with
  | nil => simp
  | cons c r ih =>
    have := quoteC_pos c
    have e : qL (c :: r) = quoteC c ++ qL r := by simp [qL]
    rw [e, List.length_append, List.length_cons]; omega
theorem quoteJ_len (l : List UInt8) : (quoteJ l).length = (qL l).length + 2 := by rw [quoteJ_q]; simp
theorem writeByteI (B b : Nat) (l : List UInt8) (c : UInt8) (x : Int) (hx : x = c.toNat) (w : World) (h : Bld w B b l) (hlen : l.length + 1 ≤ 140737488355328) (hBw : B ≤ w.heap.size) :
    Calls Tryd.prog 41 #[.pointer (some ⟨b, 0, none⟩), .int .u8 x] w fun e w' => e = .returned .nilIface ∧ Bld w' B b (l ++ [c]) ∧ Below B w w' ∧ Keeps b w w' := by
  subst hx; exact writeByte_any B b l c w h hlen hBw
theorem and15 (x : Int) (h0 : 0 ≤ x) (h1 : x < 256) : bits .and .u8 x 15 = x % 16 :=
  bits_mask .u8 8 (by decide) (fun n h0 h1 => by rw [IntKind.wrap_u8]; omega) 4 (by decide) x h0 h1
set_option maxRecDepth 100000 in
set_option maxHeartbeats 2000000 in
theorem quote_any (B b : Nat) (acc t : List UInt8) (w : World) (hlen : acc.length + (quoteJ t).length ≤ 140737488355328) (h : Bld w B b acc) (hBw : B ≤ w.heap.size) :
    Calls Tryd.prog 40 #[.pointer (some ⟨b, 0, none⟩), .string ⟨t.toArray⟩] w fun e w' => e = .returned (.tuple #[]) ∧ Bld w' B b (acc ++ quoteJ t) ∧ Below B w w' := by
  have w1 := fun (acc : List UInt8) (c : UInt8) (x : Int) (hx : x = c.toNat) (wq : World) (h : Bld wq B b acc) (hl : acc.length + 1 ≤ 140737488355328) (hB : B ≤ wq.heap.size) => writeByteI B b acc c x hx wq h hl hB
  have hsz : (⟨t.toArray⟩ : ByteArray).size = t.length := by show t.toArray.size = _; simp
  obtain ⟨s, hs⟩ : ∃ s : ByteArray, s = ⟨t.toArray⟩ := ⟨_, rfl⟩
  obtain rfl : t = s.data.toList := by rw [hs]
  rw [← hs] at hsz ⊢
  have hq := quoteJ_q s.data.toList
  rw [quoteJ_len] at hlen
  rw [hq]
  have hsl : s.data.toList.length = s.size := rfl
  have hqt := qL_take s.data.toList
  have hge := qL_ge s.data.toList
  obtain ⟨T, hT⟩ : ∃ T, (qL s.data.toList).length = T := ⟨_, rfl⟩
  rw [hT] at hlen hqt hge
  rw [hsl] at hge
  have QT := Lib.hid hqt; have HT := Lib.hid hT; clear hqt hT
  clear hs hsz hq
  have W1 := Lib.hid w1; have HH := Lib.hid h
  clear w1 h
  go_enter Tryd.func40, Tryd.ntmps40
  go_wp2_with (go_at_call 41; with_reducible refine (W1.out acc 34 34 rfl _ HH.out (by omega) hBw).mono ?_; rintro e1 w1 ⟨rfl, hb1, hw1, -⟩)
  go_loopw [10] (fun i wr => ∃ k : Nat, k ≤ s.size ∧ i = .int .i64 k ∧ Bld wr B b (acc ++ 34 :: qL (s.data.toList.take k)) ∧ Below B w wr) (fun i _ => s.size - (intOf i).toNat)
  case atStart => exact ⟨0, Nat.zero_le _, rfl, by simpa [qL] using hb1, hw1⟩
  case round =>
    obtain ⟨k, hk, rfl, hbl, hbw⟩ := hrel
    have hbs : B ≤ wr.heap.size := Nat.le_trans hBw hbw.size
    by_cases hlt : k < s.size
    · have hsn := take_snoc s k hlt
      have hqk := QT.out (k + 1)
      have hn : acc ++ 34 :: qL (s.data.toList.take (k + 1)) = (acc ++ 34 :: qL (s.data.toList.take k)) ++ quoteC s[k] := by rw [hsn, qL_snoc]; simp
      have hl2 : (acc ++ 34 :: qL (s.data.toList.take k)).length + (quoteC s[k]).length + 1 ≤ 140737488355328 := by
        have := congrArg List.length hn
        rw [List.length_append, List.length_append, List.length_cons] at this
        rw [List.length_append, List.length_cons]
        rw [List.length_append, List.length_cons] at this
        omega
      have hu := s[k].toNat_lt
      generalize acc ++ 34 :: qL (s.data.toList.take k) = ac at *
      have HN := Lib.hid hn; have HBL := Lib.hid hbl
      clear hn hsn hqk hb1 hw1 hbl
      have hshr : (s[k].toNat : Int) / 16 < 16 := by omega
      by_cases hp : s[k] = 34 ∨ s[k] = 92
      · have hq : quoteC s[k] = [92] ++ [s[k]] := by unfold quoteC; rw [if_pos hp]; rfl
        have HQ := Lib.hid hq
        rw [hq] at hl2
        have hl2' : ac.length + 3 ≤ 140737488355328 := hl2
        by_cases h34 : s[k] = 34
        · have t1 : ((s[k].toNat : Int) == 34) = true := by rw [h34]; rfl
          have H34 := Lib.hid h34; clear h34 hp hq
          go_wp2_with (first
            | (go_at_call 41; with_reducible refine (W1.out ac 92 92 rfl _ HBL.out (by omega) hbs).mono ?_; rintro e2 w2 ⟨rfl, hb2, hw2, -⟩)
            | (go_at_call 41; with_reducible refine (W1.out (ac ++ [92]) s[k] _ rfl _ hb2 (by simp; omega) (Nat.le_trans hbs hw2.size)).mono ?_; rintro e3 w3 ⟨rfl, hb3, hw3, -⟩))
          go_roundw
          case rel => exact ⟨k + 1, by omega, by go_num, by rw [HN.out, HQ.out]; simpa using hb3, (hbw.trans hw2).trans hw3⟩
          case measure => simp [intOf]; omega
        · have h92 : s[k] = 92 := by rcases hp with h | h; exact absurd h h34; exact h
          have t1 : ((s[k].toNat : Int) == 34) = false := by rw [h92]; rfl
          have t2 : ((s[k].toNat : Int) == 92) = true := by rw [h92]; rfl
          have H34 := Lib.hid h34; have H92 := Lib.hid h92; clear h34 h92 hp hq
          go_wp2_with (first
            | (go_at_call 41; with_reducible refine (W1.out ac 92 92 rfl _ HBL.out (by omega) hbs).mono ?_; rintro e2 w2 ⟨rfl, hb2, hw2, -⟩)
            | (go_at_call 41; with_reducible refine (W1.out (ac ++ [92]) s[k] _ rfl _ hb2 (by simp; omega) (Nat.le_trans hbs hw2.size)).mono ?_; rintro e3 w3 ⟨rfl, hb3, hw3, -⟩))
          go_roundw
          case rel => exact ⟨k + 1, by omega, by go_num, by rw [HN.out, HQ.out]; simpa using hb3, (hbw.trans hw2).trans hw3⟩
          case measure => simp [intOf]; omega
      · have h34 : s[k].toNat ≠ 34 := fun e => hp (Or.inl (UInt8.toNat_inj.1 e))
        have h92 : s[k].toNat ≠ 92 := fun e => hp (Or.inr (UInt8.toNat_inj.1 e))
        have t1 : ((s[k].toNat : Int) == 34) = false := by simp; omega
        have t2 : ((s[k].toNat : Int) == 92) = false := by simp; omega
        by_cases h32 : s[k].toNat < 32
        · have t3 : decide ((s[k].toNat : Int) < 32) = true := by simp; omega
          have hq : quoteC s[k] = [92, 117, 48, 48] ++ [UInt8.ofNat (48 + s[k].toNat / 16)] ++ [hexl (s[k].toNat % 16)] := by unfold quoteC; rw [if_neg hp, if_pos h32]; rfl
          rw [hq] at hl2
          have hl2' : ac.length + 7 ≤ 140737488355328 := hl2
          have hx1 := hexs_low s[k] h32
          have hx2 := hexl_low s[k]
          have ha := and15 (s[k].toNat : Int) (by omega) (by omega)
          have HQ := Lib.hid hq; have HP := Lib.hid hp
          have HX1 := Lib.hid hx1; have HX2 := Lib.hid hx2
          have ws : ∀ wq : World, Bld wq B b ac → B ≤ wq.heap.size → Calls Tryd.prog 37 #[.pointer (some ⟨b, 0, none⟩), .string ⟨#[92, 117, 48, 48]⟩] wq fun e w' => e = .returned (.tuple #[.int .i64 4, .nilIface]) ∧ Bld w' B b (ac ++ [92, 117, 48, 48]) ∧ Below B wq w' ∧ Keeps b wq w' := fun wq h hB => writeString_any B b ac ⟨#[92, 117, 48, 48]⟩ wq h (by show ac.length + 4 ≤ 140737488355328; omega) hB
          have WS := Lib.hid ws
          clear hq hp ws h34 h92 hx1 hx2
          go_wp2_with (first
            | (go_at_call 37; with_reducible refine (WS.out _ HBL.out hbs).mono ?_; rintro e2 w2 ⟨rfl, hb2, hw2, -⟩)
            | (go_at_call 41; with_reducible refine (W1.out (ac ++ [92, 117, 48, 48]) (UInt8.ofNat (48 + s[k].toNat / 16)) _ (HX1.out _) _ hb2 (by simp; omega) (Nat.le_trans hbs hw2.size)).mono ?_; rintro e3 w3 ⟨rfl, hb3, hw3, -⟩)
            | (go_at_call 41; with_reducible refine (W1.out ((ac ++ [92, 117, 48, 48]) ++ [UInt8.ofNat (48 + s[k].toNat / 16)]) (hexl (s[k].toNat % 16)) _ (HX2.out _) _ hb3 (by simp; omega) (Nat.le_trans hbs (Nat.le_trans hw2.size hw3.size))).mono ?_; rintro e4 w4 ⟨rfl, hb4, hw4, -⟩))
          go_roundw
          case rel => exact ⟨k + 1, by omega, by go_num, by rw [HN.out, HQ.out]; simpa using hb4, ((hbw.trans hw2).trans hw3).trans hw4⟩
          case measure => simp [intOf]; omega
        · have t3 : decide ((s[k].toNat : Int) < 32) = false := by simp; omega
          have hq : quoteC s[k] = [s[k]] := by unfold quoteC; rw [if_neg hp, if_neg h32]
          rw [hq] at hl2
          have hl2' : ac.length + 2 ≤ 140737488355328 := hl2
          have HQ := Lib.hid hq; have HP := Lib.hid hp
          clear hq hp
          go_wp2_with (go_at_call 41; with_reducible refine (W1.out ac s[k] _ rfl _ HBL.out (by omega) hbs).mono ?_; rintro e2 w2 ⟨rfl, hb2, hw2, -⟩)
          go_roundw
          case rel => exact ⟨k + 1, by omega, by go_num, by rw [HN.out, HQ.out]; exact hb2, hbw.trans hw2⟩
          case measure => simp [intOf]; omega
    · obtain rfl : k = s.size := by omega
      rw [take_all] at hbl
      go_wp2_with (go_at_call 41; with_reducible refine (W1.out _ 34 34 rfl _ hbl (by have := HT.out; simp; omega) hbs).mono ?_; rintro e2 w2 ⟨rfl, hb2, hw2, -⟩)
      go_end0
      exact ⟨rfl, by simpa using hb2, hbw.trans hw2⟩
end Go.Proofs.YtjgjajnpbcghmaaDoor
namespace Go.Proofs.YtjgjajnpbcghmaaDoor

/-! ## numbers -/
def numC (c : UInt8) : Bool := c == 45 || isDigit c
/-- what stands ahead that a number may hold -/
def numL (s : List UInt8) : List UInt8 := s.takeWhile numC
def numberC (s : List UInt8) : Option (Int × List UInt8) :=
  match Lib.parseIntB 64 (numL s) with
  | .ok n => if decI n = numL s then some (n, s.drop (numL s).length) else none
  | _ => none
def noNum : List UInt8 → Bool
  | [] => true
  | c :: _ => !numC c
theorem numL_app (s : List UInt8) : numL s ++ s.drop (numL s).length = s := by
  unfold numL
  induction s with
  | nil => rfl
  | cons c r ih =>
    rw [List.takeWhile_cons]
    by_cases h : numC c = true
    · rw [if_pos h]; simp [ih]
    · rw [if_neg h]; simp
theorem numberC_only {s r : List UInt8} {n : Int} (h : numberC s = some (n, r)) : s = decI n ++ r := by
  unfold numberC at h
  split at h
  · split at h
    · rename_i e
      injection h with h; injection h with h1 h2
      subst h1
      rw [e, ← h2, numL_app]
    · cases h
  · cases h
theorem decL_all (n : Nat) : ∀ c ∈ decL n, isDigit c = true := by
  induction n using Nat.strongRecOn with
  | _ n ih =>
    intro c hc
    unfold decL at hc
    split at hc
    · rw [List.mem_singleton] at hc; subst hc; exact digit_is n
    · rename_i h
      rcases List.mem_append.1 hc with hc | hc
      · exact ih (n / 10) (by omega) c hc
      · rw [List.mem_singleton] at hc; subst hc; exact digit_is n
theorem takeWhile_all {p : UInt8 → Bool} : ∀ (a r : List UInt8), (∀ c ∈ a, p c = true) → (match r with | [] => true | c :: _ => !p c) = true → (a ++ r).takeWhile p = a
  | [], [], _, _ => rfl
  | [], c :: r, _, h => by
    show (c :: r).takeWhile p = []
    rw [List.takeWhile_cons, if_neg (by simpa using h)]
  | c :: a, r, ha, h => by
    show (c :: (a ++ r)).takeWhile p = c :: a
    rw [List.takeWhile_cons, if_pos (ha c (by simp)), takeWhile_all a r (fun c hc => ha c (by simp [hc])) h]
theorem numL_dec (n : Int) (r : List UInt8) (h : noNum r = true) : numL (decI n ++ r) = decI n := by
  refine takeWhile_all _ _ (fun c hc => ?_) (by cases r with | nil => rfl | cons c r => exact h)
  have hd : isDigit c = true ∨ c = 45 := by
    unfold decI at hc
    split at hc
    · rcases List.mem_cons.1 hc with rfl | hc
      · exact .inr rfl
      · exact .inl (decL_all _ c hc)
    · exact .inl (decL_all _ c hc)
  unfold numC
  rcases hd with h | h
  · rw [h]; simp
  · subst h; rfl
theorem digit_nat (n : Nat) : (digit n).toNat = 48 + n % 10 := by
  unfold digit; rw [UInt8.toNat_ofNat']; omega
theorem parseU_dec (n : Nat) : ∀ (r : List UInt8) (acc : Nat), acc * 10 ^ (decL n).length + n ≤ 9007199254740992 → Lib.parseUintM 18446744073709551615 acc (decL n ++ r) = Lib.parseUintM 18446744073709551615 (acc * 10 ^ (decL n).length + n) r := by
  induction n using Nat.strongRecOn with
  | _ n ih =>
    intro r acc hb
    have step : ∀ (m a : Nat) (r : List UInt8), a * 10 + m % 10 ≤ 9007199254740992 → Lib.parseUintM 18446744073709551615 a (digit m :: r) = Lib.parseUintM 18446744073709551615 (a * 10 + m % 10) r := by
      intro m a r h
      have hd := digit_nat m
      conv => lhs; unfold Lib.parseUintM
      rw [hd]
      rw [if_pos (by omega), if_neg (by omega), if_neg (by omega)]
      congr 1; omega
    by_cases h : n < 10
    · have e : decL n = [digit n] := by unfold decL; rw [if_pos h]
      rw [e] at hb ⊢
      simp only [List.length_singleton, Nat.pow_one] at hb ⊢
      show Lib.parseUintM _ acc (digit n :: r) = _
      rw [step n acc r (by omega), Nat.mod_eq_of_lt h]
    · have e : decL n = decL (n / 10) ++ [digit n] := by rw [decL, if_neg h]
      have hp : acc * 10 ^ (decL n).length + n = (acc * 10 ^ (decL (n / 10)).length + n / 10) * 10 + n % 10 := by
        rw [e, List.length_append, List.length_singleton, Nat.pow_succ, ← Nat.mul_assoc, Nat.add_mul]
        omega
      rw [hp] at hb ⊢
      rw [e, List.append_assoc, ih (n / 10) (by omega) _ acc (by omega)]
      exact step n _ r hb
theorem parseI_dec (n : Int) (hn : -9007199254740992 ≤ n ∧ n ≤ 9007199254740992) : Lib.parseIntB 64 (decI n) = .ok n := by
  have hu : Lib.parseUintB 64 (decL n.natAbs) = .ok n.natAbs := by
    have h := parseU_dec n.natAbs [] 0 (by omega)
    unfold Lib.parseUintB
    rw [if_neg (by intro e; have := decL_pos n.natAbs; rw [e] at this; simp at this)]
    simp only [List.append_nil, Nat.zero_mul, Nat.zero_add] at h
    exact h
  obtain ⟨c, r, e, hc⟩ := decL_first n.natAbs
  unfold decI
  by_cases h : n < 0
  · rw [if_pos h]
    unfold Lib.parseIntB
    simp only
    rw [if_pos (by decide), hu]
    simp only
    rw [if_neg (by simp), if_neg (by omega), if_pos (show (45 : UInt8).toNat = 45 from rfl)]
    congr 1; omega
  · rw [if_neg h]
    rw [e] at hu ⊢
    unfold Lib.parseIntB
    simp only
    have hcd : 48 ≤ c.toNat ∧ c.toNat ≤ 57 := by unfold isDigit at hc; simpa using hc
    rw [if_neg (by omega), hu]
    simp only
    rw [if_neg (by omega), if_neg (by omega), if_neg (by omega)]
    congr 1; omega
theorem parseI_in {l : List UInt8} {v : Int} (h : Lib.parseIntB 64 l = .ok v) : -9223372036854775808 ≤ v ∧ v ≤ 9223372036854775807 := by
  unfold Lib.parseIntB at h
  split at h
  · cases h
  · simp only at h
    split at h
    · cases h
    · cases h
    · split at h
      · cases h
      · split at h
        · cases h
        · rename_i h1 h2
          injection h with h
          have e : (2 : Nat) ^ (64 - 1) = 9223372036854775808 := by decide
          rw [e] at h1 h2
          subst h
          split
          · rename_i hn; constructor
            · have : ¬ (9223372036854775808 < _) := fun hh => h2 ⟨hn, hh⟩
              omega
            · omega
          · rename_i hn; constructor
            · omega
            · have : ¬ (9223372036854775808 ≤ _) := fun hh => h1 ⟨hn, hh⟩
              omega
theorem numberC_back (n : Int) (hn : -9007199254740992 ≤ n ∧ n ≤ 9007199254740992) (r : List UInt8) (hr : noNum r = true) : numberC (decI n ++ r) = some (n, r) := by
  unfold numberC
  rw [numL_dec n r hr, parseI_dec n hn]
  simp

/-! ## texts -/
/-- a small hexadecimal digit's number; -1: none -/
def hexC (c : UInt8) : Int := if 48 ≤ c.toNat ∧ c.toNat ≤ 57 then c.toNat - 48 else if 97 ≤ c.toNat ∧ c.toNat ≤ 102 then c.toNat - 87 else -1
theorem hexC_all : ∀ n : Fin 256, 0 ≤ hexC (UInt8.ofNat n.val) → hexl (hexC (UInt8.ofNat n.val)).toNat = UInt8.ofNat n.val ∧ (hexC (UInt8.ofNat n.val)).toNat < 16 := by decide +kernel
theorem hexC_is (c : UInt8) (h : 0 ≤ hexC c) : hexl (hexC c).toNat = c ∧ (hexC c).toNat < 16 := by
  have hh := hexC_all ⟨c.toNat, c.toNat_lt⟩
  simp only [UInt8.ofNat_toNat] at hh
  exact hh h
theorem hexC_hexl (n : Nat) (h : n < 16) : hexC (hexl n) = n := by
  have : ∀ n : Fin 16, hexC (hexl n.val) = (n.val : Int) := by decide +kernel
  exact this ⟨n, h⟩
/-- behind a text's first sign: the text, and what is behind its end -/
def quotC : List UInt8 → List UInt8 → Option (List UInt8 × List UInt8)
  | [], _ => none
  | c :: r, acc =>
    if c = 34 then some (acc, r)
    else if c = 92 then
      match r with
      | e :: r' =>
        if e = 34 ∨ e = 92 then quotC r' (acc ++ [e])
        else match r' with
          | x :: y :: h :: l :: r'' => if e = 117 ∧ x = 48 ∧ y = 48 ∧ (h = 48 ∨ h = 49) ∧ 0 ≤ hexC l then quotC r'' (acc ++ [UInt8.ofNat (16 * (h.toNat - 48) + (hexC l).toNat)]) else none
          | _ => none
      | [] => none
    else if c.toNat < 32 then none else quotC r (acc ++ [c])
theorem quotC_back (t r : List UInt8) : ∀ acc : List UInt8, quotC (quoteT t ++ r) acc = some (acc ++ t, r) := by
  induction t with
  | nil => intro acc; rw [quoteT]; unfold quotC; simp
  | cons c t ih =>
    intro acc
    rw [quoteT]
    by_cases h : c = 34 ∨ c = 92
    · rw [quoteC, if_pos h, List.append_assoc]
      show quotC (92 :: c :: (quoteT t ++ r)) acc = _
      unfold quotC
      rw [if_neg (by decide), if_pos rfl]
      simp only [h, if_true]
      rw [ih]; simp
    · by_cases h2 : c.toNat < 32
      · rw [quoteC, if_neg h, if_pos h2, List.append_assoc]
        show quotC (92 :: 117 :: 48 :: 48 :: UInt8.ofNat (48 + c.toNat / 16) :: hexl (c.toNat % 16) :: (quoteT t ++ r)) acc = _
        have e2 := hexC_hexl (c.toNat % 16) (by omega)
        have hh : (UInt8.ofNat (48 + c.toNat / 16)).toNat = 48 + c.toNat / 16 := by rw [UInt8.toNat_ofNat']; omega
        have h01 : UInt8.ofNat (48 + c.toNat / 16) = 48 ∨ UInt8.ofNat (48 + c.toNat / 16) = 49 := by
          have : c.toNat / 16 = 0 ∨ c.toNat / 16 = 1 := by omega
          rcases this with h | h
          · rw [h]; exact .inl rfl
          · rw [h]; exact .inr rfl
        have e3 : UInt8.ofNat (16 * ((UInt8.ofNat (48 + c.toNat / 16)).toNat - 48) + (hexC (hexl (c.toNat % 16))).toNat) = c := by
          rw [e2, hh]
          have : 16 * (48 + c.toNat / 16 - 48) + ((c.toNat % 16 : Nat) : Int).toNat = c.toNat := by omega
          rw [this]; exact UInt8.ofNat_toNat
        unfold quotC
        rw [if_neg (by decide), if_pos rfl]
        dsimp only
        rw [if_neg (by decide), if_pos ⟨rfl, rfl, rfl, h01, by rw [e2]; omega⟩, e3, ih]
        simp
      · have h3 : c ≠ 34 := fun e => h (Or.inl e)
        have h4 : c ≠ 92 := fun e => h (Or.inr e)
        rw [quoteC, if_neg h, if_neg h2, List.append_assoc]
        show quotC (c :: (quoteT t ++ r)) acc = _
        unfold quotC
        rw [if_neg h3, if_neg h4, if_neg h2, ih]; simp
theorem quotC_only (m : Nat) : ∀ (s acc t r : List UInt8), s.length ≤ m → quotC s acc = some (t, r) → ∃ t', t = acc ++ t' ∧ s = quoteT t' ++ r := by
  induction m with
  | zero =>
    intro s acc t r hm h
    obtain rfl : s = [] := List.length_eq_zero_iff.1 (by omega)
    unfold quotC at h; cases h
  | succ m ih =>
    intro s acc t r hm h
    cases s with
    | nil => unfold quotC at h; cases h
    | cons c s =>
      have hm' : s.length ≤ m := by simpa using hm
      unfold quotC at h
      by_cases h34 : c = 34
      · rw [if_pos h34] at h
        injection h with h; injection h with h1 h2
        subst h1; subst h2; subst h34
        exact ⟨[], by simp, rfl⟩
      · rw [if_neg h34] at h
        by_cases h92 : c = 92
        · rw [if_pos h92] at h
          subst h92
          cases s with
          | nil => cases h
          | cons e s =>
            simp only at h
            by_cases he : e = 34 ∨ e = 92
            · rw [if_pos he] at h
              obtain ⟨t', e1, e2⟩ := ih s _ t r (by simp at hm'; omega) h
              refine ⟨e :: t', by rw [e1]; simp, ?_⟩
              rw [quoteT, quoteC, if_pos he, e2]; simp
            · rw [if_neg he] at h
              rcases s with _ | ⟨x, _ | ⟨y, _ | ⟨hh, _ | ⟨l, s⟩⟩⟩⟩
              · cases h
              · cases h
              · cases h
              · cases h
              · simp only at h
                by_cases hc : e = 117 ∧ x = 48 ∧ y = 48 ∧ (hh = 48 ∨ hh = 49) ∧ 0 ≤ hexC l
                · rw [if_pos hc] at h
                  obtain ⟨rfl, rfl, rfl, h01, hl⟩ := hc
                  obtain ⟨t', e1, e2⟩ := ih s _ t r (by simp at hm'; omega) h
                  obtain ⟨hx1, hx2⟩ := hexC_is l hl
                  refine ⟨UInt8.ofNat (16 * (hh.toNat - 48) + (hexC l).toNat) :: t', by rw [e1]; simp, ?_⟩
                  have hhn : hh.toNat = 48 ∨ hh.toNat = 49 := by rcases h01 with rfl | rfl; exact .inl rfl; exact .inr rfl
                  have hbn : (UInt8.ofNat (16 * (hh.toNat - 48) + (hexC l).toNat)).toNat = 16 * (hh.toNat - 48) + (hexC l).toNat := by rw [UInt8.toNat_ofNat']; omega
                  have hq : quoteC (UInt8.ofNat (16 * (hh.toNat - 48) + (hexC l).toNat)) = [92, 117, 48, 48, hh, l] := by
                    obtain ⟨b, hb⟩ : ∃ b, b = UInt8.ofNat (16 * (hh.toNat - 48) + (hexC l).toNat) := ⟨_, rfl⟩
                    rw [← hb] at hbn ⊢
                    unfold quoteC
                    rw [if_neg (by
                      rintro (e | e)
                      · rw [e] at hbn; have : (34 : UInt8).toNat = 34 := rfl; omega
                      · rw [e] at hbn; have : (92 : UInt8).toNat = 92 := rfl; omega), if_pos (by omega)]
                    have d1 : UInt8.ofNat (48 + b.toNat / 16) = hh := by
                      have : 48 + b.toNat / 16 = hh.toNat := by omega
                      rw [this]; exact UInt8.ofNat_toNat
                    have d2 : hexl (b.toNat % 16) = l := by
                      have : b.toNat % 16 = (hexC l).toNat := by omega
                      rw [this]; exact hx1
                    rw [d1, d2]
                  rw [quoteT, hq, e2]; simp
                · rw [if_neg hc] at h; cases h
        · rw [if_neg h92] at h
          by_cases h32 : c.toNat < 32
          · rw [if_pos h32] at h; cases h
          · rw [if_neg h32] at h
            obtain ⟨t', e1, e2⟩ := ih s _ t r hm' h
            refine ⟨c :: t', by rw [e1]; simp, ?_⟩
            rw [quoteT, quoteC, if_neg (fun h => h.elim h34 h92), if_neg h32, e2]; simp
/-- a text between " at the front, and what is behind it -/
def quotedC (s : List UInt8) : Option (List UInt8 × List UInt8) := if beginsB s [34] then quotC (s.drop 1) [] else none
theorem begins_one {s : List UInt8} {c : UInt8} (h : beginsB s [c] = true) : s = c :: s.drop 1 := by
  cases s with
  | nil => simp [beginsB] at h
  | cons d r =>
    rw [begins_cons] at h
    have : d = c := by simpa using h
    subst this; rfl
theorem quotedC_back (t r : List UInt8) : quotedC (quoteJ t ++ r) = some (t, r) := by
  unfold quotedC quoteJ
  show (if beginsB (34 :: (quoteT t ++ r)) [34] then quotC (quoteT t ++ r) [] else none) = _
  rw [b_same, if_pos rfl, quotC_back]; rfl
theorem quotedC_only {s t r : List UInt8} (h : quotedC s = some (t, r)) : s = quoteJ t ++ r := by
  unfold quotedC at h
  split at h
  · rename_i hb
    have e := begins_one hb
    obtain ⟨t', e1, e2⟩ := quotC_only _ _ [] t r (Nat.le_refl _) h
    rw [e, e2]
    have : t' = t := by simpa using e1.symm
    rw [this]; rfl
  · cases h
end Go.Proofs.YtjgjajnpbcghmaaDoor
namespace Go.Proofs.YtjgjajnpbcghmaaDoor

mutual
/-- the value at the front, and what is behind it -/
def valueC : Nat → List UInt8 → Option (V × List UInt8)
  | 0, _ => none
  | f + 1, s =>
    if beginsB s nullT then some (.mk 1 0 [] [] [], s.drop 4) else if beginsB s trueT then some (.mk 2 1 [] [] [], s.drop 4) else if beginsB s falseT then some (.mk 2 0 [] [] [], s.drop 5)
    else if beginsB s [34] then (match quotedC s with
      | some (t, r) => some (.mk 4 0 t [] [], r)
      | none => none)
    else if beginsB s [91] then (if beginsB (s.drop 1) [93] then some (.mk 5 0 [] [] [], s.drop 2) else groupC f false (s.drop 1) [] [])
    else if beginsB s [123] then (if beginsB (s.drop 1) [125] then some (.mk 6 0 [] [] [], s.drop 2) else groupC f true (s.drop 1) [] [])
    else (match numberC s with
      | some (n, r) => some (.mk 3 n [] [] [], r)
      | none => none)
/-- what a list, or an object, holds behind so many keys and values, and what is behind its end -/
def groupC : Nat → Bool → List UInt8 → List (List UInt8) → List V → Option (V × List UInt8)
  | 0, _, _, _, _ => none
  | f + 1, obj, s, ks, l =>
    match (if obj then (match quotedC s with
      | some (t, r) => if beginsB r [58] then some (ks ++ [t], r.drop 1) else none
      | none => none) else some (ks, s)) with
    | none => none
    | some (ks', s') =>
      match valueC f s' with
      | none => none
      | some (x, r) =>
        if beginsB r [44] then groupC f obj (r.drop 1) ks' (l ++ [x])
        else if beginsB r [if obj then 125 else 93] then some (.mk (if obj then 6 else 5) 0 [] (l ++ [x]) ks', r.drop 1)
        else none
end
theorem items_two (x y : V) (r : List V) : V.items (x :: y :: r) = x.show ++ (44 : UInt8) :: V.items (y :: r) := by rw [items_cons, itemsMore_cons, items_cons]
theorem pairs_two (x y : V) (r : List V) (k : List UInt8) (ks : List (List UInt8)) : V.pairs (x :: y :: r) (k :: ks) = quoteJ k ++ (58 : UInt8) :: (x.show ++ (44 : UInt8) :: V.pairs (y :: r) ks) := by
  rw [pairs_cons, pairsMore_cons, pairs_cons]; rfl
theorem begins_full {s t : List UInt8} (h : beginsB s t = true) : s = t ++ s.drop t.length := by
  unfold beginsB at h
  have : s.take t.length = t := by simpa using h
  conv => lhs; rw [← List.take_append_drop t.length s, this]
/-- what is read is a value's text -/
def OnlyV (f : Nat) : Prop := ∀ (s : List UInt8) (v : V) (r : List UInt8), valueC f s = some (v, r) → s = v.show ++ r
def OnlyG (f : Nat) : Prop := ∀ (obj : Bool) (s : List UInt8) (ks : List (List UInt8)) (l : List V) (v : V) (r : List UInt8), groupC f obj s ks l = some (v, r) →
  ∃ x l2 ks2, v = .mk (if obj then 6 else 5) 0 [] (l ++ x :: l2) (ks ++ ks2) ∧ (if obj then ks2.length = l2.length + 1 ∧ s = V.pairs (x :: l2) ks2 ++ 125 :: r else ks2 = [] ∧ s = V.items (x :: l2) ++ 93 :: r)
theorem onlyV (f : Nat) (hg : OnlyG f) : OnlyV (f + 1) := by
  intro s v r h
  unfold valueC at h
  split at h
  · rename_i hb
    injection h with h; injection h with h1 h2
    rw [← h1, ← h2, show_one]; exact begins_full hb
  · split at h
    · rename_i hb
      injection h with h; injection h with h1 h2
      rw [← h1, ← h2, show_two, if_pos rfl]; exact begins_full hb
    · split at h
      · rename_i hb
        injection h with h; injection h with h1 h2
        rw [← h1, ← h2, show_two, if_neg (by decide)]; exact begins_full hb
      · split at h
        · split at h
          · rename_i hq
            injection h with h; injection h with h1 h2
            rw [← h1, ← h2, show_four]; exact quotedC_only hq
          · cases h
        · split at h
          · rename_i hb
            have e := begins_one hb
            split at h
            · rename_i hb2
              have e2 := begins_one hb2
              injection h with h; injection h with h1 h2
              rw [← h1, ← h2, show_list, items_nil]
              rw [List.drop_drop] at e2
              conv => lhs; rw [e, e2]
              rfl
            · obtain ⟨x, l2, ks2, e1, e2⟩ := hg _ _ _ _ _ _ h
              simp only [Bool.false_eq_true, if_false] at e1 e2
              obtain ⟨rfl, e2⟩ := e2
              rw [e1, show_list]
              conv => lhs; rw [e, e2]
              simp
          · split at h
            · rename_i hb
              have e := begins_one hb
              split at h
              · rename_i hb2
                have e2 := begins_one hb2
                injection h with h; injection h with h1 h2
                rw [← h1, ← h2, show_object, pairs_nil]
                rw [List.drop_drop] at e2
                conv => lhs; rw [e, e2]
                rfl
              · obtain ⟨x, l2, ks2, e1, e2⟩ := hg _ _ _ _ _ _ h
                simp only [if_true] at e1 e2
                obtain ⟨_, e2⟩ := e2
                rw [e1, show_object]
                conv => lhs; rw [e, e2]
                simp
            · split at h
              · rename_i hn
                injection h with h; injection h with h1 h2
                rw [← h1, ← h2, show_three]; exact numberC_only hn
              · cases h
theorem onlyG (f : Nat) (hv : OnlyV f) (hg : OnlyG f) : OnlyG (f + 1) := by
  intro obj s ks l v r h
  unfold groupC at h
  cases obj with
  | false =>
    simp only [Bool.false_eq_true, if_false] at h ⊢
    split at h
    · cases h
    · rename_i x r1 hx
      have e := hv _ _ _ hx
      split at h
      · rename_i hb
        have e1 := begins_one hb
        obtain ⟨y, l2, ks2, h1, h2⟩ := hg _ _ _ _ _ _ h
        simp only [Bool.false_eq_true, if_false] at h1 h2
        obtain ⟨rfl, h2⟩ := h2
        refine ⟨x, y :: l2, [], by rw [h1]; simp, rfl, ?_⟩
        rw [items_two, e, e1, h2]; simp
      · split at h
        · rename_i hb
          have e1 := begins_one hb
          injection h with h; injection h with h1 h2
          refine ⟨x, [], [], by rw [← h1]; simp, rfl, ?_⟩
          rw [items_cons, itemsMore_nil, e, e1, ← h2]; simp
        · cases h
  | true =>
    simp only [if_true] at h ⊢
    split at h
    · cases h
    · rename_i ks' s' hk
      split at hk
      · rename_i t r0 hq
        have eq := quotedC_only hq
        split at hk
        · rename_i hb0
          have e0 := begins_one hb0
          injection hk with hk; injection hk with hk1 hk2
          subst hk1
          rw [← hk2] at h
          split at h
          · cases h
          · rename_i x r1 hx
            have e := hv _ _ _ hx
            split at h
            · rename_i hb
              have e1 := begins_one hb
              obtain ⟨y, l2, ks2, h1, h2⟩ := hg _ _ _ _ _ _ h
              simp only [if_true] at h1 h2
              obtain ⟨hl, h2⟩ := h2
              refine ⟨x, y :: l2, t :: ks2, by rw [h1]; simp, by simp [hl], ?_⟩
              rw [pairs_two, eq, e0, e, e1, h2]
              simp only [List.append_assoc, List.cons_append]
            · split at h
              · rename_i hb
                have e1 := begins_one hb
                injection h with h; injection h with h1 h2
                refine ⟨x, [], [t], by rw [← h1], rfl, ?_⟩
                have q1 : s = quoteJ t ++ 58 :: (x.show ++ 125 :: r1.drop 1) := by rw [← e1, ← e, ← e0]; exact eq
                rw [pairs_cons, pairsMore_nil, q1, ← h2]; simp
              · cases h
        · cases hk
      · cases hk
theorem only_all : ∀ f, OnlyV f ∧ OnlyG f
  | 0 => by
    constructor
    · intro s v r h; unfold valueC at h; cases h
    · intro obj s ks l v r h; unfold groupC at h; cases h
  | f + 1 => ⟨onlyV f (only_all f).2, onlyG f (only_all f).1 (only_all f).2⟩

/-! ## every good value's text is read -/
theorem noNum_cons {c : UInt8} {r : List UInt8} (h : numC c = false) : noNum (c :: r) = true := by simp [noNum, h]
def BkV (f : Nat) : Prop := ∀ (v : V) (d : Nat) (r : List UInt8), v.fits d = true → v.size ≤ f → noNum r = true → valueC f (v.show ++ r) = some (v, r)
def BkL (f : Nat) : Prop := ∀ (x : V) (l : List V) (d : Nat) (acc : List V) (r : List UInt8), x.fits d = true → V.fitsAll l d = true → V.sizes (x :: l) ≤ f → groupC f false (V.items (x :: l) ++ 93 :: r) [] acc = some (.mk 5 0 [] (acc ++ x :: l) [], r)
def BkO (f : Nat) : Prop := ∀ (k : List UInt8) (x : V) (l : List V) (ks : List (List UInt8)) (d : Nat) (akc : List (List UInt8)) (acc : List V) (r : List UInt8), x.fits d = true → V.fitsAll l d = true → V.sizes (x :: l) ≤ f → ks.length = l.length →
  groupC f true (V.pairs (x :: l) (k :: ks) ++ 125 :: r) akc acc = some (.mk 6 0 [] (acc ++ x :: l) (akc ++ k :: ks), r)
theorem bkL (f : Nat) (ihV : BkV f) (ihL : BkL f) : BkL (f + 1) := by
  intro x l d acc r hx hl hs
  rw [sizes_cons] at hs
  unfold groupC
  simp only [Bool.false_eq_true, if_false]
  cases l with
  | nil =>
    have e : V.items [x] ++ 93 :: r = x.show ++ 93 :: r := by rw [items_cons, itemsMore_nil]; simp
    rw [e, ihV x d _ hx (by omega) (noNum_cons rfl)]
    simp only
    rw [b_one (d := 44) (by decide), b_same]; simp
  | cons y l =>
    have e : V.items (x :: y :: l) ++ 93 :: r = x.show ++ 44 :: (V.items (y :: l) ++ 93 :: r) := by rw [items_two]; simp
    rw [e, ihV x d _ hx (by omega) (noNum_cons rfl)]
    simp only
    rw [b_same, if_pos rfl]
    unfold V.fitsAll at hl
    simp only [Bool.and_eq_true] at hl
    show groupC f false (V.items (y :: l) ++ 93 :: r) [] (acc ++ [x]) = _
    rw [ihL y l d (acc ++ [x]) r hl.1 hl.2 (by omega)]
    simp
theorem bkO (f : Nat) (ihV : BkV f) (ihO : BkO f) : BkO (f + 1) := by
  intro k x l ks d akc acc r hx hl hs hk
  rw [sizes_cons] at hs
  unfold groupC
  simp only [if_true]
  cases l with
  | nil =>
    obtain rfl : ks = [] := List.length_eq_zero_iff.1 hk
    have e : V.pairs [x] [k] ++ 125 :: r = quoteJ k ++ 58 :: (x.show ++ 125 :: r) := by rw [pairs_cons, pairsMore_nil]; simp
    rw [e, quotedC_back]
    simp only
    rw [b_same, if_pos rfl]
    show (match valueC f (x.show ++ 125 :: r) with | none => none | some (x, r) => _) = _
    rw [ihV x d _ hx (by omega) (noNum_cons rfl)]
    simp only
    rw [b_one (d := 44) (by decide), b_same]; simp
  | cons y l =>
    cases ks with
    | nil => simp at hk
    | cons k2 ks =>
      have e : V.pairs (x :: y :: l) (k :: k2 :: ks) ++ 125 :: r = quoteJ k ++ 58 :: (x.show ++ 44 :: (V.pairs (y :: l) (k2 :: ks) ++ 125 :: r)) := by rw [pairs_two]; simp
      rw [e, quotedC_back]
      simp only
      rw [b_same, if_pos rfl]
      show (match valueC f (x.show ++ 44 :: (V.pairs (y :: l) (k2 :: ks) ++ 125 :: r)) with | none => none | some (x, r) => _) = _
      rw [ihV x d _ hx (by omega) (noNum_cons rfl)]
      simp only
      rw [b_same, if_pos rfl]
      unfold V.fitsAll at hl
      simp only [Bool.and_eq_true] at hl
      show groupC f true (V.pairs (y :: l) (k2 :: ks) ++ 125 :: r) (akc ++ [k]) (acc ++ [x]) = _
      rw [ihO k2 y l ks d (akc ++ [k]) (acc ++ [x]) r hl.1 hl.2 (by omega) (by simpa using hk)]
      simp
theorem bkV (f : Nat) (ihL : BkL f) (ihO : BkO f) : BkV (f + 1) := by
  intro v d r hf hs hr
  obtain ⟨k, n, t, l, ks⟩ := v
  cases d with
  | zero => rw [fits_zero] at hf; cases hf
  | succ d =>
    rw [fits_mk, Bool.and_eq_true] at hf
    obtain ⟨hh, hl⟩ := hf
    have H := head_says hh
    rw [size_mk] at hs
    have hk : k = 1 ∨ k = 2 ∨ k = 3 ∨ k = 4 ∨ k = 5 ∨ k = 6 := by have := H.kind; omega
    rcases hk with rfl | rfl | rfl | rfl | rfl | rfl
    · obtain rfl := H.zero (by decide) (by decide)
      obtain rfl := H.text (by decide)
      obtain rfl := zero_list (H.list (by decide) (by decide))
      obtain rfl := H.none (by decide)
      rw [show_one]
      unfold valueC; rw [begins_app, if_pos rfl]; rfl
    · obtain rfl := H.text (by decide)
      obtain rfl := zero_list (H.list (by decide) (by decide))
      obtain rfl := H.none (by decide)
      rw [show_two]
      rcases H.bool rfl with rfl | rfl
      · rw [if_neg (by decide)]
        unfold valueC
        have e : beginsB (falseT ++ r) nullT = false := b_null (by decide)
        have e2 : beginsB (falseT ++ r) trueT = false := b_true (by decide)
        rw [e, e2, begins_app]; rfl
      · rw [if_pos rfl]
        unfold valueC
        have e : beginsB (trueT ++ r) nullT = false := b_null (by decide)
        rw [e, begins_app]; rfl
    · obtain rfl := H.text (by decide)
      obtain rfl := zero_list (H.list (by decide) (by decide))
      obtain rfl := H.none (by decide)
      rw [show_three]
      have hb := numberC_back n (H.num rfl) r hr
      obtain ⟨c, r', e, hc⟩ : ∃ c r', decI n ++ r = c :: r' ∧ (isDigit c = true ∨ c = 45) := by
        obtain ⟨c, r', e, hc⟩ := decL_first n.natAbs
        unfold decI
        by_cases h : n < 0
        · rw [if_pos h]; exact ⟨45, _, rfl, .inr rfl⟩
        · rw [if_neg h, e]; exact ⟨c, _, rfl, .inl hc⟩
      rw [e] at hb ⊢
      have hne : ∀ x : UInt8, isDigit x = false → x ≠ 45 → c ≠ x := fun x h1 h2 => by
        rcases hc with h | h
        · exact digit_ne h h1
        · intro e; exact h2 (e.symm.trans h)
      unfold valueC
      rw [b_null (hne _ rfl (by decide)), b_true (hne _ rfl (by decide)), b_false (hne _ rfl (by decide)), b_one (d := 34) (hne _ rfl (by decide)), b_one (d := 91) (hne _ rfl (by decide)), b_one (d := 123) (hne _ rfl (by decide)), hb]
      rfl
    · obtain rfl := H.zero (by decide) (by decide)
      obtain rfl := zero_list (H.list (by decide) (by decide))
      obtain rfl := H.none (by decide)
      rw [show_four]
      have hq := quotedC_back t r
      have e : quoteJ t ++ r = 34 :: (quoteT t ++ r) := rfl
      rw [e] at hq ⊢
      unfold valueC
      rw [b_null (by decide), b_true (by decide), b_false (by decide), b_same, hq]; rfl
    · obtain rfl := H.zero (by decide) (by decide)
      obtain rfl := H.text (by decide)
      obtain rfl := H.none (by decide)
      rw [show_list]
      cases l with
      | nil =>
        rw [items_nil]
        show valueC (f + 1) (91 :: 93 :: r) = _
        unfold valueC
        rw [b_null (by decide), b_true (by decide), b_false (by decide), b_one (d := 34) (by decide), b_same]
        simp only [List.drop_succ_cons, List.drop_zero, Bool.false_eq_true, if_false, if_true]
        rw [b_same]; rfl
      | cons x l =>
        unfold V.fitsAll at hl
        simp only [Bool.and_eq_true] at hl
        obtain ⟨c, rr, ec, hc⟩ := show_first x
        have e : 91 :: (V.items (x :: l) ++ [93]) ++ r = 91 :: (V.items (x :: l) ++ 93 :: r) := by simp
        have e2 : V.items (x :: l) ++ 93 :: r = c :: (rr ++ V.itemsMore l ++ 93 :: r) := by rw [items_cons, ec]; simp
        have h2 := ihL x l d [] r hl.1 hl.2 (by omega)
        rw [e]
        rw [e2] at h2 ⊢
        unfold valueC
        rw [b_null (by decide), b_true (by decide), b_false (by decide), b_one (d := 34) (by decide), b_same]
        show (if beginsB (c :: (rr ++ V.itemsMore l ++ 93 :: r)) [93] then _ else groupC f false (c :: (rr ++ V.itemsMore l ++ 93 :: r)) [] []) = _
        rw [b_one hc, h2]; rfl
    · obtain rfl := H.zero (by decide) (by decide)
      obtain rfl := H.text (by decide)
      rw [show_object]
      have hkl := H.keys rfl
      cases l with
      | nil =>
        obtain rfl := List.length_eq_zero_iff.1 hkl
        rw [pairs_nil]
        show valueC (f + 1) (123 :: 125 :: r) = _
        unfold valueC
        rw [b_null (by decide), b_true (by decide), b_false (by decide), b_one (d := 34) (by decide), b_one (d := 91) (by decide), b_same]
        simp only [List.drop_succ_cons, List.drop_zero, Bool.false_eq_true, if_false, if_true]
        rw [b_same]; rfl
      | cons x l =>
        cases ks with
        | nil => simp at hkl
        | cons k ks =>
          unfold V.fitsAll at hl
          simp only [Bool.and_eq_true] at hl
          have e : 123 :: (V.pairs (x :: l) (k :: ks) ++ [125]) ++ r = 123 :: (V.pairs (x :: l) (k :: ks) ++ 125 :: r) := by simp
          have e2 : V.pairs (x :: l) (k :: ks) ++ 125 :: r = 34 :: (quoteT k ++ 58 :: (x.show ++ V.pairsMore l ks) ++ 125 :: r) := by rw [pairs_cons]; rfl
          have h2 := ihO k x l ks d [] [] r hl.1 hl.2 (by omega) (by simpa using hkl)
          rw [e]
          rw [e2] at h2 ⊢
          unfold valueC
          rw [b_null (by decide), b_true (by decide), b_false (by decide), b_one (d := 34) (by decide), b_one (d := 91) (by decide), b_same]
          show (if beginsB (34 :: (quoteT k ++ 58 :: (x.show ++ V.pairsMore l ks) ++ 125 :: r)) [125] then _ else groupC f true (34 :: (quoteT k ++ 58 :: (x.show ++ V.pairsMore l ks) ++ 125 :: r)) [] []) = _
          rw [b_one (by decide), h2]; rfl
theorem bk_all : ∀ f, BkV f ∧ BkL f ∧ BkO f
  | 0 => by
    refine ⟨?_, ?_, ?_⟩
    · intro v d r _ h; exact absurd h (by have := size_pos v; omega)
    · intro x l d acc r _ _ h; rw [sizes_cons] at h; omega
    · intro k x l ks d akc acc r _ _ h; rw [sizes_cons] at h; omega
  | f + 1 => ⟨bkV f (bk_all f).2.1 (bk_all f).2.2, bkL f (bk_all f).1 (bk_all f).2.1, bkO f (bk_all f).1 (bk_all f).2.2⟩
/-- what the code's Parse answers -/
def parseC (f : Nat) (s : List UInt8) : V × Int :=
  if 4096 < s.length then (V.zero, 3) else
    match valueC f s with
    | some (v, []) => if v.good then (if v.depth ≤ 8 then (v, 0) else (V.zero, 4)) else (V.zero, 2)
    | _ => (V.zero, 2)
/-- it is the document's -/
theorem parseC_eq (f : Nat) (s : List UInt8) (hf : 2 * s.length ≤ f) : parseC f s = parseV s := by
  unfold parseC parseV
  by_cases hl : 4096 < s.length
  · rw [if_pos hl, if_pos hl]
  · rw [if_neg hl, if_neg hl]
    cases hr : readV s with
    | some v =>
      obtain ⟨⟨d, hd⟩, hs⟩ := readV_some hr
      have hb := (bk_all f).1 v d [] hd (by have := size_show d v hd; rw [hs] at this; omega) rfl
      rw [List.append_nil, hs] at hb
      rw [hb]
      simp only
      rw [if_pos (fits_isgood hd), fits_good, fits_isgood hd]
      simp
    | none =>
      simp only
      cases hv : valueC f s with
      | none => rfl
      | some x =>
        obtain ⟨v, r⟩ := x
        cases r with
        | cons c r => rfl
        | nil =>
          simp only
          by_cases hg : v.good = true
          · have e := (only_all f).1 s v [] hv
            rw [List.append_nil] at e
            have := readV_of (s := s) (v := v) ⟨⟨_, good_fits hg⟩, e.symm⟩ (by omega)
            rw [this] at hr; cases hr
          · rw [if_neg hg]
end Go.Proofs.YtjgjajnpbcghmaaDoor
namespace Go.Proofs.YtjgjajnpbcghmaaDoor

def wKty : List UInt8 := [107, 116, 121]
def wOct : List UInt8 := [111, 99, 116]
def wAlg : List UInt8 := [97, 108, 103]
def wHs : List UInt8 := [72, 83, 50, 53, 54]
def wKid : List UInt8 := [107, 105, 100]
def wK : List UInt8 := [107]
def wKeys : List UInt8 := [107, 101, 121, 115]
def textV (t : List UInt8) : V := .mk 4 0 t [] []
/-- a key's object -/
def keyV (p : List UInt8 × List UInt8) : V := .mk 6 0 [] [textV wOct, textV wHs, textV p.1, textV (enc p.2)] [wKty, wAlg, wKid, wK]
def listV (l : PL) : V := .mk 5 0 [] (l.map keyV) []
def setV (l : PL) : V := .mk 6 0 [] [listV l] [wKeys]
/-- the text of a set of keys: of the first ones -/
def setT (l : PL) : List UInt8 := (setV (l.take 64)).show

/-! ## the value is good -/
theorem textV_fits (t : List UInt8) (d : Nat) : (textV t).fits (d + 1) = true := by
  unfold textV; rw [fits_mk]; simp [headB, V.fitsAll, unlikeB]
theorem keyV_fits (p : List UInt8 × List UInt8) (d : Nat) : (keyV p).fits (d + 2) = true := by
  unfold keyV; rw [fits_mk]
  have h : headB 6 0 [] 4 [wKty, wAlg, wKid, wK] = true := by decide +kernel
  simp only [List.length_cons, List.length_nil, h, Bool.true_and]
  simp [V.fitsAll, textV_fits]
theorem listV_fits (l : PL) (h : l.length ≤ 64) (d : Nat) : (listV l).fits (d + 3) = true := by
  unfold listV; rw [fits_mk]
  simp only [Bool.and_eq_true]
  refine ⟨?_, (fitsAll_iff _ _).2 fun v hv => ?_⟩
  · simp [headB, unlikeB, h]
  · obtain ⟨p, _, rfl⟩ := List.mem_map.1 hv
    exact keyV_fits p d
theorem setV_fits (l : PL) (h : l.length ≤ 64) (d : Nat) : (setV l).fits (d + 4) = true := by
  unfold setV; rw [fits_mk]
  simp only [Bool.and_eq_true]
  refine ⟨show headB 6 0 [] 1 [wKeys] = true by decide +kernel, ?_⟩
  simp [V.fitsAll, listV_fits l h d]
theorem setV_text (l : PL) (h : l.length ≤ 64) : TextOf (setV l).show (setV l) := ⟨⟨4, setV_fits l h 0⟩, rfl⟩

/-! ## its text -/
theorem quoteC_ltr : ∀ n : Nat, n < 64 → quoteC (ltr n) = [ltr n] := by decide +kernel
theorem quoteT_ds (l : List Nat) (h : ∀ d ∈ l, d < 64) : quoteT (ds l) = ds l ++ [34] := by
  induction l with
  | nil => rfl
  | cons d l ih =>
    show quoteT (ltr d :: ds l) = ltr d :: ds l ++ [34]
    rw [quoteT, quoteC_ltr d (h d (by simp)), ih fun x hx => h x (by simp [hx])]; rfl
theorem quoteT_enc (l : List UInt8) : quoteT (enc l) = enc l ++ [34] := by
  rcases letters (enc l) with ⟨l', e, h⟩ | ⟨p, c, r, e, hp, hc⟩
  · rw [e]; exact quoteT_ds l' h
  · have h1 := unS_enc l
    rw [e, unS_none p c r hp hc] at h1
    cases h1
theorem quoteJ_enc (l : List UInt8) : quoteJ (enc l) = 34 :: (enc l ++ [34]) := by rw [quoteJ, quoteT_enc]
/-- {"kty":"oct","alg":"HS256","kid": .. ,"k":" .. "} -/
def keyFront : List UInt8 := [123, 34, 107, 116, 121, 34, 58, 34, 111, 99, 116, 34, 44, 34, 97, 108, 103, 34, 58, 34, 72, 83, 50, 53, 54, 34, 44, 34, 107, 105, 100, 34, 58]
def keyMid : List UInt8 := [44, 34, 107, 34, 58, 34]
def jkT (p : List UInt8 × List UInt8) : List UInt8 := keyFront ++ quoteJ p.1 ++ keyMid ++ enc p.2 ++ [34, 125]
theorem textV_show (t : List UInt8) : (textV t).show = quoteJ t := by unfold textV V.show; simp
theorem qj_kty : quoteJ wKty = [34, 107, 116, 121, 34] := by decide +kernel
theorem qj_oct : quoteJ wOct = [34, 111, 99, 116, 34] := by decide +kernel
theorem qj_alg : quoteJ wAlg = [34, 97, 108, 103, 34] := by decide +kernel
theorem qj_hs : quoteJ wHs = [34, 72, 83, 50, 53, 54, 34] := by decide +kernel
theorem qj_kid : quoteJ wKid = [34, 107, 105, 100, 34] := by decide +kernel
theorem qj_k : quoteJ wK = [34, 107, 34] := by decide +kernel
theorem qj_keys : quoteJ wKeys = [34, 107, 101, 121, 115, 34] := by decide +kernel
theorem keyV_show (p : List UInt8 × List UInt8) : (keyV p).show = jkT p := by
  unfold keyV
  rw [show_object, pairs_cons, pairsMore_cons, pairsMore_cons, pairsMore_cons, pairsMore_nil]
  simp only [textV_show, List.headD_cons, List.tail_cons, qj_kty, qj_oct, qj_alg, qj_hs, qj_kid, qj_k, quoteJ_enc]
  simp [jkT, keyFront, keyMid]
/-- the items, each behind a comma but the first -/
def itemsT (l : PL) : List UInt8 := V.items (l.map keyV)
theorem more_snoc (l : List V) (x : V) : V.itemsMore (l ++ [x]) = V.itemsMore l ++ 44 :: x.show := by
  induction l with
  | nil => show V.itemsMore [x] = _; rw [itemsMore_cons, itemsMore_nil]; simp
  | cons v l ih => rw [List.cons_append, itemsMore_cons, itemsMore_cons, ih]; simp
theorem itemsT_nil : itemsT [] = [] := by unfold itemsT; rw [List.map_nil, items_nil]
theorem itemsT_one (p : List UInt8 × List UInt8) : itemsT [p] = jkT p := by
  unfold itemsT
  show V.items [keyV p] = _
  rw [items_cons, itemsMore_nil, keyV_show]; simp
theorem itemsT_snoc (l : PL) (p : List UInt8 × List UInt8) (h : 0 < l.length) : itemsT (l ++ [p]) = itemsT l ++ [44] ++ jkT p := by
  unfold itemsT
  cases l with
  | nil => simp at h
  | cons q l =>
    rw [List.map_append, List.map_cons, List.map_cons, List.map_nil, List.cons_append, items_cons, items_cons, more_snoc, keyV_show p]; simp
theorem listV_show (l : PL) : (listV l).show = 91 :: (itemsT l ++ [93]) := by unfold listV; rw [show_list]; rfl
/-- {"keys":[ .. ]} -/
def setFront : List UInt8 := [123, 34, 107, 101, 121, 115, 34, 58, 91]
theorem setV_show (l : PL) : (setV l).show = setFront ++ itemsT l ++ [93, 125] := by
  unfold setV
  rw [show_object, pairs_cons, pairsMore_nil, listV_show]
  simp only [List.headD_cons, qj_keys]
  simp [setFront]
theorem setT_is (l : PL) : setT l = setFront ++ itemsT (l.take 64) ++ [93, 125] := setV_show _
theorem quoteT_le7 (l : List UInt8) : (quoteT l).length ≤ 6 * l.length + 1 := by
  induction l with
  | nil => simp [quoteT]
  | cons c r ih =>
    have h1 : (quoteC c).length ≤ 6 := by
      unfold quoteC; split
      · simp
      · split <;> simp
    rw [quoteT, List.length_append, List.length_cons]; omega
theorem jkT_le (p : List UInt8 × List UInt8) : (jkT p).length ≤ 6 * p.1.length + 2 * p.2.length + 50 := by
  have h1 := quoteT_le7 p.1
  have h2 := enc_len p.2
  unfold jkT
  simp only [List.length_append, List.length_cons, List.length_nil, quoteJ, keyFront, keyMid]
  omega
theorem itemsMore_le (M : Nat) : ∀ (l : PL), (∀ p ∈ l, (jkT p).length ≤ M) → (V.itemsMore (l.map keyV)).length ≤ l.length * (M + 1)
  | [], _ => by rw [List.map_nil, itemsMore_nil]; simp
  | p :: l, h => by
    have ih := itemsMore_le M l fun q hq => h q (by simp [hq])
    have hp := h p (by simp)
    rw [List.map_cons, itemsMore_cons, List.length_cons, List.length_append, keyV_show, List.length_cons, Nat.succ_mul]; omega
theorem itemsT_le {M : Nat} {l : PL} (h : ∀ p ∈ l, (jkT p).length ≤ M) : (itemsT l).length ≤ l.length * (M + 1) := by
  unfold itemsT
  cases l with
  | nil => rw [List.map_nil, items_nil]; simp
  | cons p l =>
    have h2 := itemsMore_le M l fun q hq => h q (by simp [hq])
    have hp := h p (by simp)
    rw [List.map_cons, items_cons, List.length_append, keyV_show, List.length_cons, Nat.succ_mul]; omega
theorem setT_le {M : Nat} {l : PL} (h : ∀ p ∈ l, (jkT p).length ≤ M) : (setT l).length ≤ 64 * (M + 1) + 11 := by
  have h1 := itemsT_le (M := M) (l := l.take 64) fun p hp => h p (List.mem_of_mem_take hp)
  have h2 : (l.take 64).length ≤ 64 := by rw [List.length_take]; omega
  have h3 := Nat.mul_le_mul_right (M + 1) h2
  rw [setT_is]
  simp only [List.length_append, setFront, List.length_cons, List.length_nil]
  omega
theorem setT_pos (l : PL) : 0 < (setT l).length := by
  rw [setT_is]; simp [setFront]

/-! ## one text ends where it ends -/
theorem size_mk6 (k n : Int) (t : List UInt8) (l : List V) (ks : List (List UInt8)) : (V.mk k n t l ks).size = 2 + V.sizes l := by unfold V.size; rfl
/-- an object's text is read whatever stands behind it -/
theorem object_more {n : Int} {t : List UInt8} {l : List V} {ks : List (List UInt8)} {d : Nat} (h : (V.mk 6 n t l ks).fits d = true) (r : List UInt8) (f : Nat) (hf : (V.mk 6 n t l ks).size ≤ f) : valueC f ((V.mk 6 n t l ks).show ++ r) = some (.mk 6 n t l ks, r) := by
  obtain ⟨d, rfl⟩ : ∃ e, d = e + 1 := by cases d with
    | zero => unfold V.fits at h; cases h
    | succ e => exact ⟨e, rfl⟩
  rw [fits_mk] at h
  simp only [Bool.and_eq_true] at h
  have H := head_says h.1
  have hn := H.zero (by decide) (by decide)
  have ht := H.text (by decide)
  have hk := H.keys rfl
  subst hn; subst ht
  rw [size_mk6] at hf
  obtain ⟨f, rfl⟩ : ∃ g, f = g + 1 := ⟨f - 1, by omega⟩
  cases l with
  | nil =>
    obtain rfl : ks = [] := List.length_eq_zero_iff.1 hk
    have e : (V.mk 6 0 [] [] []).show ++ r = 123 :: 125 :: r := by rw [show_object]; unfold V.pairs; rfl
    rw [e]
    unfold valueC
    rw [b_null (by decide), b_true (by decide), b_false (by decide), b_one (d := 34) (by decide), b_one (d := 91) (by decide), b_same]
    show (if beginsB (125 :: r) [125] then some (V.mk 6 0 [] [] [], r) else groupC f true (125 :: r) [] []) = _
    rw [b_same]; rfl
  | cons x l =>
    cases ks with
    | nil => simp at hk
    | cons k ks =>
      have hl := h.2
      unfold V.fitsAll at hl
      simp only [Bool.and_eq_true] at hl
      have e : (V.mk 6 0 [] (x :: l) (k :: ks)).show ++ r = 123 :: (V.pairs (x :: l) (k :: ks) ++ 125 :: r) := by rw [show_object]; simp
      have e2 : V.pairs (x :: l) (k :: ks) ++ 125 :: r = 34 :: (quoteT k ++ 58 :: (x.show ++ V.pairsMore l ks) ++ 125 :: r) := by rw [pairs_cons]; rfl
      have h2 := (bk_all f).2.2 k x l ks d [] [] r hl.1 hl.2 (by omega) (by simpa using hk)
      rw [e]
      rw [e2] at h2 ⊢
      unfold valueC
      rw [b_null (by decide), b_true (by decide), b_false (by decide), b_one (d := 34) (by decide), b_one (d := 91) (by decide), b_same]
      show (if beginsB (34 :: (quoteT k ++ 58 :: (x.show ++ V.pairsMore l ks) ++ 125 :: r)) [125] then _ else groupC f true (34 :: (quoteT k ++ 58 :: (x.show ++ V.pairsMore l ks) ++ 125 :: r)) [] []) = _
      rw [b_one (by decide), h2]; rfl
/-- what begins with a brace is an object -/
theorem brace_object {v : V} {d : Nat} (h : v.fits d = true) {r : List UInt8} (hs : v.show = 123 :: r) : v.kind = 6 := by
  obtain ⟨k, n, t, l, ks⟩ := v
  obtain ⟨d, rfl⟩ : ∃ e, d = e + 1 := by cases d with
    | zero => unfold V.fits at h; cases h
    | succ e => exact ⟨e, rfl⟩
  rw [fits_mk] at h
  simp only [Bool.and_eq_true] at h
  have H := head_says h.1
  show k = 6
  by_cases h6 : k = 6
  · exact h6
  exfalso
  have hk := H.kind
  unfold V.show at hs
  have hd : ∀ n : Nat, ∀ r, decL n ≠ 123 :: r := fun n r e => by
    have := decL_all n 123 (by rw [e]; simp)
    revert this; decide
  rcases (show k = 1 ∨ k = 2 ∨ k = 3 ∨ k = 4 ∨ k = 5 by omega) with rfl | rfl | rfl | rfl | rfl
  · simp [nullT] at hs
  · simp only [show ¬ (2 : Int) = 1 by decide, if_false, if_true] at hs
    split at hs
    · simp [trueT] at hs
    · simp [falseT] at hs
  · simp only [show ¬ (3 : Int) = 1 by decide, show ¬ (3 : Int) = 2 by decide, if_false, if_true] at hs
    unfold decI at hs
    split at hs
    · simp at hs
    · exact hd _ _ hs
  · simp [quoteJ] at hs
  · simp at hs
/-- of two objects' texts none is the other's beginning -/
theorem object_end {a b : List UInt8} {u v : V} (hu : TextOf a u) (hv : TextOf (a ++ b) v) (eu : u.kind = 6) (ev : v.kind = 6) : b = [] := by
  obtain ⟨⟨d, hd⟩, hs⟩ := hu
  obtain ⟨⟨d', hd'⟩, hs'⟩ := hv
  obtain ⟨k, n, t, l, ks⟩ := u
  obtain ⟨k', n', t', l', ks'⟩ := v
  obtain rfl : k = 6 := eu
  obtain rfl : k' = 6 := ev
  have h1 := object_more hd b ((V.mk 6 n t l ks).size + (V.mk 6 n' t' l' ks').size) (by omega)
  have h2 := object_more hd' [] ((V.mk 6 n t l ks).size + (V.mk 6 n' t' l' ks').size) (by omega)
  rw [List.append_nil, hs', ← hs, h1] at h2
  injection h2 with h2
  exact ((Prod.mk.injEq _ _ _ _).mp h2).2
theorem readV_none {s : List UInt8} (h : ∀ v, TextOf s v → False) : readV s = none := by
  cases hr : readV s with
  | none => rfl
  | some v => exact (h v (readV_some hr)).elim
theorem parseV_form {s : List UInt8} (hl : s.length ≤ 4096) (h : ∀ v, TextOf s v → False) : parseV s = (V.zero, 2) := by
  unfold parseV
  rw [if_neg (by omega), readV_none h]
theorem setT_object (l : PL) : TextOf (setT l) (setV (l.take 64)) := setV_text _ (by rw [List.length_take]; omega)
theorem text_brace {s r : List UInt8} {v : V} (h : TextOf s v) (hs : s = 123 :: r) : v.kind = 6 := by
  obtain ⟨⟨d, hd⟩, h2⟩ := h
  exact brace_object hd (h2.trans hs)
theorem setT_brace (l : PL) : ∃ r, setT l = 123 :: r := ⟨_, by rw [setT_is]; rfl⟩
/-- a set that is cut off is none -/
theorem cut_none (l : PL) (n : Nat) (h : n < (setT l).length) (hl : (setT l).length ≤ 4096) : parseV ((setT l).take n) = (V.zero, 2) := by
  refine parseV_form (by rw [List.length_take]; omega) fun v hv => ?_
  obtain ⟨r, hr⟩ := setT_brace l
  have hne : (setT l).take n ≠ [] := fun e => by
    obtain ⟨-, h2⟩ := hv
    have := show_pos v
    rw [h2, e] at this; simp at this
  have hb : ∃ q, (setT l).take n = 123 :: q := by
    cases n with
    | zero => simp at hne
    | succ n => exact ⟨r.take n, by rw [hr]; rfl⟩
  obtain ⟨q, hq⟩ := hb
  have h0 := object_end (a := (setT l).take n) (b := (setT l).drop n) (v := setV (l.take 64)) hv (by rw [List.take_append_drop]; exact setT_object l) (text_brace hv hq) rfl
  have : ((setT l).drop n).length = 0 := by rw [h0]; rfl
  rw [List.length_drop] at this; omega
/-- a set behind which something stands is none -/
theorem more_none (l : PL) (c : UInt8) (hl : (setT l).length < 4096) : parseV (setT l ++ [c]) = (V.zero, 2) := by
  refine parseV_form (by rw [List.length_append, List.length_singleton]; omega) fun v hv => ?_
  obtain ⟨r, hr⟩ := setT_brace l
  have h0 := object_end (setT_object l) hv rfl (text_brace hv (r := r ++ [c]) (by rw [hr]; rfl))
  cases h0
theorem parse_set (l : PL) (hl : (setT l).length ≤ 4096) : parseV (setT l) = (setV (l.take 64), 0) := by
  unfold parseV
  rw [if_neg (by omega), readV_of (setT_object l) hl]
  simp only
  rw [if_pos (setV_fits _ (by rw [List.length_take]; omega) 4)]
end Go.Proofs.YtjgjajnpbcghmaaDoor
