/- The reference's quote, as JSON has it. -/
import Derived.Test.YtoijjcbcmjdggaaDoorBase
import Derived.Test.YtoijjcbcmjdggaaDoorJsonPure
import Derived.Deep.WholeRow
namespace Go.Proofs.YtoijjcbcmjdggaaDoor
open Go.RowKit

def qL (l : List UInt8) : List UInt8 := l.flatMap quoteC
theorem quoteT_q (l : List UInt8) : quoteT l = qL l ++ [34] := by
  induction l with
  | nil => rfl
  | cons c r ih => rw [quoteT, ih]; simp [qL]
theorem qL_snoc (l : List UInt8) (c : UInt8) : qL (l ++ [c]) = qL l ++ quoteC c := by simp [qL]
theorem quoteC_len (c : UInt8) : (quoteC c).length ≤ 6 := by
  unfold quoteC; split
  · simp
  · split <;> simp
theorem qL_len (l : List UInt8) : (qL l).length ≤ 6 * l.length := by
  induction l with
  | nil => simp [qL]
  | cons c r ih =>
    have := quoteC_len c
    have e : qL (c :: r) = quoteC c ++ qL r := by simp [qL]
    rw [e, List.length_append, List.length_cons]; omega
theorem quoteJ_q (l : List UInt8) : quoteJ l = 34 :: qL l ++ [34] := by rw [quoteJ, quoteT_q]; rfl
def hexJs : ByteArray := ⟨#[48, 49, 50, 51, 52, 53, 54, 55, 56, 57, 97, 98, 99, 100, 101, 102]⟩
theorem hexl_all : ∀ n : Fin 16, hexJs.data.toList[n.val]? = some (hexl n.val) := by decide +kernel
theorem hexl_at {n : Nat} (h : n < hexJs.size) (h16 : n < 16) : hexJs[n] = hexl n := by
  have := hexl_all ⟨n, h16⟩
  have hl : n < hexJs.data.toList.length := h
  rw [List.getElem?_eq_getElem hl] at this
  injection this
theorem six_cells (a b c d e f : Int) : ∀ u ∈ [Value.int .u8 a, Value.int .u8 b, Value.int .u8 c, Value.int .u8 d, Value.int .u8 e, Value.int .u8 f], u.oneCell' = true := by
  intro u hu; simp at hu; rcases hu with rfl | rfl | rfl | rfl | rfl | rfl <;> rfl
theorem hexq_cells (c : UInt8) (a b : Int) (ha : a = 48 + (c.toNat : Int) / 16) (hb : b = (c.toNat : Int) % 16) (h32 : c.toNat < 32) (h2 : b.toNat < hexJs.size) :
    [Value.int .u8 92, .int .u8 117, .int .u8 48, .int .u8 48, .int .u8 a, .int .u8 (hexJs[b.toNat].toNat : Int)] = cells [92, 117, 48, 48, UInt8.ofNat (48 + c.toNat / 16), hexl (c.toNat % 16)] := by
  have h3 : hexJs[b.toNat] = hexl b.toNat := hexl_at h2 (by omega)
  generalize hexJs[b.toNat] = q at *
  subst h3
  have e2 : b.toNat = c.toNat % 16 := by omega
  have e1 : a = ((UInt8.ofNat (48 + c.toNat / 16)).toNat : Int) := by rw [UInt8.toNat_ofNat']; omega
  rw [e2, e1]; rfl
/-- a row of bytes that a literal has made -/
theorem Buf.made (w : World) (l : List UInt8) (cs : Array Value) (hc : cs.toList = cells l) (hl : l.length ≤ maxLen) : Buf (w.alloc (.cells cs 5)) w.heap.size (.slice (some ⟨w.heap.size, 0, none⟩) l.length l.length) l := by
  have hn : cs.size = l.length := by rw [← Array.length_toList, hc]; simp [cells]
  refine ⟨by simp [cells], Or.inr ⟨w.heap.size, l.length, cs, rfl, Nat.le_refl _, heap_alloc_last w _, Nat.le_refl _, hl, by omega, ?_⟩⟩
  rw [hc]; exact List.take_of_length_le (by simp [cells])
set_option maxRecDepth 100000 in
set_option maxHeartbeats 1000000 in
theorem refQuoteJ_any (s : ByteArray) (hs : s.size ≤ 20000000000000) (w : World) :
    Calls Tryd.prog 43 #[.string s] w fun e w' => e = .returned (.string ⟨(quoteJ s.data.toList).toArray⟩) ∧ Below w.heap.size w w' := by
  obtain ⟨i0, hi, hz0, hz1, hz2⟩ := info_parts Tryd.infoByte
  have hm := Buf.made w [34] #[.int .u8 34] rfl (by unfold maxLen; decide)
  have hb := (Below.refl w.heap.size w).alloc (Nat.le_refl _) (.cells #[.int .u8 34] 5)
  have HM := Lib.hid hm; have HB := Lib.hid hb; clear hm hb
  go_enter Tryd.func43, Tryd.ntmps43
  go_wp2
  go_loopw [3, 4] (fun v i wr => ∃ k : Nat, k ≤ s.size ∧ i = .int .i64 k ∧ Buf wr w.heap.size v (34 :: qL (s.data.toList.take k)) ∧ Below w.heap.size w wr) (fun _ i _ => s.size - (intOf i).toNat)
  case atStart => exact ⟨0, Nat.zero_le _, rfl, HM.out, HB.out⟩
  case round =>
    clear HM HB
    obtain ⟨k, hk, rfl, hown, hb⟩ := hrel
    have hql := qL_len (s.data.toList.take k)
    have htl : (s.data.toList.take k).length ≤ k := List.length_take_le _ _
    have hbs := hb.size
    have hlen : (34 :: qL (s.data.toList.take k)).length ≤ 120000000000001 := by rw [List.length_cons]; omega
    by_cases hlt : k < s.size
    · have hsn := take_snoc s k hlt
      have hsn2 : 34 :: qL (s.data.toList.take (k + 1)) = 34 :: qL (s.data.toList.take k) ++ quoteC s[k] := by rw [hsn, qL_snoc]; rfl
      have hu := s[k].toNat_lt
      generalize 34 :: qL (s.data.toList.take k) = acc at *
      by_cases hp : s[k] = 34 ∨ s[k] = 92
      · have hq : quoteC s[k] = [92, s[k]] := by unfold quoteC; rw [if_pos hp]
        rw [hq] at hsn2
        have HN := Lib.hid hsn2
        clear hsn2 hsn hq hql htl
        have HP := Lib.hid hp
        by_cases h34 : s[k] = 34
        · have t1 : ((s[k].toNat : Int) == 34) = true := by rw [h34]; rfl
          have H34 := Lib.hid h34; clear h34 hp
          go_wp2_with (at_builtin; refine wpList_append_own _ rfl (.tmp 29) (.tmp 33) 45 rfl w.heap.size 5 i0 _ 1 1 Tryd.underlying45 hi hz0 hz1 hz2 rfl (by decide) _ _ _ rfl (World.ownsRow.alloc hown _) ⟨_, 0, none⟩ 2 2 [.int .u8 92, .int .u8 s[k].toNat] rfl rfl (new_cells _ #[_, _] _) (two_cells _ _) (by unfold maxLen; omega) (by omega) (by simp; omega) ?_)
          intro v' w1 hown' hg' _
          have hb1 : Below w.heap.size w w1 := (hb.alloc hbs _).grown hg' (by simp; omega) (fun j hj => (hown.lt j hj).1)
          go_wp2
          go_roundw
          case rel => exact ⟨k + 1, by omega, by go_num, Buf.cut hown' (by rw [HN.out]; simp) (by rw [HN.out, cells_app]; rfl), hb1⟩
          case measure => simp [intOf]; omega
        · have h92 : s[k] = 92 := by rcases hp with h | h; exact absurd h h34; exact h
          have t1 : ((s[k].toNat : Int) == 34) = false := by rw [h92]; rfl
          have t2 : ((s[k].toNat : Int) == 92) = true := by rw [h92]; rfl
          have H34 := Lib.hid h34; have H92 := Lib.hid h92; clear h34 h92 hp
          go_wp2_with (at_builtin; refine wpList_append_own _ rfl (.tmp 29) (.tmp 33) 45 rfl w.heap.size 5 i0 _ 1 1 Tryd.underlying45 hi hz0 hz1 hz2 rfl (by decide) _ _ _ rfl (World.ownsRow.alloc hown _) ⟨_, 0, none⟩ 2 2 [.int .u8 92, .int .u8 s[k].toNat] rfl rfl (new_cells _ #[_, _] _) (two_cells _ _) (by unfold maxLen; omega) (by omega) (by simp; omega) ?_)
          intro v' w1 hown' hg' _
          have hb1 : Below w.heap.size w w1 := (hb.alloc hbs _).grown hg' (by simp; omega) (fun j hj => (hown.lt j hj).1)
          go_wp2
          go_roundw
          case rel => exact ⟨k + 1, by omega, by go_num, Buf.cut hown' (by rw [HN.out]; simp) (by rw [HN.out, cells_app]; rfl), hb1⟩
          case measure => simp [intOf]; omega
      · have h34 : s[k].toNat ≠ 34 := fun e => hp (Or.inl (UInt8.toNat_inj.1 e))
        have h92 : s[k].toNat ≠ 92 := fun e => hp (Or.inr (UInt8.toNat_inj.1 e))
        have t1 : ((s[k].toNat : Int) == 34) = false := by simp; omega
        have t2 : ((s[k].toNat : Int) == 92) = false := by simp; omega
        by_cases h32 : s[k].toNat < 32
        · have hq : quoteC s[k] = [92, 117, 48, 48, UInt8.ofNat (48 + s[k].toNat / 16), hexl (s[k].toNat % 16)] := by unfold quoteC; rw [if_neg hp, if_pos h32]
          rw [hq] at hsn2
          have t3 : decide ((s[k].toNat : Int) < 32) = true := by simp; omega
          have HN := Lib.hid hsn2; have H32 := Lib.hid h32
          have m1 : (s[k].toNat : Int).tdiv 16 = (s[k].toNat : Int) / 16 := Int.tdiv_eq_ediv_of_nonneg (by omega)
          have m2 : (s[k].toNat : Int).tmod 16 = (s[k].toNat : Int) % 16 := Int.tmod_eq_emod_of_nonneg (by omega)
          have m3 : 0 ≤ (s[k].toNat : Int) % 16 := by omega
          have m4 : (s[k].toNat : Int) % 16 < 16 := by omega
          have m5 : IntKind.u8.wrap ((s[k].toNat : Int) / 16) = (s[k].toNat : Int) / 16 := by rw [IntKind.wrap_u8]; omega
          have m6 : IntKind.u8.wrap ((s[k].toNat : Int) % 16) = (s[k].toNat : Int) % 16 := by rw [IntKind.wrap_u8]; omega
          have m7 : IntKind.u8.wrap (48 + (s[k].toNat : Int) / 16) = 48 + (s[k].toNat : Int) / 16 := by rw [IntKind.wrap_u8]; omega
          clear hsn2 hsn hq hql htl hp h34 h92 h32
          go_wp2
          go_region_held3 (fun _ => True) (trivial) ((refine step_append_own rfl (.tmp 40) (.tmp 51) 45 rfl w.heap.size 5 i0 _ 1 1 Tryd.underlying45 hi hz0 hz1 hz2 rfl (by decide) _ _ _ rfl (World.ownsRow.alloc (World.ownsRow.drew hown) _) ⟨_, 0, none⟩ 6 6 [.int .u8 92, .int .u8 117, .int .u8 48, .int .u8 48, .int .u8 _, .int .u8 _] rfl rfl (new_cells _ #[_, _, _, _, _, _] _) (six_cells _ _ _ _ _ _) (by unfold maxLen; omega) (by omega) (by simp; omega) ?_; intro v' w1 hown' hg' hn'))
          all_goals
            have hb1 : Below w.heap.size w w1 := ((hb.drew).alloc hbs _).grown hg' (by simp; omega) (fun j hj => (hown.lt j hj).1)
            go_wp2
            go_roundw
            case rel => exact ⟨k + 1, by omega, by go_num, Buf.cut hown' (by rw [HN.out]; simp) (by rw [HN.out, cells_app]; exact congrArg _ (hexq_cells s[k] _ _ rfl rfl H32.out _)), hb1⟩
            case measure => simp [intOf]; omega
        · have hq : quoteC s[k] = [s[k]] := by unfold quoteC; rw [if_neg hp, if_neg h32]
          rw [hq] at hsn2
          have t3 : decide ((s[k].toNat : Int) < 32) = false := by simp; omega
          have HN := Lib.hid hsn2; have H32 := Lib.hid h32
          clear hsn2 hsn hq hql htl hp h34 h92 h32
          go_wp2_with (at_builtin; refine wpList_append_own _ rfl (.tmp 12) (.tmp 16) 45 rfl w.heap.size 5 i0 _ 1 1 Tryd.underlying45 hi hz0 hz1 hz2 rfl (by decide) _ _ _ rfl (World.ownsRow.alloc hown _) ⟨_, 0, none⟩ 1 1 [.int .u8 s[k].toNat] rfl rfl (new_cells _ #[_] _) (one_cell _) (by unfold maxLen; omega) (by omega) (by simp; omega) ?_)
          intro v' w1 hown' hg' _
          have hb1 : Below w.heap.size w w1 := (hb.alloc hbs _).grown hg' (by simp; omega) (fun j hj => (hown.lt j hj).1)
          go_wp2
          go_roundw
          case rel => exact ⟨k + 1, by omega, by go_num, Buf.cut hown' (by rw [HN.out]; simp) (by rw [HN.out, cells_app]; rfl), hb1⟩
          case measure => simp [intOf]; omega
    · have hke : k = s.size := by omega
      subst hke
      rw [take_all] at hown hlen
      have hfin : 34 :: qL s.data.toList ++ [34] = quoteJ s.data.toList := (quoteJ_q _).symm
      generalize 34 :: qL s.data.toList = acc at *
      have HF := Lib.hid hfin
      clear hfin hql htl
      go_wp2_with (at_builtin; refine wpList_append_own _ rfl (.tmp 53) (.tmp 54) 45 rfl w.heap.size 5 i0 _ 1 1 Tryd.underlying45 hi hz0 hz1 hz2 rfl (by decide) _ _ _ rfl (World.ownsRow.alloc hown _) ⟨_, 0, none⟩ 1 1 [.int .u8 34] rfl rfl (new_cells _ #[_] _) (one_cell _) (by unfold maxLen; omega) (by omega) (by simp; omega) ?_)
      intro v' w1 hown' hg' _
      have hb1 : Below w.heap.size w w1 := (hb.alloc hbs _).grown hg' (by simp; omega) (fun j hj => (hown.lt j hj).1)
      have hbf : Buf w1 w.heap.size v' (acc ++ [34]) := Buf.cut hown' (by simp) (by rw [cells_app]; rfl)
      have hcv := hbf.text
      go_wp2
      go_ret
      exact ⟨ret_str HF.out, hb1⟩
end Go.Proofs.YtoijjcbcmjdggaaDoor
