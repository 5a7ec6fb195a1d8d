/- Texts merged by program, in build order: JsonItems, JsonQuote, Builder, Shelf, JsonKit, JsonCQuote, JsonCode. -/
import Derived.Test.YtcbajbpdgmmaeaaDoorC02
import Derived.Test.YtcbajbpdgmmaeaaDoorC01
import Derived.Deep.WholeRow
import Derived.Lib.Builder
import Derived.Lib.UnsafeStr
import Derived.Lib.AppendStr
import Derived.RegionTactic
import Derived.Shelf.Small.Strs
import Derived.Shelf.Small.Wraps
import Derived.Shelf.Strconv.Itoa0
import Derived.Shelf.Strconv.Itoa1
import Derived.Shelf.LaysM
import Derived.Shelf.Strconv.Itoa2
import Derived.Shelf.Strconv.Itoa3
import Derived.Shelf.Strconv.Itoa4
import Derived.Shelf.Strconv.ParseIntEmpty
import Derived.Shelf.Strconv.Clone
import Derived.Shelf.Strconv.SyntaxError
import Derived.Shelf.LaysC
import Derived.Shelf.Strconv.ToError
import Derived.Shelf.Strconv.Lower
import Derived.Shelf.Strconv.ParseUint10
import Derived.Shelf.Strconv.ParseUint10Empty
import Derived.Shelf.Strconv.ParseUint10Any
import Derived.Shelf.Strconv.ParseInt10
import Derived.Shelf.Strconv.RangeError
import Derived.Shelf.Strconv.ToErrorRange
import Derived.Shelf.Strconv.ParseUintEmpty
import Derived.Shelf.Strconv.ParseUint10b64
import Derived.Shelf.Strconv.ParseUint10b32
import Derived.Shelf.Strconv.ParseUint10b16
import Derived.Shelf.Strconv.ParseUint10b8
import Derived.Shelf.Strconv.ParseUint10At
import Derived.Shelf.Strconv.ParseInt10At64
import Derived.Shelf.Strconv.ParseInt10At32
import Derived.Shelf.Strconv.ParseInt10At16
import Derived.Shelf.Strconv.ParseInt10At8
import Derived.Shelf.Strconv.ParseInt10All
import Derived.Shelf.Strconv.ParseIntPublic10
import Derived.Shelf.Strings.Search1
import Derived.Shelf.Strings.Prefix
import Derived.Shelf.Slices.Turned
import Derived.Ground.Names2Prog
import Derived.Shelf.Slices.Clone
import Derived.Test.YtcbajbpdgmmaeaaDoorProg
import Derived.Lib.LaidTab
import Derived.Lib.SmallJoins
import Derived.Lib.ParseIntB
namespace Go.Proofs.YtcbajbpdgmmaeaaDoor

theorem items_nil : V.items [] = [] := by unfold V.items; rfl
theorem itemsMore_nil : V.itemsMore [] = [] := by unfold V.itemsMore; rfl
theorem itemsMore_cons (v : V) (r : List V) : V.itemsMore (v :: r) = 44 :: (v.show ++ V.itemsMore r) := by conv => lhs; unfold V.itemsMore
theorem pairs_nil (ks : List (List UInt8)) : V.pairs [] ks = [] := by unfold V.pairs; rfl
theorem pairsMore_nil (ks : List (List UInt8)) : V.pairsMore [] ks = [] := by unfold V.pairsMore; rfl
theorem pairsMore_cons (v : V) (r : List V) (ks : List (List UInt8)) : V.pairsMore (v :: r) ks = 44 :: (quoteJ (ks.headD []) ++ 58 :: (v.show ++ V.pairsMore r ks.tail)) := by conv => lhs; unfold V.pairsMore
theorem itemsMore_app (a b : List V) : V.itemsMore (a ++ b) = V.itemsMore a ++ V.itemsMore b := by
  induction a with
  | nil => rw [itemsMore_nil]; rfl
  | cons v a ih => rw [List.cons_append, itemsMore_cons, itemsMore_cons, ih]; simp
theorem items_app (v : V) (a b : List V) : V.items (v :: a ++ b) = V.items (v :: a) ++ V.itemsMore b := by
  rw [List.cons_append, items_cons, items_cons, itemsMore_app, List.append_assoc]
theorem pairsMore_app (a b : List V) : ∀ ks : List (List UInt8), V.pairsMore (a ++ b) ks = V.pairsMore a ks ++ V.pairsMore b (ks.drop a.length) := by
  induction a with
  | nil => intro ks; rw [pairsMore_nil]; rfl
  | cons v a ih =>
    intro ks
    rw [List.cons_append, pairsMore_cons, pairsMore_cons, ih]
    have e : ks.tail.drop a.length = ks.drop (v :: a).length := by rw [List.length_cons]; cases ks <;> simp
    rw [e]; simp
theorem pairs_app (v : V) (a b : List V) (ks : List (List UInt8)) : V.pairs (v :: a ++ b) ks = V.pairs (v :: a) ks ++ V.pairsMore b (ks.drop (a.length + 1)) := by
  rw [List.cons_append, pairs_cons, pairs_cons, pairsMore_app]
  have e : ks.tail.drop a.length = ks.drop (a.length + 1) := by cases ks <;> simp
  rw [e]; simp
theorem items_zero (l : List V) : V.items (l.take 0) = [] := by rw [List.take_zero]; exact items_nil
theorem items_one (l : List V) (h : 0 < l.length) : V.items (l.take (0 + 1)) = l[0].show := by
  obtain ⟨v, r, rfl⟩ : ∃ v r, l = v :: r := by cases l with | nil => simp at h | cons v r => exact ⟨v, r, rfl⟩
  show V.items [v] = _
  rw [items_cons, itemsMore_nil, List.append_nil]; rfl
theorem items_next (l : List V) (j : Nat) (h : j < l.length) (h0 : 0 < j) : V.items (l.take (j + 1)) = V.items (l.take j) ++ (44 : UInt8) :: l[j].show := by
  rw [List.take_succ_eq_append_getElem h]
  obtain ⟨v, r, e⟩ : ∃ v r, l.take j = v :: r := by
    cases hl : l.take j with
    | nil => have := congrArg List.length hl; rw [List.length_take, List.length_nil] at this; omega
    | cons v r => exact ⟨v, r, rfl⟩
  rw [e, items_app, itemsMore_cons, itemsMore_nil, List.append_nil]
theorem pairs_zero (l : List V) (ks : List (List UInt8)) : V.pairs (l.take 0) ks = [] := by rw [List.take_zero]; exact pairs_nil ks
theorem pairs_one (l : List V) (ks : List (List UInt8)) (h : 0 < l.length) (hk : 0 < ks.length) : V.pairs (l.take (0 + 1)) ks = quoteJ ks[0] ++ (58 : UInt8) :: l[0].show := by
  obtain ⟨v, r, rfl⟩ : ∃ v r, l = v :: r := by cases l with | nil => simp at h | cons v r => exact ⟨v, r, rfl⟩
  obtain ⟨k, s, rfl⟩ : ∃ v r, ks = v :: r := by cases ks with | nil => simp at hk | cons v r => exact ⟨v, r, rfl⟩
  show V.pairs [v] (k :: s) = _
  rw [pairs_cons, pairsMore_nil, List.append_nil]; rfl
theorem pairs_next (l : List V) (ks : List (List UInt8)) (j : Nat) (h : j < l.length) (hk : j < ks.length) (h0 : 0 < j) : V.pairs (l.take (j + 1)) ks = V.pairs (l.take j) ks ++ (44 : UInt8) :: (quoteJ ks[j] ++ (58 : UInt8) :: l[j].show) := by
  rw [List.take_succ_eq_append_getElem h]
  have hlen : (l.take j).length = j := by rw [List.length_take]; omega
  obtain ⟨v, r, e⟩ : ∃ v r, l.take j = v :: r := by
    cases hl : l.take j with
    | nil => have := congrArg List.length hl; rw [hlen] at this; simp at this; omega
    | cons v r => exact ⟨v, r, rfl⟩
  rw [e] at hlen ⊢
  have e2 : r.length + 1 = j := by simpa using hlen
  rw [pairs_app, pairsMore_cons, pairsMore_nil, List.append_nil, e2]
  have e3 : (ks.drop j).headD [] = ks[j] := by rw [List.drop_eq_getElem_cons hk]; rfl
  rw [e3]
theorem items_len (l : List V) (j : Nat) : (V.items (l.take j)).length ≤ (V.items l).length := by
  by_cases hz : l.take j = []
  · rw [hz, items_nil]; simp
  · obtain ⟨v, r, e⟩ : ∃ v r, l.take j = v :: r := by
      cases hl : l.take j with
      | nil => exact absurd hl hz
      | cons v r => exact ⟨v, r, rfl⟩
    have : V.items l = V.items (l.take j) ++ V.itemsMore (l.drop j) := by
      conv => lhs; rw [← List.take_append_drop j l]
      rw [e, items_app]
    rw [this, List.length_append]; omega
theorem pairs_len (l : List V) (ks : List (List UInt8)) (j : Nat) : (V.pairs (l.take j) ks).length ≤ (V.pairs l ks).length := by
  by_cases hz : l.take j = []
  · rw [hz, pairs_nil]; simp
  · obtain ⟨v, r, e⟩ : ∃ v r, l.take j = v :: r := by
      cases hl : l.take j with
      | nil => exact absurd hl hz
      | cons v r => exact ⟨v, r, rfl⟩
    have : V.pairs l ks = V.pairs (l.take j) ks ++ V.pairsMore (l.drop j) (ks.drop (r.length + 1)) := by
      conv => lhs; rw [← List.take_append_drop j l]
      rw [e, pairs_app]
    rw [this, List.length_append]; omega
theorem show_one (n : Int) (t : List UInt8) (l : List V) (ks : List (List UInt8)) : (V.mk 1 n t l ks).show = nullT := by unfold V.show; simp
theorem show_two (n : Int) (t : List UInt8) (l : List V) (ks : List (List UInt8)) : (V.mk 2 n t l ks).show = if n = 1 then trueT else falseT := by unfold V.show; simp
theorem show_three (n : Int) (t : List UInt8) (l : List V) (ks : List (List UInt8)) : (V.mk 3 n t l ks).show = decI n := by unfold V.show; simp
theorem show_four (n : Int) (t : List UInt8) (l : List V) (ks : List (List UInt8)) : (V.mk 4 n t l ks).show = quoteJ t := by unfold V.show; simp
/-- a good list's items are good -/
theorem good_item {k n : Int} {t : List UInt8} {l : List V} {ks : List (List UInt8)} (h : (V.mk k n t l ks).good = true) (i : Nat) (hi : i < l.length) : l[i].good = true := by
  rw [good_mk, Bool.and_eq_true, goods_iff] at h
  exact h.2 i hi
theorem good_head {k n : Int} {t : List UInt8} {l : List V} {ks : List (List UInt8)} (h : (V.mk k n t l ks).good = true) : HeadIs k n t l.length ks := by
  rw [good_mk, Bool.and_eq_true] at h
  exact head_says h.1
end Go.Proofs.YtcbajbpdgmmaeaaDoor
namespace Go.Proofs.YtcbajbpdgmmaeaaDoor
open Go.RowKit

def qL (l : List UInt8) : List UInt8 := l.flatMap quoteC
theorem quoteT_q (l : List UInt8) : quoteT l = qL l ++ [34] := by
  induction l with
  | nil => rfl
  | cons c r ih => rw [quoteT, ih]; simp [qL]
theorem qL_snoc (l : List UInt8) (c : UInt8) : qL (l ++ [c]) = qL l ++ quoteC c := by simp [qL]
theorem quoteC_len (c : UInt8) : (quoteC c).length ≤ 6 := by
  unfold quoteC; split
  · simp
  · split <;> simp
theorem qL_len (l : List UInt8) : (qL l).length ≤ 6 * l.length := by
  induction l with
  | nil => simp [qL]
  | cons c r ih =>
    have := quoteC_len c
    have e : qL (c :: r) = quoteC c ++ qL r := by simp [qL]
    rw [e, List.length_append, List.length_cons]; omega
theorem quoteJ_q (l : List UInt8) : quoteJ l = 34 :: qL l ++ [34] := by rw [quoteJ, quoteT_q]; rfl
def hexJs : ByteArray := ⟨#[48, 49, 50, 51, 52, 53, 54, 55, 56, 57, 97, 98, 99, 100, 101, 102]⟩
theorem hexl_all : ∀ n : Fin 16, hexJs.data.toList[n.val]? = some (hexl n.val) := by decide +kernel
theorem hexl_at {n : Nat} (h : n < hexJs.size) (h16 : n < 16) : hexJs[n] = hexl n := by
  have := hexl_all ⟨n, h16⟩
  have hl : n < hexJs.data.toList.length := h
  rw [List.getElem?_eq_getElem hl] at this
  injection this
theorem six_cells (a b c d e f : Int) : ∀ u ∈ [Value.int .u8 a, Value.int .u8 b, Value.int .u8 c, Value.int .u8 d, Value.int .u8 e, Value.int .u8 f], u.oneCell' = true := by
  intro u hu; simp at hu; rcases hu with rfl | rfl | rfl | rfl | rfl | rfl <;> rfl
theorem hexq_cells (c : UInt8) (a b : Int) (ha : a = 48 + (c.toNat : Int) / 16) (hb : b = (c.toNat : Int) % 16) (h32 : c.toNat < 32) (h2 : b.toNat < hexJs.size) :
    [Value.int .u8 92, .int .u8 117, .int .u8 48, .int .u8 48, .int .u8 a, .int .u8 (hexJs[b.toNat].toNat : Int)] = cells [92, 117, 48, 48, UInt8.ofNat (48 + c.toNat / 16), hexl (c.toNat % 16)] := by
  have h3 : hexJs[b.toNat] = hexl b.toNat := hexl_at h2 (by omega)
  generalize hexJs[b.toNat] = q at *
  subst h3
  have e2 : b.toNat = c.toNat % 16 := by omega
  have e1 : a = ((UInt8.ofNat (48 + c.toNat / 16)).toNat : Int) := by rw [UInt8.toNat_ofNat']; omega
  rw [e2, e1]; rfl
/-- a row of bytes that a literal has made -/
theorem Buf.made (w : World) (l : List UInt8) (cs : Array Value) (hc : cs.toList = cells l) (hl : l.length ≤ maxLen) : Buf (w.alloc (.cells cs 5)) w.heap.size (.slice (some ⟨w.heap.size, 0, none⟩) l.length l.length) l := by
  have hn : cs.size = l.length := by rw [← Array.length_toList, hc]; simp [cells]
  refine ⟨by simp [cells], Or.inr ⟨w.heap.size, l.length, cs, rfl, Nat.le_refl _, heap_alloc_last w _, Nat.le_refl _, hl, by omega, ?_⟩⟩
  rw [hc]; exact List.take_of_length_le (by simp [cells])
set_option maxRecDepth 100000 in
set_option maxHeartbeats 1000000 in
theorem refQuoteJ_any (s : ByteArray) (hs : s.size ≤ 20000000000000) (w : World) :
    Calls Tryd.prog 39 #[.string s] w fun e w' => e = .returned (.string ⟨(quoteJ s.data.toList).toArray⟩) ∧ Below w.heap.size w w' := by
  obtain ⟨i0, hi, hz0, hz1, hz2⟩ := info_parts Tryd.infoByte
  have hm := Buf.made w [34] #[.int .u8 34] rfl (by unfold maxLen; decide)
  have hb := (Below.refl w.heap.size w).alloc (Nat.le_refl _) (.cells #[.int .u8 34] 5)
  have HM := Lib.hid hm; have HB := Lib.hid hb; clear hm hb
  go_enter Tryd.func39, Tryd.ntmps39
  go_wp2
  go_loopw [3, 4] (fun v i wr => ∃ k : Nat, k ≤ s.size ∧ i = .int .i64 k ∧ Buf wr w.heap.size v (34 :: qL (s.data.toList.take k)) ∧ Below w.heap.size w wr) (fun _ i _ => s.size - (intOf i).toNat)
  case atStart => exact ⟨0, Nat.zero_le _, rfl, HM.out, HB.out⟩
  case round =>
    clear HM HB
    obtain ⟨k, hk, rfl, hown, hb⟩ := hrel
    have hql := qL_len (s.data.toList.take k)
    have htl : (s.data.toList.take k).length ≤ k := List.length_take_le _ _
    have hbs := hb.size
    have hlen : (34 :: qL (s.data.toList.take k)).length ≤ 120000000000001 := by rw [List.length_cons]; omega
    by_cases hlt : k < s.size
    · have hsn := take_snoc s k hlt
      have hsn2 : 34 :: qL (s.data.toList.take (k + 1)) = 34 :: qL (s.data.toList.take k) ++ quoteC s[k] := by rw [hsn, qL_snoc]; rfl
      have hu := s[k].toNat_lt
      generalize 34 :: qL (s.data.toList.take k) = acc at *
      by_cases hp : s[k] = 34 ∨ s[k] = 92
      · have hq : quoteC s[k] = [92, s[k]] := by unfold quoteC; rw [if_pos hp]
        rw [hq] at hsn2
        have HN := Lib.hid hsn2
        clear hsn2 hsn hq hql htl
        have HP := Lib.hid hp
        by_cases h34 : s[k] = 34
        · have t1 : ((s[k].toNat : Int) == 34) = true := by rw [h34]; rfl
          have H34 := Lib.hid h34; clear h34 hp
          go_wp2_with (at_builtin; refine wpList_append_own _ rfl (.tmp 29) (.tmp 33) 79 rfl w.heap.size 5 i0 _ 1 1 Tryd.underlying79 hi hz0 hz1 hz2 rfl (by decide) _ _ _ rfl (World.ownsRow.alloc hown _) ⟨_, 0, none⟩ 2 2 [.int .u8 92, .int .u8 s[k].toNat] rfl rfl (new_cells _ #[_, _] _) (two_cells _ _) (by unfold maxLen; omega) (by omega) (by simp; omega) ?_)
          intro v' w1 hown' hg' _
          have hb1 : Below w.heap.size w w1 := (hb.alloc hbs _).grown hg' (by simp; omega) (fun j hj => (hown.lt j hj).1)
          go_wp2
          go_roundw
          case rel => exact ⟨k + 1, by omega, by go_num, Buf.cut hown' (by rw [HN.out]; simp) (by rw [HN.out, cells_app]; rfl), hb1⟩
          case measure => simp [intOf]; omega
        · have h92 : s[k] = 92 := by rcases hp with h | h; exact absurd h h34; exact h
          have t1 : ((s[k].toNat : Int) == 34) = false := by rw [h92]; rfl
          have t2 : ((s[k].toNat : Int) == 92) = true := by rw [h92]; rfl
          have H34 := Lib.hid h34; have H92 := Lib.hid h92; clear h34 h92 hp
          go_wp2_with (at_builtin; refine wpList_append_own _ rfl (.tmp 29) (.tmp 33) 79 rfl w.heap.size 5 i0 _ 1 1 Tryd.underlying79 hi hz0 hz1 hz2 rfl (by decide) _ _ _ rfl (World.ownsRow.alloc hown _) ⟨_, 0, none⟩ 2 2 [.int .u8 92, .int .u8 s[k].toNat] rfl rfl (new_cells _ #[_, _] _) (two_cells _ _) (by unfold maxLen; omega) (by omega) (by simp; omega) ?_)
          intro v' w1 hown' hg' _
          have hb1 : Below w.heap.size w w1 := (hb.alloc hbs _).grown hg' (by simp; omega) (fun j hj => (hown.lt j hj).1)
          go_wp2
          go_roundw
          case rel => exact ⟨k + 1, by omega, by go_num, Buf.cut hown' (by rw [HN.out]; simp) (by rw [HN.out, cells_app]; rfl), hb1⟩
          case measure => simp [intOf]; omega
      · have h34 : s[k].toNat ≠ 34 := fun e => hp (Or.inl (UInt8.toNat_inj.1 e))
        have h92 : s[k].toNat ≠ 92 := fun e => hp (Or.inr (UInt8.toNat_inj.1 e))
        have t1 : ((s[k].toNat : Int) == 34) = false := by simp; omega
        have t2 : ((s[k].toNat : Int) == 92) = false := by simp; omega
        by_cases h32 : s[k].toNat < 32
        · have hq : quoteC s[k] = [92, 117, 48, 48, UInt8.ofNat (48 + s[k].toNat / 16), hexl (s[k].toNat % 16)] := by unfold quoteC; rw [if_neg hp, if_pos h32]
          rw [hq] at hsn2
          have t3 : decide ((s[k].toNat : Int) < 32) = true := by simp; omega
          have HN := Lib.hid hsn2; have H32 := Lib.hid h32
          have m1 : (s[k].toNat : Int).tdiv 16 = (s[k].toNat : Int) / 16 := Int.tdiv_eq_ediv_of_nonneg (by omega)
          have m2 : (s[k].toNat : Int).tmod 16 = (s[k].toNat : Int) % 16 := Int.tmod_eq_emod_of_nonneg (by omega)
          have m3 : 0 ≤ (s[k].toNat : Int) % 16 := by omega
          have m4 : (s[k].toNat : Int) % 16 < 16 := by omega
          have m5 : IntKind.u8.wrap ((s[k].toNat : Int) / 16) = (s[k].toNat : Int) / 16 := by rw [IntKind.wrap_u8]; omega
          have m6 : IntKind.u8.wrap ((s[k].toNat : Int) % 16) = (s[k].toNat : Int) % 16 := by rw [IntKind.wrap_u8]; omega
          have m7 : IntKind.u8.wrap (48 + (s[k].toNat : Int) / 16) = 48 + (s[k].toNat : Int) / 16 := by rw [IntKind.wrap_u8]; omega
          clear hsn2 hsn hq hql htl hp h34 h92 h32
          go_wp2
          go_region_held3 (fun _ => True) (trivial) ((refine step_append_own rfl (.tmp 40) (.tmp 51) 79 rfl w.heap.size 5 i0 _ 1 1 Tryd.underlying79 hi hz0 hz1 hz2 rfl (by decide) _ _ _ rfl (World.ownsRow.alloc (World.ownsRow.drew hown) _) ⟨_, 0, none⟩ 6 6 [.int .u8 92, .int .u8 117, .int .u8 48, .int .u8 48, .int .u8 _, .int .u8 _] rfl rfl (new_cells _ #[_, _, _, _, _, _] _) (six_cells _ _ _ _ _ _) (by unfold maxLen; omega) (by omega) (by simp; omega) ?_; intro v' w1 hown' hg' hn'))
          all_goals
            have hb1 : Below w.heap.size w w1 := ((hb.drew).alloc hbs _).grown hg' (by simp; omega) (fun j hj => (hown.lt j hj).1)
            go_wp2
            go_roundw
            case rel => exact ⟨k + 1, by omega, by go_num, Buf.cut hown' (by rw [HN.out]; simp) (by rw [HN.out, cells_app]; exact congrArg _ (hexq_cells s[k] _ _ rfl rfl H32.out _)), hb1⟩
            case measure => simp [intOf]; omega
        · have hq : quoteC s[k] = [s[k]] := by unfold quoteC; rw [if_neg hp, if_neg h32]
          rw [hq] at hsn2
          have t3 : decide ((s[k].toNat : Int) < 32) = false := by simp; omega
          have HN := Lib.hid hsn2; have H32 := Lib.hid h32
          clear hsn2 hsn hq hql htl hp h34 h92 h32
          go_wp2_with (at_builtin; refine wpList_append_own _ rfl (.tmp 12) (.tmp 16) 79 rfl w.heap.size 5 i0 _ 1 1 Tryd.underlying79 hi hz0 hz1 hz2 rfl (by decide) _ _ _ rfl (World.ownsRow.alloc hown _) ⟨_, 0, none⟩ 1 1 [.int .u8 s[k].toNat] rfl rfl (new_cells _ #[_] _) (one_cell _) (by unfold maxLen; omega) (by omega) (by simp; omega) ?_)
          intro v' w1 hown' hg' _
          have hb1 : Below w.heap.size w w1 := (hb.alloc hbs _).grown hg' (by simp; omega) (fun j hj => (hown.lt j hj).1)
          go_wp2
          go_roundw
          case rel => exact ⟨k + 1, by omega, by go_num, Buf.cut hown' (by rw [HN.out]; simp) (by rw [HN.out, cells_app]; rfl), hb1⟩
          case measure => simp [intOf]; omega
    · have hke : k = s.size := by omega
      subst hke
      rw [take_all] at hown hlen
      have hfin : 34 :: qL s.data.toList ++ [34] = quoteJ s.data.toList := (quoteJ_q _).symm
      generalize 34 :: qL s.data.toList = acc at *
      have HF := Lib.hid hfin
      clear hfin hql htl
      go_wp2_with (at_builtin; refine wpList_append_own _ rfl (.tmp 53) (.tmp 54) 79 rfl w.heap.size 5 i0 _ 1 1 Tryd.underlying79 hi hz0 hz1 hz2 rfl (by decide) _ _ _ rfl (World.ownsRow.alloc hown _) ⟨_, 0, none⟩ 1 1 [.int .u8 34] rfl rfl (new_cells _ #[_] _) (one_cell _) (by unfold maxLen; omega) (by omega) (by simp; omega) ?_)
      intro v' w1 hown' hg' _
      have hb1 : Below w.heap.size w w1 := (hb.alloc hbs _).grown hg' (by simp; omega) (fun j hj => (hown.lt j hj).1)
      have hbf : Buf w1 w.heap.size v' (acc ++ [34]) := Buf.cut hown' (by simp) (by rw [cells_app]; rfl)
      have hcv := hbf.text
      go_wp2
      go_ret
      exact ⟨ret_str HF.out, hb1⟩
end Go.Proofs.YtcbajbpdgmmaeaaDoor
namespace Go.Proofs.YtcbajbpdgmmaeaaDoor
open Go.RowKit

end Go.Proofs.YtcbajbpdgmmaeaaDoor
namespace Go.Proofs.YtcbajbpdgmmaeaaDoor
open Go.Shelf Go.RowKit Go.Lib
/-- a parse that ends in a fault of form -/
def badEnd {α : Type} (e : Lib.NumEnd α) : Bool := Lib.NumEnd.casesOn e (fun _ => false) true false
def Tryd.lays137_ren : Go.Shelf.Ren := ⟨fun | 137 => 60 | 217 => 66 | 266 => 76 | n => n, fun | 9 => 9 | 5 => 5 | 3 => 3 | n => n, fun | n => n⟩
theorem Tryd.lays137 : Go.Proofs.Lays.n137 Tryd.prog Tryd.lays137_ren := {
  mixed := by kernel_rfl
  f137 := Tryd.func60.trans (congrArg some (by kernel_rfl))
  f217 := Tryd.func66.trans (congrArg some (by kernel_rfl))
  f266 := Tryd.func76.trans (congrArg some (by kernel_rfl))
  t3 := Tryd.underlying3
  a3 := Tryd.isAgg3
  z3 := Tryd.sizeOf3
  v3 := Tryd.zeroValue3
  t5 := Tryd.underlying5
  a5 := Tryd.isAgg5
  z5 := Tryd.sizeOf5
  v5 := Tryd.zeroValue5
  t9 := Tryd.underlying9
  a9 := Tryd.isAgg9
  z9 := Tryd.sizeOf9
  v9 := Tryd.zeroValue9 }
theorem Tryd.strings_IndexByte (s : ByteArray) (c : Int) (w : World) :
    Calls Tryd.prog 60 #[.string s, .int .u8 c] w fun e w' => e = .returned (.int .i64 (Lib.indexByte s.data.toList c.toNat.toUInt8)) ∧ w' = w := Any.strings_IndexByte Tryd.lays137 s c w
def Tryd.lays103_ren : Go.Shelf.Ren := ⟨fun | 103 => 54 | 210 => 61 | 206 => 52 | n => n, fun | 9 => 9 | 4 => 4 | 24 => 82 | 3 => 3 | n => n, fun | n => n⟩
theorem Tryd.lays103 : Go.Proofs.Lays.n103 Tryd.prog Tryd.lays103_ren := {
  mixed := by kernel_rfl
  f103 := Tryd.func54.trans (congrArg some (by kernel_rfl))
  f206 := Tryd.func52.trans (congrArg some (by kernel_rfl))
  f210 := Tryd.func61.trans (congrArg some (by kernel_rfl))
  t3 := Tryd.underlying3
  a3 := Tryd.isAgg3
  z3 := Tryd.sizeOf3
  v3 := Tryd.zeroValue3
  t4 := Tryd.underlying4
  a4 := Tryd.isAgg4
  z4 := Tryd.sizeOf4
  v4 := Tryd.zeroValue4
  t9 := Tryd.underlying9
  a9 := Tryd.isAgg9
  z9 := Tryd.sizeOf9
  v9 := Tryd.zeroValue9
  t24 := Tryd.underlying82
  a24 := Tryd.isAgg82
  z24 := Tryd.sizeOf82
  v24 := Tryd.zeroValue82 }
theorem Tryd.strings_CutPrefix (s p : ByteArray) (w : World) :
    Calls Tryd.prog 54 #[.string s, .string p] w fun e w' => e = .returned (.tuple #[.string ⟨(Lib.trimPrefix s.data.toList p.data.toList).toArray⟩, .bool (Lib.hasPrefix s.data.toList p.data.toList)]) ∧ w' = w := Any.strings_CutPrefix Tryd.lays103 s p w
def Tryd.laysM173_ren : Go.Shelf.Ren := ⟨fun | 173 => 56 | 246 => 64 | 283 => 72 | 284 => 73 | 285 => 74 | 286 => 75 | 129 => 83 | 317 => 82 | 318 => 84 | 319 => 85 | 320 => 86 | 337 => 88 | 338 => 89 | n => n, fun | 2 => 2 | 3 => 3 | 9 => 9 | 4 => 4 | 171 => 102 | 0 => 0 | 53 => 78 | 37 => 79 | 5 => 5 | 173 => 105 | 212 => 114 | 51 => 115 | 20 => 20 | 213 => 116 | 46 => 93 | 232 => 123 | 233 => 124 | n => n, fun | 17 => 3 | 18 => 5 | 19 => 6 | n => n⟩
theorem Tryd.laysM173 : Go.Proofs.LaysM.n173 Tryd.prog Tryd.laysM173_ren := {
  mixed := by kernel_rfl
  f129 := Tryd.func83.trans (congrArg some (by kernel_rfl))
  f173 := Tryd.func56.trans (congrArg some (by kernel_rfl))
  f246 := Tryd.func64.trans (congrArg some (by kernel_rfl))
  f283 := Tryd.func72.trans (congrArg some (by kernel_rfl))
  f284 := Tryd.func73.trans (congrArg some (by kernel_rfl))
  f285 := Tryd.func74.trans (congrArg some (by kernel_rfl))
  f286 := Tryd.func75.trans (congrArg some (by kernel_rfl))
  f317 := Tryd.func82.trans (congrArg some (by kernel_rfl))
  f318 := Tryd.func84.trans (congrArg some (by kernel_rfl))
  f319 := Tryd.func85.trans (congrArg some (by kernel_rfl))
  f320 := Tryd.func86.trans (congrArg some (by kernel_rfl))
  f337 := Tryd.func88.trans (congrArg some (by kernel_rfl))
  f338 := Tryd.func89.trans (congrArg some (by kernel_rfl))
  t0 := Tryd.underlying0
  a0 := Tryd.isAgg0
  z0 := Tryd.sizeOf0
  v0 := Tryd.zeroValue0
  t2 := Tryd.underlying2
  a2 := Tryd.isAgg2
  z2 := Tryd.sizeOf2
  v2 := Tryd.zeroValue2
  t3 := Tryd.underlying3
  a3 := Tryd.isAgg3
  z3 := Tryd.sizeOf3
  v3 := Tryd.zeroValue3
  t4 := Tryd.underlying4
  a4 := Tryd.isAgg4
  z4 := Tryd.sizeOf4
  v4 := Tryd.zeroValue4
  t5 := Tryd.underlying5
  a5 := Tryd.isAgg5
  z5 := Tryd.sizeOf5
  v5 := Tryd.zeroValue5
  t9 := Tryd.underlying9
  a9 := Tryd.isAgg9
  z9 := Tryd.sizeOf9
  v9 := Tryd.zeroValue9
  t20 := Tryd.underlying20
  a20 := Tryd.isAgg20
  z20 := Tryd.sizeOf20
  v20 := Tryd.zeroValue20
  t37 := Tryd.underlying79
  a37 := Tryd.isAgg79
  z37 := Tryd.sizeOf79
  v37 := Tryd.zeroValue79
  t46 := Tryd.underlying93
  a46 := Tryd.isAgg93
  z46 := Tryd.sizeOf93
  v46 := Tryd.zeroValue93
  t51 := Tryd.underlying115
  a51 := Tryd.isAgg115
  z51 := Tryd.sizeOf115
  v51 := Tryd.zeroValue115
  t53 := Tryd.underlying78
  a53 := Tryd.isAgg78
  z53 := Tryd.sizeOf78
  v53 := Tryd.zeroValue78
  t171 := Tryd.underlying102
  a171 := Tryd.isAgg102
  z171 := Tryd.sizeOf102
  v171 := Tryd.zeroValue102
  t173 := Tryd.underlying105
  a173 := Tryd.isAgg105
  z173 := Tryd.sizeOf105
  v173 := Tryd.zeroValue105
  t212 := Tryd.underlying114
  a212 := Tryd.isAgg114
  z212 := Tryd.sizeOf114
  v212 := Tryd.zeroValue114
  t213 := Tryd.underlying116
  a213 := Tryd.isAgg116
  z213 := Tryd.sizeOf116
  t232 := Tryd.underlying123
  a232 := Tryd.isAgg123
  z232 := Tryd.sizeOf123
  v232 := Tryd.zeroValue123
  t233 := Tryd.underlying124
  a233 := Tryd.isAgg124
  z233 := Tryd.sizeOf124
  v233 := Tryd.zeroValue124
  g17 := by kernel_rfl
  g18 := by kernel_rfl
  g19 := by kernel_rfl
  i0 := by kernel_rfl
  i2 := by kernel_rfl
  i3 := by kernel_rfl
  i4 := by kernel_rfl
  i5 := by kernel_rfl
  i9 := by kernel_rfl
  i20 := by kernel_rfl
  i37 := by kernel_rfl
  i46 := by kernel_rfl
  i51 := by kernel_rfl
  i53 := by kernel_rfl
  i171 := by kernel_rfl
  i173 := by kernel_rfl
  i212 := by kernel_rfl
  i232 := by kernel_rfl
  i233 := by kernel_rfl
  m17 := by kernel_rfl
  m18 := by kernel_rfl
  m19 := by kernel_rfl }
open Go.RowKit Go.Sort Go.Lib in
theorem Tryd.strconv_FormatInt_10 (n : Int) (h0 : -9223372036854775808 ≤ n) (h1 : n ≤ 9223372036854775807) (w : World) (htab : Lib.TabIs Tryd.prog w "internal/strconv.uint64pow10" .u64 Lib.pow10Tab) :
    Calls Tryd.prog 56 #[.int .i64 n, .int .i64 10] w fun e w' => e = .returned (.string ⟨(Lib.itoa n).toArray⟩) ∧ ∃ k os, w' = grow (w.drewN k) os := Any.strconv_FormatInt_10 Tryd.laysM173 n h0 h1 w htab
def Tryd.laysC174_ren : Go.Shelf.Ren := ⟨fun | 174 => 55 | 247 => 62 | 245 => 63 | 287 => 67 | 279 => 68 | 280 => 69 | 281 => 70 | 282 => 71 | 321 => 77 | 322 => 78 | 316 => 79 | 171 => 81 | 205 => 80 | 243 => 87 | 246 => 64 | 283 => 72 | 284 => 73 | 285 => 74 | 286 => 75 | 129 => 83 | 317 => 82 | 318 => 84 | 319 => 85 | 320 => 86 | 337 => 88 | 338 => 89 | n => n, fun | 9 => 9 | 3 => 3 | 2 => 2 | 75 => 85 | 85 => 86 | 4 => 4 | 167 => 96 | 5 => 5 | 53 => 78 | 175 => 97 | 46 => 93 | 168 => 99 | 37 => 79 | 0 => 0 | 210 => 110 | 21 => 21 | 127 => 118 | 145 => 121 | 143 => 119 | 171 => 102 | 173 => 105 | 212 => 114 | 51 => 115 | 20 => 20 | 213 => 116 | 232 => 123 | 233 => 124 | 80 => 125 | n => n, fun | 15 => 1 | 16 => 2 | 17 => 3 | 18 => 5 | 19 => 6 | n => n⟩
theorem Tryd.laysC174 : Go.Proofs.LaysC.n174 Tryd.prog Tryd.laysC174_ren := {
  mixed := by kernel_rfl
  f129 := Tryd.func83.trans (congrArg some (by kernel_rfl))
  f171 := Tryd.func81.trans (congrArg some (by kernel_rfl))
  f174 := Tryd.func55.trans (congrArg some (by kernel_rfl))
  f205 := Tryd.func80.trans (congrArg some (by kernel_rfl))
  f243 := Tryd.func87.trans (congrArg some (by kernel_rfl))
  f245 := Tryd.func63.trans (congrArg some (by kernel_rfl))
  f246 := Tryd.func64.trans (congrArg some (by kernel_rfl))
  f247 := Tryd.func62.trans (congrArg some (by kernel_rfl))
  f279 := Tryd.func68.trans (congrArg some (by kernel_rfl))
  f280 := Tryd.func69.trans (congrArg some (by kernel_rfl))
  f281 := Tryd.func70.trans (congrArg some (by kernel_rfl))
  f282 := Tryd.func71.trans (congrArg some (by kernel_rfl))
  f283 := Tryd.func72.trans (congrArg some (by kernel_rfl))
  f284 := Tryd.func73.trans (congrArg some (by kernel_rfl))
  f285 := Tryd.func74.trans (congrArg some (by kernel_rfl))
  f286 := Tryd.func75.trans (congrArg some (by kernel_rfl))
  f287 := Tryd.func67.trans (congrArg some (by kernel_rfl))
  f316 := Tryd.func79.trans (congrArg some (by kernel_rfl))
  f317 := Tryd.func82.trans (congrArg some (by kernel_rfl))
  f318 := Tryd.func84.trans (congrArg some (by kernel_rfl))
  f319 := Tryd.func85.trans (congrArg some (by kernel_rfl))
  f320 := Tryd.func86.trans (congrArg some (by kernel_rfl))
  f321 := Tryd.func77.trans (congrArg some (by kernel_rfl))
  f322 := Tryd.func78.trans (congrArg some (by kernel_rfl))
  f337 := Tryd.func88.trans (congrArg some (by kernel_rfl))
  f338 := Tryd.func89.trans (congrArg some (by kernel_rfl))
  t0 := Tryd.underlying0
  a0 := Tryd.isAgg0
  z0 := Tryd.sizeOf0
  v0 := Tryd.zeroValue0
  t2 := Tryd.underlying2
  a2 := Tryd.isAgg2
  z2 := Tryd.sizeOf2
  v2 := Tryd.zeroValue2
  t3 := Tryd.underlying3
  a3 := Tryd.isAgg3
  z3 := Tryd.sizeOf3
  v3 := Tryd.zeroValue3
  t4 := Tryd.underlying4
  a4 := Tryd.isAgg4
  z4 := Tryd.sizeOf4
  v4 := Tryd.zeroValue4
  t5 := Tryd.underlying5
  a5 := Tryd.isAgg5
  z5 := Tryd.sizeOf5
  v5 := Tryd.zeroValue5
  t9 := Tryd.underlying9
  a9 := Tryd.isAgg9
  z9 := Tryd.sizeOf9
  v9 := Tryd.zeroValue9
  t20 := Tryd.underlying20
  a20 := Tryd.isAgg20
  z20 := Tryd.sizeOf20
  v20 := Tryd.zeroValue20
  t21 := Tryd.underlying21
  a21 := Tryd.isAgg21
  z21 := Tryd.sizeOf21
  v21 := Tryd.zeroValue21
  t37 := Tryd.underlying79
  a37 := Tryd.isAgg79
  z37 := Tryd.sizeOf79
  v37 := Tryd.zeroValue79
  t46 := Tryd.underlying93
  a46 := Tryd.isAgg93
  z46 := Tryd.sizeOf93
  v46 := Tryd.zeroValue93
  t51 := Tryd.underlying115
  a51 := Tryd.isAgg115
  z51 := Tryd.sizeOf115
  v51 := Tryd.zeroValue115
  t53 := Tryd.underlying78
  a53 := Tryd.isAgg78
  z53 := Tryd.sizeOf78
  v53 := Tryd.zeroValue78
  t75 := Tryd.underlying85
  a75 := Tryd.isAgg85
  z75 := Tryd.sizeOf85
  v75 := Tryd.zeroValue85
  t85 := Tryd.underlying86
  a85 := Tryd.isAgg86
  z85 := Tryd.sizeOf86
  v85 := Tryd.zeroValue86
  t127 := Tryd.underlying118
  a127 := Tryd.isAgg118
  z127 := Tryd.sizeOf118
  v127 := Tryd.zeroValue118
  t143 := Tryd.underlying119
  a143 := Tryd.isAgg119
  z143 := Tryd.sizeOf119
  v143 := Tryd.zeroValue119
  t145 := Tryd.underlying121
  a145 := Tryd.isAgg121
  z145 := Tryd.sizeOf121
  v145 := Tryd.zeroValue121
  t167 := Tryd.underlying96
  a167 := Tryd.isAgg96
  z167 := Tryd.sizeOf96
  v167 := Tryd.zeroValue96
  t168 := Tryd.underlying99
  a168 := Tryd.isAgg99
  z168 := Tryd.sizeOf99
  v168 := Tryd.zeroValue99
  t171 := Tryd.underlying102
  a171 := Tryd.isAgg102
  z171 := Tryd.sizeOf102
  v171 := Tryd.zeroValue102
  t173 := Tryd.underlying105
  a173 := Tryd.isAgg105
  z173 := Tryd.sizeOf105
  v173 := Tryd.zeroValue105
  t175 := Tryd.underlying97
  a175 := Tryd.isAgg97
  z175 := Tryd.sizeOf97
  v175 := Tryd.zeroValue97
  t210 := Tryd.underlying110
  a210 := Tryd.isAgg110
  z210 := Tryd.sizeOf110
  v210 := Tryd.zeroValue110
  t212 := Tryd.underlying114
  a212 := Tryd.isAgg114
  z212 := Tryd.sizeOf114
  v212 := Tryd.zeroValue114
  t213 := Tryd.underlying116
  a213 := Tryd.isAgg116
  z213 := Tryd.sizeOf116
  t232 := Tryd.underlying123
  a232 := Tryd.isAgg123
  z232 := Tryd.sizeOf123
  v232 := Tryd.zeroValue123
  t233 := Tryd.underlying124
  a233 := Tryd.isAgg124
  z233 := Tryd.sizeOf124
  v233 := Tryd.zeroValue124
  g15 := by kernel_rfl
  g16 := by kernel_rfl
  g17 := by kernel_rfl
  g18 := by kernel_rfl
  g19 := by kernel_rfl
  t80 := Tryd.underlying125
  a80 := Tryd.isAgg125
  z80 := Tryd.sizeOf125
  v80 := Tryd.zeroValue125
  i0 := by kernel_rfl
  i2 := by kernel_rfl
  i3 := by kernel_rfl
  i4 := by kernel_rfl
  i5 := by kernel_rfl
  i9 := by kernel_rfl
  i20 := by kernel_rfl
  i21 := by kernel_rfl
  i37 := by kernel_rfl
  i46 := by kernel_rfl
  i51 := by kernel_rfl
  i53 := by kernel_rfl
  i75 := by kernel_rfl
  i80 := by kernel_rfl
  i85 := by kernel_rfl
  i127 := by kernel_rfl
  i143 := by kernel_rfl
  i145 := by kernel_rfl
  i167 := by kernel_rfl
  i168 := by kernel_rfl
  i171 := by kernel_rfl
  i173 := by kernel_rfl
  i175 := by kernel_rfl
  i210 := by kernel_rfl
  i212 := by kernel_rfl
  i232 := by kernel_rfl
  i233 := by kernel_rfl
  m15 := by kernel_rfl
  m16 := by kernel_rfl
  m17 := by kernel_rfl
  m18 := by kernel_rfl
  m19 := by kernel_rfl
  c0 := by kernel_rfl
  c2 := by kernel_rfl
  c3 := by kernel_rfl
  c4 := by kernel_rfl
  c5 := by kernel_rfl
  c9 := by kernel_rfl
  c20 := by kernel_rfl
  c21 := by kernel_rfl
  c37 := by kernel_rfl
  c46 := by kernel_rfl
  c51 := by kernel_rfl
  c53 := by kernel_rfl
  c75 := by kernel_rfl
  c80 := by kernel_rfl
  c85 := by kernel_rfl
  c127 := by kernel_rfl
  c143 := by kernel_rfl
  c145 := by kernel_rfl
  c167 := by kernel_rfl
  c168 := by kernel_rfl
  c171 := by kernel_rfl
  c173 := by kernel_rfl
  c175 := by kernel_rfl
  c210 := by kernel_rfl
  c212 := by kernel_rfl
  c213 := by kernel_rfl
  c232 := by kernel_rfl
  c233 := by kernel_rfl }
theorem Tryd.strconv_ParseInt_10_at64_ok (s : ByteArray) (hmax : s.size ≤ 9223372036854775806) (v : Int) (h : Lib.parseIntB 64 s.data.toList = .ok v) (w : World) :
    Calls Tryd.prog 55 #[.string s, .int .i64 10, .int .i64 64] w fun e w' => e = .returned (.tuple #[.int .i64 v, .nilIface]) ∧ (w' = w ∨ ∃ t, w' = Lib.bytesWorld w 5 t) := Any.strconv_ParseInt_10_at64_ok Tryd.laysC174 s hmax v h w
theorem Tryd.strconv_ParseInt_10_at64_bad (s : ByteArray) (hlim : s.size ≤ 281474976710656) (hb : badEnd (Lib.parseIntB 64 s.data.toList) = true) (ev : Value) (w : World) (hv : w.cell? ⟨1, 0, none⟩ = some ev) (hev : ev = .nilIface ∨ ∃ te pe, ev = .iface te pe) :
    Calls Tryd.prog 55 #[.string s, .int .i64 10, .int .i64 64] w fun e w' => ∃ N, e = .returned (.tuple #[.int .i64 (0), .iface 99 (.pointer (some ⟨N, 0, none⟩))]) ∧ w.heap.size ≤ N ∧ w'.heap[N]? = some (.cells #[.string ⟨#[80, 97, 114, 115, 101, 73, 110, 116]⟩, .string s, ev] 110 (0, 0)) ∧ Below w.heap.size w w' := by
  rcases h : Lib.parseIntB 64 s.data.toList with v | _ | _
  · rw [h] at hb; cases hb
  · exact Any.strconv_ParseInt_10_at64_syntax Tryd.laysC174 s hlim h ev w hv hev
  · rw [h] at hb; cases hb
theorem Tryd.strconv_ParseInt_10_at64_range (s : ByteArray) (hlim : s.size ≤ 281474976710656) (h : Lib.parseIntB 64 s.data.toList = .range) (ev : Value) (w : World) (hv : w.cell? ⟨2, 0, none⟩ = some ev) (hev : ev = .nilIface ∨ ∃ te pe, ev = .iface te pe) :
    Calls Tryd.prog 55 #[.string s, .int .i64 10, .int .i64 64] w fun e w' => ∃ N, e = .returned (.tuple #[.int .i64 (Lib.intSat 64 s.data.toList), .iface 99 (.pointer (some ⟨N, 0, none⟩))]) ∧ w.heap.size ≤ N ∧ w'.heap[N]? = some (.cells #[.string ⟨#[80, 97, 114, 115, 101, 73, 110, 116]⟩, .string s, ev] 110 (0, 0)) ∧ Below w.heap.size w w' := Any.strconv_ParseInt_10_at64_range Tryd.laysC174 s hlim h ev w hv hev
def Tryd.lays99_ren : Go.Shelf.Ren := ⟨fun | 99 => 40 | 206 => 52 | n => n, fun | 9 => 9 | 4 => 4 | 3 => 3 | n => n, fun | n => n⟩
theorem Tryd.lays99 : Go.Proofs.Lays.n99 Tryd.prog Tryd.lays99_ren := {
  mixed := by kernel_rfl
  f99 := Tryd.func40.trans (congrArg some (by kernel_rfl))
  f206 := Tryd.func52.trans (congrArg some (by kernel_rfl))
  t3 := Tryd.underlying3
  a3 := Tryd.isAgg3
  z3 := Tryd.sizeOf3
  v3 := Tryd.zeroValue3
  t4 := Tryd.underlying4
  a4 := Tryd.isAgg4
  z4 := Tryd.sizeOf4
  v4 := Tryd.zeroValue4
  t9 := Tryd.underlying9
  a9 := Tryd.isAgg9
  z9 := Tryd.sizeOf9
  v9 := Tryd.zeroValue9 }
theorem Tryd.strings_HasPrefix (s p : ByteArray) (w : World) :
    Calls Tryd.prog 40 #[.string s, .string p] w fun e w' => e = .returned (.bool (Lib.hasPrefix s.data.toList p.data.toList)) ∧ w' = w := Any.strings_HasPrefix Tryd.lays99 s p w
def Tryd.lays109_ren : Go.Shelf.Ren := ⟨fun | 109 => 34 | n => n, fun | 31 => 26 | 9 => 9 | 3 => 3 | 0 => 0 | 4 => 4 | n => n, fun | n => n⟩
theorem Tryd.lays109 : Go.Proofs.Lays.n109 Tryd.prog Tryd.lays109_ren := {
  mixed := by kernel_rfl
  f109 := Tryd.func34.trans (congrArg some (by kernel_rfl))
  t0 := Tryd.underlying0
  a0 := Tryd.isAgg0
  z0 := Tryd.sizeOf0
  v0 := Tryd.zeroValue0
  t3 := Tryd.underlying3
  a3 := Tryd.isAgg3
  z3 := Tryd.sizeOf3
  v3 := Tryd.zeroValue3
  t4 := Tryd.underlying4
  a4 := Tryd.isAgg4
  z4 := Tryd.sizeOf4
  v4 := Tryd.zeroValue4
  t9 := Tryd.underlying9
  a9 := Tryd.isAgg9
  z9 := Tryd.sizeOf9
  v9 := Tryd.zeroValue9
  t31 := Tryd.underlying26
  a31 := Tryd.isAgg26
  z31 := Tryd.sizeOf26
  v31 := Tryd.zeroValue26 }
open Go.Lib in
theorem Tryd.slices_Index_string (b off n c : Nat) (zs : List ByteArray) (x : ByteArray) (w : World) (hz : n ≤ zs.length) (hbig : n ≤ 9223372036854775807) (hc : ∀ j, j < zs.length → w.cell? ⟨b, off + j, none⟩ = some (.string (zs.getD j ByteArray.empty))) :
    Calls Tryd.prog 34 #[.slice (some ⟨b, off, none⟩) n c, .string x] w fun e w' => e = .returned (.int .i64 (Lib.idxOfS (zs.take n) x)) ∧ w' = w := Any.slices_Index_string Tryd.lays109 b off n c zs x w hz hbig hc
open Go.Lib in
theorem Tryd.slices_Index_string_empty (a : Option Addr) (c : Nat) (x : ByteArray) (w : World) :
    Calls Tryd.prog 34 #[.slice a 0 c, .string x] w fun e w' => e = .returned (.int .i64 (Lib.idxOfS [] x)) ∧ w' = w := Any.slices_Index_string_empty Tryd.lays109 a c x w
def Tryd.laysNm216_ren : Go.Shelf.Ren := ⟨fun | 16 => 45 | n => n, fun | 24 => 26 | 9 => 9 | 4 => 4 | n => n, fun | n => n⟩
theorem Tryd.laysNm216 : Go.Proofs.Lays2.n16 Tryd.prog Tryd.laysNm216_ren := {
  mixed := by kernel_rfl
  f16 := Tryd.func45.trans (congrArg some (by kernel_rfl))
  t4 := Tryd.underlying4
  a4 := Tryd.isAgg4
  z4 := Tryd.sizeOf4
  v4 := Tryd.zeroValue4
  t9 := Tryd.underlying9
  a9 := Tryd.isAgg9
  z9 := Tryd.sizeOf9
  v9 := Tryd.zeroValue9
  t24 := Tryd.underlying26
  a24 := Tryd.isAgg26
  z24 := Tryd.sizeOf26
  v24 := Tryd.zeroValue26
  i9 := by kernel_rfl }
theorem Tryd.slices_Clone_string (b off n c : Nat) (zs : List ByteArray) (w : World) (hz : n ≤ zs.length) (hbig : n * 16 ≤ 140737488355328) (hc : ∀ j, j < zs.length → w.cell? ⟨b, off + j, none⟩ = some (.string (zs.getD j ByteArray.empty))) :
    Calls Tryd.prog 45 #[.slice (some ⟨b, off, none⟩) n c] w fun e w' => ∃ v', e = .returned v' ∧ w'.ownsRow w.heap.size 9 1 v' n ((zs.take n).map (Value.string)) ∧ v' ≠ .slice none 0 0 ∧ Below w.heap.size w w' := Any.slices_Clone_string Tryd.laysNm216 b off n c zs w hz hbig hc
theorem Tryd.slices_Clone_string_nil (n c : Nat) (w : World) :
    Calls Tryd.prog 45 #[.slice none n c] w fun e w' => e = .returned (.slice none 0 0) ∧ w' = w := Any.slices_Clone_string_nil Tryd.laysNm216 n c w
theorem Tryd.slices_Clone_string_zero (a : Addr) (c : Nat) (w : World) :
    Calls Tryd.prog 45 #[.slice (some a) 0 c] w fun e w' => ∃ v', e = .returned v' ∧ w'.ownsRow w.heap.size 9 1 v' 0 [] ∧ v' ≠ .slice none 0 0 ∧ Below w.heap.size w w' := Any.slices_Clone_string_zero Tryd.laysNm216 a c w
end Go.Proofs.YtcbajbpdgmmaeaaDoor
namespace Go.Proofs.YtcbajbpdgmmaeaaDoor
open Go.RowKit

theorem gPow : Tryd.prog.globalNamed "internal/strconv.uint64pow10" = some 3 := by kernel_rfl
/-- the table that a number's printing reads is as laid, below block B -/
structure TabIn (B : Nat) (w : World) : Prop where
  tab : Lib.TabIs Tryd.prog w "internal/strconv.uint64pow10" .u64 Lib.pow10Tab
  lt : 3 < B
theorem TabIn.below {B : Nat} {w w' : World} (h : TabIn B w) (hb : Below B w w') : TabIn B w' := by
  obtain ⟨h1, l1⟩ := h
  refine ⟨?_, l1⟩
  unfold Lib.TabIs at h1 ⊢
  rw [← h1]
  unfold World.var?
  rw [gPow]
  simp only [Option.bind_some]
  rw [hb.block _ l1]
theorem TabIn.more {B B' : Nat} {w : World} (h : TabIn B w) (hB : B ≤ B') : TabIn B' w := ⟨h.tab, Nat.lt_of_lt_of_le h.lt hB⟩
/-- the library's variables are as laid, below block B -/
structure KitIn (B : Nat) (w : World) : Prop where
  tab : Lib.TabIs Tryd.prog w "internal/strconv.uint64pow10" .u64 Lib.pow10Tab
  syn : ∃ ev, w.cell? ⟨1, 0, none⟩ = some ev ∧ (ev = .nilIface ∨ ∃ te pe, ev = .iface te pe)
  rng : ∃ ev, w.cell? ⟨2, 0, none⟩ = some ev ∧ (ev = .nilIface ∨ ∃ te pe, ev = .iface te pe)
  lt : 3 < B ∧ 1 < B ∧ 2 < B
theorem KitIn.below {B : Nat} {w w' : World} (h : KitIn B w) (hb : Below B w w') : KitIn B w' := by
  obtain ⟨h1, ⟨e2, h2, h2'⟩, ⟨e3, h3, h3'⟩, l1, l2, l3⟩ := h
  refine ⟨?_, ⟨e2, (hb.cell (p := ⟨1, 0, none⟩) l2).trans h2, h2'⟩, ⟨e3, (hb.cell (p := ⟨2, 0, none⟩) l3).trans h3, h3'⟩, l1, l2, l3⟩
  unfold Lib.TabIs at h1 ⊢
  rw [← h1]
  unfold World.var?
  rw [gPow]
  simp only [Option.bind_some]
  rw [hb.block _ l1]
theorem KitIn.toTab {B : Nat} {w : World} (h : KitIn B w) : TabIn B w := ⟨h.tab, h.lt.1⟩
theorem KitIn.more {B B' : Nat} {w : World} (h : KitIn B w) (hB : B ≤ B') : KitIn B' w := ⟨h.tab, h.syn, h.rng, Nat.lt_of_lt_of_le h.lt.1 hB, Nat.lt_of_lt_of_le h.lt.2.1 hB, Nat.lt_of_lt_of_le h.lt.2.2 hB⟩
end Go.Proofs.YtcbajbpdgmmaeaaDoor
namespace Go.Proofs.YtcbajbpdgmmaeaaDoor
open Go.RowKit

theorem itoa_dec (n : Int) : Lib.itoa n = decI n := by
  have h : ∀ u : Nat, Lib.decDigits u = decL u := by
    intro u
    induction u using Nat.strongRecOn with
    | _ u ih =>
      rw [Lib.decDigits, decL]
      by_cases h : u < 10
      · rw [dif_pos h, if_pos h]; unfold digit; rw [Nat.mod_eq_of_lt h]
      · rw [dif_neg h, if_neg h, ih (u / 10) (by omega)]; rfl
  unfold Lib.itoa decI
  by_cases hn : n < 0
  · rw [if_pos hn, if_pos hn, h]
  · rw [if_neg hn, if_neg hn, h]
    congr 1; omega
theorem hexs_low (c : UInt8) (h32 : c.toNat < 32) (h2 : c.toNat / 16 < (⟨#[48, 49, 50, 51, 52, 53, 54, 55, 56, 57, 97, 98, 99, 100, 101, 102]⟩ : ByteArray).size) : (((⟨#[48, 49, 50, 51, 52, 53, 54, 55, 56, 57, 97, 98, 99, 100, 101, 102]⟩ : ByteArray)[c.toNat / 16].toNat : Nat) : Int) = ((UInt8.ofNat (48 + c.toNat / 16)).toNat : Int) := by
  have h3 : hexJs[c.toNat / 16] = hexl (c.toNat / 16) := hexl_at h2 (by omega)
  change ((hexJs[c.toNat / 16].toNat : Nat) : Int) = _
  generalize hexJs[c.toNat / 16] = q at *
  subst h3
  have : hexl (c.toNat / 16) = UInt8.ofNat (48 + c.toNat / 16) := by unfold hexl; rw [if_pos (by omega)]
  rw [this]
theorem hexl_low (c : UInt8) (h2 : c.toNat % 16 < (⟨#[48, 49, 50, 51, 52, 53, 54, 55, 56, 57, 97, 98, 99, 100, 101, 102]⟩ : ByteArray).size) : (((⟨#[48, 49, 50, 51, 52, 53, 54, 55, 56, 57, 97, 98, 99, 100, 101, 102]⟩ : ByteArray)[c.toNat % 16].toNat : Nat) : Int) = ((hexl (c.toNat % 16)).toNat : Int) := by
  have h3 : hexJs[c.toNat % 16] = hexl (c.toNat % 16) := hexl_at h2 (by omega)
  change ((hexJs[c.toNat % 16].toNat : Nat) : Int) = _
  generalize hexJs[c.toNat % 16] = q at *
  subst h3
  rfl
theorem qL_app (a b : List UInt8) : qL (a ++ b) = qL a ++ qL b := by simp [qL]
theorem qL_take (l : List UInt8) (k : Nat) : (qL (l.take k)).length ≤ (qL l).length := by
  conv => rhs; rw [← List.take_append_drop k l, qL_app, List.length_append]
  omega
theorem quoteC_pos (c : UInt8) : 1 ≤ (quoteC c).length := by
  unfold quoteC; split
  · simp
  · split <;> simp
theorem qL_ge (l : List UInt8) : l.length ≤ (qL l).length := by
  induction l with
  | nil => simp
  | cons c r ih =>
    have := quoteC_pos c
    have e : qL (c :: r) = quoteC c ++ qL r := by simp [qL]
    rw [e, List.length_append, List.length_cons]; omega
theorem quoteJ_len (l : List UInt8) : (quoteJ l).length = (qL l).length + 2 := by rw [quoteJ_q]; simp
end Go.Proofs.YtcbajbpdgmmaeaaDoor
namespace Go.Proofs.YtcbajbpdgmmaeaaDoor

/-! ## numbers -/
def numC (c : UInt8) : Bool := c == 45 || isDigit c
/-- what stands ahead that a number may hold -/
def numL (s : List UInt8) : List UInt8 := s.takeWhile numC
def numberC (s : List UInt8) : Option (Int × List UInt8) :=
  match Lib.parseIntB 64 (numL s) with
  | .ok n => if decI n = numL s then some (n, s.drop (numL s).length) else none
  | _ => none
def noNum : List UInt8 → Bool
  | [] => true
  | c :: _ => !numC c
theorem numL_app (s : List UInt8) : numL s ++ s.drop (numL s).length = s := by
  unfold numL
  induction s with
  | nil => rfl
  | cons c r ih =>
    rw [List.takeWhile_cons]
    by_cases h : numC c = true
    · rw [if_pos h]; simp [ih]
    · rw [if_neg h]; simp
theorem numberC_only {s r : List UInt8} {n : Int} (h : numberC s = some (n, r)) : s = decI n ++ r := by
  unfold numberC at h
  split at h
  · split at h
    · rename_i e
      injection h with h; injection h with h1 h2
      subst h1
      rw [e, ← h2, numL_app]
    · cases h
  · cases h
theorem decL_all (n : Nat) : ∀ c ∈ decL n, isDigit c = true := by
  induction n using Nat.strongRecOn with
  | _ n ih =>
    intro c hc
    unfold decL at hc
    split at hc
    · rw [List.mem_singleton] at hc; subst hc; exact digit_is n
    · rename_i h
      rcases List.mem_append.1 hc with hc | hc
      · exact ih (n / 10) (by omega) c hc
      · rw [List.mem_singleton] at hc; subst hc; exact digit_is n
theorem takeWhile_all {p : UInt8 → Bool} : ∀ (a r : List UInt8), (∀ c ∈ a, p c = true) → (match r with | [] => true | c :: _ => !p c) = true → (a ++ r).takeWhile p = a
  | [], [], _, _ => rfl
  | [], c :: r, _, h => by
    show (c :: r).takeWhile p = []
    rw [List.takeWhile_cons, if_neg (by simpa using h)]
  | c :: a, r, ha, h => by
    show (c :: (a ++ r)).takeWhile p = c :: a
    rw [List.takeWhile_cons, if_pos (ha c (by simp)), takeWhile_all a r (fun c hc => ha c (by simp [hc])) h]
theorem numL_dec (n : Int) (r : List UInt8) (h : noNum r = true) : numL (decI n ++ r) = decI n := by
  refine takeWhile_all _ _ (fun c hc => ?_) (by cases r with | nil => rfl | cons c r => exact h)
  have hd : isDigit c = true ∨ c = 45 := by
    unfold decI at hc
    split at hc
    · rcases List.mem_cons.1 hc with rfl | hc
      · exact .inr rfl
      · exact .inl (decL_all _ c hc)
    · exact .inl (decL_all _ c hc)
  unfold numC
  rcases hd with h | h
  · rw [h]; simp
  · subst h; rfl
theorem digit_nat (n : Nat) : (digit n).toNat = 48 + n % 10 := by
  unfold digit; rw [UInt8.toNat_ofNat']; omega
theorem parseU_dec (n : Nat) : ∀ (r : List UInt8) (acc : Nat), acc * 10 ^ (decL n).length + n ≤ 9007199254740992 → Lib.parseUintM 18446744073709551615 acc (decL n ++ r) = Lib.parseUintM 18446744073709551615 (acc * 10 ^ (decL n).length + n) r := by
  induction n using Nat.strongRecOn with
  | _ n ih =>
    intro r acc hb
    have step : ∀ (m a : Nat) (r : List UInt8), a * 10 + m % 10 ≤ 9007199254740992 → Lib.parseUintM 18446744073709551615 a (digit m :: r) = Lib.parseUintM 18446744073709551615 (a * 10 + m % 10) r := by
      intro m a r h
      have hd := digit_nat m
      conv => lhs; unfold Lib.parseUintM
      rw [hd]
      rw [if_pos (by omega), if_neg (by omega), if_neg (by omega)]
      congr 1; omega
    by_cases h : n < 10
    · have e : decL n = [digit n] := by unfold decL; rw [if_pos h]
      rw [e] at hb ⊢
      simp only [List.length_singleton, Nat.pow_one] at hb ⊢
      show Lib.parseUintM _ acc (digit n :: r) = _
      rw [step n acc r (by omega), Nat.mod_eq_of_lt h]
    · have e : decL n = decL (n / 10) ++ [digit n] := by rw [decL, if_neg h]
      have hp : acc * 10 ^ (decL n).length + n = (acc * 10 ^ (decL (n / 10)).length + n / 10) * 10 + n % 10 := by
        rw [e, List.length_append, List.length_singleton, Nat.pow_succ, ← Nat.mul_assoc, Nat.add_mul]
        omega
      rw [hp] at hb ⊢
      rw [e, List.append_assoc, ih (n / 10) (by omega) _ acc (by omega)]
      exact step n _ r hb
theorem parseI_dec (n : Int) (hn : -9007199254740992 ≤ n ∧ n ≤ 9007199254740992) : Lib.parseIntB 64 (decI n) = .ok n := by
  have hu : Lib.parseUintB 64 (decL n.natAbs) = .ok n.natAbs := by
    have h := parseU_dec n.natAbs [] 0 (by omega)
    unfold Lib.parseUintB
    rw [if_neg (by intro e; have := decL_pos n.natAbs; rw [e] at this; simp at this)]
    simp only [List.append_nil, Nat.zero_mul, Nat.zero_add] at h
    exact h
  obtain ⟨c, r, e, hc⟩ := decL_first n.natAbs
  unfold decI
  by_cases h : n < 0
  · rw [if_pos h]
    unfold Lib.parseIntB
    simp only
    rw [if_pos (by decide), hu]
    simp only
    rw [if_neg (by simp), if_neg (by omega), if_pos (show (45 : UInt8).toNat = 45 from rfl)]
    congr 1; omega
  · rw [if_neg h]
    rw [e] at hu ⊢
    unfold Lib.parseIntB
    simp only
    have hcd : 48 ≤ c.toNat ∧ c.toNat ≤ 57 := by unfold isDigit at hc; simpa using hc
    rw [if_neg (by omega), hu]
    simp only
    rw [if_neg (by omega), if_neg (by omega), if_neg (by omega)]
    congr 1; omega
theorem parseI_in {l : List UInt8} {v : Int} (h : Lib.parseIntB 64 l = .ok v) : -9223372036854775808 ≤ v ∧ v ≤ 9223372036854775807 := by
  unfold Lib.parseIntB at h
  split at h
  · cases h
  · simp only at h
    split at h
    · cases h
    · cases h
    · split at h
      · cases h
      · split at h
        · cases h
        · rename_i h1 h2
          injection h with h
          have e : (2 : Nat) ^ (64 - 1) = 9223372036854775808 := by decide
          rw [e] at h1 h2
          subst h
          split
          · rename_i hn; constructor
            · have : ¬ (9223372036854775808 < _) := fun hh => h2 ⟨hn, hh⟩
              omega
            · omega
          · rename_i hn; constructor
            · omega
            · have : ¬ (9223372036854775808 ≤ _) := fun hh => h1 ⟨hn, hh⟩
              omega
theorem numberC_back (n : Int) (hn : -9007199254740992 ≤ n ∧ n ≤ 9007199254740992) (r : List UInt8) (hr : noNum r = true) : numberC (decI n ++ r) = some (n, r) := by
  unfold numberC
  rw [numL_dec n r hr, parseI_dec n hn]
  simp

/-! ## texts -/
/-- a small hexadecimal digit's number; -1: none -/
def hexC (c : UInt8) : Int := if 48 ≤ c.toNat ∧ c.toNat ≤ 57 then c.toNat - 48 else if 97 ≤ c.toNat ∧ c.toNat ≤ 102 then c.toNat - 87 else -1
theorem hexC_all : ∀ n : Fin 256, 0 ≤ hexC (UInt8.ofNat n.val) → hexl (hexC (UInt8.ofNat n.val)).toNat = UInt8.ofNat n.val ∧ (hexC (UInt8.ofNat n.val)).toNat < 16 := by decide +kernel
theorem hexC_is (c : UInt8) (h : 0 ≤ hexC c) : hexl (hexC c).toNat = c ∧ (hexC c).toNat < 16 := by
  have hh := hexC_all ⟨c.toNat, c.toNat_lt⟩
  simp only [UInt8.ofNat_toNat] at hh
  exact hh h
theorem hexC_hexl (n : Nat) (h : n < 16) : hexC (hexl n) = n := by
  have : ∀ n : Fin 16, hexC (hexl n.val) = (n.val : Int) := by decide +kernel
  exact this ⟨n, h⟩
/-- behind a text's first sign: the text, and what is behind its end -/
def quotC : List UInt8 → List UInt8 → Option (List UInt8 × List UInt8)
  | [], _ => none
  | c :: r, acc =>
    if c = 34 then some (acc, r)
    else if c = 92 then
      match r with
      | e :: r' =>
        if e = 34 ∨ e = 92 then quotC r' (acc ++ [e])
        else match r' with
          | x :: y :: h :: l :: r'' => if e = 117 ∧ x = 48 ∧ y = 48 ∧ (h = 48 ∨ h = 49) ∧ 0 ≤ hexC l then quotC r'' (acc ++ [UInt8.ofNat (16 * (h.toNat - 48) + (hexC l).toNat)]) else none
          | _ => none
      | [] => none
    else if c.toNat < 32 then none else quotC r (acc ++ [c])
theorem quotC_back (t r : List UInt8) : ∀ acc : List UInt8, quotC (quoteT t ++ r) acc = some (acc ++ t, r) := by
  induction t with
  | nil => intro acc; rw [quoteT]; unfold quotC; simp
  | cons c t ih =>
    intro acc
    rw [quoteT]
    by_cases h : c = 34 ∨ c = 92
    · rw [quoteC, if_pos h, List.append_assoc]
      show quotC (92 :: c :: (quoteT t ++ r)) acc = _
      unfold quotC
      rw [if_neg (by decide), if_pos rfl]
      simp only [h, if_true]
      rw [ih]; simp
    · by_cases h2 : c.toNat < 32
      · rw [quoteC, if_neg h, if_pos h2, List.append_assoc]
        show quotC (92 :: 117 :: 48 :: 48 :: UInt8.ofNat (48 + c.toNat / 16) :: hexl (c.toNat % 16) :: (quoteT t ++ r)) acc = _
        have e2 := hexC_hexl (c.toNat % 16) (by omega)
        have hh : (UInt8.ofNat (48 + c.toNat / 16)).toNat = 48 + c.toNat / 16 := by rw [UInt8.toNat_ofNat']; omega
        have h01 : UInt8.ofNat (48 + c.toNat / 16) = 48 ∨ UInt8.ofNat (48 + c.toNat / 16) = 49 := by
          have : c.toNat / 16 = 0 ∨ c.toNat / 16 = 1 := by omega
          rcases this with h | h
          · rw [h]; exact .inl rfl
          · rw [h]; exact .inr rfl
        have e3 : UInt8.ofNat (16 * ((UInt8.ofNat (48 + c.toNat / 16)).toNat - 48) + (hexC (hexl (c.toNat % 16))).toNat) = c := by
          rw [e2, hh]
          have : 16 * (48 + c.toNat / 16 - 48) + ((c.toNat % 16 : Nat) : Int).toNat = c.toNat := by omega
          rw [this]; exact UInt8.ofNat_toNat
        unfold quotC
        rw [if_neg (by decide), if_pos rfl]
        dsimp only
        rw [if_neg (by decide), if_pos ⟨rfl, rfl, rfl, h01, by rw [e2]; omega⟩, e3, ih]
        simp
      · have h3 : c ≠ 34 := fun e => h (Or.inl e)
        have h4 : c ≠ 92 := fun e => h (Or.inr e)
        rw [quoteC, if_neg h, if_neg h2, List.append_assoc]
        show quotC (c :: (quoteT t ++ r)) acc = _
        unfold quotC
        rw [if_neg h3, if_neg h4, if_neg h2, ih]; simp
theorem quotC_only (m : Nat) : ∀ (s acc t r : List UInt8), s.length ≤ m → quotC s acc = some (t, r) → ∃ t', t = acc ++ t' ∧ s = quoteT t' ++ r := by
  induction m with
  | zero =>
    intro s acc t r hm h
    obtain rfl : s = [] := List.length_eq_zero_iff.1 (by omega)
    unfold quotC at h; cases h
  | succ m ih =>
    intro s acc t r hm h
    cases s with
    | nil => unfold quotC at h; cases h
    | cons c s =>
      have hm' : s.length ≤ m := by simpa using hm
      unfold quotC at h
      by_cases h34 : c = 34
      · rw [if_pos h34] at h
        injection h with h; injection h with h1 h2
        subst h1; subst h2; subst h34
        exact ⟨[], by simp, rfl⟩
      · rw [if_neg h34] at h
        by_cases h92 : c = 92
        · rw [if_pos h92] at h
          subst h92
          cases s with
          | nil => cases h
          | cons e s =>
            simp only at h
            by_cases he : e = 34 ∨ e = 92
            · rw [if_pos he] at h
              obtain ⟨t', e1, e2⟩ := ih s _ t r (by simp at hm'; omega) h
              refine ⟨e :: t', by rw [e1]; simp, ?_⟩
              rw [quoteT, quoteC, if_pos he, e2]; simp
            · rw [if_neg he] at h
              rcases s with _ | ⟨x, _ | ⟨y, _ | ⟨hh, _ | ⟨l, s⟩⟩⟩⟩
              · cases h
              · cases h
              · cases h
              · cases h
              · simp only at h
                by_cases hc : e = 117 ∧ x = 48 ∧ y = 48 ∧ (hh = 48 ∨ hh = 49) ∧ 0 ≤ hexC l
                · rw [if_pos hc] at h
                  obtain ⟨rfl, rfl, rfl, h01, hl⟩ := hc
                  obtain ⟨t', e1, e2⟩ := ih s _ t r (by simp at hm'; omega) h
                  obtain ⟨hx1, hx2⟩ := hexC_is l hl
                  refine ⟨UInt8.ofNat (16 * (hh.toNat - 48) + (hexC l).toNat) :: t', by rw [e1]; simp, ?_⟩
                  have hhn : hh.toNat = 48 ∨ hh.toNat = 49 := by rcases h01 with rfl | rfl; exact .inl rfl; exact .inr rfl
                  have hbn : (UInt8.ofNat (16 * (hh.toNat - 48) + (hexC l).toNat)).toNat = 16 * (hh.toNat - 48) + (hexC l).toNat := by rw [UInt8.toNat_ofNat']; omega
                  have hq : quoteC (UInt8.ofNat (16 * (hh.toNat - 48) + (hexC l).toNat)) = [92, 117, 48, 48, hh, l] := by
                    obtain ⟨b, hb⟩ : ∃ b, b = UInt8.ofNat (16 * (hh.toNat - 48) + (hexC l).toNat) := ⟨_, rfl⟩
                    rw [← hb] at hbn ⊢
                    unfold quoteC
                    rw [if_neg (by
                      rintro (e | e)
                      · rw [e] at hbn; have : (34 : UInt8).toNat = 34 := rfl; omega
                      · rw [e] at hbn; have : (92 : UInt8).toNat = 92 := rfl; omega), if_pos (by omega)]
                    have d1 : UInt8.ofNat (48 + b.toNat / 16) = hh := by
                      have : 48 + b.toNat / 16 = hh.toNat := by omega
                      rw [this]; exact UInt8.ofNat_toNat
                    have d2 : hexl (b.toNat % 16) = l := by
                      have : b.toNat % 16 = (hexC l).toNat := by omega
                      rw [this]; exact hx1
                    rw [d1, d2]
                  rw [quoteT, hq, e2]; simp
                · rw [if_neg hc] at h; cases h
        · rw [if_neg h92] at h
          by_cases h32 : c.toNat < 32
          · rw [if_pos h32] at h; cases h
          · rw [if_neg h32] at h
            obtain ⟨t', e1, e2⟩ := ih s _ t r hm' h
            refine ⟨c :: t', by rw [e1]; simp, ?_⟩
            rw [quoteT, quoteC, if_neg (fun h => h.elim h34 h92), if_neg h32, e2]; simp
/-- a text between " at the front, and what is behind it -/
def quotedC (s : List UInt8) : Option (List UInt8 × List UInt8) := if beginsB s [34] then quotC (s.drop 1) [] else none
theorem begins_one {s : List UInt8} {c : UInt8} (h : beginsB s [c] = true) : s = c :: s.drop 1 := by
  cases s with
  | nil => simp [beginsB] at h
  | cons d r =>
    rw [begins_cons] at h
    have : d = c := by simpa using h
    subst this; rfl
theorem quotedC_back (t r : List UInt8) : quotedC (quoteJ t ++ r) = some (t, r) := by
  unfold quotedC quoteJ
  show (if beginsB (34 :: (quoteT t ++ r)) [34] then quotC (quoteT t ++ r) [] else none) = _
  rw [b_same, if_pos rfl, quotC_back]; rfl
theorem quotedC_only {s t r : List UInt8} (h : quotedC s = some (t, r)) : s = quoteJ t ++ r := by
  unfold quotedC at h
  split at h
  · rename_i hb
    have e := begins_one hb
    obtain ⟨t', e1, e2⟩ := quotC_only _ _ [] t r (Nat.le_refl _) h
    rw [e, e2]
    have : t' = t := by simpa using e1.symm
    rw [this]; rfl
  · cases h
end Go.Proofs.YtcbajbpdgmmaeaaDoor
