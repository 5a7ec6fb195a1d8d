/- Texts merged by program, in build order: JsonQuoted, JsonGroup, Cut, Split, Prs, Get, Seen, OpenPairs, JsonObj, JsonObject. -/
import Derived.Test.YtjgjajnpbcghmaaDoorM07
import Derived.WalkMore
import Derived.Test.YtjgjajnpbcghmaaDoorM03
import Derived.Deep.RegionWith
import Derived.Test.YtjgjajnpbcghmaaDoorM06
import Derived.Test.YtjgjajnpbcghmaaDoorM01
import Derived.Maps.OwnSet
import Derived.ProofKit
import Derived.ChangeMaps5
import Derived.Deep.Slices
import Derived.SizedLaws
namespace Go.Proofs.YtjgjajnpbcghmaaDoor
open Go.RowKit

theorem extS (s : ByteArray) (k : Nat) : s.extract k s.size = ⟨(s.data.toList.drop k).toArray⟩ := by
  apply ByteArray.ext
  rw [ByteArray.data_extract]
  apply Array.ext'
  rw [Array.toList_extract, List.extract]
  show (s.data.toList.drop k).take (s.size - k) = _
  rw [List.take_of_length_le]
  rw [List.length_drop]
  exact Nat.le_refl _
theorem toListS (t : List UInt8) : (⟨t.toArray⟩ : ByteArray).data.toList = t := by simp
/-- what quoted answers -/
def quotedR (s : List UInt8) : List UInt8 × List UInt8 × Bool := match quotedC s with
  | some (t, r) => (t, r, true)
  | none => ([], [], false)
theorem quotC_end (acc : List UInt8) : quotC [] acc = none := by unfold quotC; rfl
theorem quotC_stop (r acc : List UInt8) : quotC (34 :: r) acc = some (acc, r) := by unfold quotC; rw [if_pos rfl]
theorem quotC_low (c : UInt8) (r acc : List UInt8) (h34 : c ≠ 34) (h92 : c ≠ 92) (h : c.toNat < 32) : quotC (c :: r) acc = none := by unfold quotC; rw [if_neg h34, if_neg h92, if_pos h]
theorem quotC_plain (c : UInt8) (r acc : List UInt8) (h34 : c ≠ 34) (h92 : c ≠ 92) (h : ¬ c.toNat < 32) : quotC (c :: r) acc = quotC r (acc ++ [c]) := by
  conv => lhs; unfold quotC
  rw [if_neg h34, if_neg h92, if_neg h]
set_option maxRecDepth 100000 in
set_option maxHeartbeats 2000000 in
theorem quoted_any (s : ByteArray) (hs : s.size ≤ 1000000) (w : World) :
    Calls Tryd.prog 44 #[.string s] w fun e w' => e = .returned (.tuple #[.string ⟨(quotedR s.data.toList).1.toArray⟩, .string ⟨(quotedR s.data.toList).2.1.toArray⟩, .bool (quotedR s.data.toList).2.2]) ∧ Below w.heap.size w w' := by
  obtain ⟨i0, hi, hz0, hz1, hz2⟩ := info_parts Tryd.infoByte
  have hhp := fun w => Tryd.strings_HasPrefix s ⟨#[34]⟩ w
  simp only [hasPrefix_begins] at hhp
  have hsl : s.data.toList.length = s.size := rfl
  obtain ⟨QR, hQR⟩ : ∃ QR, quotedR s.data.toList = QR := ⟨_, rfl⟩
  rw [hQR]
  cases hb : beginsB s.data.toList [34] with
  | false =>
    have e : QR = ([], [], false) := hQR.symm.trans (by unfold quotedR quotedC; rw [hb]; rfl)
    subst e
    rw [show beginsB s.data.toList (⟨#[34]⟩ : ByteArray).data.toList = false from hb] at hhp
    have HP := Lib.hid hhp; clear hhp hQR hb
    go_enter Tryd.func44, Tryd.ntmps44
    go_wp2_with fail
    go_step3
    go_wp2_with (go_at_call 43; refine (HP.out _).mono ?_; rintro e1 w1 ⟨rfl, rfl⟩)
    rw [Exit.noGoto_ret]
    refine bodyPost_ret (v := .tuple #[.string ⟨#[]⟩, .string ⟨#[]⟩, .bool false]) (by simp [results, Tryd.results44, go_sem]) rfl ?_
    exact ⟨rfl, Below.refl _ _⟩
  | true =>
    rw [show beginsB s.data.toList (⟨#[34]⟩ : ByteArray).data.toList = true from hb] at hhp
    have h1 : 1 ≤ s.size := by
      have := congrArg List.length (begins_one hb)
      rw [hsl] at this; simp at this; omega
    have hq : QR = match quotC (s.data.toList.drop 1) [] with | some (t, r) => (t, r, true) | none => ([], [], false) := hQR.symm.trans (by unfold quotedR quotedC; rw [hb]; rfl)
    have HP := Lib.hid hhp; have HQ := Lib.hid hq
    clear hhp hQR hb hq
    go_enter Tryd.func44, Tryd.ntmps44
    go_wp2_with fail
    go_step3
    go_wp2_with (go_at_call 43; refine (HP.out _).mono ?_; rintro e1 w1 ⟨rfl, rfl⟩)
    go_step3
    go_wp2_with fail
    go_loopw [5, 6] (fun v i wr => ∃ (k : Nat) (acc : List UInt8), 1 ≤ k ∧ k ≤ s.size ∧ i = .int .i64 k ∧ acc.length ≤ k ∧ Buf wr w1.heap.size v acc ∧ quotC (s.data.toList.drop k) acc = quotC (s.data.toList.drop 1) [] ∧ Below w1.heap.size w1 wr) (fun _ i _ => s.size - (intOf i).toNat)
    case atStart => exact ⟨1, [], Nat.le_refl _, h1, rfl, by simp, ⟨rfl, Or.inl ⟨rfl, rfl⟩⟩, rfl, Below.refl _ _⟩
    case round =>
      obtain ⟨k, acc, hk1, hk, rfl, hal, hown, hw, hb⟩ := hrel
      have hbs := hb.size
      by_cases hlt : k < s.size
      · have hdk : s.data.toList.drop k = s[k] :: s.data.toList.drop (k + 1) := List.drop_eq_getElem_cons (by rw [hsl]; exact hlt)
        rw [hdk] at hw
        have hu := s[k].toNat_lt
        by_cases h34 : s[k] = 34
        · rw [h34, quotC_stop] at hw
          have t1 : ((s[k].toNat : Int) == 34) = true := by rw [h34]; rfl
          have hcv := hown.text
          have hcv2 := (hown.below ((Below.refl wr.heap.size wr).drew)).text
          have hxs : s.extract (k + 1) s.size = ⟨(s.data.toList.drop (k + 1)).toArray⟩ := extS s (k + 1)
          have HXS := Lib.hid hxs; clear hxs
          have hke : ((k : Int) == (s.size : Int)) = false := by simp; omega
          have e : QR = (acc, s.data.toList.drop (k + 1), true) := by rw [HQ.out, ← hw]
          subst e
          have H34 := Lib.hid h34; clear hw h34 hdk
          go_wp2
          go_region
          all_goals
            go_wp2
            rw [Exit.noGoto_ret]
            refine bodyPost_ret (v := .tuple #[.string ⟨acc.toArray⟩, .string (s.extract (k + 1) s.size), .bool true]) (by simp [results, Tryd.results44, go_sem]) rfl ?_
            exact ⟨by rw [HXS.out], hb.drew⟩
        · have h34n : s[k].toNat ≠ 34 := fun e => h34 (UInt8.toNat_inj.1 e)
          have t1 : ((s[k].toNat : Int) == 34) = false := by simp; omega
          by_cases h92 : s[k] = 92
          · have t2 : ((s[k].toNat : Int) == 92) = true := by rw [h92]; rfl
            rw [h92, quotC_esc] at hw
            have hel := escR_len (s.data.toList.drop (k + 1))
            rw [List.length_drop, hsl] at hel
            have hxs : (s.extract k s.size).data.toList = 92 :: s.data.toList.drop (k + 1) := by rw [extS, toListS, hdk, h92]
            have hes := fun w => escaped_any (s.extract k s.size) (s.data.toList.drop (k + 1)) hxs (by rw [ext_size]; omega) w
            obtain ⟨ER, hER⟩ : ∃ ER, escR (s.data.toList.drop (k + 1)) = ER := ⟨_, rfl⟩
            rw [hER] at hw hel hes
            obtain ⟨c, n⟩ := ER
            dsimp only at hw hel hes
            have HES := Lib.hid hes; have H92 := Lib.hid h92; have H34 := Lib.hid h34; have HL := Lib.hid hel; clear hes h92 h34 h34n hdk hER hxs
            by_cases hn : n = 0
            · subst hn
              rw [if_pos rfl] at hw
              have e : QR = ([], [], false) := by rw [HQ.out, ← hw]
              subst e
              clear hw hel
              go_wp2_with (go_at_call 57; refine (HES.out _).mono ?_; rintro e2 w2 ⟨rfl, q, rfl⟩)
              rw [Exit.noGoto_ret]
              refine bodyPost_ret (v := .tuple #[.string ⟨#[]⟩, .string ⟨#[]⟩, .bool false]) (by simp [results, Tryd.results44, go_sem]) rfl ?_
              exact ⟨rfl, belowDrewN hb q⟩
            · rw [if_neg hn, List.drop_drop] at hw
              have hkn : k + 1 + (n - 1) = k + n := by omega
              rw [hkn] at hw
              have tn : ((n : Int) == 0) = false := by simp; omega
              have hn6 : n ≤ 6 := hel.1
              have hkn2 : k + n ≤ s.size := by omega
              have HW := Lib.hid hw; clear hw hkn hel
              have hown2 := fun q => hown.below (belowDrewN (Below.refl wr.heap.size wr) q)
              go_wp2_with (first
                | (go_at_call 57; refine (HES.out _).mono ?_; rintro e2 w2 ⟨rfl, q, rfl⟩)
                | (at_builtin; refine wpList_append_own _ rfl (.tmp 41) (.tmp 43) 39 rfl w1.heap.size 5 i0 _ 1 1 Tryd.underlying39 hi hz0 hz1 hz2 rfl (by decide) _ _ _ rfl (World.ownsRow.alloc (hown2 q) _) ⟨_, 0, none⟩ 1 1 [.int .u8 c.toNat] rfl rfl (new_cells _ #[_] _) (one_cell _) (by unfold maxLen; omega) (by omega) (by simp; omega) ?_; intro v' w3 hown' hg' _))
              have hb1 : Below w1.heap.size w1 w3 := ((belowDrewN hb q).alloc (by simp; omega) _).grown hg' (by simp; omega) (fun j hj => (hown.lt j hj).1)
              go_wp2
              go_roundw
              case rel => exact ⟨k + n, acc ++ [c], by omega, by omega, by go_num, by simp; omega, Buf.cut hown' (by simp) (by rw [cells_app]; rfl), HW.out, hb1⟩
              case measure => simp [intOf]; omega
          · have h92n : s[k].toNat ≠ 92 := fun e => h92 (UInt8.toNat_inj.1 e)
            have t2 : ((s[k].toNat : Int) == 92) = false := by simp; omega
            by_cases h32 : s[k].toNat < 32
            · have t3 : decide ((s[k].toNat : Int) < 32) = true := by simp; omega
              rw [quotC_low _ _ _ h34 h92 h32] at hw
              have e : QR = ([], [], false) := by rw [HQ.out, ← hw]
              subst e
              have H92 := Lib.hid h92; have H34 := Lib.hid h34; clear h92 h34 h34n h92n hdk hw
              go_wp2
              rw [Exit.noGoto_ret]
              refine bodyPost_ret (v := .tuple #[.string ⟨#[]⟩, .string ⟨#[]⟩, .bool false]) (by simp [results, Tryd.results44, go_sem]) rfl ?_
              exact ⟨rfl, hb⟩
            · have t3 : decide ((s[k].toNat : Int) < 32) = false := by simp; omega
              rw [quotC_plain _ _ _ h34 h92 h32] at hw
              have HW := Lib.hid hw; have H92 := Lib.hid h92; have H34 := Lib.hid h34; clear h92 h34 h34n h92n hdk hw
              go_wp2_with (at_builtin; refine wpList_append_own _ rfl (.tmp 20) (.tmp 22) 39 rfl w1.heap.size 5 i0 _ 1 1 Tryd.underlying39 hi hz0 hz1 hz2 rfl (by decide) _ _ _ rfl (World.ownsRow.alloc hown _) ⟨_, 0, none⟩ 1 1 [.int .u8 s[k].toNat] rfl rfl (new_cells _ #[_] _) (one_cell _) (by unfold maxLen; omega) (by omega) (by simp; omega) ?_; intro v' w3 hown' hg' _)
              have hb1 : Below w1.heap.size w1 w3 := (hb.alloc hbs _).grown hg' (by simp; omega) (fun j hj => (hown.lt j hj).1)
              go_wp2
              go_roundw
              case rel => exact ⟨k + 1, acc ++ [s[k]], by omega, by omega, by go_num, by simp; omega, Buf.cut hown' (by simp) (by rw [cells_app]; rfl), HW.out, hb1⟩
              case measure => simp [intOf]; omega
      · have hke : k = s.size := by omega
        subst hke
        rw [List.drop_of_length_le (by rw [hsl]; exact Nat.le_refl _), quotC_end] at hw
        have e : QR = ([], [], false) := by rw [HQ.out, ← hw]
        subst e
        clear hw
        go_wp2
        rw [Exit.noGoto_ret]
        refine bodyPost_ret (v := .tuple #[.string ⟨#[]⟩, .string ⟨#[]⟩, .bool false]) (by simp [results, Tryd.results44, go_sem]) rfl ?_
        exact ⟨rfl, hb⟩
end Go.Proofs.YtjgjajnpbcghmaaDoor
namespace Go.Proofs.YtjgjajnpbcghmaaDoor
open Go.RowKit
set_option linter.unusedVariables false
set_option linter.unusedSimpArgs false

theorem Tryd.infoStrG : (Tryd.prog.info? 9).map (fun i => (i.zero, i.size, i.bytes)) = some (some (.string ⟨#[]⟩), 1, 16) := by kernel_rfl
theorem Tryd.infoVal : (Tryd.prog.info? 34).map (fun i => (i.zero, i.size, i.bytes)) = some (some (.agg #[.int .i64 0, .int .i64 0, .string ⟨#[]⟩, .slice none 0 0, .slice none 0 0]), 5, 80) := by kernel_rfl
/-- what a reader of one value answers: five cells, the text behind it, and whether there is one -/
def Outs (o : Option (V × List UInt8)) (w : World) (e : Ending) (w' : World) : Prop :=
  (∃ k n t A a b A' a' b' rest ok, e = .returned (.tuple #[.agg #[.int .i64 k, .int .i64 n, .string t, .slice A a b, .slice A' a' b'], .string ⟨List.toArray rest⟩, .bool ok]) ∧ (match o with
    | some (x, r) => ok = true ∧ rest = r ∧ VIs w' w.heap.size w'.heap.size x [.int .i64 k, .int .i64 n, .string t, .slice A a b, .slice A' a' b']
    | none => ok = false)) ∧ Below w.heap.size w w'
/-- what the code's value does of a text, at so much fuel -/
def ValueSays (B f : Nat) (s : List UInt8) : Prop := ∀ w : World, KitIn B w → B ≤ w.heap.size → Calls Tryd.prog 26 #[.string ⟨s.toArray⟩] w fun e w' => Outs (valueC f s) w e w'
def groupA (f : Nat) (obj : Bool) (s : List UInt8) : Option (V × List UInt8) := if beginsB s [if obj then 125 else 93] then some (.mk (if obj then 6 else 5) 0 [] [] [], s.drop 1) else groupC f obj s [] []
/-- what the code's group does -/
def GroupSays (B f : Nat) (obj : Bool) (s : List UInt8) : Prop := ∀ w : World, KitIn B w → B ≤ w.heap.size → Calls Tryd.prog 45 #[.string ⟨s.toArray⟩, .int .i64 (if obj then 6 else 5), .string ⟨#[if obj then 125 else 93]⟩] w fun e w' => Outs (groupA f obj s) w e w'
theorem cutPrefix_any (s t : List UInt8) (w : World) :
    Calls Tryd.prog 58 #[.string ⟨s.toArray⟩, .string ⟨t.toArray⟩] w fun e w' => e = .returned (.tuple #[.string ⟨(if beginsB s t then s.drop t.length else s).toArray⟩, .bool (beginsB s t)]) ∧ w' = w :=
  (Tryd.strings_CutPrefix ⟨s.toArray⟩ ⟨t.toArray⟩ w).mono fun e w' ⟨h1, h2⟩ => ⟨by
    rw [h1]
    simp only [toListS, hasPrefix_begins]
    cases hb : beginsB s t with
    | true => rw [trimPrefix_yes hb]; rfl
    | false => rw [trimPrefix_no hb]; rfl, h2⟩
theorem groupC_list (f : Nat) (s : List UInt8) (l : List V) : groupC (f + 1) false s [] l = (match valueC f s with
    | none => none
    | some (x, r) => if beginsB r [44] then groupC f false (r.drop 1) [] (l ++ [x]) else if beginsB r [93] then some (.mk 5 0 [] (l ++ [x]) [], r.drop 1) else none) := by
  conv => lhs; unfold groupC
  simp only [Bool.false_eq_true, if_false]
  rfl
theorem five_one {w : World} {L N : Nat} {x : V} {cs : List Value} (h : VIs w L N x cs) : ∀ u ∈ cs, u.oneCell' = true := by
  obtain ⟨A, c, A', c', rfl⟩ := h.form
  intro u hu
  simp at hu; rcases hu with rfl | rfl | rfl | rfl | rfl <;> rfl
theorem str_sizeL (t : List UInt8) : (⟨t.toArray⟩ : ByteArray).size = t.length := by show t.toArray.size = _; simp
theorem new_cells1 (w : World) (o : Obj) (cs : Array Value) (e : TypeId) : ∀ j u, cs.toList[j]? = some u → ((w.alloc o).alloc (.cells cs e)).cell? ((⟨w.heap.size + 1, 0, none⟩ : Addr).add j) = some u := by
  intro j u h
  have := new_cells (w.alloc o) cs e j u h
  rwa [World.size_alloc] at this
theorem own_form {w : World} {B size n : Nat} {e : TypeId} {v : Value} {xs : List Value} (h : w.ownsRow B e size v n xs) : ∃ A c, v = .slice A n c := by
  rcases h.2 with ⟨hv, h0⟩ | ⟨g, cap, cur, hv, _⟩
  · exact ⟨none, 0, by rw [hv, h0]⟩
  · exact ⟨_, _, hv⟩
theorem GSt.varL {R : Nat} {kind : Int} {w wr w2 : World} {lv kv : Value} {l : List V} {ks : List (List UInt8)} {xs : List Value} (h : GSt R kind w wr lv kv l ks xs) (hg : wr.grownBy w2 lv.ownBlock) :
    w2.heap[R + 1]? = some (.cells #[.int .i64 kind, .int .i64 0, .string ⟨#[]⟩, lv, kv] 34 (0, 0)) :=
  (hg.block _ (by have := h.size; omega) (fun e => by have := (h.rowL.lt _ e.symm).1; omega)).trans h.var
theorem GSt.varK {R : Nat} {kind : Int} {w wr w2 : World} {lv kv : Value} {l : List V} {ks : List (List UInt8)} {xs : List Value} (h : GSt R kind w wr lv kv l ks xs) (hg : wr.grownBy w2 kv.ownBlock) :
    w2.heap[R + 1]? = some (.cells #[.int .i64 kind, .int .i64 0, .string ⟨#[]⟩, lv, kv] 34 (0, 0)) :=
  (hg.block _ (by have := h.size; omega) (fun e => by have := (h.rowK.lt _ e.symm).1; omega)).trans h.var
def strLen : Value → Nat
  | .string s => s.size
  | _ => 0
theorem valueC_len {f : Nat} {s r : List UInt8} {v : V} (h : valueC f s = some (v, r)) : r.length < s.length := by
  have e := (only_all f).1 s v r h
  have := show_pos v
  rw [e, List.length_append]; omega
set_option maxRecDepth 100000 in
set_option maxHeartbeats 20000000 in
theorem groupList (B m : Nat) (ih : ∀ f s, f ≤ m → s.length ≤ 4096 → 2 * s.length + 1 ≤ f → ValueSays B f s) (f : Nat) (s : List UInt8) (hf : f ≤ m + 1) (hs : s.length ≤ 4096) (hfs : 2 * s.length + 2 ≤ f) : GroupSays B f false s := by
  intro w hk hB
  show Calls Tryd.prog 45 #[.string ⟨s.toArray⟩, .int .i64 5, .string ⟨#[93]⟩] w _
  have hcp : ∀ w, Calls Tryd.prog 58 #[.string ⟨s.toArray⟩, .string ⟨#[93]⟩] w fun e w' => e = .returned (.tuple #[.string ⟨(if beginsB s [93] then s.drop 1 else s).toArray⟩, .bool (beginsB s [93])]) ∧ w' = w := fun w => cutPrefix_any s [93] w
  obtain ⟨GA, hGA⟩ : ∃ GA, groupA f false s = GA := ⟨_, rfl⟩
  rw [hGA]
  cases hb : beginsB s [93] with
  | true =>
    rw [hb] at hcp
    have e : GA = some (.mk 5 0 [] [] [], s.drop 1) := hGA.symm.trans (by unfold groupA; exact if_pos hb)
    subst e
    have HCP := Lib.hid hcp; clear hcp hGA hb ih hk
    go_enter Tryd.func45, Tryd.ntmps45
    go_wp2_with (go_at_call 58; refine (HCP.out _).mono ?_; rintro e1 w1 ⟨rfl, rfl⟩)
    refine bodyPost_ret (v := .tuple #[.agg #[.int .i64 5, .int .i64 0, .string ⟨#[]⟩, .slice none 0 0, .slice none 0 0], .string ⟨(s.drop 1).toArray⟩, .bool true]) (by simp [results, Tryd.results45, go_sem]) rfl ?_
    refine ⟨⟨_, _, _, _, _, _, _, _, _, _, _, rfl, rfl, rfl, ?_⟩, ((Below.refl _ _).alloc (Nat.le_refl _) _).alloc (by simp) _⟩
    exact VIs.mk (t := []) (l := []) (ks := []) ⟨by simp, by simp, by simp, by simp⟩ (.inl rfl) (.inl rfl)
  | false =>
    rw [hb] at hcp
    obtain ⟨i0, hi, hz0, hz1, hz2⟩ := info_parts Tryd.infoVal
    have e : GA = groupC f false s [] [] := hGA.symm.trans (by unfold groupA; exact if_neg (by rw [if_neg (by decide)]; simp [hb]))
    have EG := Lib.hid e
    obtain ⟨R, hR⟩ : ∃ R, w.heap.size = R := ⟨_, rfl⟩
    obtain ⟨W2, hW2⟩ : ∃ W2, W2 = ((w.alloc (.cells #[.int .i64 0, .int .i64 0, .string ⟨#[]⟩, .slice none 0 0, .slice none 0 0] 34)).alloc (.cells #[.int .i64 5, .int .i64 0, .string ⟨#[]⟩, .slice none 0 0, .slice none 0 0] 34)) := ⟨_, rfl⟩
    have gst : GSt R 5 w W2 (.slice none 0 0) (.slice none 0 0) [] [] [] := by
      refine ⟨?_, ?_, ⟨rfl, .inl ⟨rfl, rfl⟩⟩, ⟨rfl, .inl ⟨rfl, rfl⟩⟩, fun i hi => absurd hi (Nat.not_lt_zero _), ?_, ?_⟩
      · rw [hW2, ← hR]
        have := heap_alloc_last (w.alloc (.cells #[.int .i64 0, .int .i64 0, .string ⟨#[]⟩, .slice none 0 0, .slice none 0 0] 34)) (.cells #[.int .i64 5, .int .i64 0, .string ⟨#[]⟩, .slice none 0 0, .slice none 0 0] 34)
        simpa using this
      · rw [hW2, ← hR, Below.heap_alloc _ _ _ (by simp)]; exact heap_alloc_last w _
      · rw [hW2, ← hR]; exact ((Below.refl _ _).alloc (Nat.le_refl _) _).alloc (by simp) _
      · rw [hW2, ← hR]; simp
    have HCP := Lib.hid hcp; have GST := Lib.hid gst; have HR := Lib.hid hR; have HW2 := Lib.hid hW2; have HK := Lib.hid hk; have IH := Lib.hid ih
    clear hcp hGA hb ih hk gst hR hW2 e
    go_enter Tryd.func45, Tryd.ntmps45
    go_wp2_with (go_at_call 58; refine (HCP.out _).mono ?_; rintro e1 w1 ⟨rfl, rfl⟩)
    rw [← HW2.out]
    go_loopw [0] (fun sv wr => ∃ (s1 : List UInt8) (l : List V) (lv : Value) (xs : List Value) (f1 : Nat), sv = .string ⟨s1.toArray⟩ ∧ s1.length + l.length ≤ 4096 ∧ f1 ≤ f ∧ 2 * s1.length + 2 ≤ f1 ∧ groupC f1 false s1 [] l = GA ∧ GSt R 5 w wr lv (.slice none 0 0) l [] xs) (fun sv _ => strLen sv)
    case atStart => exact ⟨s, [], _, [], f, rfl, by simp; omega, Nat.le_refl _, hfs, EG.out.symm, GST.out⟩
    case round =>
      obtain ⟨s1, l, lv, xs, f1, rfl, hsl, hf1, hf2, hG, gst⟩ := hrel
      obtain ⟨f2, rfl⟩ : ∃ f2, f1 = f2 + 1 := ⟨f1 - 1, by omega⟩
      rw [groupC_list] at hG
      have hR := HR.out
      have hval := IH.out f2 s1 (by omega) (by omega) (by omega) wr (HK.out.below (gst.low.mono (by omega))) (by have := gst.size; omega)
      have hsz := gst.size
      have GS := Lib.hid gst
      cases hv : valueC f2 s1 with
      | none =>
        rw [hv] at hG hval
        have e : GA = none := hG.symm
        subst e
        have HV := Lib.hid hval; clear hG hval hv hR gst
        go_wp2_with fail
        refine (HV.out).mono ?_
        rintro e2 w2 ⟨⟨k, n, t, A, a, b, A', a', b', rest, ok, rfl, hok⟩, hb2⟩
        subst hok
        dsimp only
        have hb3 := hb2.alloc hb2.size (.cells #[.int .i64 k, .int .i64 n, .string t, .slice A a b, .slice A' a' b'] 34)
        have g2 := GS.out.later hb3
        obtain ⟨⟨e0, e1, e2, e3, e4⟩, f0, f1, f2', f3, f4⟩ := box_of g2.res
        have G2 := Lib.hid g2; clear g2 hb3
        rw [HR.out]
        go_wp2_with fail
        have g2 := G2.out
        obtain ⟨wf, hwf⟩ : ∃ wf, wf = set5 (w2.alloc (.cells #[.int .i64 k, .int .i64 n, .string t, .slice A a b, .slice A' a' b'] 34)) R 0 (.int .i64 0) (.int .i64 0) (.string ⟨#[]⟩) (.slice none 0 0) (.slice none 0 0) := ⟨_, rfl⟩
        change bodyPost _ _ _ _ _ (set5 (w2.alloc (.cells #[.int .i64 k, .int .i64 n, .string t, .slice A a b, .slice A' a' b'] 34)) R 0 (.int .i64 0) (.int .i64 0) (.string ⟨#[]⟩) (.slice none 0 0) (.slice none 0 0))
        rw [← hwf]
        have hx : wf.heap[R]? = some (.cells #[.int .i64 0, .int .i64 0, .string ⟨#[]⟩, .slice none 0 0, .slice none 0 0] 34 (0, 0)) := by rw [hwf]; exact set5_here g2.res
        have hbf : Below R w wf := by rw [hwf]; exact g2.low.trans (set5_below (Nat.le_refl _))
        obtain ⟨⟨x0, x1, x2, x3, x4⟩, -⟩ := box_of hx
        have HBF := Lib.hid hbf
        clear hbf hwf hx e0 e1 e2 e3 e4 f0 f1 f2' f3 f4 g2
        refine bodyPost_ret (v := .tuple #[.agg #[.int .i64 0, .int .i64 0, .string ⟨#[]⟩, .slice none 0 0, .slice none 0 0], .string ⟨#[]⟩, .bool false]) (by simp [results, Tryd.results45, go_sem, x0, x1, x2, x3, x4]) rfl ?_
        exact ⟨⟨_, _, _, _, _, _, _, _, _, [], _, rfl, rfl⟩, by rw [HR.out]; exact HBF.out⟩
      | some y =>
        obtain ⟨x, r⟩ := y
        have hlen := valueC_len hv
        rw [hv] at hval
        have hG2 : (if beginsB r [44] then groupC f2 false (r.drop 1) [] (l ++ [x]) else if beginsB r [93] then some (.mk 5 0 [] (l ++ [x]) [], r.drop 1) else none) = GA := by rw [hv] at hG; exact hG
        have hc44 : ∀ w, Calls Tryd.prog 58 #[.string ⟨r.toArray⟩, .string ⟨#[44]⟩] w fun e w' => e = .returned (.tuple #[.string ⟨(if beginsB r [44] then r.drop 1 else r).toArray⟩, .bool (beginsB r [44])]) ∧ w' = w := fun w => cutPrefix_any r [44] w
        have hc93 : ∀ w, Calls Tryd.prog 58 #[.string ⟨r.toArray⟩, .string ⟨#[93]⟩] w fun e w' => e = .returned (.tuple #[.string ⟨(if beginsB r [93] then r.drop 1 else r).toArray⟩, .bool (beginsB r [93])]) ∧ w' = w := fun w => cutPrefix_any r [93] w
        obtain ⟨z44, hz44⟩ : ∃ z, beginsB r [44] = z := ⟨_, rfl⟩
        rw [hz44] at hc44 hG2
        have HG := Lib.hid hG2; have HC44 := Lib.hid hc44; have HC93 := Lib.hid hc93; have HV := Lib.hid hval; have HLEN := Lib.hid hlen; have HZ44 := Lib.hid hz44
        clear hG2 hc44 hc93 hval hG hlen hv gst hR hz44
        go_wp2_with fail
        refine (HV.out).mono ?_
        rintro e2 w2 ⟨⟨k, n, t, A, a, b, A', a', b', rest, ok, rfl, hok, hrest, hx⟩, hb2⟩
        subst hok; subst hrest
        dsimp only
        obtain ⟨IT, hIT⟩ : ∃ IT, IT = Obj.cells #[.int .i64 k, .int .i64 n, .string t, .slice A a b, .slice A' a' b'] 34 := ⟨_, rfl⟩
        have hb3 := hb2.alloc hb2.size IT
        have g3 := GS.out.later hb3
        have g4 := GS.out.later (hb3.alloc hb3.size IT)
        have hx4 := hx.below (((Below.refl w2.heap.size w2).alloc (Nat.le_refl _) IT).alloc (by simp) IT)
        have hzw := hb2.size
        rw [hIT] at g3 g4 hx4 hb3
        obtain ⟨⟨e0, e1, e2, e3, e4⟩, f0, f1, f2', f3, f4⟩ := box_of g3.var
        obtain ⟨-, y0, y1, y2, y3, y4⟩ := box_of g4.var
        have G4 := Lib.hid g4; have HX4 := Lib.hid hx4; have HB3 := Lib.hid hb3
        clear g3 g4 hx4 hb3 hx hIT
        rw [HR.out]
        go_wp2_with (at_builtin; go_loud (refine wpList_append_own_at _ rfl (.tmp 63) (.tmp 65) 31 rfl (R + 2) 34 i0 _ 5 80 Tryd.underlying31 hi hz0 hz1 hz2 rfl (by decide) _ _ _ rfl G4.out.rowL ⟨_, 0, none⟩ 1 1 [.int .i64 k, .int .i64 n, .string t, .slice A a b, .slice A' a' b'] rfl rfl (new_cells1 _ _ #[_, _, _, _, _] _) (by intro u hu; simp at hu; rcases hu with rfl | rfl | rfl | rfl | rfl <;> rfl) (by unfold maxLen; omega) (by omega) (by simp; omega) ?_; intro v5 w5 hown hgrow hnil hat; obtain ⟨A5, c5, rfl⟩ := own_form hown; obtain ⟨⟨p0, p1, p2, p3, p4⟩, q0, q1, q2, q3, q4⟩ := box_of (G4.out.varL hgrow)))
        have g6 := G4.out.item x HX4.out hsz (by simp; omega) (fun g hg => by
          have h1 := GS.out.rowL.lt g; have h2 := GS.out.rowK.lt g
          rcases hg with hg | hg
          · have := (h1 hg).2; omega
          · have := (h2 hg).2; omega) hown hgrow hat
        obtain ⟨w6, hw6⟩ : ∃ w6, w6 = w5.setCell ⟨R + 1, 3, none⟩ (.slice A5 (l.length + 1) c5) := ⟨_, rfl⟩
        rw [← hw6] at g6 ⊢
        have G6 := Lib.hid g6
        clear g6 hw6 e0 e1 e2 e3 e4 f0 f1 f2' f3 f4 y0 y1 y2 y3 y4 p0 p1 p2 p3 p4 q0 q1 q2 q3 q4 hown hgrow hnil hat
        cases z44 with
        | true =>
          refine (HC44.out _).mono ?_
          rintro e7 w7 ⟨rfl, rfl⟩
          dsimp only
          go_wp2_with fail
          have hl7 := HLEN.out
          refine ⟨⟨_, ⟨rest.tail, rfl, l ++ [x], by simp; omega, _, _, f2, by omega, by simp; omega, ?_, G6.out⟩, rfl, HR.out.symm⟩, ?_⟩
          · have h := HG.out
            rw [if_pos trivial, List.drop_one] at h
            exact h
          · show ByteArray.size ⟨rest.tail.toArray⟩ < ByteArray.size ⟨s1.toArray⟩
            rw [str_sizeL, str_sizeL, List.length_tail]; omega
        | false =>
          obtain ⟨z93, hz93⟩ : ∃ z, beginsB rest [93] = z := ⟨_, rfl⟩
          have hc93 := HC93.out
          rw [hz93] at hc93
          have HZ93 := Lib.hid hz93; have HC93' := Lib.hid hc93
          clear hz93 hc93 HC93
          obtain ⟨⟨e0, e1, e2, e3, e4⟩, f0, f1, f2', f3, f4⟩ := box_of G6.out.var
          obtain ⟨⟨p0, p1, p2, p3, p4⟩, q0, q1, q2, q3, q4⟩ := box_of G6.out.res
          obtain ⟨rs, hrs⟩ : ∃ rs, (if z93 = true then rest.drop 1 else rest) = rs := ⟨_, rfl⟩
          rw [hrs] at HC93'
          have HRS := Lib.hid hrs
          clear hrs
          cases z93
          all_goals
            refine (HC44.out _).mono ?_
            rintro e7 w7 ⟨rfl, rfl⟩
            dsimp only
            go_wp2_with (go_at_call 58; refine (HC93'.out _).mono ?_; rintro e8 w8 ⟨rfl, rfl⟩)
            obtain ⟨wf, hwf⟩ : ∃ wf, wf = set5 w8 R 0 (.int .i64 5) (.int .i64 0) (.string ⟨#[]⟩) (.slice A5 (l.length + 1) c5) (.slice none 0 0) := ⟨_, rfl⟩
            change bodyPost _ _ _ _ _ (set5 w8 R 0 (.int .i64 5) (.int .i64 0) (.string ⟨#[]⟩) (.slice A5 (l.length + 1) c5) (.slice none 0 0))
            rw [← hwf]
            have hx : wf.heap[R]? = some (.cells #[.int .i64 5, .int .i64 0, .string ⟨#[]⟩, .slice A5 (l.length + 1) c5, .slice none 0 0] 34 (0, 0)) := by rw [hwf]; exact set5_here G6.out.res
            have hbf : Below R w wf := by rw [hwf]; exact G6.out.low.trans (set5_below (Nat.le_refl _))
            have hvf : VIs wf R wf.heap.size (.mk 5 0 [] (l ++ [x]) []) [.int .i64 5, .int .i64 0, .string ⟨#[]⟩, .slice A5 (l.length + 1) c5, .slice none 0 0] :=
              G6.out.done (by simp; omega) (by simp) (by simp) (fun b hb => by rw [hwf]; exact set5_there hb) (by rw [hwf, set5_size])
            obtain ⟨⟨x0, x1, x2, x3, x4⟩, -⟩ := box_of hx
            have HBF := Lib.hid hbf; have HVF := Lib.hid hvf
            clear hbf hvf hwf hx e0 e1 e2 e3 e4 f0 f1 f2' f3 f4 p0 p1 p2 p3 p4 q0 q1 q2 q3 q4
          · have e : GA = none := HG.out.symm.trans (by simp [HZ93.out])
            subst e
            refine bodyPost_ret (v := .tuple #[.agg #[.int .i64 5, .int .i64 0, .string ⟨#[]⟩, .slice A5 (l.length + 1) c5, .slice none 0 0], .string ⟨rs.toArray⟩, .bool false]) (by simp [results, Tryd.results45, go_sem, x0, x1, x2, x3, x4]) rfl ?_
            exact ⟨⟨_, _, _, _, _, _, _, _, _, _, _, rfl, rfl⟩, by rw [HR.out]; exact HBF.out⟩
          · have e : GA = some (.mk 5 0 [] (l ++ [x]) [], rs) := HG.out.symm.trans (by rw [← HRS.out]; simp [HZ93.out])
            subst e
            refine bodyPost_ret (v := .tuple #[.agg #[.int .i64 5, .int .i64 0, .string ⟨#[]⟩, .slice A5 (l.length + 1) c5, .slice none 0 0], .string ⟨rs.toArray⟩, .bool true]) (by simp [results, Tryd.results45, go_sem, x0, x1, x2, x3, x4]) rfl ?_
            exact ⟨⟨_, _, _, _, _, _, _, _, _, _, _, rfl, rfl, rfl, by rw [HR.out]; exact HVF.out⟩, by rw [HR.out]; exact HBF.out⟩
end Go.Proofs.YtjgjajnpbcghmaaDoor
namespace Go.Proofs.YtjgjajnpbcghmaaDoor
open Go.RowKit

theorem ext_pre (s : ByteArray) (k : Nat) : s.extract 0 k = ⟨(s.data.toList.take k).toArray⟩ := by
  apply ByteArray.ext; apply Array.ext'
  simp [ByteArray.data_extract, List.extract]
theorem ext_suf (s : ByteArray) (k : Nat) : s.extract k s.size = ⟨(s.data.toList.drop k).toArray⟩ := by
  apply ByteArray.ext; apply Array.ext'
  have : s.size = s.data.size := rfl
  rw [ByteArray.data_extract, Array.toList_extract, this]
  simp [List.extract, List.take_of_length_le]
theorem str_eta (s : ByteArray) : s = ⟨s.data.toList.toArray⟩ := by cases s; simp
end Go.Proofs.YtjgjajnpbcghmaaDoor
namespace Go.Proofs.YtjgjajnpbcghmaaDoor
open Go.RowKit

end Go.Proofs.YtjgjajnpbcghmaaDoor
namespace Go.Proofs.YtjgjajnpbcghmaaDoor
open Go.RowKit

theorem Tryd.infoPair : (Tryd.prog.info? 52).map (fun i => (i.zero, i.size, i.bytes)) = some (some (.agg #[.string ⟨#[]⟩, .string ⟨#[]⟩]), 2, 32) := by kernel_rfl
/-- pairs as cells -/
def pcells : PL → List Value
  | [] => []
  | p :: r => .string ⟨p.1.toArray⟩ :: .string ⟨p.2.toArray⟩ :: pcells r
theorem pcells_app (a b : PL) : pcells (a ++ b) = pcells a ++ pcells b := by
  induction a with
  | nil => rfl
  | cons p a ih => simp [pcells, ih]
theorem pcells_snoc (l : PL) (p : List UInt8 × List UInt8) : pcells (l ++ [p]) = pcells l ++ [.string ⟨p.1.toArray⟩, .string ⟨p.2.toArray⟩] := by rw [pcells_app]; rfl
theorem pcells_len (l : PL) : (pcells l).length = l.length * 2 := by
  induction l with
  | nil => rfl
  | cons p l ih => simp [pcells, ih]; omega
theorem pcells_key (l : PL) (k : Nat) (h : k < l.length) : (pcells l)[k * 2]? = some (.string ⟨l[k].1.toArray⟩) := by
  induction l generalizing k with
  | nil => simp at h
  | cons p l ih =>
    cases k with
    | zero => rfl
    | succ k => rw [Nat.succ_mul]; simp only [pcells, List.getElem?_cons_succ, List.getElem_cons_succ]; exact ih k (by simpa using h)
theorem pcells_val (l : PL) (k : Nat) (h : k < l.length) : (pcells l)[k * 2 + 1]? = some (.string ⟨l[k].2.toArray⟩) := by
  induction l generalizing k with
  | nil => simp at h
  | cons p l ih =>
    cases k with
    | zero => rfl
    | succ k => rw [Nat.succ_mul]; simp only [pcells, List.getElem?_cons_succ, List.getElem_cons_succ]; exact ih k (by simpa using h)
theorem pair_cells (a b : ByteArray) : ∀ u ∈ [Value.string a, Value.string b], u.oneCell' = true := by
  intro u hu; simp at hu; rcases hu with rfl | rfl <;> rfl
/-- a row of pairs of the call's own -/
def PRow (w : World) (B : Nat) (v : Value) (l : PL) : Prop := w.ownsRow B 52 2 v l.length (pcells l)
theorem PRow.cut {w : World} {B : Nat} {v : Value} {n : Nat} {l : PL} {xs : List Value} (h : w.ownsRow B 52 2 v n xs) (hn : n = l.length) (hx : xs = pcells l) : PRow w B v l := by subst hn; subst hx; exact h
theorem PRow.below {w w' : World} {B : Nat} {v : Value} {l : PL} (h : PRow w B v l) (hb : Below w.heap.size w w') : PRow w' B v l :=
  World.ownsRow.kept (row := none) h ⟨hb.os, hb.tape, hb.output, hb.size, fun k hk _ => hb.block k hk⟩ (by
    rcases h.2 with ⟨rfl, _⟩ | ⟨g, cap, cur, rfl, _⟩
    · exact .inl rfl
    · exact .inr (by simp [Value.ownBlock]))
theorem prow_form {w : World} {B : Nat} {v : Value} {l : PL} (h : PRow w B v l) : ∃ A c, v = .slice A l.length c := by
  rcases h.2 with ⟨rfl, h0⟩ | ⟨g, cap, cur, rfl, _⟩
  · exact ⟨none, 0, by rw [h0]⟩
  · exact ⟨_, _, rfl⟩
theorem PRow.nil (w : World) (B : Nat) : PRow w B (.slice none 0 0) [] := World.ownsRow_nil _ _ _ _

/-- what Parse answers -/
def parseE (l : List UInt8) : Int := if 4096 < l.length then 3 else match formL l with
  | none => 2
  | some ps => if 64 < ps.length then 3 else 0
def parseP (l : List UInt8) : PL := if 4096 < l.length then [] else match formL l with
  | none => []
  | some ps => if 64 < ps.length then [] else ps
theorem parse_large {l : List UInt8} (h : 4096 < l.length) : parseE l = 3 ∧ parseP l = [] := by simp [parseE, parseP, h]
theorem parse_none {l : List UInt8} (h : l.length ≤ 4096) (hf : formL l = none) : parseE l = 2 ∧ parseP l = [] := by
  unfold parseE parseP; rw [if_neg (by omega), if_neg (by omega), hf]; exact ⟨rfl, rfl⟩
theorem parse_many {l : List UInt8} {ps : PL} (h : l.length ≤ 4096) (hf : formL l = some ps) (hp : 64 < ps.length) : parseE l = 3 ∧ parseP l = [] := by
  unfold parseE parseP; rw [if_neg (by omega), if_neg (by omega), hf]; simp only [if_pos hp, and_self]
theorem parse_some {l : List UInt8} {ps : PL} (h : l.length ≤ 4096) (hf : formL l = some ps) (hp : ps.length ≤ 64) : parseE l = 0 ∧ parseP l = ps := by
  unfold parseE parseP; rw [if_neg (by omega), if_neg (by omega), hf]; simp only [if_neg (show ¬ 64 < ps.length by omega), and_self]
theorem ret_ve {v : Value} {a b : Int} (h : a = b) : Ending.returned (.tuple #[v, .int .i64 a]) = .returned (.tuple #[v, .int .i64 b]) := by rw [h]
end Go.Proofs.YtjgjajnpbcghmaaDoor
namespace Go.Proofs.YtjgjajnpbcghmaaDoor
open Go.RowKit

/-- a slice's cells read as these pairs, and lie below block B -/
def Prs (w : World) (B : Nat) (A : Option Addr) (l : PL) : Prop :=
  ∀ k (h : k < l.length), ∃ a : Addr, A = some a ∧ a.block < B ∧ w.cell? (a.add (k * 2)) = some (.string ⟨l[k].1.toArray⟩) ∧ w.cell? ⟨(a.add (k * 2)).block, (a.add (k * 2)).off + 1, none⟩ = some (.string ⟨l[k].2.toArray⟩)
theorem add_block (a : Addr) (n : Nat) : (a.add n).block = a.block := by unfold Addr.add; split <;> rfl
theorem add_next (a : Addr) (n : Nat) : (⟨(a.add n).block, (a.add n).off + 1, none⟩ : Addr) = a.add (n + 1) := by
  unfold Addr.add
  by_cases h : n = 0
  · simp [h]
  · simp [h]; omega
theorem Prs.keep {w w' : World} {B : Nat} {A : Option Addr} {l : PL} (h : Prs w B A l) (hk : ∀ p : Addr, p.block < B → w'.cell? p = w.cell? p) : Prs w' B A l := fun k hl => by
  obtain ⟨a, e, hb, h1, h2⟩ := h k hl
  exact ⟨a, e, hb, (hk _ (by rw [add_block]; exact hb)).trans h1, (hk _ (by show (a.add (k * 2)).block < B; rw [add_block]; exact hb)).trans h2⟩
theorem Prs.below {w w' : World} {B : Nat} {A : Option Addr} {l : PL} (h : Prs w B A l) (hb : Below B w w') : Prs w' B A l := h.keep fun _ hp => hb.cell hp
theorem Prs.more {w : World} {B B' : Nat} {A : Option Addr} {l : PL} (h : Prs w B A l) (hB : B ≤ B') : Prs w B' A l := fun k hl => by
  obtain ⟨a, e, hb, h1, h2⟩ := h k hl
  exact ⟨a, e, by omega, h1, h2⟩
theorem Prs.nil (w : World) (B : Nat) (A : Option Addr) : Prs w B A [] := fun _ hl => absurd hl (Nat.not_lt_zero _)
/-- a row of the call's own reads as its pairs -/
theorem PRow.reads {w : World} {B : Nat} {v : Value} {l : PL} (h : PRow w B v l) : ∃ A c, v = .slice A l.length c ∧ Prs w w.heap.size A l := by
  rcases h.2 with ⟨rfl, h0⟩ | ⟨g, cap, cur, rfl, hB, hg, _⟩
  · obtain rfl : l = [] := List.length_eq_zero_iff.1 h0
    exact ⟨none, 0, rfl, Prs.nil _ _ _⟩
  · refine ⟨_, _, rfl, fun k hk => ⟨_, rfl, (Array.getElem?_eq_some_iff.1 hg).1, ?_, ?_⟩⟩
    · exact h.cells (g := g) rfl _ _ (pcells_key l k hk)
    · rw [add_next]
      exact h.cells (g := g) rfl _ _ (pcells_val l k hk)
end Go.Proofs.YtjgjajnpbcghmaaDoor
namespace Go.Proofs.YtjgjajnpbcghmaaDoor
open Go.RowKit

open Go.Maps
theorem zeroUnit (w : World) : (zeroValue 75).run Tryd.prog w = .ok (.agg #[]) w := by kernel_rfl
theorem run_makeMapHint {P : Program} (t k e : TypeId) (kd : IntKind) (n : Int) (ht : P.underlying t = some (.map k e)) (w : World) :
    (Instr.makeMap t (some (.int kd n))).run P w = .ok (.map (some w.heap.size)) (w.alloc (.map #[] 0)) := by
  simp [Instr.makeMap, run_underlying ht]; rfl
theorem lawStr : Keyed Tryd.prog 9 := string_keyed Tryd.underlying9
/-- the keys of the first k, as a set -/
def seenAt (l : PL) (k : Nat) : DataW Unit := setOf (.agg []) ((l.take k).map fun p => Lit.string p.1)
theorem seen_next (l : PL) (k : Nat) (h : k < l.length) : seenAt l (k + 1) = (seenAt l k).put (.string l[k].1) (.agg []) := by
  unfold seenAt
  rw [List.take_succ_eq_append_getElem h, List.map_append, List.map_singleton, setOf_snoc]
theorem str_sameKey (a b : List UInt8) : (Lit.string a).sameKey (.string b) = decide (a = b) := by
  show (a == b) = _
  rw [Bool.eq_iff_iff]; simp
theorem seen_has (l : PL) (k : Nat) (x : List UInt8) : Maps.has (seenAt l k) (.string x) = (l.take k).any (fun p => decide (p.1 = x)) := by
  unfold seenAt
  rw [has_setOf _ _ _ (fun y hy => by obtain ⟨_, _, rfl⟩ := List.mem_map.1 hy; trivial), List.any_map]
  congr 1; funext p; exact str_sameKey _ _
theorem seen_yes {l : PL} {k : Nat} {x : List UInt8} (h : Maps.has (seenAt l k) (.string x) = true) : ∃ j, ∃ hj : j < l.length, j < k ∧ l[j].1 = x := by
  rw [seen_has, List.any_eq_true] at h
  obtain ⟨p, hp, he⟩ := h
  obtain ⟨j, hj, rfl⟩ := List.getElem_of_mem hp
  rw [List.length_take] at hj
  refine ⟨j, by omega, by omega, ?_⟩
  have : (l.take k)[j] = l[j] := List.getElem_take
  rw [this] at he
  simpa using he
theorem seen_no {l : PL} {k : Nat} {x : List UInt8} (h : Maps.has (seenAt l k) (.string x) = false) : ∀ j (hj : j < l.length), j < k → x ≠ l[j].1 := fun j hj hjk e => by
  rw [seen_has, List.any_eq_false] at h
  have hm : l[j] ∈ l.take k := by
    rw [List.mem_iff_getElem]
    exact ⟨j, by rw [List.length_take]; omega, List.getElem_take⟩
  exact h _ hm (by simp [e])
end Go.Proofs.YtjgjajnpbcghmaaDoor
namespace Go.Proofs.YtjgjajnpbcghmaaDoor
open Go.ChangeShapes Go.WideShapes Go.ChangeAt Go.RowKit

theorem Tryd.laidOutP : laidOutB Tryd.prog = true := by kernel_rfl
theorem Tryd.cellsPair : Tryd.prog.cellsOf 52 = 2 := by kernel_rfl
theorem Tryd.bytesPair : Tryd.prog.bytesOf 52 = 32 := by kernel_rfl
theorem Tryd.cellsStr : Tryd.prog.cellsOf 9 = 1 := by kernel_rfl

set_option maxRecDepth 100000 in
/-- two cells that read as a pair -/
theorem open_pair {H : Type} {enc : TypeId × Value → H} {W : World} {base : Nat} {sp : Nat → Bool} {held : Bool} {n : Nat} {cs : List Value} {x : DataW H × List MemPlace}
    (h : DataW.trod enc Tryd.prog W base sp held n 52 cs = some x) : ∃ a b : ByteArray, cs = [.string a, .string b] ∧ x.1 = .agg [.lit (.string a.data.toList), .lit (.string b.data.toList)] := by
  obtain ⟨xs, m, _, hx, hlen, hxl, hf⟩ := DataW.trod_struct Tryd.underlying52 h
  rw [Tryd.cellsPair] at hlen
  match cs, hlen with
  | [c0, c1], _ =>
    have h0 : DataW.trod enc Tryd.prog W base sp held m 9 [c0] = xs[0]? := by
      have := hf 0 { name := "Key", type := 9, offset := 0, embedded := false, tag := "", pkgPath := "", byteOffset := 0 } rfl
      rwa [Tryd.cellsStr] at this
    have h1 : DataW.trod enc Tryd.prog W base sp held m 9 [c1] = xs[1]? := by
      have := hf 1 { name := "Value", type := 9, offset := 1, embedded := false, tag := "", pkgPath := "", byteOffset := 16 } rfl
      rwa [Tryd.cellsStr] at this
    match xs, hxl with
    | [y0, y1], _ =>
      simp only [List.getElem?_cons_zero, List.getElem?_cons_succ] at h0 h1
      obtain ⟨a, ha, ya, za⟩ := DataW.trod_string Tryd.underlying9 h0
      obtain ⟨b, hb, yb, zb⟩ := DataW.trod_string Tryd.underlying9 h1
      simp at ha hb
      exact ⟨a, b, by rw [ha, hb], by rw [hx, ya, yb]; rfl⟩

theorem weightsAll_in {H : Type} {P : Program} {e : TypeId} : ∀ {l : List (DataW H)} {d : DataW H}, d ∈ l → ∀ n ∈ d.weights P e, n ∈ DataW.weightsAll P e l
  | d0 :: l, d, hd, n, hn => by
    simp only [DataW.weightsAll, List.mem_append]
    rcases List.mem_cons.1 hd with rfl | h
    · exact Or.inl hn
    · exact Or.inr (weightsAll_in h n hn)

set_option maxRecDepth 100000 in
/-- what is read of a slice of pairs: the pairs; their texts are no longer than a text may be -/
theorem open_pairs {H : Type} {enc : TypeId × Value → H} {W : World} {base : Nat} {v : Value} {d : DataW H} {ps : List MemPlace} (hval : Value.okWide Tryd.prog W .any base 73 v)
    (hd : DataW.Trod enc Tryd.prog W 0 (fun _ => true) true 73 v d ps) (hlt : ∀ x ∈ ps, x.block < W.heap.size) (hwt : ∀ n ∈ d.weights Tryd.prog 73, n ≤ reachBytes) :
    ∃ (A : Option Addr) (c : Nat) (l : PL), v = .slice A l.length c ∧ Prs W W.heap.size A l ∧ l.length ≤ reachBytes ∧ ∀ p ∈ l, p.1.length ≤ reachBytes ∧ p.2.length ≤ reachBytes := by
  obtain ⟨a0, len, cap, rfl⟩ := okWide_slice Tryd.underlying73 hval
  obtain ⟨fuel, hf⟩ := hd
  rcases Go.Deep.open_slice Tryd.underlying73 hf with ⟨hcs, hx⟩ | ⟨a, len', cap', m, n, D, Pl, hcs, _, hl, hm, hmm, hx, hi⟩
  · simp [Value.cells] at hcs
    obtain ⟨rfl, rfl, rfl⟩ := hcs
    exact ⟨none, 0, [], rfl, Prs.nil _ _ _, Nat.zero_le _, by simp⟩
  · simp [Value.cells] at hcs
    obtain ⟨rfl, rfl, rfl⟩ := hcs
    simp only [if_true] at hmm
    subst hmm
    rw [Tryd.cellsPair] at hi hx
    have hall : ∀ i, ∃ x : ByteArray × ByteArray, i < m → W.cell? (a.add (i * 2)) = some (.string x.1) ∧ W.cell? (a.add (i * 2 + 1)) = some (.string x.2) ∧ D i = .agg [.lit (.string x.1.data.toList), .lit (.string x.2.data.toList)] := by
      intro i
      by_cases him : i < m
      · obtain ⟨cs', hc, ht'⟩ := hi i him
        obtain ⟨u, u', rfl, hD⟩ := open_pair ht'
        obtain ⟨_, _, hat⟩ := World.cells?_some hc
        refine ⟨(u, u'), fun _ => ⟨?_, ?_, hD⟩⟩
        · have := hat 0 (by decide); simpa [Addr.add] using this
        · have := hat 1 (by decide); rw [Go.Deep.add_add] at this; simpa using this
      · exact ⟨(⟨#[]⟩, ⟨#[]⟩), fun h => absurd h him⟩
    obtain ⟨f, hf⟩ := Classical.axiomOfChoice hall
    let g : Nat → List UInt8 × List UInt8 := fun i => ((f i).1.data.toList, (f i).2.data.toList)
    simp only [Prod.mk.injEq] at hx
    have hlen : len ≤ reachBytes := by
      have := hwt ((len + (m - len)) * Tryd.prog.bytesOf 52) (by rw [hx.1]; simp [DataW.weights, Tryd.underlying73])
      rw [Tryd.bytesPair] at this
      omega
    refine ⟨some a, m, (List.range len).map g, by simp, fun k hk => ?_, by simpa using hlen, ?_⟩
    · have hk' : k < len := by simpa using hk
      refine ⟨a, rfl, ?_, ?_, ?_⟩
      · have hb : MemPlace.cell a.block a.off ∈ ps := by
          rw [hx.2, List.mem_append]
          exact .inl (MemPlace.mem_row.2 ⟨0, by omega, by simp⟩)
        exact hlt _ hb
      · rw [(hf k (by omega)).1]; simp [g]
      · rw [add_next, (hf k (by omega)).2.1]; simp [g]
    · intro p hp
      obtain ⟨i, hi', rfl⟩ := List.mem_map.1 hp
      have hil : i < len := by simpa using hi'
      have hD := (hf i (by omega)).2.2
      have hin : D i ∈ (List.range len).map D := List.mem_map.2 ⟨i, by simpa using hil, rfl⟩
      have hmem : ∀ n ∈ (D i).weights Tryd.prog 52, n ≤ reachBytes := fun n hn => hwt n (by
        rw [hx.1]
        simp only [DataW.weights, Tryd.underlying73, List.mem_cons, List.mem_append]
        exact .inr (.inl (weightsAll_in hin n hn)))
      rw [hD] at hmem
      refine ⟨hmem _ ?_, hmem _ ?_⟩ <;> simp [DataW.weights, Tryd.underlying52, DataW.weightsEach, g]
end Go.Proofs.YtjgjajnpbcghmaaDoor
namespace Go.Proofs.YtjgjajnpbcghmaaDoor
open Go.RowKit
open Go.Maps
set_option linter.unusedVariables false
set_option linter.unusedSimpArgs false

/-- the pairs whose key has not stood ahead, behind those that are there -/
def objS : PL → PL → PL
  | acc, [] => acc
  | acc, p :: r => objS (if acc.any (fun q => decide (q.1 = p.1)) then acc else acc ++ [p]) r
def objL (st : PL) : List V := st.map fun p => .mk 4 0 p.2 [] []
def objK (st : PL) : List (List UInt8) := st.map (·.1)
def objV (st : PL) : V := .mk 6 0 [] (objL st) (objK st)
theorem objL_len (st : PL) : (objL st).length = st.length := by simp [objL]
theorem objK_len (st : PL) : (objK st).length = st.length := by simp [objK]
theorem objL_snoc (st : PL) (p : List UInt8 × List UInt8) : objL (st ++ [p]) = objL st ++ [.mk 4 0 p.2 [] []] := by simp [objL]
theorem objK_snoc (st : PL) (p : List UInt8 × List UInt8) : objK (st ++ [p]) = objK st ++ [p.1] := by simp [objK]
theorem objS_hit {st r : PL} {p : List UInt8 × List UInt8} (h : st.any (fun q => decide (q.1 = p.1)) = true) : objS st (p :: r) = objS st r := by
  show objS (if st.any (fun q => decide (q.1 = p.1)) then st else st ++ [p]) r = _
  rw [if_pos h]
theorem objS_new {st r : PL} {p : List UInt8 × List UInt8} (h : st.any (fun q => decide (q.1 = p.1)) = false) : objS st (p :: r) = objS (st ++ [p]) r := by
  show objS (if st.any (fun q => decide (q.1 = p.1)) then st else st ++ [p]) r = _
  rw [if_neg (by rw [h]; decide)]
theorem plain_any {w w' : World} {L N L' N' : Nat} {t : List UInt8} {cs : List Value} (h : VIs w L N (.mk 4 0 t [] []) cs) : VIs w' L' N' (.mk 4 0 t [] []) cs := by
  obtain ⟨hr, A, c, A', c', rfl, _, _⟩ := h.out
  exact VIs.mk hr (.inl rfl) (.inl rfl)
theorem plain_mk (w : World) (L N : Nat) {t : List UInt8} (ht : t.length ≤ 9223372036854775807) : VIs w L N (.mk 4 0 t [] []) [.int .i64 4, .int .i64 0, .string ⟨t.toArray⟩, .slice none 0 0, .slice none 0 0] :=
  VIs.mk (l := []) (ks := []) ⟨by simp, by simp, ht, by simp⟩ (.inl rfl) (.inl rfl)
theorem objL_get {st : PL} {i : Nat} (h : i < (objL st).length) : ∃ t, (objL st)[i] = .mk 4 0 t [] [] := ⟨(st[i]'(by simpa [objL] using h)).2, by simp [objL]⟩
theorem new_cellsS (w : World) (a : Addr) (v : Value) (cs : Array Value) (e : TypeId) : ∀ j u, cs.toList[j]? = some u → ((w.setCell a v).alloc (.cells cs e)).cell? ((⟨w.heap.size, 0, none⟩ : Addr).add j) = some u := by
  intro j u h
  have := new_cells (w.setCell a v) cs e j u h
  rwa [set_size] at this
/-- what holds of the object's memory stays when another block of the call's own is written -/
theorem GSt.other {R M : Nat} {kind : Int} {w wr w1 : World} {lv kv : Value} {st : PL} {xs : List Value} (h : GSt R kind w wr lv kv (objL st) (objK st) xs) (hM : R + 2 ≤ M) (hg : wr.grownBy w1 (some M)) (hL : lv.ownBlock ≠ some M) (hK : kv.ownBlock ≠ some M) :
    GSt R kind w w1 lv kv (objL st) (objK st) xs := by
  obtain ⟨h1, h2, h3, h4, h5, h6, h7⟩ := h
  have hb : ∀ b, b < wr.heap.size → b ≠ M → w1.heap[b]? = wr.heap[b]? := fun b hb hne => hg.block b hb (fun e => hne (by injection e))
  refine ⟨(hb _ (by omega) (by omega)).trans h1, (hb _ (by omega) (by omega)).trans h2, own_kept h3 fun g hgl => hb g (h3.lt g hgl).2 (fun e => hL (by rw [← e]; exact hgl)), own_kept h4 fun g hgk => hb g (h4.lt g hgk).2 (fun e => hK (by rw [← e]; exact hgk)), fun i hi => ?_,
    h6.grown hg (by omega) (fun k hk => by injection hk with hk; omega), Nat.le_trans h7 hg.size⟩
  obtain ⟨c0, c1, c2, c3, c4, L, N, e0, e1, e2, e3, e4, hv, hL', hN, hgg⟩ := h5 i hi
  obtain ⟨t, ht⟩ := objL_get hi
  rw [ht] at hv
  refine ⟨c0, c1, c2, c3, c4, R + 2, R + 2, e0, e1, e2, e3, e4, ?_, Nat.le_refl _, Nat.le_trans h7 hg.size, fun g _ hlt => by omega⟩
  rw [ht]
  exact plain_any hv
open Go.Maps in
theorem map_not {w : World} {B size n b m : Nat} {e k : TypeId} {v : Value} {xs : List Value} {R : Value → Option (DataW Unit × List MemPlace)} {D : DataW Unit} (h : w.ownsRow B e size v n xs) (hm : w.ownsMap Tryd.prog k R b m D) : v.ownBlock ≠ some b := by
  obtain ⟨es, clock, hb, _⟩ := hm
  rcases h.2 with ⟨rfl, _⟩ | ⟨g, cap, cur, rfl, _, hg, _⟩
  · intro e; cases e
  · intro e
    injection e with e
    subst e
    rw [hb] at hg
    injection hg with hg
    cases hg
theorem seen_any (st : PL) (x : List UInt8) : Maps.has (seenAt st st.length) (.string x) = st.any (fun p => decide (p.1 = x)) := by rw [seen_has, List.take_length]
theorem seen_snoc (st : PL) (p : List UInt8 × List UInt8) : seenAt (st ++ [p]) (st.length + 1) = (seenAt st st.length).put (.string p.1) (.agg []) := by
  unfold seenAt
  rw [List.take_length, List.take_of_length_le (by simp), List.map_append, List.map_singleton, setOf_snoc]
end Go.Proofs.YtjgjajnpbcghmaaDoor
namespace Go.Proofs.YtjgjajnpbcghmaaDoor
open Go.RowKit
open Go.Maps
set_option linter.unusedVariables false
set_option linter.unusedSimpArgs false

set_option maxRecDepth 100000 in
set_option maxHeartbeats 20000000 in
theorem object_any (A : Option Addr) (c : Nat) (l : PL) (hl : l.length ≤ 100000) (hz : ∀ p ∈ l, p.1.length ≤ maxLen ∧ p.2.length ≤ maxLen) (w : World) (hp : Prs w w.heap.size A l) :
    Calls Tryd.prog 21 #[.slice A l.length c] w fun e w' => (∃ B b B' b', e = .returned (.agg #[.int .i64 6, .int .i64 0, .string ⟨#[]⟩, .slice B (objS [] l).length b, .slice B' (objS [] l).length b']) ∧
      VIs w' w.heap.size w'.heap.size (objV (objS [] l)) [.int .i64 6, .int .i64 0, .string ⟨#[]⟩, .slice B (objS [] l).length b, .slice B' (objS [] l).length b']) ∧ Below w.heap.size w w' := by
  obtain ⟨i0, hi, hz0, hz1, hz2⟩ := info_parts Tryd.infoValR
  obtain ⟨j0, hj, hy0, hy1, hy2⟩ := info_parts Tryd.infoStrR
  have hmm := fun n => @run_makeMapHint Tryd.prog 74 9 75 .i64 n Tryd.underlying74
  obtain ⟨R, hR⟩ : ∃ R, w.heap.size = R := ⟨_, rfl⟩
  obtain ⟨W3, hW3⟩ : ∃ W3, W3 = (((w.alloc (.cells #[.int .i64 0, .int .i64 0, .string ⟨#[]⟩, .slice none 0 0, .slice none 0 0] 34)).alloc (.cells #[.int .i64 6, .int .i64 0, .string ⟨#[]⟩, .slice none 0 0, .slice none 0 0] 34)).alloc (.map #[] 0)) := ⟨_, rfl⟩
  have gst : GSt R 6 w W3 (.slice none 0 0) (.slice none 0 0) (objL []) (objK []) [] := by
    refine ⟨?_, ?_, ⟨rfl, .inl ⟨rfl, rfl⟩⟩, ⟨rfl, .inl ⟨rfl, rfl⟩⟩, fun i hi => absurd hi (Nat.not_lt_zero _), ?_, ?_⟩
    · rw [hW3, ← hR]
      exact alloc_block (fresh_at _ (by simp))
    · rw [hW3, ← hR]; exact alloc_block (alloc_block (heap_alloc_last w _))
    · rw [hW3, ← hR]; exact (((Below.refl _ _).alloc (Nat.le_refl _) _).alloc (by simp) _).alloc (by simp; omega) _
    · rw [hW3, ← hR]; simp
  have hom : W3.ownsMap Tryd.prog 9 (unitElem (H := Unit)) (R + 2) 0 (seenAt [] 0) := by
    have := World.ownsMap_made ((w.alloc (.cells #[.int .i64 0, .int .i64 0, .string ⟨#[]⟩, .slice none 0 0, .slice none 0 0] 34)).alloc (.cells #[.int .i64 6, .int .i64 0, .string ⟨#[]⟩, .slice none 0 0, .slice none 0 0] 34)) Tryd.prog 9 (unitElem (H := Unit))
    rw [← hW3] at this
    have this' : W3.ownsMap Tryd.prog 9 (unitElem (H := Unit)) (R + 1 + 1) 0 (.map []) := by simpa [hR] using this
    exact this'
  obtain ⟨n, hn⟩ : ∃ n, l.length = n := ⟨_, rfl⟩
  obtain ⟨RES, hRES⟩ : ∃ RES, objS [] l = RES := ⟨_, rfl⟩
  rw [hn] at hl ⊢
  rw [hRES]
  have HR := Lib.hid hR; have HW3 := Lib.hid hW3; have GST := Lib.hid gst; have HOM := Lib.hid hom; have HN := Lib.hid hn; have HRES := Lib.hid hRES; have HZ := Lib.hid hz; have HP := Lib.hid hp
  clear hR hW3 gst hom hn hRES hz hp
  go_enter Tryd.func21, Tryd.ntmps21
  go_wp2
  rw [← HW3.out, HR.out]
  go_loopw [15] (fun i wr => ∃ (k : Nat) (st : PL) (lv kv : Value) (xs : List Value), k ≤ n ∧ i = .int .i64 k ∧ st.length ≤ k ∧ objS st (l.drop k) = RES ∧ (∀ y ∈ objK st, y.length ≤ 9223372036854775807) ∧ GSt R 6 w wr lv kv (objL st) (objK st) xs ∧ wr.ownsMap Tryd.prog 9 (unitElem (H := Unit)) (R + 2) st.length (seenAt st st.length)) (fun i _ => n - (intOf i).toNat)
  case atStart => exact ⟨0, [], _, _, [], Nat.zero_le _, rfl, Nat.le_refl _, HRES.out, by simp [objK], GST.out, HOM.out⟩
  case round =>
    obtain ⟨k, st, lv, kv, xs, hk, rfl, hsk, hst, hky, gst, hom⟩ := hrel
    obtain ⟨LA, lc, rfl⟩ := own_form gst.rowL
    obtain ⟨KA, kc, rfl⟩ := own_form gst.rowK
    have hbw := gst.low
    have hsz := gst.size
    have nL := map_not gst.rowL hom
    have nK := map_not gst.rowK hom
    have GS := Lib.hid gst; have HOM2 := Lib.hid hom; have HKY := Lib.hid hky; have NL := Lib.hid nL; have NK := Lib.hid nK
    clear gst hky nL nK HOM GST
    have hR := HR.out
    rw [objL_len, objK_len] at *
    by_cases hlt : k < n
    · have hkl : k < l.length := by have := HN.out; omega
      rw [List.drop_eq_getElem_cons hkl] at hst
      obtain ⟨a, rfl, hab, h1, h2⟩ := (HP.out.below (hbw.mono (by omega))) k hkl
      have hzk := HZ.out l[k] (List.getElem_mem hkl)
      generalize hx : l[k] = x at *
      clear hx
      obtain ⟨xa, xb⟩ := x
      dsimp only at h1 h2 hzk
      have hkey : keyOf Tryd.prog 9 (.string ⟨xa.toArray⟩) = some (.string xa) := WideMaps.keyOf_string_mk Tryd.underlying9 hzk.1
      have hha := seen_any st xa
      have hk0 : (0 : Int) ≤ k := by omega
      have hk1 : (k : Int) < n := by omega
      cases hh : st.any (fun p => decide (p.1 = xa)) with
      | true =>
        rw [hh] at hha
        have hst2 : objS st (l.drop (k + 1)) = RES := (objS_hit (p := (xa, xb)) hh).symm.trans hst
        have HST := Lib.hid hst2; clear hst hst2 hh hbw hR
        go_wp2_with (at_lookup; refine wpList_lookup_own_unit _ rfl _ _ 74 rfl 9 75 lawStr Tryd.underlying74 (zeroUnit _) (R + 1 + 1) st.length _ rfl (hom.alloc _) _ _ rfl hkey ?_)
        have g2 := (GS.out.later ((Below.refl _ _).alloc (Nat.le_refl _) (.cells #[.string ⟨xa.toArray⟩, .string ⟨xb.toArray⟩] 52))).later ((Below.refl _ _).alloc (Nat.le_refl _) (.cells #[] 75))
        exact ⟨⟨k + 1, st, _, _, xs, by omega, by go_num, by omega, HST.out, HKY.out, g2, (hom.alloc _).alloc _⟩, by simp [intOf]; omega⟩
      | false =>
        rw [hh] at hha
        have hst2 : objS (st ++ [(xa, xb)]) (l.drop (k + 1)) = RES := (objS_new (p := (xa, xb)) hh).symm.trans hst
        have hml := hom.lt
        have HST := Lib.hid hst2; clear hst hst2 hh hbw hR
        go_wp2_with (first
          | (at_lookup; refine wpList_lookup_own_unit _ rfl _ _ 74 rfl 9 75 lawStr Tryd.underlying74 (zeroUnit _) (R + 1 + 1) st.length _ rfl (hom.alloc _) _ _ rfl hkey ?_)
          | (at_mapUpdate; refine wpList_mapUpdate_own _ rfl _ _ _ 74 rfl 9 75 lawStr Tryd.underlying74 (unitElem (H := Unit)) (R + 1 + 1) st.length _ rfl ((hom.alloc _).alloc _) (by unfold maxLen; omega) _ _ _ rfl rfl hkey _ [] unitElem_mk ?_; intro w1 hown1 hgrow1;
              have g1 := GSt.other ((GS.out.later ((Below.refl _ _).alloc (Nat.le_refl _) _)).later ((Below.refl _ _).alloc (Nat.le_refl _) _)) (Nat.le_refl _) hgrow1 NL.out NK.out;
              obtain ⟨⟨e0, e1, e2, e3, e4⟩, f0, f1, f2, f3, f4⟩ := box_of g1.var;
              have pb1 := grown_block hgrow1 (alloc_block (fresh_at _ rfl)) (fun e => by injection e with e; omega);
              have u0 := cell_here (o := 0) pb1; have hs1 := (Array.getElem?_eq_some_iff.1 pb1).1;
              have G3 := Lib.hid (g1.later ((Below.refl _ _).alloc (Nat.le_refl _) (.cells #[.string ⟨xa.toArray⟩] 9)));
              have PB1 := Lib.hid pb1; have OWN1 := Lib.hid hown1; clear pb1 g1)
          | (at_builtin; (refine wpList_append_own_at _ rfl (.tmp 32) (.tmp 35) 32 rfl (R + 2) 9 j0 _ 1 16 Tryd.underlying32 hj hy0 hy1 hy2 rfl (by decide) _ _ _ rfl G3.out.rowK ⟨_, 0, none⟩ 1 1 [.string ⟨xa.toArray⟩] rfl rfl (new_cells _ #[_] _) (by intro u hu; simp at hu; subst hu; rfl) (by rw [objK_len]; unfold maxLen; omega) (by rw [objK_len]; omega) (by simp; omega) ?_; intro v5 w5 hown hgrow hnil hat; obtain ⟨KA5, kc5, rfl⟩ := own_form hown; obtain ⟨⟨p0, p1, p2, p3, p4⟩, q0, q1, q2, q3, q4⟩ := box_of (G3.out.varK hgrow); have pb5 := grown_block hgrow (alloc_block PB1.out) (own_not G3.out.rowK (alloc_block PB1.out) (by decide)); have u5 := cell_here (o := 1) pb5; have G7 := Lib.hid ((G3.out.key xa hown hgrow hat).later ((Below.refl _ _).alloc (Nat.le_refl _) (.cells #[.int .i64 4, .int .i64 0, .string ⟨xb.toArray⟩, .slice none 0 0, .slice none 0 0] 34))); have HGR := Lib.hid hgrow))
          | (at_builtin; go_loud (refine wpList_append_own_at _ rfl (.tmp 39) (.tmp 43) 31 rfl (R + 2) 34 i0 _ 5 80 Tryd.underlying31 hi hz0 hz1 hz2 rfl (by decide) _ _ _ rfl G7.out.rowL ⟨_, 0, none⟩ 1 1 [.int .i64 4, .int .i64 0, .string ⟨xb.toArray⟩, .slice none 0 0, .slice none 0 0] rfl rfl (new_cellsS _ _ _ #[_, _, _, _, _] _) (by intro u hu; simp at hu; rcases hu with rfl | rfl | rfl | rfl | rfl <;> rfl) (by rw [objL_len]; unfold maxLen; omega) (by rw [objL_len]; omega) (by have := G7.out.size; omega) ?_; intro v8 w8 hown8 hgrow8 hnil8 hat8; obtain ⟨LA8, lc8, rfl⟩ := own_form hown8; obtain ⟨⟨r0, r1, r2, r3, r4⟩, s0, s1, s2, s3, s4⟩ := box_of (G7.out.varL hgrow8))))
        have hz7 := G7.out.size
        have g9 := G7.out.item (.mk 4 0 xb [] []) (L0 := R + 2) (N0 := R + 2) (plain_mk _ _ _ (by have := hzk.2; unfold maxLen at this; exact this)) (Nat.le_refl _) hz7 (fun g _ hlt => by omega) hown8 hgrow8 hat8
        rw [← objL_snoc st (xa, xb), ← objK_snoc st (xa, xb)] at g9
        have o6 : (w5.setCell ⟨R + 1, 4, none⟩ (.slice KA5 ((objK st).length + 1) kc5)).ownsMap Tryd.prog 9 (unitElem (H := Unit)) (R + 1 + 1) (st.length + 1) ((seenAt st st.length).put (.string xa) (.agg [])) :=
          ((OWN1.out.alloc _).kept HGR.out (fun e => map_not G3.out.rowK (OWN1.out.alloc _) e.symm)).setCell (by show R + 1 + 1 ≠ R + 1; omega) _
        have o9 : (w8.setCell ⟨R + 1, 3, none⟩ (.slice LA8 ((objL st).length + 1) lc8)).ownsMap Tryd.prog 9 (unitElem (H := Unit)) (R + 1 + 1) (st.length + 1) ((seenAt st st.length).put (.string xa) (.agg [])) :=
          ((o6.alloc _).kept hgrow8 (fun e => map_not G7.out.rowL (o6.alloc _) e.symm)).setCell (by show R + 1 + 1 ≠ R + 1; omega) _
        rw [← seen_snoc st (xa, xb)] at o9
        refine ⟨⟨k + 1, st ++ [(xa, xb)], _, _, _, by omega, by go_num, by simp; omega, HST.out, ?_, g9, by simpa using o9⟩, by simp [intOf]; omega⟩
        intro y hy
        rw [objK_snoc] at hy
        rcases List.mem_append.1 hy with h | h
        · exact HKY.out y h
        · simp at h; subst h; have := hzk.1; unfold maxLen at this; exact this
    · obtain rfl : k = n := by omega
      have e : RES = st := by
        rw [← hst, List.drop_of_length_le (by have := HN.out; omega)]; rfl
      obtain ⟨⟨e0, e1, e2, e3, e4⟩, f0, f1, f2, f3, f4⟩ := box_of GS.out.var
      obtain ⟨⟨p0, p1, p2, p3, p4⟩, q0, q1, q2, q3, q4⟩ := box_of GS.out.res
      subst e
      clear hst hR hbw hom HOM2
      go_wp2
      obtain ⟨wf, hwf⟩ : ∃ wf, wf = set5 wr R 0 (.int .i64 6) (.int .i64 0) (.string ⟨#[]⟩) (.slice LA RES.length lc) (.slice KA RES.length kc) := ⟨_, rfl⟩
      change bodyPost _ _ _ _ _ (set5 wr R 0 (.int .i64 6) (.int .i64 0) (.string ⟨#[]⟩) (.slice LA RES.length lc) (.slice KA RES.length kc))
      rw [← hwf]
      have hx : wf.heap[R]? = some (.cells #[.int .i64 6, .int .i64 0, .string ⟨#[]⟩, .slice LA RES.length lc, .slice KA RES.length kc] 34 (0, 0)) := by rw [hwf]; exact set5_here GS.out.res
      have hbf : Below R w wf := by rw [hwf]; exact GS.out.low.trans (set5_below (Nat.le_refl _))
      have hvf := GS.out.done (wf := wf) (by rw [objL_len]; omega) (by rw [objK_len]; omega) HKY.out (fun b hb => by rw [hwf]; exact set5_there hb) (by rw [hwf, set5_size])
      obtain ⟨⟨x0, x1, x2, x3, x4⟩, -⟩ := box_of hx
      have HBF := Lib.hid hbf; have HVF := Lib.hid hvf
      clear hbf hvf hwf hx e0 e1 e2 e3 e4 f0 f1 f2 f3 f4 p0 p1 p2 p3 p4 q0 q1 q2 q3 q4
      refine bodyPost_ret (v := .agg #[.int .i64 6, .int .i64 0, .string ⟨#[]⟩, .slice LA RES.length lc, .slice KA RES.length kc]) (by simp [results, Tryd.results21, go_sem, x0, x1, x2, x3, x4]) rfl ?_
      exact ⟨⟨_, _, _, _, rfl, by rw [HR.out]; exact HVF.out⟩, by rw [HR.out]; exact HBF.out⟩
end Go.Proofs.YtjgjajnpbcghmaaDoor
