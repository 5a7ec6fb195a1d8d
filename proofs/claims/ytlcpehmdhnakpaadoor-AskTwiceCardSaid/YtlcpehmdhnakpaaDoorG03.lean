/- Texts merged by program, in build order: Cut, Split, Prs, Get, Seen, Twice, Sha, Turn, Arr. -/
import Derived.Test.YtlcpehmdhnakpaaDoorG02
import Derived.Maps.OwnSet
import Derived.Test.YtlcpehmdhnakpaaDoorG01
import Derived.WalkKit
import Derived.Laws.Tables
import Derived.Deep.WholeRow
import Derived.Deep.Draws
import Derived.Deep.MidRow
set_option linter.unusedVariables false
set_option linter.unusedSimpArgs false
namespace Go.Proofs.YtlcpehmdhnakpaaDoor
open Go.RowKit

theorem ext_pre (s : ByteArray) (k : Nat) : s.extract 0 k = ⟨(s.data.toList.take k).toArray⟩ := by
  apply ByteArray.ext; apply Array.ext'
  simp [ByteArray.data_extract, List.extract]
theorem ext_suf (s : ByteArray) (k : Nat) : s.extract k s.size = ⟨(s.data.toList.drop k).toArray⟩ := by
  apply ByteArray.ext; apply Array.ext'
  have : s.size = s.data.size := rfl
  rw [ByteArray.data_extract, Array.toList_extract, this]
  simp [List.extract, List.take_of_length_le]
theorem str_eta (s : ByteArray) : s = ⟨s.data.toList.toArray⟩ := by cases s; simp
set_option maxRecDepth 100000 in
theorem at_any (s : ByteArray) (c : UInt8) (hs : s.size ≤ maxLen) (w : World) :
    Calls Tryd.prog 38 #[.string s, .int .u8 c.toNat] w fun e w' => e = .returned (.int .i64 (atL c s.data.toList)) ∧ w = w' := by
  unfold maxLen at hs
  have hc := c.toNat_lt
  go_enter Tryd.func38, Tryd.ntmps38
  go_wp2
  go_loop [5] (fun i => ∃ k : Nat, k ≤ s.size ∧ i = .int .i64 k ∧ ∀ j (hj : j < s.data.toList.length), j < k → s.data.toList[j] ≠ c) (fun i => s.size - (intOf i).toNat)
  case atStart => exact ⟨0, Nat.zero_le _, rfl, fun _ _ h => absurd h (Nat.not_lt_zero _)⟩
  case round =>
    obtain ⟨k, hk, rfl, hb⟩ := hrel
    have HB := Lib.hid hb; clear hb
    by_cases hlt : k < s.size
    · by_cases he : s[k] = c
      · have h1 : ((s[k].toNat : Int) == (c.toNat : Int)) = true := by rw [he]; simp
        have HE := Lib.hid he; clear he
        go_wp2
        go_ret
        exact ⟨ret_int (by rw [atL_is c s.data.toList k hk HB.out (fun _ => HE.out)]), rfl⟩
      · have h1 : ((s[k].toNat : Int) == (c.toNat : Int)) = false := by
          have : s[k].toNat ≠ c.toNat := fun e => he (UInt8.toNat_inj.1 e)
          simp; omega
        have HE := Lib.hid he; clear he
        go_wp2
        go_round
        case rel => exact ⟨k + 1, by omega, by go_num, fun j hj hjk => by
          rcases Nat.lt_succ_iff_lt_or_eq.1 hjk with h | h
          · exact HB.out j hj h
          · subst h; exact HE.out⟩
        case measure => simp [intOf]; omega
    · have hke : k = s.size := by omega
      subst hke
      go_wp2
      go_ret
      exact ⟨ret_int (by rw [atL_is c s.data.toList s.size hk HB.out (fun h => absurd h (Nat.lt_irrefl _))]), rfl⟩
theorem index1_same (s : ByteArray) (h : s.size = 1) : Lib.indexByte s.data.toList s[0] = 0 := by
  have hl : s.data.toList.length = 1 := h
  obtain ⟨a, ha⟩ := List.length_eq_one_iff.1 hl
  have h0 : s[0] = a := by
    have : s[0] = s.data.toList[0] := rfl
    rw [this]; simp [ha]
  rw [h0, ha]; simp [Lib.indexByte]
set_option maxRecDepth 100000 in
theorem index1_any (s x : ByteArray) (hx : x.size = 1) (w : World) :
    Calls Tryd.prog 62 #[.string s, .string x] w fun e w' => e = .returned (.int .i64 (Lib.indexByte s.data.toList x[0])) ∧ w = w' := by
  by_cases hsx : x = s
  · subst hsx
    have h1 := index1_same x hx
    have H1 := Lib.hid h1; clear h1
    go_enter Tryd.func62, Tryd.ntmps62
    go_wp2_with fail
    go_ret
    exact ⟨ret_int H1.out.symm, rfl⟩
  · have hb : (x.toList == s.toList) = false := by
      have : x.toList ≠ s.toList := fun e => hsx (by rw [ByteArray.toList_eq, ByteArray.toList_eq] at e; exact ByteArray.ext (Array.ext' e))
      simpa using this
    have HX := Lib.hid hsx; clear hsx
    go_enter Tryd.func62, Tryd.ntmps62
    go_wp2_with fail
    refine (stringslite_any s _ _).mono ?_
    rintro e w' ⟨rfl, rfl⟩
    go_wp2
    go_ret
    exact ⟨ret_int (by simp), rfl⟩
theorem index1_c (s : ByteArray) (c : UInt8) (w : World) :
    Calls Tryd.prog 62 #[.string s, .string ⟨#[c]⟩] w fun e w' => e = .returned (.int .i64 (Lib.indexByte s.data.toList c)) ∧ w = w' := index1_any s ⟨#[c]⟩ rfl w
theorem ret_cut {a b c d : ByteArray} {x y : Bool} (h : a = c) (h' : b = d) (hx : x = y) : Ending.returned (.tuple #[.string a, .string b, .bool x]) = .returned (.tuple #[.string c, .string d, .bool y]) := by rw [h, h', hx]
/-- what strings.Cut answers at one byte -/
def cutSays (c : UInt8) (l : List UInt8) : Ending :=
  .returned (.tuple #[.string ⟨(l.take (atL c l)).toArray⟩, .string ⟨(l.drop (atL c l + 1)).toArray⟩, .bool (decide (atL c l < l.length))])
set_option maxRecDepth 100000 in
theorem slcut1_any (s : ByteArray) (c : UInt8) (hs : s.size ≤ maxLen) (w : World) :
    Calls Tryd.prog 54 #[.string s, .string ⟨#[c]⟩] w fun e w' => e = cutSays c s.data.toList ∧ ∃ n, w' = w.drewN n := by
  unfold maxLen at hs
  have hi := atL_index c s.data.toList
  have hle := atL_le c s.data.toList
  have hsz : s.data.toList.length = s.size := rfl
  rw [hsz] at hi hle
  obtain ⟨k, hk⟩ : ∃ k, atL c s.data.toList = k := ⟨_, rfl⟩
  rw [hk] at hi hle
  have hcall := index1_c s c
  by_cases hlt : k < s.size
  · rw [if_pos hlt] at hi
    rw [hi] at hcall
    have HK := Lib.hid hk; have HSZ := Lib.hid hsz; clear hk hi hsz
    go_enter Tryd.func54, Tryd.ntmps54
    go_wp2_with fail
    refine (hcall _).mono ?_
    rintro e w' ⟨rfl, rfl⟩
    go_wp2
    go_quiet (fail)
    go_wp2
    go_ret3
    refine ⟨?_, _, rfl⟩
    unfold cutSays
    rw [HK.out]
    exact ret_cut (ext_pre s k) (ext_suf s (k + 1)) (by rw [HSZ.out]; simp [hlt])
  · rw [if_neg hlt] at hi
    rw [hi] at hcall
    have HK := Lib.hid hk; have HSZ := Lib.hid hsz; clear hk hi hsz
    go_enter Tryd.func54, Tryd.ntmps54
    go_wp2_with fail
    refine (hcall _).mono ?_
    rintro e w' ⟨rfl, rfl⟩
    go_wp2
    go_ret3
    refine ⟨?_, 0, rfl⟩
    unfold cutSays
    rw [HK.out]
    have hke : k = s.size := by omega
    exact ret_cut (by rw [hke, ← ext_pre]; simp) (by rw [hke, ← ext_suf]; apply ByteArray.ext; simp) (by rw [HSZ.out]; simp [hlt])
set_option maxRecDepth 100000 in
theorem cut1_any (s : ByteArray) (c : UInt8) (hs : s.size ≤ maxLen) (w : World) :
    Calls Tryd.prog 43 #[.string s, .string ⟨#[c]⟩] w fun e w' => e = cutSays c s.data.toList ∧ ∃ n, w' = w.drewN n := by
  go_enter Tryd.func43, Tryd.ntmps43
  go_wp2_with fail
  refine (slcut1_any s c hs _).mono ?_
  rintro e w' ⟨rfl, n, rfl⟩
  unfold cutSays
  go_wp2
  go_ret3
  exact ⟨rfl, _, rfl⟩
end Go.Proofs.YtlcpehmdhnakpaaDoor
namespace Go.Proofs.YtlcpehmdhnakpaaDoor
open Go.RowKit

theorem Tryd.infoStr : (Tryd.prog.info? 9).map (fun i => (i.zero, i.size, i.bytes)) = some (some (.string .empty), 1, 16) := by kernel_rfl
/-- texts as cells -/
def scells (l : List (List UInt8)) : List Value := l.map fun p => Value.string ⟨p.toArray⟩
theorem scells_snoc (l : List (List UInt8)) (p : List UInt8) : scells (l ++ [p]) = scells l ++ [.string ⟨p.toArray⟩] := by simp [scells]
theorem scells_len (l : List (List UInt8)) : (scells l).length = l.length := by simp [scells]
/-- a row of texts of the call's own -/
def Strs (w : World) (B : Nat) (v : Value) (l : List (List UInt8)) : Prop := w.ownsRow B 9 1 v l.length (scells l)
theorem Strs.cut {w : World} {B : Nat} {v : Value} {n : Nat} {l : List (List UInt8)} {xs : List Value} (h : w.ownsRow B 9 1 v n xs) (hn : n = l.length) (hx : xs = scells l) : Strs w B v l := by subst hn; subst hx; exact h
theorem str_cell (s : ByteArray) : ∀ u ∈ [Value.string s], u.oneCell' = true := by intro u hu; simp at hu; subst hu; rfl
def slen : Value → Nat
  | .string b => b.size
  | _ => 0
theorem ret_val {a b : Value} (h : a = b) : Ending.returned a = .returned b := by rw [h]

set_option maxRecDepth 100000 in
theorem split_any (s : ByteArray) (c : UInt8) (hs : s.size ≤ 1048576) (w : World) :
    Calls Tryd.prog 24 #[.string s, .int .u8 c.toNat] w fun e w' => ∃ v, e = .returned v ∧ Strs w' w.heap.size v (splitL c s.data.toList) ∧ Below w.heap.size w w' := by
  obtain ⟨i0, hi, hz0, hz1, hz2⟩ := info_parts Tryd.infoStr
  go_enter Tryd.func24, Tryd.ntmps24
  go_wp2
  go_loopw [0, 5] (fun sv v wr => ∃ (pre : List (List UInt8)) (rest : ByteArray), sv = .string rest ∧ Strs wr w.heap.size v pre ∧ splitL c s.data.toList = pre ++ splitL c rest.data.toList ∧ pre.length + rest.size ≤ s.size ∧ Below w.heap.size w wr) (fun sv _ _ => slen sv)
  case atStart => exact ⟨[], s, rfl, World.ownsRow_nil _ _ _ _, rfl, by simp, Below.refl _ _⟩
  case round =>
    obtain ⟨pre, rest, rfl, hown, hsp, hln, hb⟩ := hrel
    have hle := atL_le c rest.data.toList
    have hsz : rest.data.toList.length = rest.size := rfl
    rw [hsz] at hle
    have hmx : rest.size ≤ maxLen := by unfold maxLen; omega
    have hat := fun w => at_any rest c hmx w
    have H1 := @splitL_more c rest.data.toList
    have H2 := @splitL_last c rest.data.toList
    rw [hsz] at H1 H2
    obtain ⟨k, hk⟩ : ∃ k, atL c rest.data.toList = k := ⟨_, rfl⟩
    rw [hk] at hle hat H1 H2
    have HSP := Lib.hid hsp; have G1 := Lib.hid H1; have G2 := Lib.hid H2; clear hsp H1 H2 hk hsz hmx
    have hbs := hb.size
    by_cases hlt : k < rest.size
    · go_wp2_with (first
        | (go_at_call 38; refine (hat _).mono ?_; rintro e w' ⟨rfl, rfl⟩)
        | (at_builtin; refine wpList_append_own _ rfl (.tmp 10) (.tmp 14) 41 rfl w.heap.size 9 i0 _ 1 16 Tryd.underlying41 hi hz0 hz1 hz2 rfl (by decide) _ _ _ rfl (World.ownsRow.alloc hown _) ⟨_, 0, none⟩ 1 1 [.string (rest.extract 0 k)] rfl rfl (new_cells _ #[_] _) (str_cell _) (by unfold maxLen; omega) (by omega) (by simp; omega) ?_))
      intro v' w1 hown' hg' _
      have hb1 : Below w.heap.size w w1 := (hb.alloc hbs _).grown hg' (by simp; omega) (fun j hj => (hown.lt j hj).1)
      go_wp2
      go_roundw
      case rel => exact ⟨pre ++ [rest.data.toList.take k], rest.extract (k + 1) rest.size, rfl, Strs.cut hown' (by simp) (by rw [scells_snoc, ext_pre]), by
        rw [HSP.out, G1.out hlt, ext_suf]; simp, by rw [ext_size, List.length_append]; simp; omega, hb1⟩
      case measure => simp only [slen, ext_size]; omega
    · go_wp2_with (first
        | (go_at_call 38; refine (hat _).mono ?_; rintro e w' ⟨rfl, rfl⟩)
        | (at_builtin; refine wpList_append_own _ rfl (.tmp 10) (.tmp 14) 41 rfl w.heap.size 9 i0 _ 1 16 Tryd.underlying41 hi hz0 hz1 hz2 rfl (by decide) _ _ _ rfl (World.ownsRow.alloc hown _) ⟨_, 0, none⟩ 1 1 [.string (rest.extract 0 k)] rfl rfl (new_cells _ #[_] _) (str_cell _) (by unfold maxLen; omega) (by omega) (by simp; omega) ?_))
      intro v' w1 hown' hg' _
      have hb1 : Below w.heap.size w w1 := (hb.alloc hbs _).grown hg' (by simp; omega) (fun j hj => (hown.lt j hj).1)
      go_wp2
      go_ret
      have hke : k = rest.size := by omega
      exact ⟨_, rfl, Strs.cut hown' (by rw [HSP.out, G2.out (by omega)]; simp) (by rw [HSP.out, G2.out (by omega), scells_snoc, hke, ext_pre]; congr 3; exact congrArg _ (by rw [take_all])), hb1⟩
end Go.Proofs.YtlcpehmdhnakpaaDoor
namespace Go.Proofs.YtlcpehmdhnakpaaDoor
open Go.RowKit

theorem Tryd.infoPair : (Tryd.prog.info? 39).map (fun i => (i.zero, i.size, i.bytes)) = some (some (.agg #[.string ⟨#[]⟩, .string ⟨#[]⟩]), 2, 32) := by kernel_rfl
/-- pairs as cells -/
def pcells : PL → List Value
  | [] => []
  | p :: r => .string ⟨p.1.toArray⟩ :: .string ⟨p.2.toArray⟩ :: pcells r
theorem pcells_app (a b : PL) : pcells (a ++ b) = pcells a ++ pcells b := by
  induction a with
  | nil => rfl
  | cons p a ih => simp [pcells, ih]
theorem pcells_snoc (l : PL) (p : List UInt8 × List UInt8) : pcells (l ++ [p]) = pcells l ++ [.string ⟨p.1.toArray⟩, .string ⟨p.2.toArray⟩] := by rw [pcells_app]; rfl
theorem pcells_len (l : PL) : (pcells l).length = l.length * 2 := by
  induction l with
  | nil => rfl
  | cons p l ih => simp [pcells, ih]; omega
theorem pcells_key (l : PL) (k : Nat) (h : k < l.length) : (pcells l)[k * 2]? = some (.string ⟨l[k].1.toArray⟩) := by
  induction l generalizing k with
  | nil => simp at h
  | cons p l ih =>
    cases k with
    | zero => rfl
    | succ k => rw [Nat.succ_mul]; simp only [pcells, List.getElem?_cons_succ, List.getElem_cons_succ]; exact ih k (by simpa using h)
theorem pcells_val (l : PL) (k : Nat) (h : k < l.length) : (pcells l)[k * 2 + 1]? = some (.string ⟨l[k].2.toArray⟩) := by
  induction l generalizing k with
  | nil => simp at h
  | cons p l ih =>
    cases k with
    | zero => rfl
    | succ k => rw [Nat.succ_mul]; simp only [pcells, List.getElem?_cons_succ, List.getElem_cons_succ]; exact ih k (by simpa using h)
theorem pair_cells (a b : ByteArray) : ∀ u ∈ [Value.string a, Value.string b], u.oneCell' = true := by
  intro u hu; simp at hu; rcases hu with rfl | rfl <;> rfl
/-- a row of pairs of the call's own -/
def PRow (w : World) (B : Nat) (v : Value) (l : PL) : Prop := w.ownsRow B 39 2 v l.length (pcells l)
theorem PRow.cut {w : World} {B : Nat} {v : Value} {n : Nat} {l : PL} {xs : List Value} (h : w.ownsRow B 39 2 v n xs) (hn : n = l.length) (hx : xs = pcells l) : PRow w B v l := by subst hn; subst hx; exact h
theorem PRow.below {w w' : World} {B : Nat} {v : Value} {l : PL} (h : PRow w B v l) (hb : Below w.heap.size w w') : PRow w' B v l :=
  World.ownsRow.kept (row := none) h ⟨hb.os, hb.tape, hb.output, hb.size, fun k hk _ => hb.block k hk⟩ (by
    rcases h.2 with ⟨rfl, _⟩ | ⟨g, cap, cur, rfl, _⟩
    · exact .inl rfl
    · exact .inr (by simp [Value.ownBlock]))
theorem prow_form {w : World} {B : Nat} {v : Value} {l : PL} (h : PRow w B v l) : ∃ A c, v = .slice A l.length c := by
  rcases h.2 with ⟨rfl, h0⟩ | ⟨g, cap, cur, rfl, _⟩
  · exact ⟨none, 0, by rw [h0]⟩
  · exact ⟨_, _, rfl⟩
theorem PRow.nil (w : World) (B : Nat) : PRow w B (.slice none 0 0) [] := World.ownsRow_nil _ _ _ _

/-- what Parse answers -/
def parseE (l : List UInt8) : Int := if 4096 < l.length then 3 else match formL l with
  | none => 2
  | some ps => if 64 < ps.length then 3 else 0
def parseP (l : List UInt8) : PL := if 4096 < l.length then [] else match formL l with
  | none => []
  | some ps => if 64 < ps.length then [] else ps
theorem parse_large {l : List UInt8} (h : 4096 < l.length) : parseE l = 3 ∧ parseP l = [] := by simp [parseE, parseP, h]
theorem parse_none {l : List UInt8} (h : l.length ≤ 4096) (hf : formL l = none) : parseE l = 2 ∧ parseP l = [] := by
  unfold parseE parseP; rw [if_neg (by omega), if_neg (by omega), hf]; exact ⟨rfl, rfl⟩
theorem parse_many {l : List UInt8} {ps : PL} (h : l.length ≤ 4096) (hf : formL l = some ps) (hp : 64 < ps.length) : parseE l = 3 ∧ parseP l = [] := by
  unfold parseE parseP; rw [if_neg (by omega), if_neg (by omega), hf]; simp only [if_pos hp, and_self]
theorem parse_some {l : List UInt8} {ps : PL} (h : l.length ≤ 4096) (hf : formL l = some ps) (hp : ps.length ≤ 64) : parseE l = 0 ∧ parseP l = ps := by
  unfold parseE parseP; rw [if_neg (by omega), if_neg (by omega), hf]; simp only [if_neg (show ¬ 64 < ps.length by omega), and_self]
theorem ret_ve {v : Value} {a b : Int} (h : a = b) : Ending.returned (.tuple #[v, .int .i64 a]) = .returned (.tuple #[v, .int .i64 b]) := by rw [h]
end Go.Proofs.YtlcpehmdhnakpaaDoor
namespace Go.Proofs.YtlcpehmdhnakpaaDoor
open Go.RowKit

/-- a slice's cells read as these pairs, and lie below block B -/
def Prs (w : World) (B : Nat) (A : Option Addr) (l : PL) : Prop :=
  ∀ k (h : k < l.length), ∃ a : Addr, A = some a ∧ a.block < B ∧ w.cell? (a.add (k * 2)) = some (.string ⟨l[k].1.toArray⟩) ∧ w.cell? ⟨(a.add (k * 2)).block, (a.add (k * 2)).off + 1, none⟩ = some (.string ⟨l[k].2.toArray⟩)
theorem add_block (a : Addr) (n : Nat) : (a.add n).block = a.block := by unfold Addr.add; split <;> rfl
theorem add_next (a : Addr) (n : Nat) : (⟨(a.add n).block, (a.add n).off + 1, none⟩ : Addr) = a.add (n + 1) := by
  unfold Addr.add
  by_cases h : n = 0
  · simp [h]
  · simp [h]; omega
theorem Prs.keep {w w' : World} {B : Nat} {A : Option Addr} {l : PL} (h : Prs w B A l) (hk : ∀ p : Addr, p.block < B → w'.cell? p = w.cell? p) : Prs w' B A l := fun k hl => by
  obtain ⟨a, e, hb, h1, h2⟩ := h k hl
  exact ⟨a, e, hb, (hk _ (by rw [add_block]; exact hb)).trans h1, (hk _ (by show (a.add (k * 2)).block < B; rw [add_block]; exact hb)).trans h2⟩
theorem Prs.below {w w' : World} {B : Nat} {A : Option Addr} {l : PL} (h : Prs w B A l) (hb : Below B w w') : Prs w' B A l := h.keep fun _ hp => hb.cell hp
theorem Prs.more {w : World} {B B' : Nat} {A : Option Addr} {l : PL} (h : Prs w B A l) (hB : B ≤ B') : Prs w B' A l := fun k hl => by
  obtain ⟨a, e, hb, h1, h2⟩ := h k hl
  exact ⟨a, e, by omega, h1, h2⟩
theorem Prs.nil (w : World) (B : Nat) (A : Option Addr) : Prs w B A [] := fun _ hl => absurd hl (Nat.not_lt_zero _)
/-- a row of the call's own reads as its pairs -/
theorem PRow.reads {w : World} {B : Nat} {v : Value} {l : PL} (h : PRow w B v l) : ∃ A c, v = .slice A l.length c ∧ Prs w w.heap.size A l := by
  rcases h.2 with ⟨rfl, h0⟩ | ⟨g, cap, cur, rfl, hB, hg, _⟩
  · obtain rfl : l = [] := List.length_eq_zero_iff.1 h0
    exact ⟨none, 0, rfl, Prs.nil _ _ _⟩
  · refine ⟨_, _, rfl, fun k hk => ⟨_, rfl, (Array.getElem?_eq_some_iff.1 hg).1, ?_, ?_⟩⟩
    · exact h.cells (g := g) rfl _ _ (pcells_key l k hk)
    · rw [add_next]
      exact h.cells (g := g) rfl _ _ (pcells_val l k hk)
theorem getL_hit {l : PL} {key : List UInt8} {k : Nat} (hk : k < l.length) (hb : ∀ j (hj : j < l.length), j < k → l[j].1 ≠ key) (hh : l[k].1 = key) : getL l key = some l[k].2 := by
  have : l.find? (fun p => p.1 == key) = some l[k] := by
    rw [List.find?_eq_some_iff_getElem]
    refine ⟨by simpa using hh, k, hk, rfl, fun j hj => ?_⟩
    simpa using hb j (by omega) hj
  unfold getL; rw [this]; rfl
theorem getL_none {l : PL} {key : List UInt8} (hb : ∀ j (hj : j < l.length), l[j].1 ≠ key) : getL l key = none := by
  have : l.find? (fun p => p.1 == key) = none := by
    rw [List.find?_eq_none]
    intro x hx
    obtain ⟨j, hj, rfl⟩ := List.getElem_of_mem hx
    simpa using hb j hj
  unfold getL; rw [this]; rfl
theorem below_next {l : PL} {key : List UInt8} {k : Nat} (hk : k < l.length) (hb : ∀ j (hj : j < l.length), j < k → l[j].1 ≠ key) (hh : l[k].1 ≠ key) : ∀ j (hj : j < l.length), j < k + 1 → l[j].1 ≠ key := fun j hj h => by
  rcases Nat.lt_succ_iff_lt_or_eq.1 h with h | h
  · exact hb j hj h
  · subst h; exact hh

set_option maxRecDepth 100000 in
theorem refGet_any (A : Option Addr) (c B : Nat) (l : PL) (key : List UInt8) (hl : l.length ≤ maxLen) (w : World) (hp : Prs w B A l) :
    Calls Tryd.prog 13 #[.slice A l.length c, .string ⟨key.toArray⟩] w fun e w' => e = .returned (.string ⟨((getL l key).getD []).toArray⟩) ∧ w = w' := by
  unfold maxLen at hl
  obtain ⟨n, hn⟩ : ∃ n, l.length = n := ⟨_, rfl⟩
  rw [hn] at hl ⊢
  have HN := Lib.hid hn; clear hn
  go_enter Tryd.func13, Tryd.ntmps13
  go_wp2
  go_loop [5] (fun i => ∃ k : Nat, k ≤ n ∧ i = .int .i64 k ∧ ∀ j (hj : j < l.length), j < k → l[j].1 ≠ key) (fun i => n - (intOf i).toNat)
  case atStart => exact ⟨0, Nat.zero_le _, rfl, fun _ _ h => absurd h (Nat.not_lt_zero _)⟩
  case round =>
    obtain ⟨k, hk, rfl, hb⟩ := hrel
    have HB := Lib.hid hb; clear hb
    by_cases hlt : k < n
    · have hkl : k < l.length := by have := HN.out; omega
      obtain ⟨a, rfl, _, h1, h2⟩ := hp k hkl
      have g1 := @getL_hit l key k hkl
      have g2 := @below_next l key k hkl
      have G1 := Lib.hid g1; have G2 := Lib.hid g2; clear g1 g2
      generalize l[k] = x at *
      obtain ⟨xa, xb⟩ := x
      dsimp only at h1 h2
      by_cases hx : xa = key
      · have hbe : (xa == key) = true := by simpa using hx
        have HG := Lib.hid (G1.out HB.out hx); clear hx G1 G2
        go_wp2
        go_ret
        exact ⟨by rw [HG.out]; rfl, rfl⟩
      · have hbe : (xa == key) = false := by simpa using hx
        have HG := Lib.hid (G2.out HB.out hx); clear hx G1 G2
        go_wp2
        go_round
        case rel => exact ⟨k + 1, by omega, by go_num, HG.out⟩
        case measure => simp [intOf]; omega
    · have hke : k = n := by omega
      subst hke
      go_wp2
      go_ret
      have hN : getL l key = none := getL_none fun j hj => HB.out j hj (by have := HN.out; omega)
      exact ⟨by rw [hN]; rfl, rfl⟩
set_option maxRecDepth 100000 in
theorem get_any (A : Option Addr) (c B : Nat) (l : PL) (key : List UInt8) (hl : l.length ≤ maxLen) (w : World) (hB : B ≤ w.heap.size) (hp : Prs w B A l) :
    Calls Tryd.prog 45 #[.slice A l.length c, .string ⟨key.toArray⟩] w fun e w' => e = .returned (.tuple #[.string ⟨((getL l key).getD []).toArray⟩, .bool (getL l key).isSome]) ∧ Below w.heap.size w w' := by
  unfold maxLen at hl
  obtain ⟨n, hn⟩ : ∃ n, l.length = n := ⟨_, rfl⟩
  rw [hn] at hl ⊢
  have HN := Lib.hid hn; clear hn
  go_enter Tryd.func45, Tryd.ntmps45
  go_wp2
  go_loopw [10] (fun i wr => ∃ k : Nat, k ≤ n ∧ i = .int .i64 k ∧ (∀ j (hj : j < l.length), j < k → l[j].1 ≠ key) ∧ Below w.heap.size w wr) (fun i _ => n - (intOf i).toNat)
  case atStart => exact ⟨0, Nat.zero_le _, rfl, fun _ _ h => absurd h (Nat.not_lt_zero _), Below.refl _ _⟩
  case round =>
    obtain ⟨k, hk, rfl, hb, hbw⟩ := hrel
    have HB := Lib.hid hb; clear hb
    have hbs := hbw.size
    by_cases hlt : k < n
    · have hkl : k < l.length := by have := HN.out; omega
      obtain ⟨a, rfl, hab, h1, h2⟩ := (hp.below (hbw.mono hB)) k hkl
      have g1 := @getL_hit l key k hkl
      have g2 := @below_next l key k hkl
      have G1 := Lib.hid g1; have G2 := Lib.hid g2; clear g1 g2
      generalize l[k] = x at *
      obtain ⟨xa, xb⟩ := x
      dsimp only at h1 h2
      by_cases hx : xa = key
      · have hbe : (xa == key) = true := by simpa using hx
        have HG := Lib.hid (G1.out HB.out hx); clear hx G1 G2 hp
        go_wp2
        go_ret2
        exact ⟨by rw [HG.out]; rfl, hbw.alloc hbs _⟩
      · have hbe : (xa == key) = false := by simpa using hx
        have HG := Lib.hid (G2.out HB.out hx); clear hx G1 G2
        go_wp2
        go_roundw
        case rel => exact ⟨k + 1, by omega, by go_num, HG.out, hbw.alloc hbs _⟩
        case measure => simp [intOf]; omega
    · have hke : k = n := by omega
      subst hke
      go_wp2
      go_ret2
      have hN : getL l key = none := getL_none fun j hj => HB.out j hj (by have := HN.out; omega)
      exact ⟨by rw [hN]; rfl, hbw⟩
end Go.Proofs.YtlcpehmdhnakpaaDoor
namespace Go.Proofs.YtlcpehmdhnakpaaDoor
open Go.RowKit

open Go.Maps
theorem zeroUnit (w : World) : (zeroValue 76).run Tryd.prog w = .ok (.agg #[]) w := by kernel_rfl
theorem run_makeMapHint {P : Program} (t k e : TypeId) (kd : IntKind) (n : Int) (ht : P.underlying t = some (.map k e)) (w : World) :
    (Instr.makeMap t (some (.int kd n))).run P w = .ok (.map (some w.heap.size)) (w.alloc (.map #[] 0)) := by
  simp [Instr.makeMap, run_underlying ht]; rfl
theorem lawStr : Keyed Tryd.prog 9 := string_keyed Tryd.underlying9
/-- the keys of the first k, as a set -/
def seenAt (l : PL) (k : Nat) : DataW Unit := setOf (.agg []) ((l.take k).map fun p => Lit.string p.1)
theorem seen_next (l : PL) (k : Nat) (h : k < l.length) : seenAt l (k + 1) = (seenAt l k).put (.string l[k].1) (.agg []) := by
  unfold seenAt
  rw [List.take_succ_eq_append_getElem h, List.map_append, List.map_singleton, setOf_snoc]
theorem str_sameKey (a b : List UInt8) : (Lit.string a).sameKey (.string b) = decide (a = b) := by
  show (a == b) = _
  rw [Bool.eq_iff_iff]; simp
theorem seen_has (l : PL) (k : Nat) (x : List UInt8) : Maps.has (seenAt l k) (.string x) = (l.take k).any (fun p => decide (p.1 = x)) := by
  unfold seenAt
  rw [has_setOf _ _ _ (fun y hy => by obtain ⟨_, _, rfl⟩ := List.mem_map.1 hy; trivial), List.any_map]
  congr 1; funext p; exact str_sameKey _ _
theorem seen_yes {l : PL} {k : Nat} {x : List UInt8} (h : Maps.has (seenAt l k) (.string x) = true) : ∃ j, ∃ hj : j < l.length, j < k ∧ l[j].1 = x := by
  rw [seen_has, List.any_eq_true] at h
  obtain ⟨p, hp, he⟩ := h
  obtain ⟨j, hj, rfl⟩ := List.getElem_of_mem hp
  rw [List.length_take] at hj
  refine ⟨j, by omega, by omega, ?_⟩
  have : (l.take k)[j] = l[j] := List.getElem_take
  rw [this] at he
  simpa using he
theorem seen_no {l : PL} {k : Nat} {x : List UInt8} (h : Maps.has (seenAt l k) (.string x) = false) : ∀ j (hj : j < l.length), j < k → x ≠ l[j].1 := fun j hj hjk e => by
  rw [seen_has, List.any_eq_false] at h
  have hm : l[j] ∈ l.take k := by
    rw [List.mem_iff_getElem]
    exact ⟨j, by rw [List.length_take]; omega, List.getElem_take⟩
  exact h _ hm (by simp [e])
end Go.Proofs.YtlcpehmdhnakpaaDoor
namespace Go.Proofs.YtlcpehmdhnakpaaDoor
open Go.RowKit

/-- no key among the first k stands twice -/
def Sole (l : PL) (k : Nat) : Prop := ∀ i j (hi : i < l.length) (hj : j < l.length), i < k → j < i → l[i].1 ≠ l[j].1
theorem Sole.zero (l : PL) : Sole l 0 := fun _ _ _ _ h _ => absurd h (Nat.not_lt_zero _)
theorem Sole.next {l : PL} {k : Nat} (h : Sole l k) (hk : k < l.length) (hn : ∀ j (hj : j < l.length), j < k → l[k].1 ≠ l[j].1) : Sole l (k + 1) := fun i j hi hj h1 h2 => by
  rcases Nat.lt_succ_iff_lt_or_eq.1 h1 with h' | h'
  · exact h i j hi hj h' h2
  · subst h'; exact hn j hj h2
/-- whether two have the same key -/
noncomputable def twiceB (l : PL) : Bool := by classical exact !decide (Sole l l.length)
theorem twiceB_no {l : PL} (h : Sole l l.length) : twiceB l = false := by simp [twiceB, h]
theorem twiceB_yes {l : PL} {i j : Nat} (hi : i < l.length) (hji : j < i) (h : l[i].1 = (l[j]'(by omega)).1) : twiceB l = true := by
  have : ¬ Sole l l.length := fun hs => hs i j hi (by omega) hi hji h
  simp [twiceB, this]
theorem next_not {l : PL} {k i : Nat} (hi : i < l.length) (hk : k < l.length) (hb : ∀ j (hj : j < l.length), j < k → l[i].1 ≠ l[j].1) (hh : l[i].1 ≠ l[k].1) : ∀ j (hj : j < l.length), j < k + 1 → l[i].1 ≠ l[j].1 := fun j hj h => by
  rcases Nat.lt_succ_iff_lt_or_eq.1 h with h | h
  · exact hb j hj h
  · subst h; exact hh

set_option maxRecDepth 100000 in
theorem refTwice_any (A : Option Addr) (c B : Nat) (l : PL) (hl : l.length ≤ maxLen) (w : World) (hp : Prs w B A l) :
    Calls Tryd.prog 23 #[.slice A l.length c] w fun e w' => e = .returned (.bool (twiceB l)) ∧ ∃ q, w' = w.drewN q := by
  unfold maxLen at hl
  obtain ⟨n, hn⟩ : ∃ n, l.length = n := ⟨_, rfl⟩
  rw [hn] at hl ⊢
  have HN := Lib.hid hn; clear hn
  go_enter Tryd.func23, Tryd.ntmps23
  go_wp2
  go_loopw [3] (fun i wr => ∃ k q : Nat, k ≤ n ∧ i = .int .i64 k ∧ wr = w.drewN q ∧ Sole l k) (fun i _ => n - (intOf i).toNat)
  case atStart => exact ⟨0, 0, Nat.zero_le _, rfl, rfl, Sole.zero l⟩
  case round =>
    obtain ⟨i, q, hi, rfl, rfl, hs⟩ := hrel
    have HS := Lib.hid hs; clear hs
    by_cases hlt : i < n
    · have hil : i < l.length := by have := HN.out; omega
      go_wp2
      go_loopw [4] (fun j wr => ∃ k q : Nat, k ≤ i ∧ j = .int .i64 k ∧ wr = w.drewN q ∧ ∀ j (hj : j < l.length), j < k → l[i].1 ≠ l[j].1) (fun j _ => i - (intOf j).toNat)
      case atStart => exact ⟨0, q, Nat.zero_le _, rfl, rfl, fun _ _ h => absurd h (Nat.not_lt_zero _)⟩
      case round =>
        obtain ⟨k, q2, hk, rfl, rfl, hb⟩ := hrel
        have HB := Lib.hid hb; clear hb
        by_cases hlk : k < i
        · have hkl : k < l.length := by omega
          obtain ⟨a, hA, _, h1, _⟩ := hp i hil
          obtain ⟨b, hA', _, h3, _⟩ := hp k hkl
          obtain rfl : a = b := by rw [hA] at hA'; injection hA'
          subst hA
          clear hA'
          have g1 := @twiceB_yes l i k hil hlk
          have g2 := @next_not l k i hil hkl
          have G1 := Lib.hid g1; have G2 := Lib.hid g2; clear g1 g2
          generalize l[i] = x at *
          generalize l[k] = y at *
          obtain ⟨xa, xb⟩ := x
          obtain ⟨ya, yb⟩ := y
          dsimp only at h1 h3
          by_cases hx : xa = ya
          · have hbe : (xa == ya) = true := by simpa using hx
            have HG := Lib.hid (G1.out hx); clear hx G1 G2
            go_wp2
            go_quiet (fail)
            go_wp2
            go_ret
            exact ⟨by rw [HG.out]; rfl, q2 + nq, by rw [World.drewN_drewN]⟩
          · have hbe : (xa == ya) = false := by simpa using hx
            have HG := Lib.hid (G2.out HB.out hx); clear hx G1 G2
            go_wp2
            go_quiet (fail)
            go_wp2
            go_roundw
            case rel => exact ⟨k + 1, q2 + nq, by omega, by go_num, rfl, HG.out⟩
            case measure => simp [intOf]; omega
        · have hke : k = i := by omega
          subst hke
          go_wp2
          go_roundw
          case rel => exact ⟨k + 1, q2, by omega, by go_num, rfl, HS.out.next hil HB.out⟩
          case measure => simp [intOf]; omega
    · have hke : i = n := by omega
      subst hke
      go_wp2
      go_ret
      have hN : twiceB l = false := twiceB_no (by rw [HN.out]; exact HS.out)
      exact ⟨by rw [hN]; rfl, q, rfl⟩
open Go.Maps
set_option maxRecDepth 100000 in
set_option maxHeartbeats 1000000 in
theorem twice_any (A : Option Addr) (c B : Nat) (l : PL) (hl : l.length ≤ 1048576) (hz : ∀ p ∈ l, p.1.length ≤ maxLen) (w : World) (hB : B ≤ w.heap.size) (hp : Prs w B A l) :
    Calls Tryd.prog 17 #[.slice A l.length c] w fun e w' => e = .returned (.bool (twiceB l)) ∧ Below w.heap.size w w' := by
  have hmm := fun n => @run_makeMapHint Tryd.prog 75 9 76 .i64 n Tryd.underlying75
  obtain ⟨n, hn⟩ : ∃ n, l.length = n := ⟨_, rfl⟩
  rw [hn] at hl ⊢
  have HN := Lib.hid hn; have HZ := Lib.hid hz; clear hn hz
  go_enter Tryd.func17, Tryd.ntmps17
  go_wp2
  go_loopw [13] (fun i wr => ∃ k : Nat, k ≤ n ∧ i = .int .i64 k ∧ wr.ownsMap Tryd.prog 9 (unitElem (H := Unit)) w.heap.size k (seenAt l k) ∧ Sole l k ∧ Below w.heap.size w wr) (fun i _ => n - (intOf i).toNat)
  case atStart => exact ⟨0, Nat.zero_le _, rfl, World.ownsMap_made _ _ _ _, Sole.zero l, (Below.refl _ _).alloc (Nat.le_refl _) _⟩
  case round =>
    obtain ⟨k, hk, rfl, hown, hs, hbw⟩ := hrel
    have HS := Lib.hid hs; clear hs
    have hbs := hbw.size
    by_cases hlt : k < n
    · have hkl : k < l.length := by have := HN.out; omega
      obtain ⟨a, rfl, hab, h1, h2⟩ := (hp.below (hbw.mono hB)) k hkl
      have hsz := HZ.out l[k] (List.getElem_mem hkl)
      have g3 := seen_next l k hkl
      have g5 := fun h => HS.out.next hkl h
      have G3 := Lib.hid g3; have G5 := Lib.hid g5; clear g3 g5
      generalize hx : l[k] = x at *
      have HX := Lib.hid hx; clear hx
      obtain ⟨xa, xb⟩ := x
      dsimp only at h1 h2 hsz
      have hkey : keyOf Tryd.prog 9 (.string ⟨xa.toArray⟩) = some (.string xa) := WideMaps.keyOf_string_mk Tryd.underlying9 hsz
      cases hh : Maps.has (seenAt l k) (.string xa) with
      | true =>
        obtain ⟨j, hj, hjk, he⟩ := seen_yes hh
        have HT := Lib.hid (twiceB_yes hkl hjk (by rw [HX.out, he])); clear he hj
        go_wp2_with (at_lookup; refine wpList_lookup_own_unit _ rfl _ _ 75 rfl 9 76 lawStr Tryd.underlying75 (zeroUnit _) w.heap.size k _ rfl (hown.alloc _) _ _ rfl hkey ?_)
        go_ret
        exact ⟨by rw [HT.out]; rfl, (hbw.alloc hbs _).alloc (by simp; omega) _⟩
      | false =>
        have HS1 := Lib.hid (G5.out (seen_no hh))
        go_wp2_with (first
          | (at_lookup; refine wpList_lookup_own_unit _ rfl _ _ 75 rfl 9 76 lawStr Tryd.underlying75 (zeroUnit _) w.heap.size k _ rfl (hown.alloc _) _ _ rfl hkey ?_)
          | (at_mapUpdate; refine wpList_mapUpdate_own _ rfl _ _ _ 75 rfl 9 76 lawStr Tryd.underlying75 (unitElem (H := Unit)) w.heap.size k _ rfl ((hown.alloc _).alloc _) (by unfold maxLen; omega) _ _ _ rfl rfl hkey _ [] unitElem_mk ?_; intro w1 hown1 hgrow1))
        go_roundw
        case rel => exact ⟨k + 1, by omega, by go_num, by rw [G3.out]; exact hown1, HS1.out, ((hbw.alloc hbs _).alloc (by simp; omega) _).grown hgrow1 (by simp; omega) (fun j hj => by cases hj; exact Nat.le_refl _)⟩
        case measure => simp [intOf]; omega
    · have hke : k = n := by omega
      subst hke
      go_wp2
      go_ret
      have hN : twiceB l = false := twiceB_no (by rw [HN.out]; exact HS.out)
      exact ⟨by rw [hN]; rfl, hbw⟩
end Go.Proofs.YtlcpehmdhnakpaaDoor
namespace Go.Proofs.YtlcpehmdhnakpaaDoor
open Go.RowKit

/-! ## words: what the model's operations on uint32 are at words -/
def rotr (x : UInt32) (n : Nat) : UInt32 := UInt32.ofNat (x.toNat / 2 ^ n ||| x.toNat * 2 ^ (32 - n) % 4294967296)
/-- the operations on words, behind names (simp knows how UInt32's own ones read as numbers, and would turn the rules below back) -/
def addW (x y : UInt32) : UInt32 := x + y
def xorW (x y : UInt32) : UInt32 := x ^^^ y
def andW (x y : UInt32) : UInt32 := x &&& y
def orW (x y : UInt32) : UInt32 := x ||| y
def notW (x : UInt32) : UInt32 := xorW 4294967295 x
/-- a word of a number -/
def natW (n : Nat) : UInt32 := UInt32.ofNat n
theorem natW_nat (n : Nat) (h : n < 4294967296) : (natW n).toNat = n := by
  unfold natW; rw [UInt32.toNat_ofNat']; exact Nat.mod_eq_of_lt h
theorem w_lt (x : UInt32) : x.toNat < 4294967296 := x.toNat_lt
theorem or_lt32 (a b : Nat) (ha : a < 4294967296) (hb : b < 4294967296) : a ||| b < 4294967296 := Nat.or_lt_two_pow (n := 32) ha hb
theorem bits_word_or (a b : Nat) (ha : a < 4294967296) (hb : b < 4294967296) : bits .or .u32 (a : Int) (b : Int) = ((a ||| b : Nat) : Int) :=
  (bits_nat .u32 32 (by decide) (fun n h0 h1 => by rw [IntKind.wrap_u32]; omega) a b ha hb).2
theorem bits_word_and (a b : Nat) (ha : a < 4294967296) (hb : b < 4294967296) : bits .and .u32 (a : Int) (b : Int) = ((a &&& b : Nat) : Int) :=
  (bits_nat .u32 32 (by decide) (fun n h0 h1 => by rw [IntKind.wrap_u32]; omega) a b ha hb).1
theorem rotr_nat (x : UInt32) (n : Nat) : (rotr x n).toNat = x.toNat / 2 ^ n ||| x.toNat * 2 ^ (32 - n) % 4294967296 := by
  unfold rotr
  rw [UInt32.toNat_ofNat']
  exact Nat.mod_eq_of_lt (or_lt32 _ _ (Nat.lt_of_le_of_lt (Nat.div_le_self _ _) (w_lt x)) (Nat.mod_lt _ (by decide)))
theorem w_add (x y : UInt32) : ((x.toNat : Int) + (y.toNat : Int)) % 4294967296 = ((addW x y).toNat : Int) := by unfold addW; rw [UInt32.toNat_add]; omega
theorem w_and (x y : UInt32) : bits .and .u32 (x.toNat : Int) (y.toNat : Int) = ((andW x y).toNat : Int) := by
  unfold andW; rw [bits_word_and _ _ (w_lt x) (w_lt y), UInt32.toNat_and]
theorem w_xor (x y : UInt32) : bits .xor .u32 (x.toNat : Int) (y.toNat : Int) = ((xorW x y).toNat : Int) := by
  unfold xorW; rw [bits_xor_nat .u32 32 (by decide) (fun n h0 h1 => by rw [IntKind.wrap_u32]; omega) _ _ (w_lt x) (w_lt y), UInt32.toNat_xor]
theorem w_or (x y : UInt32) : bits .or .u32 (x.toNat : Int) (y.toNat : Int) = ((orW x y).toNat : Int) := by
  unfold orW; rw [bits_word_or _ _ (w_lt x) (w_lt y), UInt32.toNat_or]

theorem w_not (x : UInt32) : bits .xor .u32 IntKind.u32.max (x.toNat : Int) = ((notW x).toNat : Int) := w_xor 4294967295 x

/-! ## the sum -/
def kL : List UInt32 := [0x428a2f98, 0x71374491, 0xb5c0fbcf, 0xe9b5dba5, 0x3956c25b, 0x59f111f1, 0x923f82a4, 0xab1c5ed5,
  0xd807aa98, 0x12835b01, 0x243185be, 0x550c7dc3, 0x72be5d74, 0x80deb1fe, 0x9bdc06a7, 0xc19bf174,
  0xe49b69c1, 0xefbe4786, 0x0fc19dc6, 0x240ca1cc, 0x2de92c6f, 0x4a7484aa, 0x5cb0a9dc, 0x76f988da,
  0x983e5152, 0xa831c66d, 0xb00327c8, 0xbf597fc7, 0xc6e00bf3, 0xd5a79147, 0x06ca6351, 0x14292967,
  0x27b70a85, 0x2e1b2138, 0x4d2c6dfc, 0x53380d13, 0x650a7354, 0x766a0abb, 0x81c2c92e, 0x92722c85,
  0xa2bfe8a1, 0xa81a664b, 0xc24b8b70, 0xc76c51a3, 0xd192e819, 0xd6990624, 0xf40e3585, 0x106aa070,
  0x19a4c116, 0x1e376c08, 0x2748774c, 0x34b0bcb5, 0x391c0cb3, 0x4ed8aa4a, 0x5b9cca4f, 0x682e6ff3,
  0x748f82ee, 0x78a5636f, 0x84c87814, 0x8cc70208, 0x90befffa, 0xa4506ceb, 0xbef9a3f7, 0xc67178f2]
def kAt (i : Nat) : UInt32 := kL.getD i 0
structure S8 where
  a : UInt32
  b : UInt32
  c : UInt32
  d : UInt32
  e : UInt32
  f : UInt32
  g : UInt32
  h : UInt32
def h0 : S8 := ⟨0x6a09e667, 0xbb67ae85, 0x3c6ef372, 0xa54ff53a, 0x510e527f, 0x9b05688c, 0x1f83d9ab, 0x5be0cd19⟩
def lo0 (x : UInt32) : UInt32 := xorW (xorW (rotr x 7) (rotr x 18)) (natW (x.toNat / 8))
def lo1 (x : UInt32) : UInt32 := xorW (xorW (rotr x 17) (rotr x 19)) (natW (x.toNat / 1024))
def up1 (e : UInt32) : UInt32 := xorW (xorW (rotr e 6) (rotr e 11)) (rotr e 25)
def up0 (a : UInt32) : UInt32 := xorW (xorW (rotr a 2) (rotr a 13)) (rotr a 22)
def chW (e f g : UInt32) : UInt32 := xorW (andW e f) (andW (notW e) g)
def majW (a b c : UInt32) : UInt32 := xorW (xorW (andW a b) (andW a c)) (andW b c)
/-- a word out of four bytes -/
def wordL (b : List UInt8) (q : Nat) : UInt32 := UInt32.ofNat ((b.getD q 0).toNat * 16777216 + (b.getD (q + 1) 0).toNat * 65536 + (b.getD (q + 2) 0).toNat * 256 + (b.getD (q + 3) 0).toNat)
/-- the first words of a block's schedule; the block's bytes stand at p -/
def schedL (b : List UInt8) (p : Nat) : Nat → List UInt32
  | 0 => []
  | i + 1 => schedL b p i ++ [if i < 16 then wordL b (p + 4 * i) else
      addW (addW (addW ((schedL b p i).getD (i - 16) 0) (lo0 ((schedL b p i).getD (i - 15) 0))) ((schedL b p i).getD (i - 7) 0)) (lo1 ((schedL b p i).getD (i - 2) 0))]
theorem schedL_len (b : List UInt8) (p i : Nat) : (schedL b p i).length = i := by
  induction i with
  | zero => rfl
  | succ i ih => simp [schedL, ih]
def schedW (b : List UInt8) (p i : Nat) : UInt32 := (schedL b p (i + 1)).getD i 0
theorem schedL_at (b : List UInt8) (p : Nat) : ∀ (n i : Nat), i < n → (schedL b p n).getD i 0 = schedW b p i
  | 0, _, h => absurd h (Nat.not_lt_zero _)
  | n + 1, i, h => by
    rcases Nat.lt_succ_iff_lt_or_eq.1 h with h' | h'
    · rw [← schedL_at b p n i h', schedL]
      have hl : i < (schedL b p n).length := by rw [schedL_len]; exact h'
      simp [List.getD, List.getElem?_append, hl]
    · subst h'; rfl
theorem schedW_first (b : List UInt8) (p i : Nat) (h : i < 16) : schedW b p i = wordL b (p + 4 * i) := by
  unfold schedW schedL
  rw [if_pos h]
  simp [List.getD, schedL_len]
theorem schedW_next (b : List UInt8) (p i : Nat) (h : 16 ≤ i) : schedW b p i = addW (addW (addW (schedW b p (i - 16)) (lo0 (schedW b p (i - 15)))) (schedW b p (i - 7))) (lo1 (schedW b p (i - 2))) := by
  have e : schedW b p i = addW (addW (addW ((schedL b p i).getD (i - 16) 0) (lo0 ((schedL b p i).getD (i - 15) 0))) ((schedL b p i).getD (i - 7) 0)) (lo1 ((schedL b p i).getD (i - 2) 0)) := by
    unfold schedW
    rw [schedL, if_neg (by omega)]
    simp [List.getD, schedL_len]
  rw [e, schedL_at b p i _ (by omega), schedL_at b p i _ (by omega), schedL_at b p i _ (by omega), schedL_at b p i _ (by omega)]
/-- one round -/
def t1W (s : S8) (k w : UInt32) : UInt32 := addW (addW (addW (addW s.h (up1 s.e)) (chW s.e s.f s.g)) k) w
def t2W (s : S8) : UInt32 := addW (up0 s.a) (majW s.a s.b s.c)
def roundW (s : S8) (k w : UInt32) : S8 := ⟨addW (t1W s k w) (t2W s), s.a, s.b, s.c, addW s.d (t1W s k w), s.e, s.f, s.g⟩
def roundsW (b : List UInt8) (p : Nat) (s : S8) : Nat → S8
  | 0 => s
  | i + 1 => roundW (roundsW b p s i) (kAt i) (schedW b p i)
def addS (s t : S8) : S8 := ⟨addW s.a t.a, addW s.b t.b, addW s.c t.c, addW s.d t.d, addW s.e t.e, addW s.f t.f, addW s.g t.g, addW s.h t.h⟩
def blockW (b : List UInt8) (p : Nat) (s : S8) : S8 := addS s (roundsW b p s 64)
def blocksW (b : List UInt8) : Nat → S8
  | 0 => h0
  | j + 1 => blockW b (64 * j) (blocksW b j)
def byte4 (x : UInt32) : List UInt8 := [UInt8.ofNat (x.toNat / 16777216), UInt8.ofNat (x.toNat / 65536), UInt8.ofNat (x.toNat / 256), UInt8.ofNat x.toNat]
def outL (s : S8) : List UInt8 := byte4 s.a ++ byte4 s.b ++ byte4 s.c ++ byte4 s.d ++ byte4 s.e ++ byte4 s.f ++ byte4 s.g ++ byte4 s.h
/-- how many zeros follow -/
def zerosN (n : Nat) : Nat := (119 - n % 64) % 64
def lenL (n : Nat) : List UInt8 := (List.range 8).map fun i => UInt8.ofNat (8 * n / 256 ^ (7 - i))
def padL (l : List UInt8) : List UInt8 := l ++ [128] ++ List.replicate (zerosN l.length) 0 ++ lenL l.length
theorem padL_len (l : List UInt8) : (padL l).length = l.length + 1 + zerosN l.length + 8 ∧ (padL l).length % 64 = 0 := by
  have h : (padL l).length = l.length + 1 + zerosN l.length + 8 := by simp [padL, lenL]; omega
  refine ⟨h, ?_⟩
  rw [h]; unfold zerosN; omega
def sumL (l : List UInt8) : List UInt8 := outL (blocksW (padL l) ((padL l).length / 64))
theorem outL_len (s : S8) : (outL s).length = 32 := rfl
end Go.Proofs.YtlcpehmdhnakpaaDoor
namespace Go.Proofs.YtlcpehmdhnakpaaDoor
open Go.RowKit

/-- a callee that leaves the world alone, in a second quiet region -/
theorem quiet_more {P : Program} {f : FuncId} {args : Array Value} {w : World} {a n : Nat} {v : Value} (h : Calls P f args (w.drewN (a + n)) fun e w' => e = .returned v ∧ w' = w.drewN (a + n)) :
    Calls P f args (w.drewN (a + n)) fun e w'' => e = .returned v ∧ ∃ m, w'' = w.drewN (a + m) := h.mono fun _ _ ⟨he, hm⟩ => ⟨he, n, hm⟩
theorem rotr_int (x : UInt32) (n : Nat) : bits .or .u32 ((x.toNat : Int) / 2 ^ n) ((x.toNat : Int) * 2 ^ (32 - n) % 4294967296) = ((rotr x n).toNat : Int) := by
  have h1 : (x.toNat : Int) / 2 ^ n = ((x.toNat / 2 ^ n : Nat) : Int) := by rw [Int.natCast_ediv, Int.natCast_pow]; rfl
  have h2 : (x.toNat : Int) * 2 ^ (32 - n) % 4294967296 = ((x.toNat * 2 ^ (32 - n) % 4294967296 : Nat) : Int) := by rw [Int.natCast_emod, Int.natCast_mul, Int.natCast_pow]; rfl
  rw [rotr_nat, h1, h2]
  exact bits_word_or _ _ (Nat.lt_of_le_of_lt (Nat.div_le_self _ _) (w_lt x)) (Nat.mod_lt _ (by decide))
theorem turn_any (x : UInt32) (n : Nat) (hn : n ≤ 32) (w : World) :
    Calls Tryd.prog 28 #[.int .u32 (x.toNat : Int), .int .u64 (n : Int)] w fun e w' => e = .returned (.int .u32 ((rotr x n).toNat : Int)) ∧ w = w' := by
  have hx := w_lt x
  go_enter Tryd.func28, Tryd.ntmps28
  go_wp2
  go_ret
  exact ⟨ret_int (rotr_int x n), rfl⟩
theorem turn_quiet (x : UInt32) (n : Nat) (hn : n ≤ 32) (w : World) :
    Calls Tryd.prog 28 #[.int .u32 (x.toNat : Int), .int .u64 (n : Int)] w fun e w' => e = .returned (.int .u32 ((rotr x n).toNat : Int)) ∧ w' = w := (turn_any x n hn w).mono fun _ _ h => ⟨h.1, h.2.symm⟩
theorem turn_q (x : UInt32) (n : Int) (h0 : 0 ≤ n) (hn : n ≤ 32) (w : World) :
    Calls Tryd.prog 28 #[.int .u32 (x.toNat : Int), .int .u64 n] w fun e w' => e = .returned (.int .u32 ((rotr x n.toNat).toNat : Int)) ∧ w' = w := by
  have h : (n.toNat : Int) = n := by omega
  have := turn_quiet x n.toNat (by omega) w
  rw [h] at this; exact this
end Go.Proofs.YtlcpehmdhnakpaaDoor
namespace Go.Proofs.YtlcpehmdhnakpaaDoor
open Go.RowKit

theorem run_alloc_new {P : Program} (w : World) (t : TypeId) (z : Value) (hz : ∀ w, (zeroValue t).run P w = .ok z w) :
    (Instr.alloc t true (.tuple #[])).run P w = .ok (.pointer (some ⟨w.heap.size, 0, none⟩)) (w.alloc (.cells z.cells t)) := by
  simp [Instr.alloc, Sem.run_bind, hz, newVar, newRow]
theorem wp_alloc_var {P : Program} {o : Oper} {a : Act} {w : World} {K : Act → World → Prop} {Q : Exit → Act → World → Prop} (t : TypeId) (z : Value) (ho : o.op = .alloc t)
    (hz : ∀ w, (zeroValue t).run P w = .ok z w) (h : K (a.put o.dst (.pointer (some ⟨w.heap.size, 0, none⟩))) (w.alloc (.cells z.cells t))) : o.wp P a w K Q := by
  unfold Oper.wp execOp
  simp only [ho, Sem.run_bind, run_alloc_new w t z hz, Result.andThen_ok]
  exact h
theorem wp_store_new {P : Program} {o : Oper} {a : Act} {w : World} {K : Act → World → Prop} {Q : Exit → Act → World → Prop} (t : TypeId) (p x : Operand) (c c' : Array Value) (ho : o.op = .store t p x)
    (hp : a.eval p = .pointer (some ⟨w.heap.size, 0, none⟩)) (hx : a.eval x = .agg c') (hi : (P.info? t).map (·.size) = some c'.size) (hs : c.size = c'.size) (h1 : c'.all (·.oneCell') = true)
    (h : K (a.put o.dst undef) (w.alloc (.cells c' t))) : o.wp P a (w.alloc (.cells c t)) K Q := by
  unfold Oper.wp execOp
  simp only [ho, hp, hx, Sem.run_bind, run_storeAt_new w t c c' hi hs h1, Result.andThen_ok]
  exact h
theorem wp_build_is {P : Program} {o : Oper} {a : Act} {w : World} {K : Act → World → Prop} {Q : Exit → Act → World → Prop} (t : TypeId) (parts : Array (Nat × Operand)) (cells : Array Value) (ho : o.op = .build t parts)
    (hc : P.built t (parts.map fun (i, x) => (i, a.eval x)).toList = some cells) (h : K (a.put o.dst (.agg cells)) w) : o.wp P a w K Q :=
  wp_build t parts ho (by rw [hc]; rfl) (by rw [hc]; exact h)
theorem wpList_alloc_var {P : Program} (t : TypeId) (z : Value) {ops : Array Oper} {rest : List Oper} {d : Option Tmp} {ty : TypeId} {pos : String} {after : Array Edge} {a : Act} {w : World} {Q : Exit → Act → World → Prop}
    (hz : ∀ w, (zeroValue t).run P w = .ok z w) (h : wpList P ops Q rest (a.put d (.pointer (some ⟨w.heap.size, 0, none⟩))) (w.alloc (.cells z.cells t))) :
    wpList P ops Q ({ dst := d, op := .alloc t, type := ty, pos := pos, after := after, guard := none } :: rest) a w :=
  wpList_plain rfl fun _ hK => wp_alloc_var t z rfl hz (hK _ _ h)
theorem wpList_store_new {P : Program} {ops : Array Oper} {rest : List Oper} {o : Oper} {a : Act} {w : World} {Q : Exit → Act → World → Prop} (hgd : o.guard = none) (t : TypeId) (p x : Operand) (c c' : Array Value) (ho : o.op = .store t p x)
    (hp : a.eval p = .pointer (some ⟨w.heap.size, 0, none⟩)) (hx : a.eval x = .agg c') (hi : (P.info? t).map (·.size) = some c'.size) (hs : c.size = c'.size) (h1 : c'.all (·.oneCell') = true)
    (h : wpList P ops Q rest (a.put o.dst undef) (w.alloc (.cells c' t))) : wpList P ops Q (o :: rest) a (w.alloc (.cells c t)) :=
  wpList_plain hgd fun _ hK => wp_store_new t p x c c' ho hp hx hi hs h1 (hK _ _ h)
theorem arr_store (w : World) (C : Array Value) (t : TypeId) (q k : Nat) (v : Value) : (((w.alloc (.cells C t)).drewN q).setCell ⟨w.heap.size, k, none⟩ v) = (w.alloc (.cells (C.setIfInBounds k v) t)).drewN q := by
  rw [setCell_eq_setRow (((w.alloc (.cells C t)).drewN q)) w.heap.size k C t (0, 0) v (heap_alloc_last w _)]
  have := World.setRow_alloc_new w C (C.setIfInBounds k v) t
  rw [← this]; rfl
/-- a result that lies in memory -/
theorem results_cell {P : Program} {fn : Func} {t : Tmp} {ty : TypeId} (h : fn.results = #[.cell t ty]) (tmps : Array Value) (w : World) (b : Nat) (cs : List Value) (d : TypeDesc) (hp : tmps.getD t undef = .pointer (some ⟨b, 0, none⟩)) (hc : w.rangeAt b 0 cs)
    (hu : P.underlying ty = some d) (hd : d.isRow = true) (hi : (P.info? ty).map (·.size) = some cs.length) : (results fn tmps).run P w = .ok (.agg cs.toArray) w := by
  have hl := run_loadVar_mid (P := P) w b 0 ty cs d hc hu hd hi
  simp only [Array.getD_eq_getD_getElem?] at hp
  simp [results, h, hp, hl, asAddr]
theorem range_new (w : World) (cs : List Value) (t : TypeId) : (w.alloc (.cells cs.toArray t)).rangeAt w.heap.size 0 cs := fun j v hv => by
  show (match (w.alloc _).heap[w.heap.size]? with | some (.cells c _ _) => c[0 + j]? | _ => none) = _
  rw [heap_alloc_last]; simpa using hv
end Go.Proofs.YtlcpehmdhnakpaaDoor
