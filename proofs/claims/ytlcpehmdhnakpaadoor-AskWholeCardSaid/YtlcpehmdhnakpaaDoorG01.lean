/- Texts merged by program, in build order: Form, Base, Cellar, RdAt, Texts, ConnVals. -/
import Derived.Lib.Bytealg
import Derived.Test.YtlcpehmdhnakpaaDoorRows
import Derived.WalkKit
import Derived.WalkLawsBesides
import Derived.Lib.Hide
import Derived.Lib.Slices
import Derived.Outline
import Derived.BigQuiet
import Derived.Deep.QuietTactic
import Derived.Deep.RegionHeld3
import Derived.Laws.IdiomStrings
import Derived.LoopN
import Derived.Maps.AppendAt
import Derived.Laws.AppendOwnNone
import Derived.Deep.WholeRow
set_option linter.unusedVariables false
set_option linter.unusedSimpArgs false
namespace Go.Proofs.YtlcpehmdhnakpaaDoor

theorem drop_cons (l : List UInt8) (k : Nat) (h : k < l.length) : l.drop k = l[k] :: l.drop (k + 1) := List.drop_eq_getElem_cons h
/-- what stands as it is in a form -/
def plainB (c : UInt8) : Bool := decide (97 ≤ c.toNat ∧ c.toNat ≤ 122 ∨ 65 ≤ c.toNat ∧ c.toNat ≤ 90 ∨ 48 ≤ c.toNat ∧ c.toNat ≤ 57 ∨ c.toNat = 45 ∨ c.toNat = 46 ∨ c.toNat = 95 ∨ c.toNat = 126)
def alnumB (c : UInt8) : Bool := decide (97 ≤ c.toNat ∧ c.toNat ≤ 122 ∨ 65 ≤ c.toNat ∧ c.toNat ≤ 90 ∨ 48 ≤ c.toNat ∧ c.toNat ≤ 57)

/-- a hexadecimal digit's number; -1: none -/
def hexI (c : UInt8) : Int := if 48 ≤ c.toNat ∧ c.toNat ≤ 57 then c.toNat - 48 else if 65 ≤ c.toNat ∧ c.toNat ≤ 70 then c.toNat - 55 else if 97 ≤ c.toNat ∧ c.toNat ≤ 102 then c.toNat - 87 else -1
theorem hexI_spec (c : UInt8) : (48 ≤ (c.toNat : Int) ∧ (c.toNat : Int) ≤ 57 ∧ hexI c = c.toNat - 48) ∨ (65 ≤ (c.toNat : Int) ∧ (c.toNat : Int) ≤ 70 ∧ hexI c = c.toNat - 55) ∨ (97 ≤ (c.toNat : Int) ∧ (c.toNat : Int) ≤ 102 ∧ hexI c = c.toNat - 87) ∨
    (((c.toNat : Int) < 48 ∨ 57 < (c.toNat : Int) ∧ (c.toNat : Int) < 65 ∨ 70 < (c.toNat : Int) ∧ (c.toNat : Int) < 97 ∨ 102 < (c.toNat : Int)) ∧ hexI c = -1) := by
  unfold hexI
  split
  · omega
  · split
    · omega
    · split <;> omega

def hexU (n : Nat) : UInt8 := (#[48, 49, 50, 51, 52, 53, 54, 55, 56, 57, 65, 66, 67, 68, 69, 70] : Array UInt8).getD n 0
def hexBytes : ByteArray := ⟨#[48, 49, 50, 51, 52, 53, 54, 55, 56, 57, 65, 66, 67, 68, 69, 70]⟩
theorem hexU_at {n : Nat} (h : n < hexBytes.size) : hexBytes[n] = hexU n := by
  have h' : n < hexBytes.data.size := h
  show hexBytes.data[n] = hexBytes.data.getD n 0
  rw [Array.getD_eq_getD_getElem?, Array.getElem?_eq_getElem h']; rfl
def quote1 (c : UInt8) : List UInt8 := if plainB c then [c] else [37, hexU (c.toNat / 16), hexU (c.toNat % 16)]
def quoteL (l : List UInt8) : List UInt8 := l.flatMap quote1
theorem quoteL_snoc (l : List UInt8) (c : UInt8) : quoteL (l ++ [c]) = quoteL l ++ quote1 c := by simp [quoteL]
theorem quoteL_le (l : List UInt8) : (quoteL l).length ≤ 3 * l.length := by
  induction l with
  | nil => simp [quoteL]
  | cons c l ih =>
    have : quoteL (c :: l) = quote1 c ++ quoteL l := by simp [quoteL]
    rw [this, List.length_append]
    have : (quote1 c).length ≤ 3 := by unfold quote1; split <;> simp
    simp; omega

def digN (c : UInt8) : Int := if hexI c < 0 then 0 else hexI c
def digB (c : UInt8) : Bool := decide (0 ≤ hexI c)
theorem hexI_bd (c : UInt8) : -1 ≤ hexI c ∧ hexI c ≤ 15 := by have := hexI_spec c; omega
theorem digN_bd (c : UInt8) : 0 ≤ digN c ∧ digN c ≤ 15 := by have := hexI_bd c; unfold digN; split <;> omega
theorem digN_of {c : UInt8} (h : digB c = true) : digN c = hexI c ∧ 0 ≤ hexI c := by
  have : 0 ≤ hexI c := by simpa [digB] using h
  unfold digN; rw [if_neg (by omega)]; exact ⟨rfl, this⟩


def hexByte (a b : UInt8) : UInt8 := UInt8.ofNat (16 * digN a + digN b).toNat
theorem hexByte_toNat (a b : UInt8) : ((hexByte a b).toNat : Int) = 16 * digN a + digN b := by
  have := digN_bd a; have := digN_bd b
  unfold hexByte; rw [UInt8.toNat_ofNat']; omega

/-- what a text stands for in a form -/
def unq : List UInt8 → Option (List UInt8)
  | [] => some []
  | c :: r =>
    if c.toNat = 43 then (unq r).map (32 :: ·)
    else if c.toNat = 37 then
      match r with
      | a :: b :: r' => if digB a && digB b then (unq r').map (hexByte a b :: ·) else none
      | _ => none
    else (unq r).map (c :: ·)

theorem unq_plus {c : UInt8} (r : List UInt8) (h : c.toNat = 43) : unq (c :: r) = (unq r).map (32 :: ·) := by
  rcases r with _ | ⟨a, _ | ⟨b, r⟩⟩
  · simp [unq, h]
  · simp [unq, h]
  · rw [unq, if_pos h]
theorem unq_same {c : UInt8} (r : List UInt8) (h : c.toNat ≠ 43) (h' : c.toNat ≠ 37) : unq (c :: r) = (unq r).map (c :: ·) := by
  rcases r with _ | ⟨a, _ | ⟨b, r⟩⟩
  · simp [unq, h, h']
  · simp [unq, h, h']
  · rw [unq, if_neg h, if_neg h']
theorem unq_hex {c : UInt8} (a b : UInt8) (r : List UInt8) (h' : c.toNat = 37) : unq (c :: a :: b :: r) = if digB a && digB b then (unq r).map (hexByte a b :: ·) else none := by
  rw [unq, if_neg (by omega), if_pos h']
theorem unq_short {c : UInt8} (r : List UInt8) (h' : c.toNat = 37) (hr : r.length ≤ 1) : unq (c :: r) = none := by
  rcases r with _ | ⟨a, _ | ⟨b, r⟩⟩
  · rw [unq, if_neg (by omega), if_pos h']; simp
  · rw [unq, if_neg (by omega), if_pos h']; simp
  · simp at hr

def UnqAt (l : List UInt8) (k : Nat) (acc : List UInt8) : Prop := unq l = (unq (l.drop k)).map (acc ++ ·)
theorem unqAt_start (l : List UInt8) : UnqAt l 0 [] := by unfold UnqAt; simp
theorem unqAt_end {l acc : List UInt8} (h : UnqAt l l.length acc) : unq l = some acc := by unfold UnqAt at h; rw [h]; simp [unq]
theorem unqAt_plus {l acc : List UInt8} {k : Nat} (h : UnqAt l k acc) (hk : k < l.length) (hc : l[k].toNat = 43) : UnqAt l (k + 1) (acc ++ [32]) := by
  unfold UnqAt at h ⊢
  rw [h, drop_cons l k hk, unq_plus _ hc, Option.map_map]; congr 1; funext x; simp
theorem unqAt_same {l acc : List UInt8} {k : Nat} (h : UnqAt l k acc) (hk : k < l.length) (hc : l[k].toNat ≠ 43) (hc' : l[k].toNat ≠ 37) : UnqAt l (k + 1) (acc ++ [l[k]]) := by
  unfold UnqAt at h ⊢
  rw [h, drop_cons l k hk, unq_same _ hc hc', Option.map_map]; congr 1; funext x; simp
theorem unqAt_hex {l acc : List UInt8} {k : Nat} (h : UnqAt l k acc) (hk : k + 2 < l.length) (hc' : l[k].toNat = 37) (ha : digB l[k + 1] = true) (hb : digB l[k + 2] = true) :
    UnqAt l (k + 3) (acc ++ [hexByte l[k + 1] l[k + 2]]) := by
  unfold UnqAt at h ⊢
  rw [h, drop_cons l k (by omega), drop_cons l (k + 1) (by omega), drop_cons l (k + 2) (by omega), unq_hex _ _ _ hc']
  simp only [ha, hb, Bool.and_self, if_true]
  rw [Option.map_map]; congr 1; funext x; simp
theorem unqAt_short {l acc : List UInt8} {k : Nat} (h : UnqAt l k acc) (hk : k < l.length) (hs : l.length ≤ k + 2) (hc' : l[k].toNat = 37) : unq l = none := by
  unfold UnqAt at h
  rw [h, drop_cons l k hk, unq_short _ hc' (by simp; omega)]; rfl
theorem unqAt_bad {l acc : List UInt8} {k : Nat} (h : UnqAt l k acc) (hk : k + 2 < l.length) (hc' : l[k].toNat = 37) (ha : digB l[k + 1] = false ∨ digB l[k + 2] = false) : unq l = none := by
  unfold UnqAt at h
  rw [h, drop_cons l k (by omega), drop_cons l (k + 1) (by omega), drop_cons l (k + 2) (by omega), unq_hex _ _ _ hc']
  have : (digB l[k + 1] && digB l[k + 2]) = false := by rcases ha with h | h <;> simp [h]
  simp only [this, Bool.false_eq_true, if_false]; rfl

theorem hexU_all : ∀ n : Nat, n < 256 → digB (hexU (n / 16)) = true ∧ digB (hexU (n % 16)) = true ∧ hexByte (hexU (n / 16)) (hexU (n % 16)) = UInt8.ofNat n := by decide +kernel
theorem plain_not (c : UInt8) (h : plainB c = true) : c.toNat ≠ 43 ∧ c.toNat ≠ 37 := by simp [plainB] at h; omega
theorem unq_quote1 (c : UInt8) (r : List UInt8) : unq (quote1 c ++ r) = (unq r).map (c :: ·) := by
  unfold quote1
  split
  · rename_i h
    exact unq_same _ (plain_not c h).1 (plain_not c h).2
  · have := hexU_all c.toNat c.toNat_lt
    show unq (37 :: hexU (c.toNat / 16) :: hexU (c.toNat % 16) :: r) = _
    rw [unq_hex _ _ _ (by decide), this.1, this.2.1, this.2.2, UInt8.ofNat_toNat]; rfl
theorem unq_quoteL (l : List UInt8) : unq (quoteL l) = some l := by
  induction l with
  | nil => rfl
  | cons c l ih =>
    have : quoteL (c :: l) = quote1 c ++ quoteL l := by simp [quoteL]
    rw [this, unq_quote1, ih]; rfl

end Go.Proofs.YtlcpehmdhnakpaaDoor
namespace Go.Proofs.YtlcpehmdhnakpaaDoor
open Go.RowKit


theorem ret_int {k : IntKind} {a b : Int} (h : a = b) : Ending.returned (.int k a) = .returned (.int k b) := by rw [h]
theorem ret_bool {a b : Bool} (h : a = b) : Ending.returned (.bool a) = .returned (.bool b) := by rw [h]

theorem ret_tup {k : IntKind} {a b : Int} {x y : Bool} (h : a = b) (h' : x = y) : Ending.returned (.tuple #[.int k a, .bool x]) = .returned (.tuple #[.int k b, .bool y]) := by rw [h, h']

theorem int_eq {k : IntKind} {a b : Int} (h : a = b) : Value.int k a = .int k b := by rw [h]
theorem ret_sb {x : ByteArray} {a b : Bool} (h : a = b) : Ending.returned (.tuple #[.string x, .bool a]) = .returned (.tuple #[.string x, .bool b]) := by rw [h]
theorem byte_of_wf {x : Int} (h : (Lit.int .u8 x).wf = true) : 0 ≤ x ∧ x < 256 := by
  simp [Lit.wf, IntKind.min, IntKind.max, IntKind.signed, IntKind.bits] at h
  exact ⟨by omega, by omega⟩
theorem byte_ex {x : Int} (h : (Lit.int .u8 x).wf = true) : ∃ c : UInt8, x = (c.toNat : Int) := by
  have := byte_of_wf h
  exact ⟨UInt8.ofNat x.toNat, by rw [UInt8.toNat_ofNat']; omega⟩

theorem str_eq {a b : ByteArray} (h : a = b) : Value.string a = .string b := by rw [h]


theorem _root_.Go.RowKit.Below.chain {a b c : World} (h : Below a.heap.size a b) (h' : Below b.heap.size b c) : Below a.heap.size a c := h.trans (h'.mono h.size)


theorem belowDrewN {B : Nat} {a w : World} (h : Below B a w) (n : Nat) : Below B a (w.drewN n) := ⟨h.os, h.tape, h.output, h.size, h.block⟩
theorem run_slice_string_lh {P : Program} (w : World) (t : TypeId) (s : ByteArray) (ht : P.underlying t = some .string) (kl kh : IntKind) (l h : Int) (h0 : 0 ≤ l) (h1 : l ≤ h) (h2 : h ≤ s.size) :
    (Instr.slice t (.string s) (some (.int kl l)) (some (.int kh h)) none).run P w = .ok (.string (s.extract l.toNat h.toNat)) w := by
  have eh : (h.toNat : Int) = h := Int.toNat_of_nonneg (by omega)
  simp [Instr.slice, run_underlying ht, Instr.sliceBounds, run_sliceBound, *, (by omega : 0 ≤ h)]
theorem below_drew2 (w w2 : World) (h : Below w.drew.heap.size w.drew w2) : Below w.heap.size w w2 := by
  have e : w.drew.heap.size = w.heap.size := rfl
  rw [e] at h; exact ((Below.refl w.heap.size w).drew).trans h
theorem wraps_i64 (n : Int) (h₀ : 0 ≤ n) (h₁ : n < 2 ^ 63) : IntKind.i64.wrap n = n := by rw [IntKind.wrap_i64]; omega
theorem bits_xor_nat (k : IntKind) (j : Nat) (hj : j ≤ k.bits) (hk : ∀ n : Int, 0 ≤ n → n < 2 ^ j → k.wrap n = n) (a b : Nat) (ha : a < 2 ^ j) (hb : b < 2 ^ j) :
    bits .xor k a b = ((a ^^^ b : Nat) : Int) := by
  have hp : 2 ^ j ≤ 2 ^ k.bits := Nat.pow_le_pow_right (by decide) hj
  have ha' : a % 2 ^ k.bits = a := Nat.mod_eq_of_lt (Nat.lt_of_lt_of_le ha hp)
  have hb' : b % 2 ^ k.bits = b := Nat.mod_eq_of_lt (Nat.lt_of_lt_of_le hb hp)
  simp only [bits, BitVec.ofInt_natCast, BitVec.toNat_xor, BitVec.toNat_ofNat, ha', hb']
  exact hk _ (Int.natCast_nonneg _) (by exact_mod_cast Nat.xor_lt_two_pow ha hb)

theorem xor_zero_iff (a b : Nat) : a ^^^ b = 0 ↔ a = b := by
  constructor
  · intro h
    refine Nat.eq_of_testBit_eq fun i => ?_
    have := congrArg (fun n => n.testBit i) h
    simp only [Nat.testBit_xor, Nat.zero_testBit] at this
    revert this; cases a.testBit i <;> cases b.testBit i <;> simp
  · rintro rfl; exact Nat.xor_self a

theorem ext_size (s : ByteArray) (k : Nat) : (s.extract k s.size).size = s.size - k := by simp [ByteArray.size_extract]
theorem ext_get (s : ByteArray) (k i : Nat) (h : i < (s.extract k s.size).size) (h' : k + i < s.size) : (s.extract k s.size)[i] = s[k + i] := by simp [ByteArray.getElem_extract]
theorem take_snoc (s : ByteArray) (k : Nat) (h : k < s.size) : s.data.toList.take (k + 1) = s.data.toList.take k ++ [s[k]] := by
  rw [List.take_succ_eq_append_getElem (by simpa using h)]; rfl

theorem ret_str {a b : List UInt8} (h : a = b) : Ending.returned (.string ⟨a.toArray⟩) = .returned (.string ⟨b.toArray⟩) := by rw [h]
theorem take_all (s : ByteArray) : s.data.toList.take s.size = s.data.toList := List.take_of_length_le (Nat.le_refl _)
theorem app_list (a : List UInt8) (c : UInt8) : (ByteArray.mk a.toArray ++ ByteArray.mk #[c]).data.toList = a ++ [c] := by simp [ByteArray.data_append]
theorem app_size (a : List UInt8) (c : UInt8) (h : a.length ≤ 1000) : (ByteArray.mk a.toArray ++ ByteArray.mk #[c]).size ≤ 46912496117759 := by
  have : (ByteArray.mk a.toArray ++ ByteArray.mk #[c]).size = (ByteArray.mk a.toArray ++ ByteArray.mk #[c]).data.toList.length := rfl
  rw [this, app_list, List.length_append]; simp; omega
theorem and_mask (x : Int) (h0 : 0 ≤ x) (h1 : x < 4294967296) (i : Nat) (hi : i ≤ 32) : bits .and .u32 x (2 ^ i - 1) = x % 2 ^ i :=
  bits_mask .u32 32 (by decide) (fun n h0 h1 => by rw [IntKind.wrap_u32]; omega) i hi x h0 h1


theorem Tryd.infoByte : (Tryd.prog.info? 5).map (fun i => (i.zero, i.size, i.bytes)) = some (some (.int .u8 0), 1, 1) := by kernel_rfl

def cells (l : List UInt8) : List Value := l.map fun c => Value.int .u8 (c.toNat : Int)
theorem cells_app (a b : List UInt8) : cells (a ++ b) = cells a ++ cells b := by simp [cells]
theorem cells_one (l : List UInt8) : ∀ u ∈ cells l, u.oneCell' = true := by
  intro u hu; obtain ⟨_, _, rfl⟩ := List.mem_map.1 hu; rfl
theorem new_cells (w : World) (cs : Array Value) (e : TypeId) : ∀ j u, cs.toList[j]? = some u → (w.alloc (.cells cs e)).cell? ((⟨w.heap.size, 0, none⟩ : Addr).add j) = some u := by
  intro j u h
  rw [Addr.add_lit, Nat.zero_add, World.cell?_alloc_mark]
  simpa using h

/-- append onto a row of the call's own, as one step of a region that draws its order -/
theorem step_append_own {P : Program} {w : World} {ops : Array Oper} {o : Oper} {a : Act} {K : Act → World → Prop} {Q : Exit → Act → World → Prop} {E : Prop} (hgd : o.guard = none) (s x : Operand) (t : TypeId)
    (ho : o.op = .call { callee := .builtin .append, args := #[s, x], argTypes := #[t, t] })
    (base : Nat) (e : TypeId) (i : TypeInfo) (z : Value) (size bytes : Nat) (ht : P.underlying t = some (.slice e)) (hi : P.info? e = some i) (hz : i.zero = some z)
    (hsize : i.size = size) (hby : i.bytes = bytes) (hzs : z.cells.size = size) (hsz : 0 < size)
    (v : Value) (n : Nat) (xs : List Value) (hs : a.eval s = v) (hown : w.ownsRow base e size v n xs)
    (ad : Addr) (m c : Nat) (news : List Value) (hx : a.eval x = .slice (some ad) m c) (hl : news.length = m * size) (hnews : ∀ j u, news[j]? = some u → w.cell? (ad.add j) = some u) (h1 : ∀ u ∈ news, u.oneCell' = true)
    (h63 : n + m ≤ maxLen) (hbytes : (n + m) * bytes ≤ 140737488355328) (hbase : base ≤ w.heap.size)
    (h : ∀ v' w', w'.ownsRow base e size v' (n + m) (xs ++ news) → w.grownBy w' v.ownBlock → (v' = .slice none 0 0 ↔ v = .slice none 0 0 ∧ m = 0) → K (a.put o.dst v') w') :
    if Region.wanted o (yielded ops a.tmps) = true then Oper.wp P o a w K Q else E := by
  have hw : Region.wanted o (yielded ops a.tmps) = true := by simp [Region.wanted, hgd]
  rw [if_pos hw]
  exact wp_append_own w s x t ho base e i z size bytes ht hi hz hsize hby hzs hsz v n xs hs hown ad m c news hx hl hnews h1 h63 hbytes hbase h

theorem one_cell (x : Int) : ∀ u ∈ [Value.int .u8 x], u.oneCell' = true := by intro u hu; simp at hu; subst hu; rfl
theorem three_cells (x y z : Int) : ∀ u ∈ [Value.int .u8 x, Value.int .u8 y, Value.int .u8 z], u.oneCell' = true := by
  intro u hu; simp at hu; rcases hu with rfl | rfl | rfl <;> rfl

/-- a buffer of bytes of the call's own -/
def Buf (w : World) (B : Nat) (v : Value) (l : List UInt8) : Prop := w.ownsRow B 5 1 v l.length (cells l)
theorem Buf.cut {w : World} {B : Nat} {v : Value} {n : Nat} {l : List UInt8} {xs : List Value} (h : w.ownsRow B 5 1 v n xs) (hn : n = l.length) (hx : xs = cells l) : Buf w B v l := by subst hn; subst hx; exact h

/-- 'string(buf)' -/
theorem Buf.text {w : World} {B : Nat} {v : Value} {l : List UInt8} (h : Buf w B v l) : (convert 62 9 v).run Tryd.prog w = .ok (.string ⟨l.toArray⟩) w := by
  rcases h.2 with ⟨rfl, h0⟩ | ⟨g, cap, cur, rfl, -, -, -, -, -, -⟩
  · obtain rfl : l = [] := List.length_eq_zero_iff.1 h0
    rw [run_convert_bytes_string (P := Tryd.prog) w 62 9 5 none 0 0 Tryd.underlying62 Tryd.underlying5 Tryd.underlying9]
    rfl
  · refine run_convert_bytes_back (P := Tryd.prog) w 62 9 5 ⟨g, 0, none⟩ cap l Tryd.underlying62 Tryd.underlying5 Tryd.underlying9 (fun j hj => ?_)
    exact World.ownsRow.cells h (g := g) rfl j _ (by simp [cells, hj])

theorem new_cells_take (w : World) (cs : Array Value) (e : TypeId) (m : Nat) : ∀ j u, (cs.toList.take m)[j]? = some u → (w.alloc (.cells cs e)).cell? ((⟨w.heap.size, 0, none⟩ : Addr).add j) = some u := by
  intro j u h
  rw [List.getElem?_take] at h
  split at h
  · exact new_cells w cs e j u h
  · cases h

theorem two_cells (x y : Int) : ∀ u ∈ [Value.int .u8 x, Value.int .u8 y], u.oneCell' = true := by
  intro u hu; simp at hu; rcases hu with rfl | rfl <;> rfl
theorem four_cells (x y z t : Int) : ∀ u ∈ [Value.int .u8 x, Value.int .u8 y, Value.int .u8 z, Value.int .u8 t], u.oneCell' = true := by
  intro u hu; simp at hu; rcases hu with rfl | rfl | rfl | rfl <;> rfl

theorem Buf.below {w w' : World} {B : Nat} {v : Value} {l : List UInt8} (h : Buf w B v l) (hb : Below w.heap.size w w') : Buf w' B v l :=
  World.ownsRow.kept (row := none) h ⟨hb.os, hb.tape, hb.output, hb.size, fun k hk _ => hb.block k hk⟩ (by
    rcases h.2 with ⟨rfl, _⟩ | ⟨g, cap, cur, rfl, _⟩
    · exact .inl rfl
    · exact .inr (by simp [Value.ownBlock]))


theorem conv_new (w : World) (l : List UInt8) (cs : Array Value) (n c : Nat) (hn : n = l.length) (h : cs.toList = cells l) :
    (convert 62 9 (.slice (some ⟨w.heap.size, 0, none⟩) n c)).run Tryd.prog (w.alloc (.cells cs 5)) = .ok (.string ⟨l.toArray⟩) (w.alloc (.cells cs 5)) := by
  subst hn
  refine run_convert_bytes_back (P := Tryd.prog) _ 62 9 5 ⟨w.heap.size, 0, none⟩ c l Tryd.underlying62 Tryd.underlying5 Tryd.underlying9 (fun j hj => ?_)
  exact new_cells w cs 5 j _ (by rw [h]; simp [cells, hj])

theorem conv_newD (w : World) (l : List UInt8) (cs : Array Value) (n c : Nat) (hn : n = l.length) (h : cs.toList = cells l) :
    (convert 62 9 (.slice (some ⟨w.heap.size, 0, none⟩) n c)).run Tryd.prog (w.alloc (.cells cs 5)).drew = .ok (.string ⟨l.toArray⟩) (w.alloc (.cells cs 5)).drew := by
  subst hn
  refine run_convert_bytes_back (P := Tryd.prog) _ 62 9 5 ⟨w.heap.size, 0, none⟩ c l Tryd.underlying62 Tryd.underlying5 Tryd.underlying9 (fun j hj => ?_)
  exact new_cells w cs 5 j _ (by rw [h]; simp [cells, hj])

theorem cells_byte (l : List UInt8) (n m : Nat) (x : Int) (hx : x = (n : Int) % 256) (hn : n % 256 = m % 256) : cells l ++ [Value.int .u8 x] = cells (l ++ [UInt8.ofNat m]) := by
  subst hx
  rw [cells_app]
  have : (UInt8.ofNat m).toNat = m % 256 := UInt8.toNat_ofNat'
  show _ = cells l ++ [Value.int .u8 ((UInt8.ofNat m).toNat : Int)]
  rw [this, ← hn]; rfl

theorem hex_cells (c : UInt8) (a b : Int) (ha : a = (c.toNat : Int) / 16) (hb : b = (c.toNat : Int) % 16) (h1 : a.toNat < hexBytes.size) (h2 : b.toNat < hexBytes.size) :
    [Value.int .u8 37, .int .u8 (hexBytes[a.toNat].toNat : Int), .int .u8 (hexBytes[b.toNat].toNat : Int)] = cells [37, hexU (c.toNat / 16), hexU (c.toNat % 16)] := by
  rw [hexU_at h1, hexU_at h2]
  have e1 : a.toNat = c.toNat / 16 := by omega
  have e2 : b.toNat = c.toNat % 16 := by omega
  rw [e1, e2]; rfl
end Go.Proofs.YtlcpehmdhnakpaaDoor
namespace Go.Proofs.YtlcpehmdhnakpaaDoor
open Go.RowKit
set_option linter.unusedVariables false
set_option linter.unusedSimpArgs false

theorem set_here {w : World} {b o : Nat} {C : Array Value} {t : TypeId} {fr : Nat × Nat} (h : w.heap[b]? = some (.cells C t fr)) (v : Value) : (w.setCell ⟨b, o, none⟩ v).heap[b]? = some (.cells (C.setIfInBounds o v) t fr) := by
  unfold World.setCell
  simp only [Array.getElem?_modify, if_true]
  rw [h]; rfl
theorem set_there {w : World} {b o b' : Nat} (v : Value) (h : b' ≠ b) : (w.setCell ⟨b, o, none⟩ v).heap[b']? = w.heap[b']? := Below.heap_setCell w ⟨b, o, none⟩ v b' h
theorem set_size (w : World) (a : Addr) (v : Value) : (w.setCell a v).heap.size = w.heap.size := by unfold World.setCell; simp
theorem cell_here {w : World} {b o : Nat} {C : Array Value} {t : TypeId} {fr : Nat × Nat} (h : w.heap[b]? = some (.cells C t fr)) : w.cell? ⟨b, o, none⟩ = C[o]? := by
  unfold World.cell?; simp only [h]; rfl
theorem cell_block {w w' : World} {b o : Nat} (h : w'.heap[b]? = w.heap[b]?) : w'.cell? ⟨b, o, none⟩ = w.cell? ⟨b, o, none⟩ := by unfold World.cell?; simp only [h]
theorem frozen_here {w : World} {b : Nat} {C : Array Value} {t : TypeId} (h : w.heap[b]? = some (.cells C t (0, 0))) (o : Nat) : w.frozen? ⟨b, o, none⟩ = false := by
  unfold World.frozen?; simp only [h]; simp
theorem own_below {w w' : World} {B size n : Nat} {e : TypeId} {v : Value} {xs : List Value} (h : w.ownsRow B e size v n xs) (hb : Below w.heap.size w w') : w'.ownsRow B e size v n xs :=
  World.ownsRow.kept (row := none) h ⟨hb.os, hb.tape, hb.output, hb.size, fun k hk _ => hb.block k hk⟩ (by
    rcases h.2 with ⟨rfl, _⟩ | ⟨g, cap, cur, rfl, _⟩
    · exact .inl rfl
    · exact .inr (by simp [Value.ownBlock]))
theorem own_kept {w w' : World} {B size n : Nat} {e : TypeId} {v : Value} {xs : List Value} (h : w.ownsRow B e size v n xs) (hb : ∀ g, v.ownBlock = some g → w'.heap[g]? = w.heap[g]?) : w'.ownsRow B e size v n xs := by
  refine ⟨h.1, ?_⟩
  rcases h.2 with h' | ⟨g, cap, cur, hv, hB, hg, r⟩
  · exact .inl h'
  · exact .inr ⟨g, cap, cur, hv, hB, by rw [hb g (by rw [hv]; rfl)]; exact hg, r⟩
theorem own_apart {w : World} {B B' s s' n n' : Nat} {e e' : TypeId} {v v' : Value} {xs xs' : List Value} (h : w.ownsRow B e s v n xs) (h' : w.ownsRow B' e' s' v' n' xs') (he : e ≠ e') (g : Nat) (hv : v.ownBlock = some g) (hv' : v'.ownBlock = some g) : False := by
  rcases h.2 with ⟨rfl, _⟩ | ⟨k, cap, cur, rfl, _, hg, _⟩
  · cases hv
  rcases h'.2 with ⟨rfl, _⟩ | ⟨k', cap', cur', rfl, _, hg', _⟩
  · cases hv'
  · injection hv with hv; injection hv' with hv'
    subst hv; subst hv'
    rw [hg] at hg'
    injection hg' with hg'
    injection hg' with _ e
    exact he e
/-- append onto a row of the call's own, of a slice that may be nil, as one step of a region that draws its order; where the new row lies -/
theorem step_append_opt {P : Program} {w : World} {ops : Array Oper} {o : Oper} {a : Act} {K : Act → World → Prop} {Q : Exit → Act → World → Prop} {E : Prop} (hgd : o.guard = none) (s x : Operand) (t : TypeId)
    (ho : o.op = .call { callee := .builtin .append, args := #[s, x], argTypes := #[t, t] })
    (base : Nat) (e : TypeId) (i : TypeInfo) (z : Value) (size bytes : Nat) (ht : P.underlying t = some (.slice e)) (hi : P.info? e = some i) (hz : i.zero = some z)
    (hsize : i.size = size) (hby : i.bytes = bytes) (hzs : z.cells.size = size) (hsz : 0 < size)
    (v : Value) (n : Nat) (xs : List Value) (hs : a.eval s = v) (hown : w.ownsRow base e size v n xs)
    (A : Option Addr) (m c : Nat) (news : List Value) (hx : a.eval x = .slice A m c) (hl : news.length = m * size)
    (hnews : (A = none ∧ m = 0 ∧ c = 0) ∨ ∃ ad, A = some ad ∧ ∀ j u, news[j]? = some u → w.cell? (ad.add j) = some u) (h1 : ∀ u ∈ news, u.oneCell' = true)
    (h63 : n + m ≤ maxLen) (hbytes : (n + m) * bytes ≤ 140737488355328) (hbase : base ≤ w.heap.size)
    (h : ∀ v' w', w'.ownsRow base e size v' (n + m) (xs ++ news) → w.grownBy w' v.ownBlock → (v'.ownBlock = v.ownBlock ∨ v'.ownBlock = some w.heap.size) → K (a.put o.dst v') w') :
    if Region.wanted o (yielded ops a.tmps) = true then Oper.wp P o a w K Q else E := by
  have hw : Region.wanted o (yielded ops a.tmps) = true := by simp [Region.wanted, hgd]
  rw [if_pos hw]
  obtain ⟨v', w', hr, h2, h3, h4⟩ : ∃ v' w', (Builtin.append_ #[t, t] o.type #[v, .slice A m c]).run P w = .ok v' w' ∧ w'.ownsRow base e size v' (n + m) (xs ++ news) ∧ w.grownBy w' v.ownBlock ∧ (v'.ownBlock = v.ownBlock ∨ v'.ownBlock = some w.heap.size) := by
    rcases hnews with ⟨rfl, rfl, rfl⟩ | ⟨ad, rfl, hnews⟩
    · have hn : news = [] := List.eq_nil_of_length_eq_zero (by simpa using hl)
      subst hn
      refine ⟨v, w, run_append_owned_none (P := P) (w := w) base t o.type e i size ht hi v n xs hown, ?_, ⟨rfl, rfl, rfl, Nat.le_refl _, fun _ _ _ => rfl⟩, .inl rfl⟩
      simpa using hown
    · obtain ⟨v', w', hr, h2, h3, _, h5⟩ := run_append_own_at (P := P) w base t o.type e i z size bytes ht hi hz hsize hby hzs hsz v n xs hown ad m c news hl hnews h1 h63 hbytes hbase
      exact ⟨v', w', hr, h2, h3, h5⟩
  unfold Oper.wp execOp
  simp only [ho, resolve, invoke, builtin, Sem.run_bind, Sem.run_pure, Result.andThen_ok, List.map_toArray, List.map_cons, List.map_nil, hs, hx, hr]
  exact h v' w' h2 h3 h4
theorem blk_below {w w' : World} {b : Nat} {o : Obj} (h : w.heap[b]? = some o) (hb : Below w.heap.size w w') : w'.heap[b]? = some o :=
  (hb.block b (Array.getElem?_eq_some_iff.1 h).1).trans h
/-- a block that a row's growth does not touch -/
theorem grown_block {w w' : World} {row : Option Nat} {b : Nat} {o : Obj} (h : w.grownBy w' row) (hb : w.heap[b]? = some o) (hne : row ≠ some b) : w'.heap[b]? = some o :=
  (h.block b (Array.getElem?_eq_some_iff.1 hb).1 (fun e => hne e.symm)).trans hb
theorem alloc_block {w : World} {b : Nat} {o x : Obj} (hb : w.heap[b]? = some o) : (w.alloc x).heap[b]? = some o := (Below.heap_alloc _ _ _ (Array.getElem?_eq_some_iff.1 hb).1).trans hb
theorem own_not {w : World} {B size n b : Nat} {e t : TypeId} {v : Value} {xs : List Value} {C : Array Value} {fr : Nat × Nat} (h : w.ownsRow B e size v n xs) (hb : w.heap[b]? = some (.cells C t fr)) (he : e ≠ t) : v.ownBlock ≠ some b := by
  rcases h.2 with ⟨rfl, _⟩ | ⟨g, cap, cur, rfl, _, hg, _⟩
  · intro e; cases e
  · intro e
    injection e with e
    subst e
    rw [hb] at hg
    injection hg with hg
    injection hg with _ e'
    exact he e'.symm
theorem own_formR {w : World} {B size n : Nat} {e : TypeId} {v : Value} {xs : List Value} (h : w.ownsRow B e size v n xs) : ∃ A c, v = .slice A n c := by
  rcases h.2 with ⟨hv, h0⟩ | ⟨g, cap, cur, hv, _⟩
  · exact ⟨none, 0, by rw [hv, h0]⟩
  · exact ⟨_, _, hv⟩
/-- a row that has just been made, of no elements -/
theorem own_fresh (w : World) (B : Nat) (e : TypeId) (size : Nat) (hB : B ≤ w.heap.size) : (w.alloc (.cells #[] e)).ownsRow B e size (.slice (some ⟨w.heap.size, 0, none⟩) 0 0) 0 [] :=
  ⟨by simp, .inr ⟨w.heap.size, 0, #[], rfl, hB, heap_alloc_last w _, Nat.le_refl _, by unfold maxLen; decide, by simp, by simp⟩⟩
theorem own_freshAt (w : World) (B : Nat) (e : TypeId) (size g : Nat) (hg : g = w.heap.size) (hB : B ≤ w.heap.size) : (w.alloc (.cells #[] e)).ownsRow B e size (.slice (some ⟨g, 0, none⟩) 0 0) 0 [] := by
  subst hg; exact own_fresh w B e size hB
theorem own_grown {w w' : World} {B size n m c g k : Nat} {e : TypeId} {xs : List Value} (h : w.ownsRow B e size (.slice (some ⟨g, 0, none⟩) m c) n xs) (hg : w.grownBy w' (some k)) (hne : k ≠ g) : w'.ownsRow B e size (.slice (some ⟨g, 0, none⟩) m c) n xs :=
  own_kept h fun b hb => by
    obtain rfl : g = b := by injection hb
    exact hg.block g ((h.lt g rfl).2) (fun e => hne (by injection e with e; exact e.symm))
theorem own_other {w w' : World} {B B' s s' n m : Nat} {e e' : TypeId} {kv v : Value} {xs ys : List Value} (hK : w.ownsRow B e s kv n xs) (hL : w.ownsRow B' e' s' v m ys) (he : e ≠ e') (hg : w.grownBy w' v.ownBlock) : w'.ownsRow B e s kv n xs :=
  own_kept hK fun b hb => hg.block b (hK.lt b hb).2 fun h => own_apart hK hL he b hb h.symm
theorem far_of {X w : World} {B s n g p : Nat} {e : TypeId} {lv : Value} {xs : List Value} (hL : w.ownsRow B e s lv n xs) (hat : lv.ownBlock = some g ∨ lv.ownBlock = some X.heap.size) (h1 : g ≠ p) (h2 : p < X.heap.size ∨ w.heap.size ≤ p) : lv.ownBlock ≠ some p := fun e => by
  have h3 := (hL.lt _ e).2
  rcases hat with h | h
  · rw [h] at e; injection e with e; exact h1 e
  · rw [h] at e; injection e with e; omega
theorem intro_fact {p q : Prop} (h : p) (k : p → q) : q := k h
theorem one_at {w : World} {b : Nat} {v : Value} {t : TypeId} {fr : Nat × Nat} (h : w.heap[b]? = some (.cells #[v] t fr)) : ∀ j u, [v][j]? = some u → w.cell? ((⟨b, 0, none⟩ : Addr).add j) = some u := by
  intro j u hu
  rw [Addr.add_lit, Nat.zero_add, cell_here h]
  simpa using hu
theorem five_at {w : World} {b : Nat} {v0 v1 v2 v3 v4 : Value} {t : TypeId} {fr : Nat × Nat} (h : w.heap[b]? = some (.cells #[v0, v1, v2, v3, v4] t fr)) : ∀ j u, [v0, v1, v2, v3, v4][j]? = some u → w.cell? ((⟨b, 0, none⟩ : Addr).add j) = some u := by
  intro j u hu
  rw [Addr.add_lit, Nat.zero_add, cell_here h]
  simpa using hu
theorem far_of2 {X w : World} {B s n p : Nat} {e : TypeId} {lv lv0 : Value} {xs : List Value} (hL : w.ownsRow B e s lv n xs) (hat : lv.ownBlock = lv0.ownBlock ∨ lv.ownBlock = some X.heap.size) (h1 : lv0.ownBlock ≠ some p) (h2 : p < X.heap.size) : lv.ownBlock ≠ some p := fun e => by
  rcases hat with h | h
  · rw [h] at e; exact h1 e
  · rw [h] at e; injection e with e; omega
theorem fresh_at {w : World} {b : Nat} (o : Obj) (h : b = w.heap.size) : (w.alloc o).heap[b]? = some o := by subst h; exact heap_alloc_last w o
theorem drew_block {w : World} {b : Nat} {o : Obj} (h : w.heap[b]? = some o) : w.drew.heap[b]? = some o := h
theorem own_form {w : World} {B size n : Nat} {e : TypeId} {v : Value} {xs : List Value} (h : w.ownsRow B e size v n xs) : ∃ A c, v = .slice A n c := by
  rcases h.2 with ⟨hv, h0⟩ | ⟨g, cap, cur, hv, _⟩
  · exact ⟨none, 0, by rw [hv, h0]⟩
  · exact ⟨_, _, hv⟩
theorem own_base {w : World} {B B' size n : Nat} {e : TypeId} {v : Value} {xs : List Value} (h : w.ownsRow B e size v n xs) (hB : B' ≤ B) : w.ownsRow B' e size v n xs := by
  refine ⟨h.1, ?_⟩
  rcases h.2 with h' | ⟨g, cap, cur, hv, hb, r⟩
  · exact .inl h'
  · exact .inr ⟨g, cap, cur, hv, Nat.le_trans hB hb, r⟩
/-- append onto a row of the call's own, of a slice that may be nil -/
theorem wpList_append_opt {P : Program} {w : World} {ops : Array Oper} {rest : List Oper} {o : Oper} {a : Act} {Q : Exit → Act → World → Prop} (hgd : o.guard = none) (s x : Operand) (t : TypeId)
    (ho : o.op = .call { callee := .builtin .append, args := #[s, x], argTypes := #[t, t] })
    (base : Nat) (e : TypeId) (i : TypeInfo) (z : Value) (size bytes : Nat) (ht : P.underlying t = some (.slice e)) (hi : P.info? e = some i) (hz : i.zero = some z)
    (hsize : i.size = size) (hby : i.bytes = bytes) (hzs : z.cells.size = size) (hsz : 0 < size)
    (v : Value) (n : Nat) (xs : List Value) (hs : a.eval s = v) (hown : w.ownsRow base e size v n xs)
    (A : Option Addr) (m c : Nat) (news : List Value) (hx : a.eval x = .slice A m c) (hl : news.length = m * size)
    (hnews : (A = none ∧ m = 0 ∧ c = 0) ∨ ∃ ad, A = some ad ∧ ∀ j u, news[j]? = some u → w.cell? (ad.add j) = some u) (h1 : ∀ u ∈ news, u.oneCell' = true)
    (h63 : n + m ≤ maxLen) (hbytes : (n + m) * bytes ≤ 140737488355328) (hbase : base ≤ w.heap.size)
    (h : ∀ v' w', w'.ownsRow base e size v' (n + m) (xs ++ news) → w.grownBy w' v.ownBlock → (v'.ownBlock = v.ownBlock ∨ v'.ownBlock = some w.heap.size) → wpList P ops Q rest (a.put o.dst v') w') : wpList P ops Q (o :: rest) a w :=
  wpList_step fun _ hK => step_append_opt hgd s x t ho base e i z size bytes ht hi hz hsize hby hzs hsz v n xs hs hown A m c news hx hl hnews h1 h63 hbytes hbase fun v' w' h2 h3 h4 => hK _ _ (h v' w' h2 h3 h4)
/-- behind a new block, and draws -/
theorem bel_new (w W : World) (o : Obj) (h1 : W.os = w.os) (h2 : W.tape = w.tape) (h3 : W.output = w.output) (h : W.heap = (w.alloc o).heap) : Below w.heap.size w W := by
  have hb := (Below.refl w.heap.size w).alloc (Nat.le_refl _) o
  exact ⟨h1, h2, h3, by rw [h]; exact hb.size, fun k hk => by rw [h]; exact hb.block k hk⟩
theorem own_newH (w W : World) (B g : Nat) (e : TypeId) (size : Nat) (h : W.heap = (w.alloc (.cells #[] e)).heap) (hg : g = w.heap.size) (hB : B ≤ w.heap.size) : W.ownsRow B e size (.slice (some ⟨g, 0, none⟩) 0 0) 0 [] := by
  subst hg
  refine ⟨by simp, .inr ⟨w.heap.size, 0, #[], rfl, hB, ?_, Nat.le_refl _, by unfold maxLen; decide, by simp, by simp⟩⟩
  rw [h]; exact heap_alloc_last w _
end Go.Proofs.YtlcpehmdhnakpaaDoor
namespace Go.Proofs.YtlcpehmdhnakpaaDoor
open Go.RowKit
set_option linter.unusedVariables false
set_option linter.unusedSimpArgs false

/-- a slice of bytes reads as these -/
def RdAt (w : World) (v : Value) (l : List UInt8) : Prop :=
  ∃ A c, v = .slice A l.length c ∧ l.length ≤ c ∧ c ≤ 9223372036854775807 ∧ ((A = none ∧ l.length = 0 ∧ c = 0) ∨ ∃ g o, A = some ⟨g, o, none⟩ ∧ g < w.heap.size ∧ ∀ j u, (cells l)[j]? = some u → w.cell? ((⟨g, o, none⟩ : Addr).add j) = some u)
/-- only blocks of S, and new ones, are other ones -/
structure Only (S : Nat → Prop) (w w' : World) : Prop where
  os : w'.os = w.os
  tape : w'.tape = w.tape
  output : w'.output = w.output
  size : w.heap.size ≤ w'.heap.size
  block : ∀ k, k < w.heap.size → ¬ S k → w'.heap[k]? = w.heap[k]?
theorem Only.refl (S : Nat → Prop) (w : World) : Only S w w := ⟨rfl, rfl, rfl, Nat.le_refl _, fun _ _ _ => rfl⟩
theorem Only.trans {S : Nat → Prop} {a b c : World} (h : Only S a b) (k : Only S b c) : Only S a c :=
  ⟨k.os.trans h.os, k.tape.trans h.tape, k.output.trans h.output, Nat.le_trans h.size k.size, fun i hi hn => (k.block i (by have := h.size; omega) hn).trans (h.block i hi hn)⟩
/-- what the second may write, but for what was new, the first one may -/
theorem Only.then {S S' : Nat → Prop} {a b c : World} (h : Only S a b) (k : Only S' b c) (hs : ∀ i, S' i → i < a.heap.size → S i) : Only S a c :=
  ⟨k.os.trans h.os, k.tape.trans h.tape, k.output.trans h.output, Nat.le_trans h.size k.size, fun i hi hn => (k.block i (by have := h.size; omega) (fun e => hn (hs i e hi))).trans (h.block i hi hn)⟩
theorem Only.mono {S S' : Nat → Prop} {w w' : World} (h : Only S w w') (hs : ∀ i, i < w.heap.size → S i → S' i) : Only S' w w' := ⟨h.os, h.tape, h.output, h.size, fun i hi hn => h.block i hi (fun e => hn (hs i hi e))⟩
theorem Only.below {S : Nat → Prop} {w w' : World} {B : Nat} (h : Only S w w') (hB : B ≤ w.heap.size) (hs : ∀ i, S i → B ≤ i) : Below B w w' := ⟨h.os, h.tape, h.output, h.size, fun i hi => h.block i (by omega) (fun e => by have := hs i e; omega)⟩
theorem Only.of_below {S : Nat → Prop} {w w' : World} (h : Below w.heap.size w w') : Only S w w' := ⟨h.os, h.tape, h.output, h.size, fun i hi _ => h.block i hi⟩
theorem Only.of_grown {S : Nat → Prop} {w w' : World} {row : Option Nat} (h : w.grownBy w' row) (hs : ∀ i, row = some i → S i) : Only S w w' := ⟨h.os, h.tape, h.output, h.size, fun i hi hn => h.block i hi (fun e => hn (hs i e.symm))⟩
theorem Only.set {S : Nat → Prop} {w w' : World} {b o : Nat} (h : Only S w w') (hb : S b) (v : Value) : Only S w (w'.setCell ⟨b, o, none⟩ v) :=
  ⟨h.os, h.tape, h.output, by rw [set_size]; exact h.size, fun i hi hn => (set_there v (fun e => hn (by rw [e]; exact hb))).trans (h.block i hi hn)⟩
theorem Only.alloc {S : Nat → Prop} {w w' : World} (h : Only S w w') (x : Obj) : Only S w (w'.alloc x) :=
  ⟨h.os, h.tape, h.output, by simp; have := h.size; omega, fun i hi hn => (Below.heap_alloc _ _ _ (by have := h.size; omega)).trans (h.block i hi hn)⟩
theorem Only.drewN {S : Nat → Prop} {w w' : World} (h : Only S w w') (n : Nat) : Only S w (w'.drewN n) := ⟨h.os, h.tape, h.output, h.size, h.block⟩
theorem Only.drew {S : Nat → Prop} {w w' : World} (h : Only S w w') : Only S w w'.drew := ⟨h.os, h.tape, h.output, h.size, h.block⟩

theorem RdAt.keep {w w' : World} {v : Value} {l : List UInt8} (h : RdAt w v l) (hs : w.heap.size ≤ w'.heap.size) (hb : ∀ g, v.ownBlock = some g → w'.heap[g]? = w.heap[g]?) : RdAt w' v l := by
  obtain ⟨A, c, rfl, h1, h2, h3⟩ := h
  refine ⟨A, c, rfl, h1, h2, ?_⟩
  rcases h3 with h3 | ⟨g, o, rfl, hg, h3⟩
  · exact .inl h3
  · refine .inr ⟨g, o, rfl, by omega, fun j u hu => ?_⟩
    rw [← h3 j u hu]
    exact World.cell?_of_block (by rw [Addr.add_lit]; exact hb g rfl)
theorem RdAt.lt {w : World} {v : Value} {l : List UInt8} (h : RdAt w v l) {g : Nat} (hg : v.ownBlock = some g) : g < w.heap.size := by
  obtain ⟨A, c, rfl, h1, h2, h3⟩ := h
  rcases h3 with ⟨rfl, _⟩ | ⟨g', o, rfl, hg', _⟩
  · cases hg
  · injection hg with hg; rw [← hg]; exact hg'
theorem RdAt.only {S : Nat → Prop} {w w' : World} {v : Value} {l : List UInt8} (h : RdAt w v l) (ho : Only S w w') (hb : ∀ g, v.ownBlock = some g → ¬ S g) : RdAt w' v l :=
  h.keep ho.size fun g hg => ho.block g (h.lt hg) (hb g hg)
theorem RdAt.below {w w' : World} {v : Value} {l : List UInt8} (h : RdAt w v l) (hb : Below w.heap.size w w') : RdAt w' v l := h.keep hb.size fun g hg => hb.block g (h.lt hg)
theorem RdAt.nil (w : World) : RdAt w (.slice none 0 0) [] := ⟨none, 0, rfl, Nat.le_refl _, Nat.zero_le _, .inl ⟨rfl, rfl, rfl⟩⟩
/-- the first n of them -/
theorem cells_take (l : List UInt8) (n j : Nat) (u : Value) (h : (cells (l.take n))[j]? = some u) : (cells l)[j]? = some u := by
  unfold cells at h ⊢
  rw [List.getElem?_map] at h ⊢
  rw [List.getElem?_take] at h
  split at h
  · exact h
  · cases h
theorem RdAt.take {w : World} {A : Option Addr} {c : Nat} {l : List UInt8} (h : RdAt w (.slice A l.length c) l) (n : Nat) (hn : n ≤ l.length) : RdAt w (.slice A n c) (l.take n) := by
  obtain ⟨A', c', e, h1, h2, h3⟩ := h
  cases e
  have hl : (l.take n).length = n := by rw [List.length_take]; omega
  refine ⟨A, c, by rw [hl], by omega, h2, ?_⟩
  rcases h3 with ⟨rfl, h4, h5⟩ | ⟨g, o, rfl, hg, h3⟩
  · exact .inl ⟨rfl, by omega, h5⟩
  · exact .inr ⟨g, o, rfl, hg, fun j u hu => h3 j u (cells_take l n j u hu)⟩
/-- a row of the call's own reads as its bytes -/
theorem Buf.rd {w : World} {B : Nat} {v : Value} {l : List UInt8} (h : Buf w B v l) : RdAt w v l := by
  have hc := fun g => World.ownsRow.cells (g := g) h
  rcases h.2 with ⟨rfl, h0⟩ | ⟨g, cap, cur, rfl, hB, hg, h4, h5, _⟩
  · obtain rfl := List.length_eq_zero_iff.1 h0
    exact RdAt.nil w
  · refine ⟨_, cap, rfl, ?_, ?_, .inr ⟨g, 0, rfl, (Array.getElem?_eq_some_iff.1 hg).1, hc g rfl⟩⟩
    · omega
    · unfold maxLen at *; omega
/-- an empty literal -/
theorem own_empty (w : World) : (w.alloc (.cells #[] 5)).ownsRow w.heap.size 5 1 (.slice (some ⟨w.heap.size, 0, none⟩) 0 0) 0 [] := ⟨by simp, Or.inr ⟨w.heap.size, 0, #[], rfl, Nat.le_refl _, heap_alloc_last w _, Nat.le_refl _, by unfold maxLen; decide, by simp, by simp⟩⟩
/-- what an append takes of it -/
theorem RdAt.news {w : World} {v : Value} {l : List UInt8} (h : RdAt w v l) : ∃ A c, v = .slice A l.length c ∧ ((A = none ∧ l.length = 0 ∧ c = 0) ∨ ∃ ad, A = some ad ∧ ∀ j u, (cells l)[j]? = some u → w.cell? (ad.add j) = some u) := by
  obtain ⟨A, c, rfl, h1, h2, h3⟩ := h
  refine ⟨A, c, rfl, ?_⟩
  rcases h3 with h3 | ⟨g, o, rfl, hg, h3⟩
  · exact .inl h3
  · exact .inr ⟨_, rfl, h3⟩
/-- 'string(b)' -/
theorem RdAt.text {w : World} {v : Value} {l : List UInt8} (h : RdAt w v l) : (convert 62 9 v).run Tryd.prog w = .ok (.string ⟨l.toArray⟩) w := by
  obtain ⟨A, c, rfl, h1, h2, h3⟩ := h
  rcases h3 with ⟨rfl, h0, rfl⟩ | ⟨g, o, rfl, hg, h3⟩
  · obtain rfl : l = [] := List.length_eq_zero_iff.1 h0
    show (convert 62 9 (.slice none 0 0)).run Tryd.prog w = _
    rw [run_convert_bytes_string (P := Tryd.prog) w 62 9 5 none 0 0 Tryd.underlying62 Tryd.underlying5 Tryd.underlying9]
    rfl
  · exact run_convert_bytes_back (P := Tryd.prog) w 62 9 5 ⟨g, o, none⟩ c l Tryd.underlying62 Tryd.underlying5 Tryd.underlying9 (fun j hj => h3 j _ (by simp [cells, hj]))

/-! ### bytes within an argument: where there is no room at all, nothing is known of the block -/
def rdBlock : Value → Option Nat
  | .slice (some a) _ c => if c = 0 then none else some a.block
  | _ => none
def RdW (w : World) (v : Value) (l : List UInt8) : Prop :=
  ∃ A c, v = .slice A l.length c ∧ l.length ≤ c ∧ c ≤ 9223372036854775807 ∧ ((l.length = 0 ∧ c = 0) ∨ ∃ g o, A = some ⟨g, o, none⟩ ∧ g < w.heap.size ∧ ∀ j u, (cells l)[j]? = some u → w.cell? ((⟨g, o, none⟩ : Addr).add j) = some u)
theorem RdAt.weak {w : World} {v : Value} {l : List UInt8} (h : RdAt w v l) : RdW w v l := by
  obtain ⟨A, c, rfl, h1, h2, h3⟩ := h
  exact ⟨A, c, rfl, h1, h2, h3.imp (fun h => h.2) id⟩
theorem rdBlock_own {v : Value} {g : Nat} (h : rdBlock v = some g) : v.ownBlock = some g := by
  unfold rdBlock at h
  split at h
  · split at h
    · cases h
    · exact h
  · cases h
theorem RdW.lt {w : World} {v : Value} {l : List UInt8} (h : RdW w v l) {g : Nat} (hg : rdBlock v = some g) : g < w.heap.size := by
  obtain ⟨A, c, rfl, h1, h2, h3⟩ := h
  rcases h3 with ⟨_, rfl⟩ | ⟨g', o, rfl, hg', _⟩
  · cases A <;> simp [rdBlock] at hg
  · have hg := rdBlock_own hg
    injection hg with hg
    rw [← hg]
    exact hg'
theorem RdW.keep {w w' : World} {v : Value} {l : List UInt8} (h : RdW w v l) (hs : w.heap.size ≤ w'.heap.size) (hb : ∀ g, rdBlock v = some g → w'.heap[g]? = w.heap[g]?) : RdW w' v l := by
  obtain ⟨A, c, rfl, h1, h2, h3⟩ := h
  refine ⟨A, c, rfl, h1, h2, ?_⟩
  by_cases hc : c = 0
  · exact .inl ⟨by omega, hc⟩
  rcases h3 with h3 | ⟨g, o, rfl, hg, h3⟩
  · exact .inl h3
  · refine .inr ⟨g, o, rfl, by omega, fun j u hu => ?_⟩
    rw [← h3 j u hu]
    exact World.cell?_of_block (by rw [Addr.add_lit]; exact hb g (by simp [rdBlock, hc]))
theorem RdW.below {w w' : World} {v : Value} {l : List UInt8} (h : RdW w v l) (hb : Below w.heap.size w w') : RdW w' v l := h.keep hb.size fun g hg => hb.block g (h.lt hg)
theorem RdW.only {S : Nat → Prop} {w w' : World} {v : Value} {l : List UInt8} (h : RdW w v l) (ho : Only S w w') (hb : ∀ g, rdBlock v = some g → ¬ S g) : RdW w' v l :=
  h.keep ho.size fun g hg => ho.block g (h.lt hg) (hb g hg)
theorem RdW.take {w : World} {A : Option Addr} {c : Nat} {l : List UInt8} (h : RdW w (.slice A l.length c) l) (n : Nat) (hn : n ≤ l.length) : RdW w (.slice A n c) (l.take n) := by
  obtain ⟨A', c', e, h1, h2, h3⟩ := h
  cases e
  have hl : (l.take n).length = n := by rw [List.length_take]; omega
  refine ⟨A, c, by rw [hl], by omega, h2, ?_⟩
  rcases h3 with ⟨h4, h5⟩ | ⟨g, o, rfl, hg, h3⟩
  · exact .inl ⟨by omega, h5⟩
  · exact .inr ⟨g, o, rfl, hg, fun j u hu => h3 j u (cells_take l n j u hu)⟩
theorem RdW.news {w : World} {v : Value} {l : List UInt8} (h : RdW w v l) : ∃ A c, v = .slice A l.length c ∧ ((A = none ∧ l.length = 0 ∧ c = 0) ∨ ∃ ad, A = some ad ∧ ∀ j u, (cells l)[j]? = some u → w.cell? (ad.add j) = some u) := by
  obtain ⟨A, c, rfl, h1, h2, h3⟩ := h
  refine ⟨A, c, rfl, ?_⟩
  rcases h3 with h3 | ⟨g, o, rfl, hg, h3⟩
  · cases A with
    | none => exact .inl ⟨rfl, h3.1, h3.2⟩
    | some ad => exact .inr ⟨ad, rfl, fun j u hu => by
        obtain rfl : l = [] := List.length_eq_zero_iff.1 h3.1
        simp [cells] at hu⟩
  · exact .inr ⟨_, rfl, h3⟩
end Go.Proofs.YtlcpehmdhnakpaaDoor
namespace Go.Proofs.YtlcpehmdhnakpaaDoor
open Go.RowKit
set_option linter.unusedVariables false
set_option linter.unusedSimpArgs false

def tv (l : List UInt8) : Value := .string ⟨l.toArray⟩
/-- a slice that reads as these texts -/
def RdT (w : World) (v : Value) (l : List (List UInt8)) : Prop :=
  ∃ A c, v = .slice A l.length c ∧ l.length ≤ c ∧ ∀ k x, l[k]? = some x → ∃ g o, A = some ⟨g, o, none⟩ ∧ g < w.heap.size ∧ w.cell? ⟨g, o + k, none⟩ = some (tv x)
theorem RdT.below {w w' : World} {v : Value} {l : List (List UInt8)} (h : RdT w v l) (hb : Below w.heap.size w w') : RdT w' v l := by
  obtain ⟨A, c, rfl, hc, h⟩ := h
  refine ⟨A, c, rfl, hc, fun k r hk => ?_⟩
  obtain ⟨g, o, rfl, hg, h1⟩ := h k r hk
  exact ⟨g, o, rfl, Nat.lt_of_lt_of_le hg hb.size, (World.cell?_of_block (hb.block g hg)).trans h1⟩
theorem rdt_form {w : World} {v : Value} {l : List (List UInt8)} (h : RdT w v l) : ∃ A c, v = .slice A l.length c := by
  obtain ⟨A, c, rfl, _⟩ := h
  exact ⟨A, c, rfl⟩
theorem RdT.at {w : World} {A : Option Addr} {c n : Nat} {l : List (List UInt8)} (h : RdT w (.slice A n c) l) (k : Nat) (hk : k < l.length) : ∃ g o, A = some ⟨g, o, none⟩ ∧ g < w.heap.size ∧ w.cell? ⟨g, o + k, none⟩ = some (tv l[k]) := by
  obtain ⟨A', c', e, hc, hA⟩ := h
  cases e
  exact hA k _ (List.getElem?_eq_getElem hk)
/-- two texts are not the same -/
theorem str_neq (x y : ByteArray) (a b : List UInt8) (hx : x = ⟨a.toArray⟩) (hy : y = ⟨b.toArray⟩) : (!x.toList == y.toList) = !decide (a = b) := by
  rw [hx, hy, ByteArray.toList_eq, ByteArray.toList_eq]
  show (!a == b) = _
  by_cases h : a = b <;> simp [h]
theorem take_eq_step {α : Type} {a b : List α} {k : Nat} (h : a.take k = b.take k) (ha : k < a.length) (hb : k < b.length) (he : a[k] = b[k]) : a.take (k + 1) = b.take (k + 1) := by
  rw [List.take_succ_eq_append_getElem ha, List.take_succ_eq_append_getElem hb, h, he]
theorem Tryd.infoStrK : (Tryd.prog.info? 9).map (fun i => (i.zero, i.size, i.bytes)) = some (some (.string ⟨#[]⟩), 1, 16) := by kernel_rfl
def tcells (l : List (List UInt8)) : List Value := l.map tv
theorem tcells_app (a b : List (List UInt8)) : tcells (a ++ b) = tcells a ++ tcells b := by simp [tcells]
/-- texts of the call's own -/
def TRow (w : World) (B : Nat) (v : Value) (l : List (List UInt8)) : Prop := w.ownsRow B 9 1 v l.length (tcells l)
theorem TRow.cut {w : World} {B n : Nat} {v : Value} {l : List (List UInt8)} {xs : List Value} (h : w.ownsRow B 9 1 v n xs) (hn : n = l.length) (hx : xs = tcells l) : TRow w B v l := by subst hn; subst hx; exact h
theorem TRow.rd {w : World} {B : Nat} {v : Value} {l : List (List UInt8)} (h : TRow w B v l) : RdT w v l := by
  have hc := fun g => World.ownsRow.cells (g := g) h
  rcases h.2 with ⟨rfl, h0⟩ | ⟨g, cap, cur, rfl, hB, hg, h4, h5, _⟩
  · obtain rfl := List.length_eq_zero_iff.1 h0
    exact ⟨none, 0, rfl, Nat.le_refl _, fun k l hk => by simp only [List.getElem?_nil] at hk; cases hk⟩
  · refine ⟨_, cap, rfl, h4, fun k x hk => ⟨g, 0, rfl, (Array.getElem?_eq_some_iff.1 hg).1, ?_⟩⟩
    have := hc g rfl k (tv x) (by unfold tcells; rw [List.getElem?_map, hk]; rfl)
    rwa [Addr.add_lit] at this
/-- a row of texts that has just been made -/
theorem rdt_new {W : World} {R : Nat} {C : Array Value} {t : TypeId} {fr : Nat × Nat} {l : List (List UInt8)} (h : W.heap[R]? = some (.cells C t fr)) (hC : C.toList = tcells l) : RdT W (.slice (some ⟨R, 0, none⟩) l.length l.length) l :=
  ⟨_, _, rfl, Nat.le_refl _, fun k x hk => ⟨R, 0, rfl, (Array.getElem?_eq_some_iff.1 h).1, by
    rw [Nat.zero_add, cell_here h]
    have : C.toList[k]? = some (tv x) := by rw [hC]; unfold tcells; rw [List.getElem?_map, hk]; rfl
    simpa using this⟩⟩
end Go.Proofs.YtlcpehmdhnakpaaDoor
namespace Go.Proofs.YtlcpehmdhnakpaaDoor

/-- api.Conn -/
structure ConnP where
  fID : List UInt8
  fIssuer : List UInt8
  fClient : List UInt8
  fAuth : List UInt8
  fSecret : List UInt8
  fOpen : Bool
  fRules : List UInt8
def ConnP.val (x : ConnP) : Value := .agg #[tv x.fID, tv x.fIssuer, tv x.fClient, tv x.fAuth, tv x.fSecret, .bool x.fOpen, tv x.fRules]
end Go.Proofs.YtlcpehmdhnakpaaDoor
