/- Texts merged by program, in build order: Form, Base, JsonPure, JsonRead, JsonSpec. -/
import Derived.Lib.Bytealg
import Derived.Test.YtobicmpgfiddhaaDoorRows
import Derived.WalkKit
import Derived.WalkLawsBesides
import Derived.Lib.Hide
import Derived.Lib.Slices
import Derived.Outline
import Derived.BigQuiet
import Derived.Deep.QuietTactic
import Derived.Deep.RegionHeld3
import Derived.Laws.IdiomStrings
import Derived.LoopN
namespace Go.Proofs.YtobicmpgfiddhaaDoor

theorem drop_cons (l : List UInt8) (k : Nat) (h : k < l.length) : l.drop k = l[k] :: l.drop (k + 1) := List.drop_eq_getElem_cons h
/-- what stands as it is in a form -/
def plainB (c : UInt8) : Bool := decide (97 ≤ c.toNat ∧ c.toNat ≤ 122 ∨ 65 ≤ c.toNat ∧ c.toNat ≤ 90 ∨ 48 ≤ c.toNat ∧ c.toNat ≤ 57 ∨ c.toNat = 45 ∨ c.toNat = 46 ∨ c.toNat = 95 ∨ c.toNat = 126)
def alnumB (c : UInt8) : Bool := decide (97 ≤ c.toNat ∧ c.toNat ≤ 122 ∨ 65 ≤ c.toNat ∧ c.toNat ≤ 90 ∨ 48 ≤ c.toNat ∧ c.toNat ≤ 57)

/-- a hexadecimal digit's number; -1: none -/
def hexI (c : UInt8) : Int := if 48 ≤ c.toNat ∧ c.toNat ≤ 57 then c.toNat - 48 else if 65 ≤ c.toNat ∧ c.toNat ≤ 70 then c.toNat - 55 else if 97 ≤ c.toNat ∧ c.toNat ≤ 102 then c.toNat - 87 else -1
theorem hexI_spec (c : UInt8) : (48 ≤ (c.toNat : Int) ∧ (c.toNat : Int) ≤ 57 ∧ hexI c = c.toNat - 48) ∨ (65 ≤ (c.toNat : Int) ∧ (c.toNat : Int) ≤ 70 ∧ hexI c = c.toNat - 55) ∨ (97 ≤ (c.toNat : Int) ∧ (c.toNat : Int) ≤ 102 ∧ hexI c = c.toNat - 87) ∨
    (((c.toNat : Int) < 48 ∨ 57 < (c.toNat : Int) ∧ (c.toNat : Int) < 65 ∨ 70 < (c.toNat : Int) ∧ (c.toNat : Int) < 97 ∨ 102 < (c.toNat : Int)) ∧ hexI c = -1) := by
  unfold hexI
  split
  · omega
  · split
    · omega
    · split <;> omega

def hexU (n : Nat) : UInt8 := (#[48, 49, 50, 51, 52, 53, 54, 55, 56, 57, 65, 66, 67, 68, 69, 70] : Array UInt8).getD n 0
def hexBytes : ByteArray := ⟨#[48, 49, 50, 51, 52, 53, 54, 55, 56, 57, 65, 66, 67, 68, 69, 70]⟩
theorem hexU_at {n : Nat} (h : n < hexBytes.size) : hexBytes[n] = hexU n := by
  have h' : n < hexBytes.data.size := h
  show hexBytes.data[n] = hexBytes.data.getD n 0
  rw [Array.getD_eq_getD_getElem?, Array.getElem?_eq_getElem h']; rfl
def quote1 (c : UInt8) : List UInt8 := if plainB c then [c] else [37, hexU (c.toNat / 16), hexU (c.toNat % 16)]
def quoteL (l : List UInt8) : List UInt8 := l.flatMap quote1
theorem quoteL_snoc (l : List UInt8) (c : UInt8) : quoteL (l ++ [c]) = quoteL l ++ quote1 c := by simp [quoteL]
theorem quoteL_le (l : List UInt8) : (quoteL l).length ≤ 3 * l.length := by
  induction l with
  | nil => simp [quoteL]
  | cons c l ih =>
    have : quoteL (c :: l) = quote1 c ++ quoteL l := by simp [quoteL]
    rw [this, List.length_append]
    have : (quote1 c).length ≤ 3 := by unfold quote1; split <;> simp
    simp; omega

def digN (c : UInt8) : Int := if hexI c < 0 then 0 else hexI c
def digB (c : UInt8) : Bool := decide (0 ≤ hexI c)
theorem hexI_bd (c : UInt8) : -1 ≤ hexI c ∧ hexI c ≤ 15 := by have := hexI_spec c; omega
theorem digN_bd (c : UInt8) : 0 ≤ digN c ∧ digN c ≤ 15 := by have := hexI_bd c; unfold digN; split <;> omega
theorem digN_of {c : UInt8} (h : digB c = true) : digN c = hexI c ∧ 0 ≤ hexI c := by
  have : 0 ≤ hexI c := by simpa [digB] using h
  unfold digN; rw [if_neg (by omega)]; exact ⟨rfl, this⟩


def hexByte (a b : UInt8) : UInt8 := UInt8.ofNat (16 * digN a + digN b).toNat
theorem hexByte_toNat (a b : UInt8) : ((hexByte a b).toNat : Int) = 16 * digN a + digN b := by
  have := digN_bd a; have := digN_bd b
  unfold hexByte; rw [UInt8.toNat_ofNat']; omega

/-- what a text stands for in a form -/
def unq : List UInt8 → Option (List UInt8)
  | [] => some []
  | c :: r =>
    if c.toNat = 43 then (unq r).map (32 :: ·)
    else if c.toNat = 37 then
      match r with
      | a :: b :: r' => if digB a && digB b then (unq r').map (hexByte a b :: ·) else none
      | _ => none
    else (unq r).map (c :: ·)

theorem unq_plus {c : UInt8} (r : List UInt8) (h : c.toNat = 43) : unq (c :: r) = (unq r).map (32 :: ·) := by
  rcases r with _ | ⟨a, _ | ⟨b, r⟩⟩
  · simp [unq, h]
  · simp [unq, h]
  · rw [unq, if_pos h]
theorem unq_same {c : UInt8} (r : List UInt8) (h : c.toNat ≠ 43) (h' : c.toNat ≠ 37) : unq (c :: r) = (unq r).map (c :: ·) := by
  rcases r with _ | ⟨a, _ | ⟨b, r⟩⟩
  · simp [unq, h, h']
  · simp [unq, h, h']
  · rw [unq, if_neg h, if_neg h']
theorem unq_hex {c : UInt8} (a b : UInt8) (r : List UInt8) (h' : c.toNat = 37) : unq (c :: a :: b :: r) = if digB a && digB b then (unq r).map (hexByte a b :: ·) else none := by
  rw [unq, if_neg (by omega), if_pos h']
theorem unq_short {c : UInt8} (r : List UInt8) (h' : c.toNat = 37) (hr : r.length ≤ 1) : unq (c :: r) = none := by
  rcases r with _ | ⟨a, _ | ⟨b, r⟩⟩
  · rw [unq, if_neg (by omega), if_pos h']; simp
  · rw [unq, if_neg (by omega), if_pos h']; simp
  · simp at hr

def UnqAt (l : List UInt8) (k : Nat) (acc : List UInt8) : Prop := unq l = (unq (l.drop k)).map (acc ++ ·)
theorem unqAt_start (l : List UInt8) : UnqAt l 0 [] := by unfold UnqAt; simp
theorem unqAt_end {l acc : List UInt8} (h : UnqAt l l.length acc) : unq l = some acc := by unfold UnqAt at h; rw [h]; simp [unq]
theorem unqAt_plus {l acc : List UInt8} {k : Nat} (h : UnqAt l k acc) (hk : k < l.length) (hc : l[k].toNat = 43) : UnqAt l (k + 1) (acc ++ [32]) := by
  unfold UnqAt at h ⊢
  rw [h, drop_cons l k hk, unq_plus _ hc, Option.map_map]; congr 1; funext x; simp
theorem unqAt_same {l acc : List UInt8} {k : Nat} (h : UnqAt l k acc) (hk : k < l.length) (hc : l[k].toNat ≠ 43) (hc' : l[k].toNat ≠ 37) : UnqAt l (k + 1) (acc ++ [l[k]]) := by
  unfold UnqAt at h ⊢
  rw [h, drop_cons l k hk, unq_same _ hc hc', Option.map_map]; congr 1; funext x; simp
theorem unqAt_hex {l acc : List UInt8} {k : Nat} (h : UnqAt l k acc) (hk : k + 2 < l.length) (hc' : l[k].toNat = 37) (ha : digB l[k + 1] = true) (hb : digB l[k + 2] = true) :
    UnqAt l (k + 3) (acc ++ [hexByte l[k + 1] l[k + 2]]) := by
  unfold UnqAt at h ⊢
  rw [h, drop_cons l k (by omega), drop_cons l (k + 1) (by omega), drop_cons l (k + 2) (by omega), unq_hex _ _ _ hc']
  simp only [ha, hb, Bool.and_self, if_true]
  rw [Option.map_map]; congr 1; funext x; simp
theorem unqAt_short {l acc : List UInt8} {k : Nat} (h : UnqAt l k acc) (hk : k < l.length) (hs : l.length ≤ k + 2) (hc' : l[k].toNat = 37) : unq l = none := by
  unfold UnqAt at h
  rw [h, drop_cons l k hk, unq_short _ hc' (by simp; omega)]; rfl
theorem unqAt_bad {l acc : List UInt8} {k : Nat} (h : UnqAt l k acc) (hk : k + 2 < l.length) (hc' : l[k].toNat = 37) (ha : digB l[k + 1] = false ∨ digB l[k + 2] = false) : unq l = none := by
  unfold UnqAt at h
  rw [h, drop_cons l k (by omega), drop_cons l (k + 1) (by omega), drop_cons l (k + 2) (by omega), unq_hex _ _ _ hc']
  have : (digB l[k + 1] && digB l[k + 2]) = false := by rcases ha with h | h <;> simp [h]
  simp only [this, Bool.false_eq_true, if_false]; rfl

theorem hexU_all : ∀ n : Nat, n < 256 → digB (hexU (n / 16)) = true ∧ digB (hexU (n % 16)) = true ∧ hexByte (hexU (n / 16)) (hexU (n % 16)) = UInt8.ofNat n := by decide +kernel
theorem plain_not (c : UInt8) (h : plainB c = true) : c.toNat ≠ 43 ∧ c.toNat ≠ 37 := by simp [plainB] at h; omega
theorem unq_quote1 (c : UInt8) (r : List UInt8) : unq (quote1 c ++ r) = (unq r).map (c :: ·) := by
  unfold quote1
  split
  · rename_i h
    exact unq_same _ (plain_not c h).1 (plain_not c h).2
  · have := hexU_all c.toNat c.toNat_lt
    show unq (37 :: hexU (c.toNat / 16) :: hexU (c.toNat % 16) :: r) = _
    rw [unq_hex _ _ _ (by decide), this.1, this.2.1, this.2.2, UInt8.ofNat_toNat]; rfl
theorem unq_quoteL (l : List UInt8) : unq (quoteL l) = some l := by
  induction l with
  | nil => rfl
  | cons c l ih =>
    have : quoteL (c :: l) = quote1 c ++ quoteL l := by simp [quoteL]
    rw [this, unq_quote1, ih]; rfl

end Go.Proofs.YtobicmpgfiddhaaDoor
namespace Go.Proofs.YtobicmpgfiddhaaDoor
open Go.RowKit


theorem ret_int {k : IntKind} {a b : Int} (h : a = b) : Ending.returned (.int k a) = .returned (.int k b) := by rw [h]
theorem ret_bool {a b : Bool} (h : a = b) : Ending.returned (.bool a) = .returned (.bool b) := by rw [h]

theorem ret_tup {k : IntKind} {a b : Int} {x y : Bool} (h : a = b) (h' : x = y) : Ending.returned (.tuple #[.int k a, .bool x]) = .returned (.tuple #[.int k b, .bool y]) := by rw [h, h']

theorem int_eq {k : IntKind} {a b : Int} (h : a = b) : Value.int k a = .int k b := by rw [h]
theorem ret_sb {x : ByteArray} {a b : Bool} (h : a = b) : Ending.returned (.tuple #[.string x, .bool a]) = .returned (.tuple #[.string x, .bool b]) := by rw [h]
theorem byte_of_wf {x : Int} (h : (Lit.int .u8 x).wf = true) : 0 ≤ x ∧ x < 256 := by
  simp [Lit.wf, IntKind.min, IntKind.max, IntKind.signed, IntKind.bits] at h
  exact ⟨by omega, by omega⟩
theorem byte_ex {x : Int} (h : (Lit.int .u8 x).wf = true) : ∃ c : UInt8, x = (c.toNat : Int) := by
  have := byte_of_wf h
  exact ⟨UInt8.ofNat x.toNat, by rw [UInt8.toNat_ofNat']; omega⟩

theorem str_eq {a b : ByteArray} (h : a = b) : Value.string a = .string b := by rw [h]


theorem _root_.Go.RowKit.Below.chain {a b c : World} (h : Below a.heap.size a b) (h' : Below b.heap.size b c) : Below a.heap.size a c := h.trans (h'.mono h.size)


theorem belowDrewN {B : Nat} {a w : World} (h : Below B a w) (n : Nat) : Below B a (w.drewN n) := ⟨h.os, h.tape, h.output, h.size, h.block⟩
theorem run_slice_string_lh {P : Program} (w : World) (t : TypeId) (s : ByteArray) (ht : P.underlying t = some .string) (kl kh : IntKind) (l h : Int) (h0 : 0 ≤ l) (h1 : l ≤ h) (h2 : h ≤ s.size) :
    (Instr.slice t (.string s) (some (.int kl l)) (some (.int kh h)) none).run P w = .ok (.string (s.extract l.toNat h.toNat)) w := by
  have eh : (h.toNat : Int) = h := Int.toNat_of_nonneg (by omega)
  simp [Instr.slice, run_underlying ht, Instr.sliceBounds, run_sliceBound, *, (by omega : 0 ≤ h)]
theorem below_drew2 (w w2 : World) (h : Below w.drew.heap.size w.drew w2) : Below w.heap.size w w2 := by
  have e : w.drew.heap.size = w.heap.size := rfl
  rw [e] at h; exact ((Below.refl w.heap.size w).drew).trans h
theorem wraps_i64 (n : Int) (h₀ : 0 ≤ n) (h₁ : n < 2 ^ 63) : IntKind.i64.wrap n = n := by rw [IntKind.wrap_i64]; omega
theorem bits_xor_nat (k : IntKind) (j : Nat) (hj : j ≤ k.bits) (hk : ∀ n : Int, 0 ≤ n → n < 2 ^ j → k.wrap n = n) (a b : Nat) (ha : a < 2 ^ j) (hb : b < 2 ^ j) :
    bits .xor k a b = ((a ^^^ b : Nat) : Int) := by
  have hp : 2 ^ j ≤ 2 ^ k.bits := Nat.pow_le_pow_right (by decide) hj
  have ha' : a % 2 ^ k.bits = a := Nat.mod_eq_of_lt (Nat.lt_of_lt_of_le ha hp)
  have hb' : b % 2 ^ k.bits = b := Nat.mod_eq_of_lt (Nat.lt_of_lt_of_le hb hp)
  simp only [bits, BitVec.ofInt_natCast, BitVec.toNat_xor, BitVec.toNat_ofNat, ha', hb']
  exact hk _ (Int.natCast_nonneg _) (by exact_mod_cast Nat.xor_lt_two_pow ha hb)

theorem xor_zero_iff (a b : Nat) : a ^^^ b = 0 ↔ a = b := by
  constructor
  · intro h
    refine Nat.eq_of_testBit_eq fun i => ?_
    have := congrArg (fun n => n.testBit i) h
    simp only [Nat.testBit_xor, Nat.zero_testBit] at this
    revert this; cases a.testBit i <;> cases b.testBit i <;> simp
  · rintro rfl; exact Nat.xor_self a

theorem ext_size (s : ByteArray) (k : Nat) : (s.extract k s.size).size = s.size - k := by simp [ByteArray.size_extract]
theorem ext_get (s : ByteArray) (k i : Nat) (h : i < (s.extract k s.size).size) (h' : k + i < s.size) : (s.extract k s.size)[i] = s[k + i] := by simp [ByteArray.getElem_extract]
theorem take_snoc (s : ByteArray) (k : Nat) (h : k < s.size) : s.data.toList.take (k + 1) = s.data.toList.take k ++ [s[k]] := by
  rw [List.take_succ_eq_append_getElem (by simpa using h)]; rfl

theorem ret_str {a b : List UInt8} (h : a = b) : Ending.returned (.string ⟨a.toArray⟩) = .returned (.string ⟨b.toArray⟩) := by rw [h]
theorem take_all (s : ByteArray) : s.data.toList.take s.size = s.data.toList := List.take_of_length_le (Nat.le_refl _)
theorem app_list (a : List UInt8) (c : UInt8) : (ByteArray.mk a.toArray ++ ByteArray.mk #[c]).data.toList = a ++ [c] := by simp [ByteArray.data_append]
theorem app_size (a : List UInt8) (c : UInt8) (h : a.length ≤ 1000) : (ByteArray.mk a.toArray ++ ByteArray.mk #[c]).size ≤ 46912496117759 := by
  have : (ByteArray.mk a.toArray ++ ByteArray.mk #[c]).size = (ByteArray.mk a.toArray ++ ByteArray.mk #[c]).data.toList.length := rfl
  rw [this, app_list, List.length_append]; simp; omega
theorem and_mask (x : Int) (h0 : 0 ≤ x) (h1 : x < 4294967296) (i : Nat) (hi : i ≤ 32) : bits .and .u32 x (2 ^ i - 1) = x % 2 ^ i :=
  bits_mask .u32 32 (by decide) (fun n h0 h1 => by rw [IntKind.wrap_u32]; omega) i hi x h0 h1


theorem Tryd.infoByte : (Tryd.prog.info? 5).map (fun i => (i.zero, i.size, i.bytes)) = some (some (.int .u8 0), 1, 1) := by kernel_rfl

def cells (l : List UInt8) : List Value := l.map fun c => Value.int .u8 (c.toNat : Int)
theorem cells_app (a b : List UInt8) : cells (a ++ b) = cells a ++ cells b := by simp [cells]
theorem cells_one (l : List UInt8) : ∀ u ∈ cells l, u.oneCell' = true := by
  intro u hu; obtain ⟨_, _, rfl⟩ := List.mem_map.1 hu; rfl
theorem new_cells (w : World) (cs : Array Value) (e : TypeId) : ∀ j u, cs.toList[j]? = some u → (w.alloc (.cells cs e)).cell? ((⟨w.heap.size, 0, none⟩ : Addr).add j) = some u := by
  intro j u h
  rw [Addr.add_lit, Nat.zero_add, World.cell?_alloc_mark]
  simpa using h

/-- append onto a row of the call's own, as one step of a region that draws its order -/
theorem step_append_own {P : Program} {w : World} {ops : Array Oper} {o : Oper} {a : Act} {K : Act → World → Prop} {Q : Exit → Act → World → Prop} {E : Prop} (hgd : o.guard = none) (s x : Operand) (t : TypeId)
    (ho : o.op = .call { callee := .builtin .append, args := #[s, x], argTypes := #[t, t] })
    (base : Nat) (e : TypeId) (i : TypeInfo) (z : Value) (size bytes : Nat) (ht : P.underlying t = some (.slice e)) (hi : P.info? e = some i) (hz : i.zero = some z)
    (hsize : i.size = size) (hby : i.bytes = bytes) (hzs : z.cells.size = size) (hsz : 0 < size)
    (v : Value) (n : Nat) (xs : List Value) (hs : a.eval s = v) (hown : w.ownsRow base e size v n xs)
    (ad : Addr) (m c : Nat) (news : List Value) (hx : a.eval x = .slice (some ad) m c) (hl : news.length = m * size) (hnews : ∀ j u, news[j]? = some u → w.cell? (ad.add j) = some u) (h1 : ∀ u ∈ news, u.oneCell' = true)
    (h63 : n + m ≤ maxLen) (hbytes : (n + m) * bytes ≤ 140737488355328) (hbase : base ≤ w.heap.size)
    (h : ∀ v' w', w'.ownsRow base e size v' (n + m) (xs ++ news) → w.grownBy w' v.ownBlock → (v' = .slice none 0 0 ↔ v = .slice none 0 0 ∧ m = 0) → K (a.put o.dst v') w') :
    if Region.wanted o (yielded ops a.tmps) = true then Oper.wp P o a w K Q else E := by
  have hw : Region.wanted o (yielded ops a.tmps) = true := by simp [Region.wanted, hgd]
  rw [if_pos hw]
  exact wp_append_own w s x t ho base e i z size bytes ht hi hz hsize hby hzs hsz v n xs hs hown ad m c news hx hl hnews h1 h63 hbytes hbase h

theorem one_cell (x : Int) : ∀ u ∈ [Value.int .u8 x], u.oneCell' = true := by intro u hu; simp at hu; subst hu; rfl
theorem three_cells (x y z : Int) : ∀ u ∈ [Value.int .u8 x, Value.int .u8 y, Value.int .u8 z], u.oneCell' = true := by
  intro u hu; simp at hu; rcases hu with rfl | rfl | rfl <;> rfl

/-- a buffer of bytes of the call's own -/
def Buf (w : World) (B : Nat) (v : Value) (l : List UInt8) : Prop := w.ownsRow B 5 1 v l.length (cells l)
theorem Buf.cut {w : World} {B : Nat} {v : Value} {n : Nat} {l : List UInt8} {xs : List Value} (h : w.ownsRow B 5 1 v n xs) (hn : n = l.length) (hx : xs = cells l) : Buf w B v l := by subst hn; subst hx; exact h

/-- 'string(buf)' -/
theorem Buf.text {w : World} {B : Nat} {v : Value} {l : List UInt8} (h : Buf w B v l) : (convert 46 9 v).run Tryd.prog w = .ok (.string ⟨l.toArray⟩) w := by
  rcases h.2 with ⟨rfl, h0⟩ | ⟨g, cap, cur, rfl, -, -, -, -, -, -⟩
  · obtain rfl : l = [] := List.length_eq_zero_iff.1 h0
    rw [run_convert_bytes_string (P := Tryd.prog) w 46 9 5 none 0 0 Tryd.underlying46 Tryd.underlying5 Tryd.underlying9]
    rfl
  · refine run_convert_bytes_back (P := Tryd.prog) w 46 9 5 ⟨g, 0, none⟩ cap l Tryd.underlying46 Tryd.underlying5 Tryd.underlying9 (fun j hj => ?_)
    exact World.ownsRow.cells h (g := g) rfl j _ (by simp [cells, hj])

theorem new_cells_take (w : World) (cs : Array Value) (e : TypeId) (m : Nat) : ∀ j u, (cs.toList.take m)[j]? = some u → (w.alloc (.cells cs e)).cell? ((⟨w.heap.size, 0, none⟩ : Addr).add j) = some u := by
  intro j u h
  rw [List.getElem?_take] at h
  split at h
  · exact new_cells w cs e j u h
  · cases h

theorem two_cells (x y : Int) : ∀ u ∈ [Value.int .u8 x, Value.int .u8 y], u.oneCell' = true := by
  intro u hu; simp at hu; rcases hu with rfl | rfl <;> rfl
theorem four_cells (x y z t : Int) : ∀ u ∈ [Value.int .u8 x, Value.int .u8 y, Value.int .u8 z, Value.int .u8 t], u.oneCell' = true := by
  intro u hu; simp at hu; rcases hu with rfl | rfl | rfl | rfl <;> rfl

theorem Buf.below {w w' : World} {B : Nat} {v : Value} {l : List UInt8} (h : Buf w B v l) (hb : Below w.heap.size w w') : Buf w' B v l :=
  World.ownsRow.kept (row := none) h ⟨hb.os, hb.tape, hb.output, hb.size, fun k hk _ => hb.block k hk⟩ (by
    rcases h.2 with ⟨rfl, _⟩ | ⟨g, cap, cur, rfl, _⟩
    · exact .inl rfl
    · exact .inr (by simp [Value.ownBlock]))


theorem conv_new (w : World) (l : List UInt8) (cs : Array Value) (n c : Nat) (hn : n = l.length) (h : cs.toList = cells l) :
    (convert 46 9 (.slice (some ⟨w.heap.size, 0, none⟩) n c)).run Tryd.prog (w.alloc (.cells cs 5)) = .ok (.string ⟨l.toArray⟩) (w.alloc (.cells cs 5)) := by
  subst hn
  refine run_convert_bytes_back (P := Tryd.prog) _ 46 9 5 ⟨w.heap.size, 0, none⟩ c l Tryd.underlying46 Tryd.underlying5 Tryd.underlying9 (fun j hj => ?_)
  exact new_cells w cs 5 j _ (by rw [h]; simp [cells, hj])

theorem conv_newD (w : World) (l : List UInt8) (cs : Array Value) (n c : Nat) (hn : n = l.length) (h : cs.toList = cells l) :
    (convert 46 9 (.slice (some ⟨w.heap.size, 0, none⟩) n c)).run Tryd.prog (w.alloc (.cells cs 5)).drew = .ok (.string ⟨l.toArray⟩) (w.alloc (.cells cs 5)).drew := by
  subst hn
  refine run_convert_bytes_back (P := Tryd.prog) _ 46 9 5 ⟨w.heap.size, 0, none⟩ c l Tryd.underlying46 Tryd.underlying5 Tryd.underlying9 (fun j hj => ?_)
  exact new_cells w cs 5 j _ (by rw [h]; simp [cells, hj])

theorem cells_byte (l : List UInt8) (n m : Nat) (x : Int) (hx : x = (n : Int) % 256) (hn : n % 256 = m % 256) : cells l ++ [Value.int .u8 x] = cells (l ++ [UInt8.ofNat m]) := by
  subst hx
  rw [cells_app]
  have : (UInt8.ofNat m).toNat = m % 256 := UInt8.toNat_ofNat'
  show _ = cells l ++ [Value.int .u8 ((UInt8.ofNat m).toNat : Int)]
  rw [this, ← hn]; rfl

theorem hex_cells (c : UInt8) (a b : Int) (ha : a = (c.toNat : Int) / 16) (hb : b = (c.toNat : Int) % 16) (h1 : a.toNat < hexBytes.size) (h2 : b.toNat < hexBytes.size) :
    [Value.int .u8 37, .int .u8 (hexBytes[a.toNat].toNat : Int), .int .u8 (hexBytes[b.toNat].toNat : Int)] = cells [37, hexU (c.toNat / 16), hexU (c.toNat % 16)] := by
  rw [hexU_at h1, hexU_at h2]
  have e1 : a.toNat = c.toNat / 16 := by omega
  have e2 : b.toNat = c.toNat % 16 := by omega
  rw [e1, e2]; rfl
end Go.Proofs.YtobicmpgfiddhaaDoor
namespace Go.Proofs.YtobicmpgfiddhaaDoor

inductive V where
  | mk (kind num : Int) (text : List UInt8) (list : List V) (keys : List (List UInt8))
def V.kind : V → Int
  | .mk k _ _ _ _ => k
def V.num : V → Int
  | .mk _ n _ _ _ => n
def V.text : V → List UInt8
  | .mk _ _ t _ _ => t
def V.list : V → List V
  | .mk _ _ _ l _ => l
def V.keys : V → List (List UInt8)
  | .mk _ _ _ _ ks => ks
def V.zero : V := .mk 0 0 [] [] []

/-- no two alike -/
def unlikeB : List (List UInt8) → Bool
  | [] => true
  | k :: r => !r.contains k && unlikeB r
/-- what a value must be by itself -/
def headB (k n : Int) (t : List UInt8) (ll : Nat) (ks : List (List UInt8)) : Bool :=
  decide (1 ≤ k ∧ k ≤ 6) && decide (k = 2 → n = 0 ∨ n = 1) && decide (k = 3 → -9007199254740992 ≤ n ∧ n ≤ 9007199254740992) && decide (k ≠ 2 → k ≠ 3 → n = 0) &&
  decide (k ≠ 4 → t = []) && decide (k ≠ 5 → k ≠ 6 → ll = 0) && decide (ll ≤ 64) && decide (k = 6 → ks.length = ll) && decide (k ≠ 6 → ks = []) && unlikeB ks
mutual
/-- good, and at most d deep -/
def V.fits : V → Nat → Bool
  | .mk k n t l ks, d => match d with
    | 0 => false
    | d + 1 => headB k n t l.length ks && V.fitsAll l d
def V.fitsAll : List V → Nat → Bool
  | [], _ => true
  | v :: r, d => v.fits d && V.fitsAll r d
end

/-! ## texts -/
def digit (n : Nat) : UInt8 := UInt8.ofNat (48 + n % 10)
/-- a number's digits -/
def decL (n : Nat) : List UInt8 := if n < 10 then [digit n] else decL (n / 10) ++ [digit n]
termination_by n
def decI (n : Int) : List UInt8 := if n < 0 then 45 :: decL n.natAbs else decL n.natAbs
def hexl (n : Nat) : UInt8 := if n < 10 then UInt8.ofNat (48 + n) else UInt8.ofNat (87 + n)
def quoteC (c : UInt8) : List UInt8 := if c = 34 ∨ c = 92 then [92, c] else if c.toNat < 32 then [92, 117, 48, 48, UInt8.ofNat (48 + c.toNat / 16), hexl (c.toNat % 16)] else [c]
/-- a text, as it stands: behind its first sign -/
def quoteT : List UInt8 → List UInt8
  | [] => [34]
  | c :: r => quoteC c ++ quoteT r
def quoteJ (t : List UInt8) : List UInt8 := 34 :: quoteT t
def nullT : List UInt8 := [110, 117, 108, 108]
def trueT : List UInt8 := [116, 114, 117, 101]
def falseT : List UInt8 := [102, 97, 108, 115, 101]
mutual
def V.show : V → List UInt8
  | .mk k n t l ks => if k = 1 then nullT else if k = 2 then (if n = 1 then trueT else falseT) else if k = 3 then decI n else if k = 4 then quoteJ t else
    if k = 5 then 91 :: (V.items l ++ [93]) else 123 :: (V.pairs l ks ++ [125])
/-- what stands in a list -/
def V.items : List V → List UInt8
  | [] => []
  | v :: r => v.show ++ V.itemsMore r
def V.itemsMore : List V → List UInt8
  | [] => []
  | v :: r => 44 :: (v.show ++ V.itemsMore r)
/-- what stands in an object -/
def V.pairs : List V → List (List UInt8) → List UInt8
  | [], _ => []
  | v :: r, ks => quoteJ (ks.headD []) ++ 58 :: (v.show ++ V.pairsMore r ks.tail)
def V.pairsMore : List V → List (List UInt8) → List UInt8
  | [], _ => []
  | v :: r, ks => 44 :: (quoteJ (ks.headD []) ++ 58 :: (v.show ++ V.pairsMore r ks.tail))
end

/-! ## the reader -/
def beginsB (s t : List UInt8) : Bool := s.take t.length == t
def isDigit (c : UInt8) : Bool := decide (48 ≤ c.toNat ∧ c.toNat ≤ 57)
/-- a hexadecimal digit's number; -1: none -/
def hexJ (c : UInt8) : Int := if 48 ≤ c.toNat ∧ c.toNat ≤ 57 then c.toNat - 48 else if 97 ≤ c.toNat ∧ c.toNat ≤ 102 then c.toNat - 87 else if 65 ≤ c.toNat ∧ c.toNat ≤ 70 then c.toNat - 55 else -1
/-- behind a text's first sign: the text, and how many bytes; none: there is no end -/
def wordT : List UInt8 → List UInt8 → Nat → Option (List UInt8 × Nat)
  | [], _, _ => none
  | c :: r, acc, n =>
    if c = 34 then some (acc, n + 1)
    else if c = 92 then
      match r with
      | e :: r' =>
        if e = 34 ∨ e = 92 then wordT r' (acc ++ [e]) (n + 2)
        else match r' with
          | x :: y :: h :: l :: r'' => if e = 117 ∧ x = 48 ∧ y = 48 ∧ 0 ≤ hexJ h ∧ 0 ≤ hexJ l then wordT r'' (acc ++ [UInt8.ofNat (16 * hexJ h + hexJ l).toNat]) (n + 6) else none
          | _ => none
      | [] => none
    else wordT r (acc ++ [c]) (n + 1)
/-- digits, at most so many: the number, and how many -/
def numT : List UInt8 → Nat → Int → Nat → Int × Nat
  | [], _, v, n => (v, n)
  | _, 0, v, n => (v, n)
  | c :: r, m + 1, v, n => if isDigit c then numT r m (v * 10 + (c.toNat - 48 : Int)) (n + 1) else (v, n)

theorem unlike_nodup (l : List (List UInt8)) : unlikeB l = true ↔ l.Nodup := by
  induction l with
  | nil => simp [unlikeB]
  | cons a r ih => simp [unlikeB, ih]

/-! ### a text is read again -/
theorem hexl_back (n : Nat) (h : n < 16) : hexJ (hexl n) = n := by
  have : ∀ n : Fin 16, hexJ (hexl n.val) = (n.val : Int) := by decide +kernel
  exact this ⟨n, h⟩
theorem hexs_back (n : Nat) (h : n < 2) : hexJ (UInt8.ofNat (48 + n)) = n := by
  have : ∀ n : Fin 2, hexJ (UInt8.ofNat (48 + n.val)) = (n.val : Int) := by decide +kernel
  exact this ⟨n, h⟩
theorem wordT_quote (t r acc : List UInt8) (n : Nat) : wordT (quoteT t ++ r) acc n = some (acc ++ t, n + (quoteT t).length) := by
  induction t generalizing acc n with
  | nil => rw [quoteT]; unfold wordT; simp
  | cons c t ih =>
    rw [quoteT]
    by_cases h : c = 34 ∨ c = 92
    · rw [quoteC, if_pos h, List.append_assoc]
      show wordT (92 :: c :: (quoteT t ++ r)) acc n = _
      unfold wordT
      rw [if_neg (by decide), if_pos rfl]
      simp only [h, if_true]
      rw [ih]; simp; omega
    · by_cases h2 : c.toNat < 32
      · rw [quoteC, if_neg h, if_pos h2, List.append_assoc]
        show wordT (92 :: 117 :: 48 :: 48 :: UInt8.ofNat (48 + c.toNat / 16) :: hexl (c.toNat % 16) :: (quoteT t ++ r)) acc n = _
        have e1 := hexs_back (c.toNat / 16) (by omega)
        have e2 := hexl_back (c.toNat % 16) (by omega)
        have e3 : UInt8.ofNat (16 * hexJ (UInt8.ofNat (48 + c.toNat / 16)) + hexJ (hexl (c.toNat % 16))).toNat = c := by
          rw [e1, e2]
          have : (16 * ((c.toNat / 16 : Nat) : Int) + ((c.toNat % 16 : Nat) : Int)).toNat = c.toNat := by omega
          rw [this]; exact UInt8.ofNat_toNat
        unfold wordT
        rw [if_neg (by decide), if_pos rfl]
        dsimp only
        rw [if_neg (by decide), if_pos ⟨rfl, rfl, rfl, by rw [e1]; omega, by rw [e2]; omega⟩, e3, ih]
        simp; omega
      · have h3 : c ≠ 34 := fun e => h (Or.inl e)
        have h4 : c ≠ 92 := fun e => h (Or.inr e)
        rw [quoteC, if_neg h, if_neg h2, List.append_assoc]
        show wordT (c :: (quoteT t ++ r)) acc n = _
        unfold wordT
        rw [if_neg h3, if_neg h4, ih]; simp; omega
/-! ### a number is read again -/
theorem digit_is (n : Nat) : isDigit (digit n) = true := by
  unfold isDigit digit
  have h : (UInt8.ofNat (48 + n % 10)).toNat = 48 + n % 10 := by rw [UInt8.toNat_ofNat']; omega
  rw [h]; simp; omega
theorem digit_val (n : Nat) : ((digit n).toNat : Int) - 48 = (n % 10 : Nat) := by
  unfold digit
  have h : (UInt8.ofNat (48 + n % 10)).toNat = 48 + n % 10 := by rw [UInt8.toNat_ofNat']; omega
  rw [h]; omega
theorem decL_pos (n : Nat) : 0 < (decL n).length := by
  unfold decL; split <;> simp
theorem decL_len (n : Nat) : ∀ k, n < 10 ^ k → 0 < k → (decL n).length ≤ k := by
  induction n using Nat.strongRecOn with
  | _ n ih =>
    intro k hk h0
    unfold decL
    split
    · simp; omega
    · rename_i h10
      obtain ⟨j, rfl⟩ : ∃ j, k = j + 1 := ⟨k - 1, by omega⟩
      have hj : n / 10 < 10 ^ j := by rw [Nat.pow_succ] at hk; omega
      have h0j : 0 < j := by
        rcases Nat.eq_zero_or_pos j with rfl | h
        · simp at hk; omega
        · exact h
      have := ih (n / 10) (by omega) j hj h0j
      rw [List.length_append, List.length_singleton]; omega
theorem numT_dec (n : Nat) : ∀ (r : List UInt8) (m k : Nat) (v : Int), (decL n).length ≤ m → numT (decL n ++ r) m v k = numT r (m - (decL n).length) (v * 10 ^ (decL n).length + n) (k + (decL n).length) := by
  induction n using Nat.strongRecOn with
  | _ n ih =>
    intro r m k v hm
    by_cases h : n < 10
    · have e : decL n = [digit n] := by unfold decL; rw [if_pos h]
      rw [e] at hm ⊢
      obtain ⟨j, rfl⟩ : ∃ j, m = j + 1 := ⟨m - 1, by simp at hm; omega⟩
      show numT (digit n :: r) (j + 1) v k = _
      rw [numT, if_pos (digit_is n), digit_val]
      simp [Nat.mod_eq_of_lt h]
    · have e : decL n = decL (n / 10) ++ [digit n] := by rw [decL, if_neg h]
      rw [e] at hm ⊢
      have hl : (decL (n / 10)).length + 1 ≤ m := by simpa using hm
      rw [List.append_assoc, ih (n / 10) (by omega) _ m k v (by omega)]
      obtain ⟨j, hj⟩ : ∃ j, m - (decL (n / 10)).length = j + 1 := ⟨m - (decL (n / 10)).length - 1, by omega⟩
      rw [hj]
      show numT (digit n :: r) (j + 1) _ _ = _
      rw [numT, if_pos (digit_is n), digit_val, List.length_append, List.length_singleton]
      have e2 : m - ((decL (n / 10)).length + 1) = j := by omega
      rw [e2]
      congr 1
      rw [Int.pow_succ]
      have : (n : Int) = (n / 10 : Nat) * 10 + (n % 10 : Nat) := by omega
      rw [Int.add_mul, Int.mul_assoc, Int.add_assoc]
      omega
/-- where no digit stands, no more is read -/
def noDigit : List UInt8 → Bool
  | [] => true
  | c :: _ => !isDigit c
theorem numT_stop (r : List UInt8) (m : Nat) (v : Int) (k : Nat) (h : noDigit r = true) : numT r m v k = (v, k) := by
  cases r with
  | nil => rfl
  | cons c r =>
    cases m with
    | zero => rfl
    | succ m => rw [numT]; simp only [noDigit, Bool.not_eq_true'] at h; rw [h]; rfl
end Go.Proofs.YtobicmpgfiddhaaDoor
namespace Go.Proofs.YtobicmpgfiddhaaDoor

mutual
/-- the value at the front, and how many bytes it takes (0: there is none) -/
def valueT : Nat → List UInt8 → V × Nat
  | 0, _ => (V.zero, 0)
  | f + 1, s =>
    if beginsB s nullT then (.mk 1 0 [] [] [], 4) else if beginsB s trueT then (.mk 2 1 [] [] [], 4) else if beginsB s falseT then (.mk 2 0 [] [] [], 5)
    else if beginsB s [34] then (match wordT (s.drop 1) [] 1 with
      | some (t, n) => (.mk 4 0 t [] [], n)
      | none => (.mk 4 0 [] [] [], 0))
    else if beginsB s [91] then (if beginsB (s.drop 1) [93] then (.mk 5 0 [] [] [], 2) else loopT f false (s.drop 1) 1 [] [])
    else if beginsB s [123] then (if beginsB (s.drop 1) [125] then (.mk 6 0 [] [] [], 2) else loopT f true (s.drop 1) 1 [] [])
    else if beginsB s [45] then (match numT (s.drop 1) 17 0 1 with
      | (v, n) => (.mk 3 (-v) [] [] [], n))
    else match numT s 18 0 0 with
      | (v, n) => (.mk 3 v [] [] [], n)
/-- what a list, or an object, holds: what is left, how many bytes are behind, the keys and the values so far -/
def loopT : Nat → Bool → List UInt8 → Nat → List (List UInt8) → List V → V × Nat
  | 0, _, _, _, _, _ => (V.zero, 0)
  | f + 1, obj, s, n, ks, l =>
    match (if obj then (if beginsB s [34] then (match wordT (s.drop 1) [] 1 with
      | some (t, k) => if beginsB (s.drop k) [58] then some (ks ++ [t], k + 1) else none
      | none => none) else none) else some (ks, 0)) with
    | none => (.mk (if obj then 6 else 5) 0 [] l ks, 0)
    | some (ks', j) =>
      match valueT f (s.drop j) with
      | (x, k) =>
        if k = 0 then (.mk (if obj then 6 else 5) 0 [] l ks', 0)
        else if beginsB (s.drop (j + k)) [if obj then 125 else 93] then (.mk (if obj then 6 else 5) 0 [] (l ++ [x]) ks', n + j + k + 1)
        else if beginsB (s.drop (j + k)) [44] then loopT f obj (s.drop (j + k + 1)) (n + j + k + 1) ks' (l ++ [x])
        else (.mk (if obj then 6 else 5) 0 [] (l ++ [x]) ks', 0)
end
mutual
def V.size : V → Nat
  | .mk _ _ _ l _ => 2 + V.sizes l
def V.sizes : List V → Nat
  | [] => 0
  | v :: r => 1 + v.size + V.sizes r
end
theorem begins_app (t r : List UInt8) : beginsB (t ++ r) t = true := by simp [beginsB]
theorem begins_cons (c d : UInt8) (r : List UInt8) : beginsB (c :: r) [d] = (c == d) := by simp [beginsB]
theorem begins_first (c d : UInt8) (r t : List UInt8) (h : c ≠ d) : beginsB (c :: r) (d :: t) = false := by
  simp [beginsB, h]
theorem b_null {c : UInt8} {r : List UInt8} (h : c ≠ 110) : beginsB (c :: r) nullT = false := begins_first _ _ _ _ h
theorem b_true {c : UInt8} {r : List UInt8} (h : c ≠ 116) : beginsB (c :: r) trueT = false := begins_first _ _ _ _ h
theorem b_false {c : UInt8} {r : List UInt8} (h : c ≠ 102) : beginsB (c :: r) falseT = false := begins_first _ _ _ _ h
theorem b_one {c d : UInt8} {r : List UInt8} (h : c ≠ d) : beginsB (c :: r) [d] = false := begins_first _ _ _ _ h
theorem b_same {d : UInt8} {r : List UInt8} : beginsB (d :: r) [d] = true := by rw [begins_cons]; simp
theorem show_pos (v : V) : 0 < v.show.length := by
  match v with
  | .mk k n t l ks =>
    unfold V.show decI quoteJ
    split
    · decide
    · split
      · split <;> decide
      · split
        · split
          · simp
          · exact decL_pos _
        · split
          · simp
          · split <;> simp
structure HeadIs (k n : Int) (t : List UInt8) (ll : Nat) (ks : List (List UInt8)) : Prop where
  kind : 1 ≤ k ∧ k ≤ 6
  bool : k = 2 → n = 0 ∨ n = 1
  num : k = 3 → -9007199254740992 ≤ n ∧ n ≤ 9007199254740992
  zero : k ≠ 2 → k ≠ 3 → n = 0
  text : k ≠ 4 → t = []
  list : k ≠ 5 → k ≠ 6 → ll = 0
  most : ll ≤ 64
  keys : k = 6 → ks.length = ll
  none : k ≠ 6 → ks = []
  unlike : unlikeB ks = true
theorem head_says {k n : Int} {t : List UInt8} {ll : Nat} {ks : List (List UInt8)} (h : headB k n t ll ks = true) : HeadIs k n t ll ks := by
  unfold headB at h
  simp only [Bool.and_eq_true, decide_eq_true_eq] at h
  obtain ⟨⟨⟨⟨⟨⟨⟨⟨⟨h1, h2⟩, h3⟩, h4⟩, h5⟩, h6⟩, h7⟩, h8⟩, h9⟩, h10⟩ := h
  exact ⟨h1, h2, h3, h4, h5, h6, h7, h8, h9, h10⟩
theorem zero_list {l : List V} (h : l.length = 0) : l = [] := List.length_eq_zero_iff.1 h
theorem decI_len (n : Int) (h : -9007199254740992 ≤ n ∧ n ≤ 9007199254740992) : (decL n.natAbs).length ≤ 16 := decL_len n.natAbs 16 (by have : (10 : Nat) ^ 16 = 10000000000000000 := by decide
                                                                                                                                        omega) (by decide)
theorem decL_first (n : Nat) : ∃ c r, decL n = c :: r ∧ isDigit c = true := by
  induction n using Nat.strongRecOn with
  | _ n ih =>
    by_cases h : n < 10
    · exact ⟨digit n, [], by unfold decL; rw [if_pos h], digit_is n⟩
    · obtain ⟨c, r, e, hc⟩ := ih (n / 10) (by omega)
      exact ⟨c, r ++ [digit n], by rw [decL, if_neg h, e]; rfl, hc⟩
theorem digit_ne {c d : UInt8} (h : isDigit c = true) (hd : isDigit d = false) : c ≠ d := fun e => by rw [e, hd] at h; cases h
theorem numT_whole (n : Nat) (r : List UInt8) (m k : Nat) (hl : (decL n).length ≤ m) (hr : noDigit r = true) : numT (decL n ++ r) m 0 k = ((n : Int), k + (decL n).length) := by
  rw [numT_dec n r m k 0 hl, numT_stop _ _ _ _ hr]; simp
theorem number_back (n : Int) (hn : -9007199254740992 ≤ n ∧ n ≤ 9007199254740992) (f : Nat) (r : List UInt8) (hr : noDigit r = true) : valueT (f + 1) (decI n ++ r) = (.mk 3 n [] [] [], (decI n).length) := by
  have hl := decI_len n hn
  obtain ⟨c, r', e, hc⟩ := decL_first n.natAbs
  unfold decI
  by_cases h : n < 0
  · rw [if_pos h]
    show valueT (f + 1) (45 :: (decL n.natAbs ++ r)) = _
    unfold valueT
    rw [b_null (by decide), b_true (by decide), b_false (by decide), b_one (d := 34) (by decide), b_one (d := 91) (by decide), b_one (d := 123) (by decide), b_same]
    simp only [Bool.false_eq_true, if_false, if_true, List.drop_succ_cons, List.drop_zero]
    rw [numT_whole n.natAbs r 17 1 (by omega) hr]
    simp only [Prod.mk.injEq, V.mk.injEq, and_true, true_and]
    refine ⟨by omega, ?_⟩
    simp; omega
  · rw [if_neg h]
    have hw := numT_whole n.natAbs r 18 0 (by omega) hr
    rw [e] at hw ⊢
    show valueT (f + 1) (c :: (r' ++ r)) = _
    unfold valueT
    rw [b_null (digit_ne hc rfl), b_true (digit_ne hc rfl), b_false (digit_ne hc rfl), b_one (d := 34) (digit_ne hc rfl), b_one (d := 91) (digit_ne hc rfl), b_one (d := 123) (digit_ne hc rfl), b_one (d := 45) (digit_ne hc rfl)]
    simp only [Bool.false_eq_true, if_false]
    have hw' : numT (c :: (r' ++ r)) 18 0 0 = (((n.natAbs : Nat) : Int), 0 + (c :: r').length) := hw
    rw [hw']
    simp only [Prod.mk.injEq, V.mk.injEq, and_true, true_and, Nat.zero_add]
    omega
theorem wordT_at (t r : List UInt8) : wordT (quoteT t ++ r) [] 1 = some (t, 1 + (quoteT t).length) := by
  have := wordT_quote t r [] 1; simpa using this
theorem text_back (t : List UInt8) (f : Nat) (r : List UInt8) : valueT (f + 1) (quoteJ t ++ r) = (.mk 4 0 t [] [], (quoteJ t).length) := by
  unfold quoteJ
  show valueT (f + 1) (34 :: (quoteT t ++ r)) = _
  unfold valueT
  rw [b_null (by decide), b_true (by decide), b_false (by decide), b_same]
  simp only [Bool.false_eq_true, if_false, if_true, List.drop_succ_cons, List.drop_zero]
  rw [wordT_at]
  simp; omega
theorem drop_app (a b : List UInt8) : (a ++ b).drop a.length = b := by simp
theorem noDigit_cons {c : UInt8} {r : List UInt8} (h : isDigit c = false) : noDigit (c :: r) = true := by simp [noDigit, h]
theorem show_first (v : V) : ∃ c r, v.show = c :: r ∧ c ≠ 93 := by
  match v with
  | .mk k n t l ks =>
    unfold V.show decI quoteJ
    split
    · exact ⟨110, [117, 108, 108], rfl, by decide⟩
    · split
      · split
        · exact ⟨116, [114, 117, 101], rfl, by decide⟩
        · exact ⟨102, [97, 108, 115, 101], rfl, by decide⟩
      · split
        · split
          · exact ⟨45, _, rfl, by decide⟩
          · obtain ⟨c, r, e, hc⟩ := decL_first n.natAbs
            exact ⟨c, r, e, digit_ne hc rfl⟩
        · split
          · exact ⟨34, _, rfl, by decide⟩
          · split
            · exact ⟨91, _, rfl, by decide⟩
            · exact ⟨123, _, rfl, by decide⟩
theorem list_back (f : Nat) (c : UInt8) (r : List UInt8) (hc : c ≠ 93) : valueT (f + 1) (91 :: c :: r) = loopT f false (c :: r) 1 [] [] := by
  conv => lhs; unfold valueT
  rw [b_null (by decide), b_true (by decide), b_false (by decide), b_one (d := 34) (by decide), b_same]
  simp only [Bool.false_eq_true, if_false, if_true, List.drop_succ_cons, List.drop_zero]
  rw [b_one hc]; simp
theorem object_back (f : Nat) (r : List UInt8) : valueT (f + 1) (123 :: 34 :: r) = loopT f true (34 :: r) 1 [] [] := by
  conv => lhs; unfold valueT
  rw [b_null (by decide), b_true (by decide), b_false (by decide), b_one (d := 34) (by decide), b_one (d := 91) (by decide), b_same]
  simp only [Bool.false_eq_true, if_false, if_true, List.drop_succ_cons, List.drop_zero]
  rw [b_one (by decide)]; simp
theorem empty_list (f : Nat) (r : List UInt8) : valueT (f + 1) (91 :: 93 :: r) = (.mk 5 0 [] [] [], 2) := by
  conv => lhs; unfold valueT
  rw [b_null (by decide), b_true (by decide), b_false (by decide), b_one (d := 34) (by decide), b_same]
  simp only [Bool.false_eq_true, if_false, if_true, List.drop_succ_cons, List.drop_zero]
  rw [b_same]; simp
theorem empty_object (f : Nat) (r : List UInt8) : valueT (f + 1) (123 :: 125 :: r) = (.mk 6 0 [] [] [], 2) := by
  conv => lhs; unfold valueT
  rw [b_null (by decide), b_true (by decide), b_false (by decide), b_one (d := 34) (by decide), b_one (d := 91) (by decide), b_same]
  simp only [Bool.false_eq_true, if_false, if_true, List.drop_succ_cons, List.drop_zero]
  rw [b_same]; simp
theorem null_back (f : Nat) (r : List UInt8) : valueT (f + 1) (nullT ++ r) = (.mk 1 0 [] [] [], 4) := by
  unfold valueT; rw [begins_app, if_pos rfl]
theorem true_back (f : Nat) (r : List UInt8) : valueT (f + 1) (trueT ++ r) = (.mk 2 1 [] [] [], 4) := by
  unfold valueT
  have e : beginsB (trueT ++ r) nullT = false := b_null (by decide)
  rw [e, begins_app]; simp
theorem false_back (f : Nat) (r : List UInt8) : valueT (f + 1) (falseT ++ r) = (.mk 2 0 [] [] [], 5) := by
  unfold valueT
  have e : beginsB (falseT ++ r) nullT = false := b_null (by decide)
  have e2 : beginsB (falseT ++ r) trueT = false := b_true (by decide)
  rw [e, e2, begins_app]; simp
/-- one item of a list -/
theorem loop_item (f : Nat) (v : V) (rest : List UInt8) (n : Nat) (l : List V) (hv : ∀ r, noDigit r = true → valueT f (v.show ++ r) = (v, v.show.length)) :
    loopT (f + 1) false (v.show ++ 93 :: rest) n [] l = (.mk 5 0 [] (l ++ [v]) [], n + v.show.length + 1) ∧
    loopT (f + 1) false (v.show ++ 44 :: rest) n [] l = loopT f false rest (n + v.show.length + 1) [] (l ++ [v]) := by
  have hp := show_pos v
  constructor
  · conv => lhs; unfold loopT
    simp only [Bool.false_eq_true, if_false, List.drop_zero]
    rw [hv _ (noDigit_cons rfl)]
    simp only [Nat.zero_add]
    rw [if_neg (by omega), drop_app, b_same, if_pos rfl]
    simp
  · conv => lhs; unfold loopT
    simp only [Bool.false_eq_true, if_false, List.drop_zero]
    rw [hv _ (noDigit_cons rfl)]
    simp only [Nat.zero_add]
    rw [if_neg (by omega), drop_app, b_one (d := 93) (by decide), b_same]
    simp only [Bool.false_eq_true, if_false, if_true]
    have e : (v.show ++ 44 :: rest).drop (v.show.length + 1) = rest := by
      rw [← List.drop_drop, drop_app]; rfl
    rw [e]
    simp
/-- one pair of an object -/
theorem loop_pair (f : Nat) (k : List UInt8) (v : V) (rest : List UInt8) (n : Nat) (ks : List (List UInt8)) (l : List V) (hv : ∀ r, noDigit r = true → valueT f (v.show ++ r) = (v, v.show.length)) :
    loopT (f + 1) true (quoteJ k ++ 58 :: (v.show ++ 125 :: rest)) n ks l = (.mk 6 0 [] (l ++ [v]) (ks ++ [k]), n + ((quoteJ k).length + 1 + v.show.length) + 1) ∧
    loopT (f + 1) true (quoteJ k ++ 58 :: (v.show ++ 44 :: rest)) n ks l = loopT f true rest (n + ((quoteJ k).length + 1 + v.show.length) + 1) (ks ++ [k]) (l ++ [v]) := by
  have hp := show_pos v
  have hq : (quoteJ k).length = 1 + (quoteT k).length := by unfold quoteJ; rw [List.length_cons]; omega
  have e1 : ∀ r : List UInt8, beginsB (quoteJ k ++ r) [34] = true := fun r => by unfold quoteJ; exact b_same
  have e2 : ∀ r : List UInt8, wordT ((quoteJ k ++ r).drop 1) [] 1 = some (k, (quoteJ k).length) := fun r => by
    rw [hq]; unfold quoteJ; exact wordT_at k r
  have e3 : ∀ r : List UInt8, (quoteJ k ++ 58 :: r).drop ((quoteJ k).length + 1) = r := fun r => by rw [← List.drop_drop, drop_app]; rfl
  have e4 : ∀ (r : List UInt8) (j : Nat), (quoteJ k ++ 58 :: r).drop ((quoteJ k).length + 1 + j) = r.drop j := fun r j => by rw [← List.drop_drop, e3]
  constructor
  · conv => lhs; unfold loopT
    simp only [if_true, e1, e2, drop_app, b_same]
    rw [e3, hv _ (noDigit_cons rfl)]
    simp only
    rw [if_neg (by omega), e4, drop_app, b_same, if_pos rfl]
    simp; omega
  · conv => lhs; unfold loopT
    simp only [if_true, e1, e2, drop_app, b_same]
    rw [e3, hv _ (noDigit_cons rfl)]
    simp only
    rw [if_neg (by omega), e4, drop_app, b_one (d := 125) (by decide), b_same]
    simp only [Bool.false_eq_true, if_false, if_true]
    have e : (v.show ++ 44 :: rest).drop (v.show.length + 1) = rest := by
      rw [← List.drop_drop, drop_app]; rfl
    rw [show (quoteJ k).length + 1 + v.show.length + 1 = (quoteJ k).length + 1 + (v.show.length + 1) by omega, e4, e]
    congr 1
    omega
/-- what the reader answers, with so much to go: a value's text; what is left of a list; of an object -/
def BackV (f : Nat) : Prop := ∀ (v : V) (d : Nat) (r : List UInt8), v.fits d = true → v.size ≤ f → noDigit r = true → valueT f (v.show ++ r) = (v, v.show.length)
def BackL (f : Nat) : Prop := ∀ (v : V) (l : List V) (d n : Nat) (acc : List V) (r : List UInt8), v.fits d = true → V.fitsAll l d = true → 1 + v.size + V.sizes l ≤ f →
    loopT f false (v.show ++ V.itemsMore l ++ 93 :: r) n [] acc = (.mk 5 0 [] (acc ++ v :: l) [], n + (v.show ++ V.itemsMore l).length + 1)
def BackO (f : Nat) : Prop := ∀ (k : List UInt8) (v : V) (l : List V) (ks : List (List UInt8)) (d n : Nat) (akc : List (List UInt8)) (acc : List V) (r : List UInt8), v.fits d = true → V.fitsAll l d = true → 1 + v.size + V.sizes l ≤ f → ks.length = l.length →
    loopT f true (quoteJ k ++ 58 :: (v.show ++ V.pairsMore l ks ++ 125 :: r)) n akc acc = (.mk 6 0 [] (acc ++ v :: l) (akc ++ k :: ks), n + (quoteJ k ++ 58 :: (v.show ++ V.pairsMore l ks)).length + 1)
theorem size_pos (v : V) : 2 ≤ v.size := by
  match v with
  | .mk _ _ _ _ _ => unfold V.size; omega
theorem backV (f : Nat) (ihQ : BackL f) (ihR : BackO f) : BackV (f + 1) := by
  intro v d r hf hs hr
  obtain ⟨k, n, t, l, ks⟩ := v
  cases d with
  | zero => unfold V.fits at hf; cases hf
  | succ d =>
      unfold V.fits at hf
      simp only [Bool.and_eq_true] at hf
      obtain ⟨hh, hl⟩ := hf
      have H := head_says hh
      have hs' : 2 + V.sizes l ≤ f + 1 := by unfold V.size at hs; exact hs
      obtain ⟨h1, h6⟩ := H.kind
      have hk : k = 1 ∨ k = 2 ∨ k = 3 ∨ k = 4 ∨ k = 5 ∨ k = 6 := by omega
      rcases hk with rfl | rfl | rfl | rfl | rfl | rfl
      · obtain rfl := H.zero (by decide) (by decide)
        obtain rfl := H.text (by decide)
        obtain rfl := zero_list (H.list (by decide) (by decide))
        obtain rfl := H.none (by decide)
        have e : (V.mk 1 0 [] [] []).show = nullT := by unfold V.show; simp
        rw [e]; exact null_back f r
      · obtain rfl := H.text (by decide)
        obtain rfl := zero_list (H.list (by decide) (by decide))
        obtain rfl := H.none (by decide)
        rcases H.bool rfl with rfl | rfl
        · have e : (V.mk 2 0 [] [] []).show = falseT := by unfold V.show; simp
          rw [e]; exact false_back f r
        · have e : (V.mk 2 1 [] [] []).show = trueT := by unfold V.show; simp
          rw [e]; exact true_back f r
      · obtain rfl := H.text (by decide)
        obtain rfl := zero_list (H.list (by decide) (by decide))
        obtain rfl := H.none (by decide)
        have e : (V.mk 3 n [] [] []).show = decI n := by unfold V.show; simp
        rw [e]
        exact number_back n (H.num rfl) f r hr
      · obtain rfl := H.zero (by decide) (by decide)
        obtain rfl := zero_list (H.list (by decide) (by decide))
        obtain rfl := H.none (by decide)
        have e : (V.mk 4 0 t [] []).show = quoteJ t := by unfold V.show; simp
        rw [e]
        exact text_back t f r
      · obtain rfl := H.zero (by decide) (by decide)
        obtain rfl := H.text (by decide)
        obtain rfl := H.none (by decide)
        have e : (V.mk 5 0 [] l []).show = 91 :: (V.items l ++ [93]) := by unfold V.show; simp
        rw [e]
        rcases l with _ | ⟨v, l⟩
        · have e1 : V.items [] = [] := by unfold V.items; rfl
          rw [e1]; exact empty_list f r
        · unfold V.fitsAll at hl
          simp only [Bool.and_eq_true] at hl
          unfold V.sizes at hs'
          obtain ⟨c, rr, ec, hc⟩ := show_first v
          have h2 := ihQ v l d 1 [] r hl.1 hl.2 (by omega)
          have e2 : 91 :: (V.items (v :: l) ++ [93]) ++ r = 91 :: (v.show ++ V.itemsMore l ++ 93 :: r) := by
            conv => lhs; unfold V.items
            simp
          rw [e2]
          have e3 : v.show ++ V.itemsMore l ++ 93 :: r = c :: (rr ++ V.itemsMore l ++ 93 :: r) := by rw [ec]; rfl
          have h1 := list_back f c (rr ++ V.itemsMore l ++ 93 :: r) hc
          rw [← e3] at h1
          rw [h1, h2]
          conv => rhs; unfold V.items
          simp; omega
      · obtain rfl := H.zero (by decide) (by decide)
        obtain rfl := H.text (by decide)
        have e : (V.mk 6 0 [] l ks).show = 123 :: (V.pairs l ks ++ [125]) := by unfold V.show; simp
        rw [e]
        have hkl := H.keys rfl
        rcases l with _ | ⟨v, l⟩
        · obtain rfl := List.length_eq_zero_iff.1 hkl
          have e1 : V.pairs [] [] = [] := by unfold V.pairs; rfl
          rw [e1]; exact empty_object f r
        · rcases ks with _ | ⟨k, ks⟩
          · simp at hkl
          unfold V.fitsAll at hl
          simp only [Bool.and_eq_true] at hl
          unfold V.sizes at hs'
          have h2 := ihR k v l ks d 1 [] [] r hl.1 hl.2 (by omega) (by simpa using hkl)
          have e2 : 123 :: (V.pairs (v :: l) (k :: ks) ++ [125]) ++ r = 123 :: 34 :: (quoteT k ++ 58 :: (v.show ++ V.pairsMore l ks ++ 125 :: r)) := by
            conv => lhs; unfold V.pairs
            simp [quoteJ]
          rw [e2, object_back]
          have e3 : 34 :: (quoteT k ++ 58 :: (v.show ++ V.pairsMore l ks ++ 125 :: r)) = quoteJ k ++ 58 :: (v.show ++ V.pairsMore l ks ++ 125 :: r) := rfl
          rw [e3, h2]
          conv => rhs; unfold V.pairs
          simp; omega
theorem backL (f : Nat) (ihP : BackV f) (ihQ : BackL f) : BackL (f + 1) := by
  intro v l d n acc r hv hl hs
  rcases l with _ | ⟨u, l⟩
  · have e1 : V.itemsMore [] = [] := by unfold V.itemsMore; rfl
    rw [e1, List.append_nil]
    exact (loop_item f v r n acc (fun r' hr' => ihP v d r' hv (by omega) hr')).1
  · unfold V.fitsAll at hl
    simp only [Bool.and_eq_true] at hl
    unfold V.sizes at hs
    have h1 := (loop_item f v (u.show ++ V.itemsMore l ++ 93 :: r) n acc (fun r' hr' => ihP v d r' hv (by omega) hr')).2
    have h2 := ihQ u l d (n + v.show.length + 1) (acc ++ [v]) r hl.1 hl.2 (by omega)
    have e : v.show ++ V.itemsMore (u :: l) ++ 93 :: r = v.show ++ 44 :: (u.show ++ V.itemsMore l ++ 93 :: r) := by
      conv => lhs; unfold V.itemsMore
      simp
    rw [e, h1, h2]
    conv => rhs; unfold V.itemsMore
    simp; omega
theorem backO (f : Nat) (ihP : BackV f) (ihR : BackO f) : BackO (f + 1) := by
  intro k v l ks d n akc acc r hv hl hs hk
  rcases l with _ | ⟨u, l⟩
  · obtain rfl := List.length_eq_zero_iff.1 hk
    have e1 : V.pairsMore [] [] = [] := by unfold V.pairsMore; rfl
    rw [e1, List.append_nil]
    have h1 := (loop_pair f k v r n akc acc (fun r' hr' => ihP v d r' hv (by omega) hr')).1
    rw [h1]
    simp; omega
  · rcases ks with _ | ⟨k2, ks⟩
    · simp at hk
    unfold V.fitsAll at hl
    simp only [Bool.and_eq_true] at hl
    unfold V.sizes at hs
    have h1 := (loop_pair f k v (quoteJ k2 ++ 58 :: (u.show ++ V.pairsMore l ks ++ 125 :: r)) n akc acc (fun r' hr' => ihP v d r' hv (by omega) hr')).2
    have h2 := ihR k2 u l ks d (n + ((quoteJ k).length + 1 + v.show.length) + 1) (akc ++ [k]) (acc ++ [v]) r hl.1 hl.2 (by omega) (by simpa using hk)
    have e : quoteJ k ++ 58 :: (v.show ++ V.pairsMore (u :: l) (k2 :: ks) ++ 125 :: r) = quoteJ k ++ 58 :: (v.show ++ 44 :: (quoteJ k2 ++ 58 :: (u.show ++ V.pairsMore l ks ++ 125 :: r))) := by
      conv => lhs; unfold V.pairsMore
      simp
    rw [e, h1, h2]
    conv => rhs; unfold V.pairsMore
    simp; omega
theorem back_all : ∀ f, BackV f ∧ BackL f ∧ BackO f
  | 0 => ⟨fun v _ _ _ h _ => absurd h (by have := size_pos v; omega), fun v _ _ _ _ _ _ _ h => absurd h (by omega), fun _ v _ _ _ _ _ _ _ _ _ h _ => absurd h (by omega)⟩
  | f + 1 => ⟨backV f (back_all f).2.1 (back_all f).2.2, backL f (back_all f).1 (back_all f).2.1, backO f (back_all f).1 (back_all f).2.2⟩
/-- the reader reads a good value's text -/
theorem show_back (v : V) (d f : Nat) (r : List UInt8) (hf : v.fits d = true) (hs : v.size ≤ f) (hr : noDigit r = true) : valueT f (v.show ++ r) = (v, v.show.length) := (back_all f).1 v d r hf hs hr
end Go.Proofs.YtobicmpgfiddhaaDoor
namespace Go.Proofs.YtobicmpgfiddhaaDoor

theorem show_inj {v u : V} {d e : Nat} (hv : v.fits d = true) (hu : u.fits e = true) (h : v.show = u.show) : v = u := by
  have a := show_back v d (v.size + u.size) [] hv (by omega) rfl
  have b := show_back u e (v.size + u.size) [] hu (by omega) rfl
  rw [h, b] at a
  exact ((Prod.mk.injEq _ _ _ _).mp a).1.symm
theorem fits_mono : ∀ d, (∀ v : V, v.fits d = true → v.fits (d + 1) = true)
  | 0, v, h => by obtain ⟨k, n, t, l, ks⟩ := v; unfold V.fits at h; cases h
  | d + 1, v, h => by
    obtain ⟨k, n, t, l, ks⟩ := v
    unfold V.fits at h ⊢
    simp only [Bool.and_eq_true] at h ⊢
    refine ⟨h.1, ?_⟩
    have hl := h.2
    clear h
    induction l with
    | nil => unfold V.fitsAll; rfl
    | cons v r ih =>
      unfold V.fitsAll at hl ⊢
      simp only [Bool.and_eq_true] at hl ⊢
      exact ⟨fits_mono d v hl.1, ih hl.2⟩
theorem fits_le (v : V) {d e : Nat} (h : d ≤ e) (hv : v.fits d = true) : v.fits e = true := by
  induction h with
  | refl => exact hv
  | step _ ih => exact fits_mono _ v ih
theorem fitsAll_iff (l : List V) (d : Nat) : V.fitsAll l d = true ↔ ∀ v ∈ l, v.fits d = true := by
  induction l with
  | nil => unfold V.fitsAll; simp
  | cons v r ih => unfold V.fitsAll; simp [ih]
theorem itemsMore_mem (l : List V) : ∀ v ∈ l, v.show.length + 1 ≤ (V.itemsMore l).length := by
  induction l with
  | nil => intro v h; cases h
  | cons u r ih =>
    intro v h
    unfold V.itemsMore
    rw [List.length_cons, List.length_append]
    rcases List.mem_cons.1 h with rfl | h
    · omega
    · have := ih v h; omega
theorem pairsMore_mem (l : List V) : ∀ (ks : List (List UInt8)), ∀ v ∈ l, v.show.length + 1 ≤ (V.pairsMore l ks).length := by
  induction l with
  | nil => intro ks v h; cases h
  | cons u r ih =>
    intro ks v h
    unfold V.pairsMore
    rw [List.length_cons, List.length_append, List.length_cons, List.length_append]
    rcases List.mem_cons.1 h with rfl | h
    · omega
    · have := ih ks.tail v h; omega
theorem items_mem (l : List V) : ∀ v ∈ l, v.show.length ≤ (V.items l).length := by
  cases l with
  | nil => intro v h; cases h
  | cons u r =>
    intro v h
    unfold V.items
    rw [List.length_append]
    rcases List.mem_cons.1 h with rfl | h
    · omega
    · have := itemsMore_mem r v h; omega
theorem pairs_mem (l : List V) (ks : List (List UInt8)) : ∀ v ∈ l, v.show.length ≤ (V.pairs l ks).length := by
  cases l with
  | nil => intro v h; cases h
  | cons u r =>
    intro v h
    unfold V.pairs
    rw [List.length_append, List.length_cons, List.length_append]
    rcases List.mem_cons.1 h with rfl | h
    · omega
    · have := pairsMore_mem r ks.tail v h; omega
/-- what lies in a value has a shorter text -/
theorem show_mem {k n : Int} {t : List UInt8} {l : List V} {ks : List (List UInt8)} (h : headB k n t l.length ks = true) : ∀ v ∈ l, v.show.length + 2 ≤ (V.mk k n t l ks).show.length := by
  have H := head_says h
  intro v hv
  have hk : k = 5 ∨ k = 6 := by
    by_cases h5 : k = 5
    · exact Or.inl h5
    · by_cases h6 : k = 6
      · exact Or.inr h6
      · have := H.list h5 h6
        have := List.length_pos_of_mem hv
        omega
  rcases hk with rfl | rfl
  · have e : (V.mk 5 n t l ks).show = 91 :: (V.items l ++ [93]) := by unfold V.show; simp
    rw [e]
    have := items_mem l v hv
    simp; omega
  · have e : (V.mk 6 n t l ks).show = 123 :: (V.pairs l ks ++ [125]) := by unfold V.show; simp
    rw [e]
    have := pairs_mem l ks v hv
    simp; omega
/-- a value is no deeper than its text is long -/
theorem fits_len : ∀ (d : Nat) (v : V), v.fits d = true → v.fits v.show.length = true
  | 0, v, h => by obtain ⟨k, n, t, l, ks⟩ := v; unfold V.fits at h; cases h
  | d + 1, v, h => by
    have hp := show_pos v
    obtain ⟨m, hm⟩ : ∃ m, v.show.length = m + 1 := ⟨v.show.length - 1, by omega⟩
    obtain ⟨k, n, t, l, ks⟩ := v
    unfold V.fits at h
    simp only [Bool.and_eq_true] at h
    have hs := show_mem h.1
    rw [hm] at hs ⊢
    unfold V.fits
    simp only [Bool.and_eq_true]
    refine ⟨h.1, (fitsAll_iff l m).2 fun v hv => ?_⟩
    have h1 := fits_len d v ((fitsAll_iff l d).1 h.2 v hv)
    exact fits_le v (by have := hs v hv; omega) h1
theorem sizes_more (l : List V) (h : ∀ v ∈ l, v.size ≤ 2 * v.show.length) : V.sizes l ≤ 2 * (V.itemsMore l).length := by
  induction l with
  | nil => unfold V.sizes; omega
  | cons v r ih =>
    unfold V.sizes V.itemsMore
    rw [List.length_cons, List.length_append]
    have h1 := h v (by simp)
    have h2 := ih (fun u hu => h u (by simp [hu]))
    omega
theorem sizes_pairs (l : List V) : ∀ (ks : List (List UInt8)), (∀ v ∈ l, v.size ≤ 2 * v.show.length) → V.sizes l ≤ 2 * (V.pairsMore l ks).length := by
  induction l with
  | nil => intro ks _; unfold V.sizes; omega
  | cons v r ih =>
    intro ks h
    unfold V.sizes V.pairsMore
    rw [List.length_cons, List.length_append, List.length_cons, List.length_append]
    have h1 := h v (by simp)
    have h2 := ih ks.tail (fun u hu => h u (by simp [hu]))
    omega
theorem show_list (n : Int) (t : List UInt8) (l : List V) (ks : List (List UInt8)) : (V.mk 5 n t l ks).show = 91 :: (V.items l ++ [93]) := by unfold V.show; simp
theorem show_object (n : Int) (t : List UInt8) (l : List V) (ks : List (List UInt8)) : (V.mk 6 n t l ks).show = 123 :: (V.pairs l ks ++ [125]) := by unfold V.show; simp
theorem items_cons (v : V) (r : List V) : V.items (v :: r) = v.show ++ V.itemsMore r := by conv => lhs; unfold V.items
theorem pairs_cons (v : V) (r : List V) (ks : List (List UInt8)) : V.pairs (v :: r) ks = quoteJ (ks.headD []) ++ 58 :: (v.show ++ V.pairsMore r ks.tail) := by conv => lhs; unfold V.pairs
theorem size_show : ∀ (d : Nat) (v : V), v.fits d = true → v.size ≤ 2 * v.show.length
  | 0, v, h => by obtain ⟨k, n, t, l, ks⟩ := v; unfold V.fits at h; cases h
  | d + 1, v, h => by
    have hp := show_pos v
    obtain ⟨k, n, t, l, ks⟩ := v
    unfold V.fits at h
    simp only [Bool.and_eq_true] at h
    have H := head_says h.1
    have ih : ∀ v ∈ l, v.size ≤ 2 * v.show.length := fun v hv => size_show d v ((fitsAll_iff l d).1 h.2 v hv)
    have hsz : (V.mk k n t l ks).size = 2 + V.sizes l := by unfold V.size; rfl
    rw [hsz]
    rcases l with _ | ⟨v, r⟩
    · unfold V.sizes; omega
    · have hk : k = 5 ∨ k = 6 := by
        by_cases h5 : k = 5
        · exact Or.inl h5
        · by_cases h6 : k = 6
          · exact Or.inr h6
          · have := H.list h5 h6; simp at this
      unfold V.sizes
      have hv := ih v (by simp)
      rcases hk with rfl | rfl
      · have e : (V.mk 5 n t (v :: r) ks).show = 91 :: (v.show ++ V.itemsMore r ++ [93]) := by rw [show_list, items_cons]
        rw [e]
        have := sizes_more r (fun u hu => ih u (by simp [hu]))
        simp; omega
      · have e : (V.mk 6 n t (v :: r) ks).show = 123 :: (quoteJ (ks.headD []) ++ 58 :: (v.show ++ V.pairsMore r ks.tail) ++ [125]) := by rw [show_object, pairs_cons]
        rw [e]
        have := sizes_pairs r ks.tail (fun u hu => ih u (by simp [hu]))
        simp; omega

/-! ## what Parse answers -/
/-- the text of a good value, however deep -/
def TextOf (s : List UInt8) (v : V) : Prop := (∃ d, v.fits d = true) ∧ v.show = s
theorem TextOf.one {s : List UInt8} {v u : V} (h : TextOf s v) (h' : TextOf s u) : v = u := by
  obtain ⟨⟨d, hd⟩, hs⟩ := h
  obtain ⟨⟨e, he⟩, hs'⟩ := h'
  exact show_inj hd he (hs.trans hs'.symm)
/-- the value of which a text is the text -/
def readV (s : List UInt8) : Option V :=
  match valueT (2 * s.length + 2) s with
  | (v, n) => if n = s.length ∧ v.fits 5000 = true ∧ v.show = s then some v else none
theorem readV_some {s : List UInt8} {v : V} (h : readV s = some v) : TextOf s v := by
  unfold readV at h
  generalize valueT (2 * s.length + 2) s = x at h
  obtain ⟨u, n⟩ := x
  simp only at h
  split at h
  · rename_i hc
    injection h with h; subst h
    exact ⟨⟨5000, hc.2.1⟩, hc.2.2⟩
  · cases h
theorem readV_of {s : List UInt8} {v : V} (h : TextOf s v) (hs : s.length ≤ 4096) : readV s = some v := by
  obtain ⟨⟨d, hd⟩, rfl⟩ := h
  have hb := show_back v d (2 * v.show.length + 2) [] hd (by have := size_show d v hd; omega) rfl
  rw [List.append_nil] at hb
  unfold readV
  rw [hb]
  simp only
  rw [if_pos ⟨trivial, fits_le v (by omega) (fits_len d v hd), trivial⟩]
/-- Parse: the value, and the error's number -/
def parseV (s : List UInt8) : V × Int :=
  if 4096 < s.length then (V.zero, 3) else
    match readV s with
    | none => (V.zero, 2)
    | some v => if v.fits 8 then (v, 0) else (V.zero, 4)
end Go.Proofs.YtobicmpgfiddhaaDoor
