/- Texts merged by program, in build order: LinkMany, LawLinkT, LawLinkU, LinkHold, ItoaDec, KitIn. -/
import Derived.Test.YtkbjpgfdmkmbmaaDoorG13
import Derived.Test.YtkbjpgfdmkmbmaaDoorG12
import Derived.Lib.ItoaMem
import Derived.Test.YtkbjpgfdmkmbmaaDoorG01
import Derived.Lib.LaidTab
import Derived.Lib.ItoaNum
import Derived.Lib.SmallJoins
set_option linter.unusedVariables false
set_option linter.unusedSimpArgs false
namespace Go.Proofs.YtkbjpgfdmkmbmaaDoor
open Go.Op (bytesLess)
set_option linter.unusedVariables false
set_option linter.unusedSimpArgs false

theorem getR_no {k : List UInt8} : ∀ rows : RowL, getR rows k = none → ∀ r ∈ rows, r.1 ≠ k
  | [], _, r, hr => by cases hr
  | x :: rows, h, r, hr => by
    have h : (if x.1 = k then some x.2 else getR rows k) = none := h
    by_cases hx : x.1 = k
    · rw [if_pos hx] at h; cases h
    · rw [if_neg hx] at h
      rcases List.mem_cons.1 hr with rfl | hr
      · exact hx
      · exact getR_no rows h r hr
theorem insL_new (k v : List UInt8) : ∀ rows : RowL, getR rows k = none → (insL k v false rows).length = rows.length + 1
  | [], _ => rfl
  | r :: rs, h => by
    have hr := getR_no (r :: rs) h r (List.mem_cons_self ..)
    have h2 : getR rs k = none := by
      have h : (if r.1 = k then some r.2 else getR rs k) = none := h
      rwa [if_neg hr] at h
    unfold insL
    rw [if_neg hr]
    cases hl : bytesLess r.1 k with
    | true =>
      rw [if_neg (fun e => by cases e.2), List.nil_append, List.length_append]
      rw [show (false || !true) = false from rfl, insL_new k v rs h2]
      simp only [List.length_cons, List.length_nil]
      omega
    | false =>
      rw [if_pos ⟨rfl, rfl⟩, show (false || !false) = true from rfl, insL_placed]
      have hf : (rs.filter fun r => decide (r.1 ≠ k)) = rs := List.filter_eq_self.2 fun x hx => by
        have := getR_no rs h2 x hx
        simp [this]
      rw [hf]
      simp only [List.length_append, List.length_cons, List.length_nil]
      omega
/-- all rows are links -/
def LinkRows (rows : RowL) : Prop := ∀ r ∈ rows, r.1.take 1 = [108]
theorem linkRows_keys {rows : RowL} (h : LinkRows rows) : (keysR rows [108]).length = rows.length := by
  unfold keysR
  rw [List.filter_eq_self.2, List.length_map]
  intro k hk
  obtain ⟨r, hr, rfl⟩ := List.mem_map.1 hk
  simpa using h r hr
theorem linkRows_ins {rows : RowL} (h : LinkRows rows) (c s v : List UInt8) : LinkRows (insL (lkeyL c s) v false rows) := fun r hr => by
  rcases insL_mem _ _ _ _ _ hr with hr | rfl
  · exact h r hr
  · rfl
/-- n subjects of connector c, linked one by one -/
def linksN (c : List UInt8) (subj : Nat → List UInt8) : Nat → RowL
  | 0 => []
  | n + 1 => insL (lkeyL c (subj n)) (userL c (subj n)) false (linksN c subj n)
theorem linksN_get (c : List UInt8) (subj : Nat → List UInt8) (x : List UInt8) : ∀ n, getR (linksN c subj n) x = none ∨ ∃ j, j < n ∧ x = lkeyL c (subj j)
  | 0 => .inl rfl
  | n + 1 => by
    show getR (insL _ _ false _) x = none ∨ _
    rw [getR_ins]
    by_cases h : x = lkeyL c (subj n)
    · exact .inr ⟨n, Nat.lt_succ_self n, h⟩
    · rw [if_neg h]
      rcases linksN_get c subj x n with h' | ⟨j, hj, h'⟩
      · exact .inl h'
      · exact .inr ⟨j, Nat.lt_succ_of_lt hj, h'⟩
theorem linksN_has (c : List UInt8) (subj : Nat → List UInt8) : ∀ n j, j < n → (getR (linksN c subj n) (lkeyL c (subj j))).isSome = true
  | 0, j, h => absurd h (Nat.not_lt_zero j)
  | n + 1, j, h => by
    show (getR (insL _ _ false _) _).isSome = true
    rw [getR_ins]
    by_cases he : lkeyL c (subj j) = lkeyL c (subj n)
    · rw [if_pos he]; rfl
    · rw [if_neg he]
      refine linksN_has c subj n j ?_
      rcases Nat.lt_succ_iff_lt_or_eq.1 h with h | rfl
      · exact h
      · exact absurd rfl he
theorem linksN_rows (c : List UInt8) (subj : Nat → List UInt8) : ∀ n, LinkRows (linksN c subj n)
  | 0 => fun r hr => by cases hr
  | n + 1 => linkRows_ins (linksN_rows c subj n) c (subj n) _
theorem linksN_len (c : List UInt8) (subj : Nat → List UInt8) (m : Nat) (hinj : ∀ i j, i < m → j < m → subj i = subj j → i = j) : ∀ n, n ≤ m → (linksN c subj n).length = n
  | 0, _ => rfl
  | n + 1, h => by
    have ih := linksN_len c subj m hinj n (by omega)
    show (insL _ _ false _).length = _
    rw [insL_new, ih]
    rcases linksN_get c subj (lkeyL c (subj n)) n with h' | ⟨j, hj, h'⟩
    · exact h'
    · have := hinj n j (by omega) (by omega) (lkeyL_inj h').2
      omega
theorem linksN_turn (c : List UInt8) (subj : Nat → List UInt8) (n : Nat) : turnL (linksN c subj n) [⟨lkeyL c (subj n), userL c (subj n), false⟩] = linksN c subj (n + 1) := rfl
/-- what Resolve answers behind n links of m that there are in all -/
theorem linkR_new (c : List UInt8) (subj : Nat → List UInt8) (m : Nat) (hinj : ∀ i j, i < m → j < m → subj i = subj j → i = j) (n : Nat) (hn : n < m) (h32 : n < 32) :
    linkR (linksN c subj n) c true (subj n) = (userL c (subj n), [⟨lkeyL c (subj n), userL c (subj n), false⟩], 0) := by
  have hno : getR (linksN c subj n) (lkeyL c (subj n)) = none := by
    rcases linksN_get c subj (lkeyL c (subj n)) n with h' | ⟨j, hj, h'⟩
    · exact h'
    · have := hinj n j hn (by omega) (lkeyL_inj h').2
      omega
  unfold linkR
  rw [hno]
  dsimp only
  rw [if_neg (by decide), if_neg]
  rw [linkRows_keys (linksN_rows c subj n), linksN_len c subj m hinj n (by omega)]
  omega
theorem linkR_full (c : List UInt8) (subj : Nat → List UInt8) (m : Nat) (hinj : ∀ i j, i < m → j < m → subj i = subj j → i = j) (h32 : 32 ≤ m) (s : List UInt8) (hs : ∀ j, j < 32 → s ≠ subj j) :
    linkR (linksN c subj 32) c true s = ([], [], 7) := by
  have hno : getR (linksN c subj 32) (lkeyL c s) = none := by
    rcases linksN_get c subj (lkeyL c s) 32 with h' | ⟨j, hj, h'⟩
    · exact h'
    · exact absurd (lkeyL_inj h').2 (hs j hj)
  unfold linkR
  rw [hno]
  dsimp only
  rw [if_neg (by decide), if_pos]
  rw [linkRows_keys (linksN_rows c subj 32), linksN_len c subj m hinj 32 h32]
  exact Nat.le_refl _
theorem linkR_other (c : List UInt8) (subj : Nat → List UInt8) (m : Nat) (hinj : ∀ i j, i < m → j < m → subj i = subj j → i = j) (n : Nat) (hn : n ≤ m) (h32 : n < 32) (s : List UInt8) (hs : ∀ j, j < n → s ≠ subj j) :
    linkR (linksN c subj n) c true s = (userL c s, [⟨lkeyL c s, userL c s, false⟩], 0) := by
  have hno : getR (linksN c subj n) (lkeyL c s) = none := by
    rcases linksN_get c subj (lkeyL c s) n with h' | ⟨j, hj, h'⟩
    · exact h'
    · exact absurd (lkeyL_inj h').2 (hs j hj)
  unfold linkR
  rw [hno]
  dsimp only
  rw [if_neg (by decide), if_neg]
  rw [linkRows_keys (linksN_rows c subj n), linksN_len c subj m hinj n hn]
  omega
theorem linkR_there (c : List UInt8) (subj : Nat → List UInt8) (n j : Nat) (hj : j < n) (o : Bool) : (linkR (linksN c subj n) c o (subj j)).2 = ([], 0) := by
  have h := linksN_has c subj n j hj
  unfold linkR
  cases hg : getR (linksN c subj n) (lkeyL c (subj j)) with
  | none => rw [hg] at h; cases h
  | some v => rfl
/-- one subject linked, asked for again, taken away -/
theorem link_one (c a : List UInt8) : turnL [] [⟨lkeyL c a, userL c a, false⟩] = [(lkeyL c a, userL c a)] := rfl
theorem link_again (c a b : List UInt8) : linkR [(lkeyL c a, userL c a)] c false b = if a = b then (userL c a, [], 0) else ([], [], 6) := by
  have hg : getR [(lkeyL c a, userL c a)] (lkeyL c b) = if lkeyL c a = lkeyL c b then some (userL c a) else none := rfl
  unfold linkR
  rw [hg]
  by_cases h : a = b
  · subst h; simp
  · rw [if_neg (fun e => h (lkeyL_inj e).2), if_neg h]
    rfl
theorem unlink_one (c a : List UInt8) : unlinkR [(lkeyL c a, userL c a)] c a = ([⟨lkeyL c a, [], true⟩], true) := by
  unfold unlinkR
  show (match (if lkeyL c a = lkeyL c a then some (userL c a) else none) with | some _ => _ | none => _) = _
  rw [if_pos rfl]
theorem unlink_turn (c a : List UInt8) : turnL [(lkeyL c a, userL c a)] [⟨lkeyL c a, [], true⟩] = [] := by
  show insL (lkeyL c a) [] true [(lkeyL c a, userL c a)] = []
  rw [insL_placed]
  simp
theorem link_none (c a : List UInt8) : linkR [] c false a = ([], [], 6) := rfl
theorem link_first (c a : List UInt8) : linkR [] c true a = (userL c a, [⟨lkeyL c a, userL c a, false⟩], 0) := rfl
end Go.Proofs.YtkbjpgfdmkmbmaaDoor
namespace Go.Proofs.YtkbjpgfdmkmbmaaDoor
open Go.RowKit
set_option linter.unusedVariables false
set_option linter.unusedSimpArgs false

theorem user_len (c s : List UInt8) : (userL c s).length = c.length + s.length + 1 := by
  unfold userL
  rw [List.length_append, List.length_cons]
  omega
theorem link_rec (c a : List UInt8) (h : c.length + a.length ≤ 1000) : (recL [⟨lkeyL c a, userL c a, false⟩]).length ≤ 32768 := by
  have h1 := lkeyL_len c a (by omega)
  have h2 := user_len c a
  rw [recL_len, recAll_cons, List.length_append, recOne_len]
  have h3 : (Ch.val ⟨lkeyL c a, userL c a, false⟩) = userL c a := rfl
  rw [h3]
  show 4 + (12 + (lkeyL c a).length + (userL c a).length + (recAll []).length) ≤ _
  rw [show (recAll ([] : List Ch)).length = 0 from rfl]
  omega
theorem unlink_rec (c a : List UInt8) (h : c.length + a.length ≤ 1000) : (recL [⟨lkeyL c a, [], true⟩]).length ≤ 32768 := by
  have h1 := lkeyL_len c a (by omega)
  rw [recL_len, recAll_cons, List.length_append, recOne_len]
  have h3 : (Ch.val ⟨lkeyL c a, [], true⟩) = [] := rfl
  rw [h3]
  show 4 + (12 + (lkeyL c a).length + 0 + (recAll []).length) ≤ _
  rw [show (recAll ([] : List Ch)).length = 0 from rfl]
  omega
variable {CT : World → (Nat → Prop) → Nat → TP → Prop} {CS : World → (Nat → Prop) → Nat → Nat → RowL → Prop}
/-- small changes are done -/
theorem StoL.do_small (H : CodeStore CT CS) {w0 w : World} {p : Nat} {rows : RowL} {F : Nat → Prop} (h : StoL CT CS w0 w p rows F) (A : Option Addr) (c n : Nat) (l : List Ch) (hn : l.length = n) (hrl : rows.length ≤ 50000) (hr : RoundsIn w0) (hc : RdC w (.slice A n c) l) (hll : n ≤ 50000) (h1 : (recL l).length ≤ 32768) (h2 : (recL (allR (turnL rows l))).length ≤ 32768)
    (ho : ∀ g, (Value.slice A n c).ownBlock = some g → n ≠ 0 → F g) : Calls Tryd.prog 8 #[.pointer (some ⟨p, 0, none⟩), .slice A n c] w fun e w' =>
    e = .returned (.int .i64 0) ∧ StoL CT CS w0 w' p (turnL rows l) F ∧ (∀ b, F b → w'.heap[b]? = w.heap[b]?) := by
  subst hn
  refine (h.do_ H A c l hrl hr hc hll (by omega) (by omega) ho).mono ?_
  rintro e w' ⟨r, rows', rfl, h3, h4, h5⟩
  rcases h5 with ⟨rfl, rfl, _⟩ | ⟨rfl, rfl, _, h6⟩ | ⟨rfl, rfl, h6⟩
  · exact ⟨rfl, h3, h4⟩
  · omega
  · omega
/-- behind a call that makes memory: what was to stay stays, and what is new -/
theorem StoL.on (HT : TapeL CT) (H : CodeStore CT CS) {w0 w w' : World} {p : Nat} {rows : RowL} {F : Nat → Prop} (h : StoL CT CS w0 w p rows F) (hb : Below w.heap.size w w') : ∃ F', StoL CT CS w0 w' p rows F' ∧ (∀ b, F b → F' b) ∧ ∀ b, w.heap.size ≤ b → b < w'.heap.size → F' b :=
  ⟨_, h.later HT H hb, fun b hF => .inl hF, fun b h1 h2 => .inr ⟨h1, h2⟩⟩
/-- a cell of a block that stays is written -/
theorem StoL.set (HT : TapeL CT) (H : CodeStore CT CS) {w0 w : World} {p : Nat} {rows : RowL} {F : Nat → Prop} (h : StoL CT CS w0 w p rows F) {b : Nat} (hF : F b) (hb : w0.heap.size ≤ b) (o : Nat) (v : Value) : StoL CT CS w0 (w.setCell ⟨b, o, none⟩ v) p rows F := by
  obtain ⟨T, S, q, t, h1, h2, h3, h4, h5⟩ := h.out
  refine ⟨⟨T, S, q, t, HT.keep h1 (by rw [set_size]; exact Nat.le_refl _) fun x hx => set_there v (fun e => (h4 x (.inl hx)).2 (by rw [e]; exact hF)), H.keep h2 (by rw [set_size]; exact Nat.le_refl _) fun x hx => set_there v (fun e => (h4 x (.inr hx)).2 (by rw [e]; exact hF)), h3, h4, h5⟩, fun x hx => by rw [set_size]; exact h.old x hx, h.low.setCell (p := ⟨b, o, none⟩) hb v⟩
theorem box7_of {w : World} {b : Nat} {c0 c1 c2 c3 c4 c5 c6 : Value} {t : TypeId} {fr : Nat × Nat} (h : w.heap[b]? = some (.cells #[c0, c1, c2, c3, c4, c5, c6] t fr)) :
    w.cell? ⟨b, 0, none⟩ = some c0 ∧ w.cell? ⟨b, 1, none⟩ = some c1 ∧ w.cell? ⟨b, 2, none⟩ = some c2 ∧ w.cell? ⟨b, 3, none⟩ = some c3 ∧ w.cell? ⟨b, 4, none⟩ = some c4 ∧ w.cell? ⟨b, 5, none⟩ = some c5 ∧ w.cell? ⟨b, 6, none⟩ = some c6 :=
  ⟨cell_here h, cell_here h, cell_here h, cell_here h, cell_here h, cell_here h, cell_here h⟩
theorem rdc_own {w : World} {A : Option Addr} {c n : Nat} {l : List Ch} (h : RdC w (.slice A n c) l) (h0 : l.length ≠ 0) : ∀ g, (Value.slice A n c).ownBlock = some g → g < w.heap.size := fun g hg => by
  obtain ⟨g', o, rfl, hl, _⟩ := h.at 0 (by omega)
  injection hg with hg
  rw [← hg]; exact hl
theorem eq_texts (a b : List UInt8) (A B : ByteArray) (hA : A = ⟨a.toArray⟩) (hB : B = ⟨b.toArray⟩) : (A.toList == B.toList) = decide (a = b) := by
  rw [hA, hB, ByteArray.toList_eq, ByteArray.toList_eq]
  show (a == b) = _
  by_cases h : a = b <;> simp [h]
set_option maxRecDepth 100000 in
set_option maxHeartbeats 8000000 in
theorem linkTwice_at (HT : TapeL CT) (H : CodeStore CT CS) (cn a b : List UInt8) (hc : cn.length ≤ 1000000000000000) (ha : a.length ≤ 1000000000000000) (hb : b.length ≤ 1000000000000000) (w : World) (K : CodeLink w CS) (hrd : RoundsIn w) :
    Calls Tryd.prog 3 #[tv cn, tv a, tv b] w fun e w' => e = .returned (.bool true) ∧ Below w.heap.size w w' := by
  have hst := fun (W : World) (hb : Below w.heap.size w W) => stored_none HT H W (hrd.below hb)
  have hans := fun (W : World) (hb : Below w.heap.size w W) => answers15_any HT H W (K.later hb) (hrd.below hb)
  have HST := Lib.hid hst; have HANS := Lib.hid hans; have KK := Lib.hid K; have HH := Lib.hid H; have HHT := Lib.hid HT; have HRD := Lib.hid hrd
  obtain ⟨B0, hB0⟩ : ∃ B : ByteArray, B = ⟨cn.toArray⟩ := ⟨_, rfl⟩
  obtain ⟨B1, hB1⟩ : ∃ B : ByteArray, B = ⟨a.toArray⟩ := ⟨_, rfl⟩
  obtain ⟨B2, hB2⟩ : ∃ B : ByteArray, B = ⟨b.toArray⟩ := ⟨_, rfl⟩
  have z0 : B0.size = cn.length := by rw [hB0]; show cn.toArray.size = _; simp
  have z1 : B1.size = a.length := by rw [hB1]; show a.toArray.size = _; simp
  have z2 : B2.size = b.length := by rw [hB2]; show b.toArray.size = _; simp
  have hab := eq_texts a b B1 B2 hB1 hB2
  have t0 : tv cn = .string B0 := by rw [hB0]; rfl
  have t1 : tv a = .string B1 := by rw [hB1]; rfl
  have t2 : tv b = .string B2 := by rw [hB2]; rfl
  rw [t0, t1, t2]
  have T0 := Lib.hid t0; have T1 := Lib.hid t1; have T2 := Lib.hid t2; have Z0 := Lib.hid z0; have Z1 := Lib.hid z1; have Z2 := Lib.hid z2; have HAB := Lib.hid hab
  clear hst hans K H HT hrd hB0 hB1 hB2 t0 t1 t2 hab
  have hw1 : IntKind.i64.wrap ((B0.size : Int) + B1.size) = (B0.size : Int) + B1.size := wraps_i64 _ (by omega) (by omega)
  have hw2 : IntKind.i64.wrap ((B0.size : Int) + B1.size + B2.size) = (B0.size : Int) + B1.size + B2.size := wraps_i64 _ (by omega) (by omega)
  by_cases hbig : B0.size + B1.size + B2.size ≤ 1000
  · have hb' : ¬ (1000 : Int) < (B0.size : Int) + B1.size + B2.size := by omega
    clear z0 z1 z2
    go_enter Tryd.func3, Tryd.ntmps3
    go_wp2_with fail
    refine (HST.out w (Below.refl _ _)).mono ?_
    rintro e w1 ⟨p, v, rfl, hs1, -⟩
    have S1 := Lib.hid hs1
    clear hs1
    dsimp only
    go_upto_region 5 with fail
    obtain ⟨E, hE⟩ : ∃ E : Value, E = .string ⟨#[]⟩ := ⟨_, rfl⟩
    obtain ⟨bx, hbx⟩ : ∃ b, w1.heap.size = b := ⟨_, rfl⟩
    obtain ⟨W2, hW2⟩ : ∃ W, w1.alloc (.cells #[.string B0, .string ⟨#[]⟩, .string ⟨#[]⟩, .string ⟨#[]⟩, .string ⟨#[]⟩, .bool true, .string ⟨#[]⟩] 29 (0, 0)) = W := ⟨_, rfl⟩
    have hb2 : Below w1.heap.size w1 W2 := by rw [← hW2]; exact (Below.refl _ _).alloc (Nat.le_refl _) _
    have k2 : W2.heap[bx]? = some (.cells #[.string B0, .string ⟨#[]⟩, .string ⟨#[]⟩, .string ⟨#[]⟩, .string ⟨#[]⟩, .bool true, .string ⟨#[]⟩] 29 (0, 0)) := by rw [← hW2, ← hbx]; exact heap_alloc_last w1 _
    have hbx2 : bx < W2.heap.size := (Array.getElem?_eq_some_iff.1 k2).1
    obtain ⟨F2, hs2, -, hnew2⟩ := S1.out.on HHT.out HH.out hb2
    have hF2 : F2 bx := hnew2 bx (by rw [hbx]; exact Nat.le_refl _) hbx2
    have hwb : w.heap.size ≤ bx := by rw [← hbx]; exact S1.out.low.size
    rw [hW2, hbx]
    have hcv : ∀ G, ConnP.val ⟨cn, [], [], [], [], G, []⟩ = .agg #[.string B0, .string ⟨#[]⟩, .string ⟨#[]⟩, .string ⟨#[]⟩, .string ⟨#[]⟩, .bool G, .string ⟨#[]⟩] := fun G => by unfold ConnP.val; rw [T0.out]; rfl
    have HCV := Lib.hid hcv; have S2 := Lib.hid hs2; have F2h := Lib.hid hF2; have WB := Lib.hid hwb; have K2 := Lib.hid k2
    obtain ⟨q0, q1, q2, q3, q4, q5, q6⟩ := box7_of k2
    clear hcv hs2 hF2 hnew2 hwb hW2 hbx hb2 k2 hbx2 hE E S1
    have hl1 : cn.length + a.length ≤ 1000 := by have := Z0.out; have := Z1.out; omega
    have hl2 : cn.length + b.length ≤ 1000 := by have := Z0.out; have := Z2.out; omega
    have hres := S2.out.resolve KK.out ⟨cn, [], [], [], [], true, []⟩ a (show cn.length + a.length ≤ 2000 by omega) (by decide)
    rw [HCV.out, T1.out] at hres
    dsimp only at hres
    rw [link_first] at hres
    obtain ⟨U, hU⟩ : ∃ B : ByteArray, B = ⟨(userL cn a).toArray⟩ := ⟨_, rfl⟩
    have tu : tv (userL cn a) = .string U := by rw [hU]; rfl
    have TU := Lib.hid tu
    dsimp only at hres
    rw [tu] at hres
    have HRES := Lib.hid hres; have HL1 := Lib.hid hl1; have HL2 := Lib.hid hl2
    clear hres tu hU hl1 hl2
    go_wp2_with fail
    refine HRES.out.mono ?_
    rintro e w3 ⟨⟨v3, rfl, hr3, hn3⟩, hb3⟩
    obtain ⟨A3, c3, rfl, -, -⟩ : ∃ A3 c3, v3 = .slice A3 1 c3 ∧ True ∧ True := by
      obtain ⟨A3, c3, e, _⟩ := hr3
      exact ⟨A3, c3, e, trivial, trivial⟩
    obtain ⟨F3, hs3, hold3, hnew3⟩ := S2.out.on HHT.out HH.out hb3
    have hdo := hs3.do_small HH.out A3 c3 1 [⟨lkeyL cn a, userL cn a, false⟩] rfl (by decide) HRD.out hr3 (by decide) (link_rec cn a HL1.out) (by rw [link_one]; exact link_rec cn a HL1.out) (fun g hg h0 => hnew3 g (hn3 g hg (by show 1 ≠ 0; decide)) (rdc_own hr3 (by show 1 ≠ 0; decide) g hg))
    rw [link_one] at hdo
    have hF3 : F3 bx := hold3 bx F2h.out
    have HDO := Lib.hid hdo; have F3h := Lib.hid hF3; have K3 := Lib.hid (blk_below K2.out hb3)
    clear hdo hF3 hold3 hnew3 hs3 hr3 hn3 hb3 q0 q1 q2 q3 q4 q5 q6
    dsimp only
    go_wp2_with fail
    refine HDO.out.mono ?_
    rintro e w4 ⟨rfl, hs4, hk4⟩
    have k4 := (hk4 bx F3h.out).trans K3.out
    have hs5 := hs4.set HHT.out HH.out F3h.out WB.out 5 (.bool false)
    have k5 := set_here (o := 5) k4 (.bool false)
    obtain ⟨q0, q1, q2, q3, q4, q5, q6⟩ := box7_of k4
    have f5 := frozen_here k4 5
    have K5 := Lib.hid k5; have S5 := Lib.hid hs5
    clear k4 k5 hs4 hk4 hs5
    dsimp only
    go_upto_region 8 with fail
    obtain ⟨W5, hW5⟩ : ∃ W, w4.setCell ⟨bx, 5, none⟩ (.bool false) = W := ⟨_, rfl⟩
    have hs5 := S5.out
    have k5 := K5.out
    rw [hW5] at hs5 k5 ⊢
    have k5' : W5.heap[bx]? = some (.cells #[.string B0, .string ⟨#[]⟩, .string ⟨#[]⟩, .string ⟨#[]⟩, .string ⟨#[]⟩, .bool false, .string ⟨#[]⟩] 29 (0, 0)) := by simpa using k5
    have K5' := Lib.hid k5'; have S5' := Lib.hid hs5
    clear q0 q1 q2 q3 q4 q5 q6 f5 k5 hs5 hW5
    obtain ⟨q0, q1, q2, q3, q4, q5, q6⟩ := box7_of k5'
    have hres := S5'.out.resolve KK.out ⟨cn, [], [], [], [], false, []⟩ a (show cn.length + a.length ≤ 2000 by have := HL1.out; omega) (by show 1 ≤ 100000; decide)
    rw [HCV.out, T1.out] at hres
    dsimp only at hres
    rw [link_again, if_pos rfl] at hres
    dsimp only at hres
    rw [TU.out] at hres
    have HRES := Lib.hid hres
    clear hres k5'
    go_wp2_with fail
    refine HRES.out.mono ?_
    rintro e w6 ⟨⟨v6, rfl, hr6, -⟩, hb6⟩
    obtain ⟨A6, c6, rfl, -⟩ : ∃ A6 c6, v6 = .slice A6 0 c6 ∧ True := by
      obtain ⟨A6, c6, e, _⟩ := hr6
      exact ⟨A6, c6, e, trivial⟩
    obtain ⟨F6, hs6, hold6, -⟩ := S5'.out.on HHT.out HH.out hb6
    have hF6 := hold6 bx F3h.out
    have k6 := blk_below K5'.out hb6
    have S6 := Lib.hid hs6; have F6h := Lib.hid hF6; have K6 := Lib.hid k6
    clear q0 q1 q2 q3 q4 q5 q6 hs6 hF6 hold6 hr6 hb6
    obtain ⟨q0, q1, q2, q3, q4, q5, q6⟩ := box7_of k6
    have hres := S6.out.resolve KK.out ⟨cn, [], [], [], [], false, []⟩ b (show cn.length + b.length ≤ 2000 by have := HL2.out; omega) (by show 1 ≤ 100000; decide)
    rw [HCV.out, T2.out] at hres
    dsimp only at hres
    rw [link_again] at hres
    obtain ⟨L7, hL7⟩ : ∃ L, (if a = b then (userL cn a, [], 0) else ([], [], 6) : List UInt8 × List Ch × Int) = L := ⟨_, rfl⟩
    rw [hL7] at hres
    obtain ⟨u7, m7, e7⟩ := L7
    dsimp only at hres
    have he7 : (e7 == 0) = decide (a = b) := by
      by_cases h : a = b
      · rw [if_pos h] at hL7
        injection hL7 with _ h2
        injection h2 with _ h3
        rw [← h3, decide_eq_true h]; rfl
      · rw [if_neg h] at hL7
        injection hL7 with _ h2
        injection h2 with _ h3
        rw [← h3, decide_eq_false h]; rfl
    have HE7 := Lib.hid he7
    have HRES := Lib.hid hres
    clear hres k6 hL7 he7
    dsimp only
    go_wp2_with fail
    refine HRES.out.mono ?_
    rintro e w7 ⟨⟨v7, rfl, hr7, -⟩, hb7⟩
    obtain ⟨F7, hs7, hold7, -⟩ := S6.out.on HHT.out HH.out hb7
    have hF7 := hold7 bx F6h.out
    have k7 := blk_below K6.out hb7
    have hrem := hs7.remove KK.out cn a (by have := HL1.out; omega)
    rw [unlink_one, T0.out, T1.out] at hrem
    dsimp only at hrem
    have S7 := Lib.hid hs7; have F7h := Lib.hid hF7; have K7 := Lib.hid k7; have HREM := Lib.hid hrem
    clear q0 q1 q2 q3 q4 q5 q6 hs7 hF7 hold7 hr7 hb7 k7 hrem
    dsimp only
    go_wp2_with fail
    refine HREM.out.mono ?_
    rintro e w8 ⟨⟨v8, rfl, hr8, hn8⟩, hb8⟩
    obtain ⟨A8, c8, rfl, -⟩ : ∃ A8 c8, v8 = .slice A8 1 c8 ∧ True := by
      obtain ⟨A8, c8, e, _⟩ := hr8
      exact ⟨A8, c8, e, trivial⟩
    obtain ⟨F8, hs8, hold8, hnew8⟩ := S7.out.on HHT.out HH.out hb8
    have hdo := hs8.do_small HH.out A8 c8 1 [⟨lkeyL cn a, [], true⟩] rfl (by show 1 ≤ 50000; decide) HRD.out hr8 (by decide) (unlink_rec cn a HL1.out) (by rw [unlink_turn]; show (recL []).length ≤ _; rw [rec0_four]; decide) (fun g hg h0 => hnew8 g (hn8 g hg (by show 1 ≠ 0; decide)) (rdc_own hr8 (by show 1 ≠ 0; decide) g hg))
    rw [unlink_turn] at hdo
    have HDO := Lib.hid hdo; have F8h := Lib.hid (hold8 bx F7h.out); have K8 := Lib.hid (blk_below K7.out hb8)
    clear hdo hold8 hnew8 hs8 hr8 hn8 hb8
    dsimp only
    go_wp2_with fail
    refine HDO.out.mono ?_
    rintro e w9 ⟨rfl, hs9, hk9⟩
    have k9 := (hk9 bx F8h.out).trans K8.out
    obtain ⟨q0, q1, q2, q3, q4, q5, q6⟩ := box7_of k9
    have hres := hs9.resolve KK.out ⟨cn, [], [], [], [], false, []⟩ a (show cn.length + a.length ≤ 2000 by have := HL1.out; omega) (by decide)
    rw [HCV.out, T1.out] at hres
    dsimp only at hres
    rw [link_none] at hres
    dsimp only at hres
    have HRES := Lib.hid hres; have G9 := Lib.hid hs9.low
    clear hres hs9 hk9 k9
    dsimp only
    go_wp2_with fail
    refine HRES.out.mono ?_
    rintro e w10 ⟨⟨v10, rfl, hr10, -⟩, hb10⟩
    have G10 := Lib.hid (G9.out.chain hb10)
    clear hb10 hr10 q0 q1 q2 q3 q4 q5 q6
    have hbe : (U.toList == U.toList) = true := by simp
    have hab := HAB.out
    have he7 := HE7.out
    rw [← hab] at he7
    dsimp only
    go_wp2_with fail
    refine (HANS.out w10 G10.out).mono ?_
    rintro e w11 ⟨rfl, hb11⟩
    have HEND := Lib.hid (G10.out.chain hb11)
    clear hb11
    dsimp only
    go_wp2
    go_ret
    exact ⟨rfl, HEND.out⟩
  · have hb' : (1000 : Int) < (B0.size : Int) + B1.size + B2.size := by omega
    clear z0 z1 z2
    go_enter Tryd.func3, Tryd.ntmps3
    go_wp2_with fail
    refine (HANS.out w (Below.refl _ _)).mono ?_
    rintro e w2 ⟨rfl, hb2⟩
    have HEND := Lib.hid (hb2)
    clear hb2
    dsimp only
    go_wp2
    go_ret
    exact ⟨rfl, HEND.out⟩
end Go.Proofs.YtkbjpgfdmkmbmaaDoor
namespace Go.Proofs.YtkbjpgfdmkmbmaaDoor
open Go.RowKit
set_option linter.unusedVariables false
set_option linter.unusedSimpArgs false

/-- the subjects that are linked, one behind the other -/
def subjU (i : Nat) : List UInt8 := [117, UInt8.ofNat (97 + i / 26), UInt8.ofNat (97 + i % 26)]
theorem subjU_inj : ∀ i j, i < 40 → j < 40 → subjU i = subjU j → i = j := fun i j hi hj h => by
  unfold subjU at h
  simp only [List.cons.injEq, and_true, true_and] at h
  obtain ⟨h1, h2⟩ := h
  have h1 := congrArg UInt8.toNat h1
  have h2 := congrArg UInt8.toNat h2
  rw [UInt8.toNat_ofNat', UInt8.toNat_ofNat'] at h1 h2
  omega
theorem subjU_other (i : Nat) (s : List UInt8) : 118 :: s ≠ subjU i := fun h => by
  unfold subjU at h
  injection h with h _
  cases h
theorem linksN_sum : ∀ n, n ≤ 32 → (recL (allR (linksN [99] subjU n))).length ≤ 32768 := fun n hn => by
  have h1 := rec_all_le (linksN [99] subjU n)
  have hsum : ∀ m, m ≤ 32 → sumR (linksN [99] subjU m) ≤ m * 50 := fun m => by
    induction m with
    | zero => intro _; exact Nat.le_refl _
    | succ m ih =>
      intro hm
      have h2 := ih (by omega)
      have h3 := sumR_turn [⟨lkeyL [99] (subjU m), userL [99] (subjU m), false⟩] (linksN [99] subjU m)
      rw [linksN_turn] at h3
      have h4 := lkeyL_len [99] (subjU m) (by show 1 + 3 ≤ _; omega)
      have h5 := user_len [99] (subjU m)
      have h6 : sumC [⟨lkeyL [99] (subjU m), userL [99] (subjU m), false⟩] ≤ (lkeyL [99] (subjU m)).length + (userL [99] (subjU m)).length := by simp [sumC]
      have h7 : ([99] : List UInt8).length = 1 := rfl
      have h8 : (subjU m).length = 3 := rfl
      omega
  have h2 := hsum n hn
  have h3 := linksN_len [99] subjU 40 subjU_inj n (by omega)
  omega
variable {CT : World → (Nat → Prop) → Nat → TP → Prop} {CS : World → (Nat → Prop) → Nat → Nat → RowL → Prop}
set_option maxRecDepth 100000 in
set_option maxHeartbeats 8000000 in
theorem linkFull_at (HT : TapeL CT) (H : CodeStore CT CS) (n : Nat) (hn : n < 256) (sub : List UInt8) (w : World) (K : CodeLink w CS) (hrd : RoundsIn w) :
    Calls Tryd.prog 4 #[.int .u8 n, tv sub] w fun e w' => e = .returned (.bool true) ∧ Below w.heap.size w w' := by
  have hst := fun (W : World) (hb : Below w.heap.size w W) => stored_none HT H W (hrd.below hb)
  have hans := fun (W : World) (hb : Below w.heap.size w W) => answers15_any HT H W (K.later hb) (hrd.below hb)
  have HST := Lib.hid hst; have HANS := Lib.hid hans; have KK := Lib.hid K; have HH := Lib.hid H; have HHT := Lib.hid HT; have HRD := Lib.hid hrd
  obtain ⟨B1, hB1⟩ : ∃ B : ByteArray, B = ⟨sub.toArray⟩ := ⟨_, rfl⟩
  have z1 : B1.size = sub.length := by rw [hB1]; show sub.toArray.size = _; simp
  have t1 : tv sub = .string B1 := by rw [hB1]; rfl
  rw [t1]
  have T1 := Lib.hid t1; have Z1 := Lib.hid z1; have HB1 := Lib.hid hB1
  clear hst hans K H HT hrd hB1 t1
  by_cases hbig : B1.size ≤ 100
  · have hb' : ¬ (100 : Int) < (B1.size : Int) := by omega
    clear z1
    go_enter Tryd.func4, Tryd.ntmps4
    go_wp2_with fail
    refine (HST.out w (Below.refl _ _)).mono ?_
    rintro e w1 ⟨p, v, rfl, hs1, -⟩
    have S1 := Lib.hid hs1
    clear hs1
    dsimp only
    go_wp2
    obtain ⟨K, hK⟩ : ∃ K, n % 40 = K := ⟨_, rfl⟩
    have hKi : ((n : Int) % 40) = (K : Int) := by omega
    have hK40 : K < 40 := by omega
    rw [hKi]
    clear hKi hK hn
    obtain ⟨bx, hbx⟩ : ∃ b, w1.heap.size = b := ⟨_, rfl⟩
    obtain ⟨W2, hW2⟩ : ∃ W, w1.alloc (.cells #[.string ⟨#[99]⟩, .string ⟨#[]⟩, .string ⟨#[]⟩, .string ⟨#[]⟩, .string ⟨#[]⟩, .bool true, .string ⟨#[]⟩] 29 (0, 0)) = W := ⟨_, rfl⟩
    have hb2 : Below w1.heap.size w1 W2 := by rw [← hW2]; exact (Below.refl _ _).alloc (Nat.le_refl _) _
    have k2 : W2.heap[bx]? = some (.cells #[.string ⟨#[99]⟩, .string ⟨#[]⟩, .string ⟨#[]⟩, .string ⟨#[]⟩, .string ⟨#[]⟩, .bool true, .string ⟨#[]⟩] 29 (0, 0)) := by rw [← hW2, ← hbx]; exact heap_alloc_last w1 _
    obtain ⟨F2, hs2, -, hnew2⟩ := S1.out.on HHT.out HH.out hb2
    have hF2 : F2 bx := hnew2 bx (by rw [hbx]; exact Nat.le_refl _) (Array.getElem?_eq_some_iff.1 k2).1
    rw [hW2, hbx]
    have hcv : ConnP.val ⟨[99], [], [], [], [], true, []⟩ = .agg #[.string ⟨#[99]⟩, .string ⟨#[]⟩, .string ⟨#[]⟩, .string ⟨#[]⟩, .string ⟨#[]⟩, .bool true, .string ⟨#[]⟩] := rfl
    have HCV := Lib.hid hcv; have S2 := Lib.hid hs2; have F2h := Lib.hid hF2; have K2 := Lib.hid k2
    clear hcv hs2 hF2 hnew2 hW2 hbx hb2 k2 S1
    go_loopw [10, 11, 12, 13] (fun i _ _ _ W => ∃ k : Nat, k ≤ K ∧ i = .int .i64 k ∧ Hid (∃ F, StoL CT CS w W p (linksN [99] subjU (min k 32)) F ∧ F bx ∧ W.heap[bx]? = some (.cells #[.string ⟨#[99]⟩, .string ⟨#[]⟩, .string ⟨#[]⟩, .string ⟨#[]⟩, .string ⟨#[]⟩, .bool true, .string ⟨#[]⟩] 29 (0, 0)))) (fun i _ _ _ _ => K - (intOf i).toNat)
    case atStart => exact ⟨0, Nat.zero_le _, rfl, Lib.hid ⟨F2, S2.out, F2h.out, K2.out⟩⟩
    case round =>
      obtain ⟨k, hk, rfl, hT⟩ := hrel
      obtain ⟨F, hs, hF, hbox⟩ := hT.out
      by_cases hlt : k < K
      · have hkr : decide ((k : Int) < K) = true := by simp; omega
        have hk0 : (0 : Int) ≤ k := by omega
        have hk1 : (k : Int) < K := by omega
        obtain ⟨q0, q1, q2, q3, q4, q5, q6⟩ := box7_of hbox
        have hcw := conv_new wr [UInt8.ofNat (97 + k / 26), UInt8.ofNat (97 + k % 26)] #[.int .u8 (97 + (k : Int) / 26), .int .u8 (97 + (k : Int) % 26)] 2 2 rfl (by
          have e : ∀ m : Nat, ((UInt8.ofNat m).toNat : Int) = (m : Int) % 256 := fun m => by rw [UInt8.toNat_ofNat']; omega
          unfold cells
          simp only [List.map_cons, List.map_nil, e]
          rw [show ((97 + k / 26 : Nat) : Int) % 256 = 97 + (k : Int) / 26 by omega, show ((97 + k % 26 : Nat) : Int) % 256 = 97 + (k : Int) % 26 by omega])
        obtain ⟨C2, hC2⟩ : ∃ B : ByteArray, B = ⟨([UInt8.ofNat (97 + k / 26), UInt8.ofNat (97 + k % 26)] : List UInt8).toArray⟩ := ⟨_, rfl⟩
        obtain ⟨C3, hC3⟩ : ∃ B : ByteArray, B = ⟨(subjU k).toArray⟩ := ⟨_, rfl⟩
        have hsum : ∀ W, (Op.stringOp .add ⟨#[117]⟩ C2).run Tryd.prog W = .ok (.string C3) W := fun W => by
          rw [run_string_add_sum W _ _ (by rw [hC2]; show 1 + 2 ≤ _; omega), hC2, hC3]
          congr 1
        rw [← hC2] at hcw
        obtain ⟨W3, hW3⟩ : ∃ W, wr.alloc (.cells #[.int .u8 (97 + (k : Int) / 26), .int .u8 (97 + (k : Int) % 26)] 5) = W := ⟨_, rfl⟩
        rw [hW3] at hcw
        have hb3 : Below wr.heap.size wr W3 := by rw [← hW3]; exact (Below.refl _ _).alloc (Nat.le_refl _) _
        obtain ⟨F3, hs3, hold3, -⟩ := hs.on HHT.out HH.out hb3
        have hres := hs3.resolve KK.out ⟨[99], [], [], [], [], true, []⟩ (subjU k) (show 1 + 3 ≤ 2000 by decide) (by
          have := linksN_len [99] subjU 40 subjU_inj (min k 32) (by omega)
          omega)
        rw [HCV.out, show tv (subjU k) = .string C3 by rw [hC3]; rfl] at hres
        dsimp only at hres
        have HRES := Lib.hid hres; have HW3 := Lib.hid hW3; have S3 := Lib.hid hs3; have F3h := Lib.hid (hold3 bx hF); have K3 := Lib.hid (blk_below hbox hb3)
        clear hres hs hs3 hF hbox hold3 hT hb3 hC2 hC3
        by_cases h32 : k < 32
        · have hd32 : decide ((k : Int) < 32) = true := by simp; omega
          have hi32 : (k : Int) < 32 := by omega
          have hmin : min k 32 = k := by omega
          have hres := HRES.out
          rw [hmin, linkR_new [99] subjU 40 subjU_inj k (by omega) h32] at hres
          dsimp only at hres
          have HRES2 := Lib.hid hres
          clear hres
          go_wp2_with fail
          refine HRES2.out.mono ?_
          rintro e w4 ⟨⟨v4, rfl, hr4, hn4⟩, hb4⟩
          obtain ⟨A4, c4, rfl, -⟩ : ∃ A4 c4, v4 = .slice A4 1 c4 ∧ True := by
            obtain ⟨A4, c4, e, _⟩ := hr4
            exact ⟨A4, c4, e, trivial⟩
          obtain ⟨F4, hs4, hold4, hnew4⟩ := S3.out.on HHT.out HH.out hb4
          rw [hmin] at hs4
          have hnx := linksN_turn [99] subjU k
          have hdo := hs4.do_small HH.out A4 c4 1 [⟨lkeyL [99] (subjU k), userL [99] (subjU k), false⟩] rfl (by rw [linksN_len [99] subjU 40 subjU_inj k (by omega)]; omega) HRD.out hr4 (by show 1 ≤ 50000; decide) (link_rec [99] (subjU k) (by show 1 + 3 ≤ 1000; decide)) (by rw [hnx]; exact linksN_sum (k + 1) (by omega)) (fun g hg h0 => hnew4 g (hn4 g hg (by show 1 ≠ 0; decide)) (rdc_own hr4 (by show 1 ≠ 0; decide) g hg))
          rw [hnx] at hdo
          have HDO := Lib.hid hdo; have F4h := Lib.hid (hold4 bx F3h.out); have K4 := Lib.hid (blk_below K3.out hb4)
          clear hdo hold4 hnew4 hs4 hr4 hn4 hb4 q0 q1 q2 q3 q4 q5 q6 hnx hsum hcw
          dsimp only
          go_wp2_with fail
          refine HDO.out.mono ?_
          rintro e w5 ⟨rfl, hs5, hk5⟩
          have k5 := (hk5 bx F4h.out).trans K4.out
          have hmin2 : min (k + 1) 32 = k + 1 := by omega
          have HREL : Hid (∃ F, StoL CT CS w w5 p (linksN [99] subjU (min (k + 1) 32)) F ∧ F bx ∧ w5.heap[bx]? = some (.cells #[.string ⟨#[99]⟩, .string ⟨#[]⟩, .string ⟨#[]⟩, .string ⟨#[]⟩, .string ⟨#[]⟩, .bool true, .string ⟨#[]⟩] 29 (0, 0))) := Lib.hid ⟨F4, by rw [hmin2]; exact hs5, F4h.out, k5⟩
          clear hs5 hk5 k5
          dsimp only
          go_wp2
          go_roundw
          case rel => exact ⟨k + 1, by omega, by go_num, HREL⟩
          case measure => simp [intOf]; omega
        · have hd32 : decide ((k : Int) < 32) = false := by simp; omega
          have hi32 : ¬ (k : Int) < 32 := by omega
          have hmin : min k 32 = 32 := by omega
          have hres := HRES.out
          rw [hmin, linkR_full [99] subjU 40 subjU_inj (by decide) (subjU k) (fun j hj e => by have := subjU_inj k j (by omega) (by omega) e; omega)] at hres
          dsimp only at hres
          have HRES2 := Lib.hid hres
          clear hres
          go_wp2_with fail
          refine HRES2.out.mono ?_
          rintro e w4 ⟨⟨v4, rfl, hr4, -⟩, hb4⟩
          obtain ⟨A4, c4, rfl, -⟩ : ∃ A4 c4, v4 = .slice A4 0 c4 ∧ True := by
            obtain ⟨A4, c4, e, _⟩ := hr4
            exact ⟨A4, c4, e, trivial⟩
          obtain ⟨F4, hs4, hold4, -⟩ := S3.out.on HHT.out HH.out hb4
          rw [hmin] at hs4
          have hdo := hs4.do_small HH.out A4 c4 0 [] rfl (by rw [linksN_len [99] subjU 40 subjU_inj 32 (by decide)]; decide) HRD.out hr4 (by decide) (by rw [rec0_four]; decide) (by rw [turnL_nil]; exact linksN_sum 32 (by decide)) (fun g hg h0 => absurd rfl h0)
          rw [turnL_nil] at hdo
          have HDO := Lib.hid hdo; have F4h := Lib.hid (hold4 bx F3h.out); have K4 := Lib.hid (blk_below K3.out hb4)
          clear hdo hold4 hs4 hr4 hb4 q0 q1 q2 q3 q4 q5 q6 hsum hcw
          dsimp only
          go_wp2_with fail
          refine HDO.out.mono ?_
          rintro e w5 ⟨rfl, hs5, hk5⟩
          have k5 := (hk5 bx F4h.out).trans K4.out
          have hmin2 : min (k + 1) 32 = 32 := by omega
          have HREL : Hid (∃ F, StoL CT CS w w5 p (linksN [99] subjU (min (k + 1) 32)) F ∧ F bx ∧ w5.heap[bx]? = some (.cells #[.string ⟨#[99]⟩, .string ⟨#[]⟩, .string ⟨#[]⟩, .string ⟨#[]⟩, .string ⟨#[]⟩, .bool true, .string ⟨#[]⟩] 29 (0, 0))) := Lib.hid ⟨F4, by rw [hmin2]; exact hs5, F4h.out, k5⟩
          clear hs5 hk5 k5
          dsimp only
          go_wp2
          go_roundw
          case rel => exact ⟨k + 1, by omega, by go_num, HREL⟩
          case measure => simp [intOf]; omega
      · obtain rfl : k = K := by omega
        have hkr : decide ((k : Int) < (k : Int)) = false := by simp
        obtain ⟨q0, q1, q2, q3, q4, q5, q6⟩ := box7_of hbox
        have hrl : (linksN [99] subjU (min k 32)).length ≤ 100000 := by
          have := linksN_len [99] subjU 40 subjU_inj (min k 32) (by omega)
          omega
        have hres := hs.resolve KK.out ⟨[99], [], [], [], [], true, []⟩ [117, 97, 97] (by show 1 + 3 ≤ 2000; decide) hrl
        rw [HCV.out, show tv [117, 97, 97] = .string ⟨#[117, 97, 97]⟩ from rfl] at hres
        dsimp only at hres
        have he0 : (linkR (linksN [99] subjU (min k 32)) [99] true [117, 97, 97]).2.2 = 0 := by
          by_cases h0 : 0 < k
          · have := linkR_there [99] subjU (min k 32) 0 (by omega) true
            rw [show subjU 0 = [117, 97, 97] from rfl] at this
            rw [this]
          · obtain rfl : k = 0 := by omega
            rfl
        rw [he0] at hres
        have HRES := Lib.hid hres; have S3 := Lib.hid hs; have Fh := Lib.hid hF; have K3 := Lib.hid hbox; have RL := Lib.hid hrl
        clear hres hs hF hbox hT he0 hrl
        go_wp2_with fail
        refine HRES.out.mono ?_
        rintro e w3 ⟨⟨v3, rfl, -, -⟩, hb3⟩
        obtain ⟨U3, hU3⟩ : ∃ v, tv (linkR (linksN [99] subjU (min k 32)) [99] true [117, 97, 97]).1 = v := ⟨_, rfl⟩
        rw [hU3]
        obtain ⟨F4, hs4, -, -⟩ := S3.out.on HHT.out HH.out hb3
        have k4 := blk_below K3.out hb3
        obtain ⟨C4, hC4⟩ : ∃ B : ByteArray, B = ⟨(118 :: sub).toArray⟩ := ⟨_, rfl⟩
        have hsum : ∀ W, (Op.stringOp .add ⟨#[118]⟩ B1).run Tryd.prog W = .ok (.string C4) W := fun W => by
          rw [run_string_add_sum W _ _ (by show 1 + B1.size ≤ _; omega), hC4, HB1.out]
          congr 2
        have hres := hs4.resolve KK.out ⟨[99], [], [], [], [], true, []⟩ (118 :: sub) (by show 1 + (sub.length + 1) ≤ 2000; have := Z1.out; omega) RL.out
        rw [HCV.out, show tv (118 :: sub) = .string C4 by rw [hC4]; rfl] at hres
        dsimp only at hres
        obtain ⟨e7, he7, hf7⟩ : ∃ e7 : Int, (linkR (linksN [99] subjU (min k 32)) [99] true (118 :: sub)).2.2 = e7 ∧ (e7 == 0) = decide ((k : Int) < 32) := by
          by_cases h32 : k < 32
          · refine ⟨0, ?_, by simp; omega⟩
            rw [show min k 32 = k by omega, linkR_other [99] subjU 40 subjU_inj k (by omega) h32 (118 :: sub) (fun j _ => subjU_other j sub)]
          · refine ⟨7, ?_, by simp; omega⟩
            rw [show min k 32 = 32 by omega, linkR_full [99] subjU 40 subjU_inj (by decide) (118 :: sub) (fun j _ => subjU_other j sub)]
        rw [he7] at hres
        have HRES := Lib.hid hres; have S4 := Lib.hid hs4
        clear hres hs4 hb3 hU3 hC4 he7 q0 q1 q2 q3 q4 q5 q6
        obtain ⟨q0, q1, q2, q3, q4, q5, q6⟩ := box7_of k4
        dsimp only
        go_wp2_with fail
        refine HRES.out.mono ?_
        rintro e w4 ⟨⟨v4, rfl, -, -⟩, hb4⟩
        obtain ⟨U4, hU4⟩ : ∃ v, tv (linkR (linksN [99] subjU (min k 32)) [99] true (118 :: sub)).1 = v := ⟨_, rfl⟩
        rw [hU4]
        have G4 := Lib.hid (S4.out.low.chain hb4)
        clear hb4 hU4 q0 q1 q2 q3 q4 q5 q6 k4 hsum
        dsimp only
        go_wp2_with fail
        refine (HANS.out w4 G4.out).mono ?_
        rintro e w5 ⟨rfl, hb5⟩
        have HEND := Lib.hid (G4.out.chain hb5)
        clear hb5
        dsimp only
        have hk32 : ((0 : Int) < k) ∨ ((k : Int) < 32) := by omega
        go_wp2
        all_goals go_ret
        all_goals exact ⟨rfl, HEND.out⟩
  · have hb' : (100 : Int) < (B1.size : Int) := by omega
    clear z1
    go_enter Tryd.func4, Tryd.ntmps4
    go_wp2_with fail
    refine (HST.out w (Below.refl _ _)).mono ?_
    rintro e w1 ⟨p, v, rfl, hs1, -⟩
    have G1 := Lib.hid hs1.low
    clear hs1
    dsimp only
    go_wp2_with fail
    refine (HANS.out w1 G1.out).mono ?_
    rintro e w2 ⟨rfl, hb2⟩
    have HEND := Lib.hid (G1.out.chain hb2)
    clear hb2
    dsimp only
    go_wp2
    go_ret
    exact ⟨rfl, HEND.out⟩
end Go.Proofs.YtkbjpgfdmkmbmaaDoor
namespace Go.Proofs.YtkbjpgfdmkmbmaaDoor
open Go.RowKit
set_option linter.unusedVariables false
set_option linter.unusedSimpArgs false

theorem len_of {x : ByteArray} {n : Nat} (h : x.size ≤ n) : x.data.toList.length ≤ n := h
theorem tv_of (x : ByteArray) : tv x.data.toList = .string x := by simp [tv]
variable {CT : World → (Nat → Prop) → Nat → TP → Prop} {CS : World → (Nat → Prop) → Nat → Nat → RowL → Prop}
theorem linkTwice_row (HT : TapeL CT) (H : CodeStore CT CS) (c a b : ByteArray) {w : World} (K : CodeLink w CS) (hc : c.size ≤ 1000000000000000) (ha : a.size ≤ 1000000000000000) (hb : b.size ≤ 1000000000000000) (hrd : RoundsIn w) :
    Calls Tryd.prog 3 #[.string c, .string a, .string b] w fun e w' => e = .returned (.bool true) ∧ Below w.heap.size w w' := by
  have h := linkTwice_at HT H c.data.toList a.data.toList b.data.toList (len_of hc) (len_of ha) (len_of hb) w K hrd
  rwa [tv_of, tv_of, tv_of] at h
theorem linkFull_row (HT : TapeL CT) (H : CodeStore CT CS) (n : Int) (s : ByteArray) {w : World} (K : CodeLink w CS) (hn : (Lit.int .u8 n).wf = true) (_ : s.size ≤ 1000000000000000) (hrd : RoundsIn w) :
    Calls Tryd.prog 4 #[.int .u8 n, .string s] w fun e w' => e = .returned (.bool true) ∧ Below w.heap.size w w' := by
  have hb : 0 ≤ n ∧ n ≤ 255 := by simpa [Lit.wf, IntKind.min, IntKind.max, IntKind.signed, IntKind.bits] using hn
  have h := linkFull_at HT H n.toNat (by omega) s.data.toList w K hrd
  rw [tv_of, show ((n.toNat : Nat) : Int) = n by omega] at h
  exact h
end Go.Proofs.YtkbjpgfdmkmbmaaDoor
namespace Go.Proofs.YtkbjpgfdmkmbmaaDoor

theorem itoa_dec (n : Int) : Lib.itoa n = decI n := by
  have h : ∀ u : Nat, Lib.decDigits u = decL u := by
    intro u
    induction u using Nat.strongRecOn with
    | _ u ih =>
      rw [Lib.decDigits, decL]
      by_cases h : u < 10
      · rw [dif_pos h, if_pos h]; unfold digit; rw [Nat.mod_eq_of_lt h]
      · rw [dif_neg h, if_neg h, ih (u / 10) (by omega)]; rfl
  unfold Lib.itoa decI
  by_cases hn : n < 0
  · rw [if_pos hn, if_pos hn, h]
  · rw [if_neg hn, if_neg hn, h]
    congr 1; omega
end Go.Proofs.YtkbjpgfdmkmbmaaDoor
namespace Go.Proofs.YtkbjpgfdmkmbmaaDoor
open Go.RowKit

theorem gPow : Tryd.prog.globalNamed "internal/strconv.uint64pow10" = some 1 := by kernel_rfl
/-- the table that a number's printing reads is as laid, below block B -/
structure TabIn (B : Nat) (w : World) : Prop where
  tab : Lib.TabIs Tryd.prog w "internal/strconv.uint64pow10" .u64 Lib.pow10Tab
  lt : 1 < B
theorem TabIn.below {B : Nat} {w w' : World} (h : TabIn B w) (hb : Below B w w') : TabIn B w' := by
  obtain ⟨h1, l1⟩ := h
  refine ⟨?_, l1⟩
  unfold Lib.TabIs at h1 ⊢
  rw [← h1]
  unfold World.var?
  rw [gPow]
  simp only [Option.bind_some]
  rw [hb.block _ l1]
theorem TabIn.more {B B' : Nat} {w : World} (h : TabIn B w) (hB : B ≤ B') : TabIn B' w := ⟨h.tab, Nat.lt_of_lt_of_le h.lt hB⟩
end Go.Proofs.YtkbjpgfdmkmbmaaDoor
