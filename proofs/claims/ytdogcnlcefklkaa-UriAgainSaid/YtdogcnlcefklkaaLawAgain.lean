/- The walk of UriAgain. -/
import Derived.Test.YtdogcnlcefklkaaAns3
namespace Go.Proofs.Ytdogcnlcefklkaa
open Go.RowKit

/-- the guides' append law, of an operation whose guard says yes -/
theorem wpList_append_want {P : Program} (w : World) {ops : Array Oper} {rest : List Oper} {o : Oper} {a : Act} {Q : Exit → Act → World → Prop} (hw : Region.wanted o (yielded ops a.tmps) = true) (s x : Operand) (t : TypeId)
    (ho : o.op = .call { callee := .builtin .append, args := #[s, x], argTypes := #[t, t] })
    (base : Nat) (e : TypeId) (i : TypeInfo) (z : Value) (size bytes : Nat) (ht : P.underlying t = some (.slice e)) (hi : P.info? e = some i) (hz : i.zero = some z)
    (hsize : i.size = size) (hby : i.bytes = bytes) (hzs : z.cells.size = size) (hsz : 0 < size)
    (v : Value) (n : Nat) (xs : List Value) (hs : a.eval s = v) (hown : w.ownsRow base e size v n xs)
    (ad : Addr) (m c : Nat) (news : List Value) (hx : a.eval x = .slice (some ad) m c) (hl : news.length = m * size) (hnews : ∀ j u, news[j]? = some u → w.cell? (ad.add j) = some u) (h1 : ∀ u ∈ news, u.oneCell' = true)
    (h63 : n + m ≤ maxLen) (hbytes : (n + m) * bytes ≤ 140737488355328) (hbase : base ≤ w.heap.size)
    (h : ∀ v' w', w'.ownsRow base e size v' (n + m) (xs ++ news) → w.grownBy w' v.ownBlock → (v' = .slice none 0 0 ↔ v = .slice none 0 0 ∧ m = 0) → wpList P ops Q rest (a.put o.dst v') w') : wpList P ops Q (o :: rest) a w :=
  wpList_step fun _ hK => by
    rw [if_pos hw]
    exact wp_append_own w s x t ho base e i z size bytes ht hi hz hsize hby hzs hsz v n xs hs hown ad m c news hx hl hnews h1 h63 hbytes hbase fun v' w' h2 h3 h4 => hK _ _ (h v' w' h2 h3 h4)
theorem buildL_app {a b : PL} (ha : a ≠ []) (hb : b ≠ []) : buildL (a ++ b) = buildL a ++ 38 :: buildL b := by
  induction a with
  | nil => exact absurd rfl ha
  | cons p a ih =>
    cases a with
    | nil =>
      cases b with
      | nil => exact absurd rfl hb
      | cons q b => rfl
    | cons p' a =>
      have := ih (by simp)
      simp only [List.cons_append] at this ⊢
      simp [buildL, this]
def aText : List UInt8 := [104, 116, 116, 112, 58, 47, 47, 97]
theorem with_a {a : PL} (ha : a ≠ []) : withL aText a = aText ++ (63 :: buildL a) := by
  unfold withL markL
  rw [if_neg ha, if_neg (by decide), List.append_assoc]; rfl
theorem with_ab {a b : PL} (ha : a ≠ []) (hb : b ≠ []) : withL (withL aText a) b = withL aText (a ++ b) := by
  have hab : a ++ b ≠ [] := by simp [ha]
  have hat : atL 63 (withL aText a) < (withL aText a).length := by
    rw [with_a ha, atL_app 63 aText _ (by decide)]
    simp [atL]
  have e2 : withL (withL aText a) b = withL aText a ++ [38] ++ buildL b := by
    generalize withL aText a = S at *
    unfold withL markL
    rw [if_neg hb, if_pos hat]
  rw [e2, with_a hab, buildL_app ha hb, with_a ha]
  simp
theorem with_a_len {a : PL} (hl : a.length ≤ 20) (hz : ∀ p ∈ a, p.1.length + p.2.length ≤ 100) : (withL aText a).length ≤ 6100 := by
  have h := buildL_len a 100 hz
  have : a.length * (3 * 100 + 2) ≤ 20 * 302 := Nat.mul_le_mul hl (by omega)
  by_cases ha : a = []
  · subst ha; decide
  · rw [with_a ha]; simp [aText]; omega
theorem Prs.cells {w : World} {B : Nat} {ad : Addr} {l : PL} (h : Prs w B (some ad) l) : ∀ j u, (pcells l)[j]? = some u → w.cell? (ad.add j) = some u := by
  intro j u hj
  have hjl : j < (pcells l).length := (List.getElem?_eq_some_iff.1 hj).1
  rw [pcells_len] at hjl
  rcases (show j = (j / 2) * 2 ∨ j = (j / 2) * 2 + 1 by omega) with e | e
  · have hk : j / 2 < l.length := by omega
    obtain ⟨a, ha, _, h1, _⟩ := h (j / 2) hk
    cases ha
    rw [e] at hj ⊢
    rw [pcells_key l _ hk] at hj
    cases hj; exact h1
  · have hk : j / 2 < l.length := by omega
    obtain ⟨a, ha, _, _, h2⟩ := h (j / 2) hk
    cases ha
    rw [e] at hj ⊢
    rw [pcells_val l _ hk] at hj
    rw [add_next] at h2
    cases hj; exact h2
theorem pcells_one (l : PL) : ∀ u ∈ pcells l, u.oneCell' = true := by
  induction l with
  | nil => intro u hu; cases hu
  | cons p l ih =>
    intro u hu
    simp only [pcells, List.mem_cons] at hu
    rcases hu with rfl | rfl | hu
    · rfl
    · rfl
    · exact ih u hu
theorem Prs.some {w : World} {B : Nat} {A : Option Addr} {l : PL} (h : Prs w B A l) (hl : 0 < l.length) : ∃ ad, A = some ad := by
  obtain ⟨a, ha, _⟩ := h 0 hl; exact ⟨a, ha⟩

set_option maxRecDepth 100000 in
set_option maxHeartbeats 2000000 in
theorem uriAgain_walk (A A' : Option Addr) (c c' B : Nat) (a b : PL) (hla : a.length ≤ reachBytes) (hza : ∀ p ∈ a, p.1.length ≤ reachBytes ∧ p.2.length ≤ reachBytes) (hlb : b.length ≤ reachBytes) (hzb : ∀ p ∈ b, p.1.length ≤ reachBytes ∧ p.2.length ≤ reachBytes)
    (w : World) (hv : VarIn w) (hB : B ≤ w.heap.size) (hp : Prs w B A a) (hq : Prs w B A' b) :
    Calls Try.prog 7 #[.slice A a.length c, .slice A' b.length c'] w fun e w' => e = .returned (.bool true) ∧ Below w.heap.size w w' := by
  unfold reachBytes at hla hlb
  by_cases hout : a.length = 0 ∨ b.length = 0 ∨ 20 < a.length ∨ 20 < b.length
  · clear hp hq hza hzb
    generalize a.length = n at *
    generalize b.length = m at *
    by_cases h1 : n = 0
    · subst h1
      go_enter Try.func7, Try.ntmps7
      go_wp2_with fail
      refine (answers3_any _ hv).mono ?_
      rintro e w3 ⟨rfl, hb3⟩
      go_wp2
      go_ret
      exact ⟨rfl, hb3⟩
    · have d1 : ((n : Int) == 0) = false := by simp; omega
      by_cases h2 : m = 0
      · subst h2
        go_enter Try.func7, Try.ntmps7
        go_wp2_with fail
        refine (answers3_any _ hv).mono ?_
        rintro e w3 ⟨rfl, hb3⟩
        go_wp2
        go_ret
        exact ⟨rfl, hb3⟩
      · have d2 : ((m : Int) == 0) = false := by simp; omega
        by_cases h3 : 20 < n
        · have d3 : decide ((20 : Int) < (n : Int)) = true := by simp; omega
          go_enter Try.func7, Try.ntmps7
          go_wp2_with fail
          refine (answers3_any _ hv).mono ?_
          rintro e w3 ⟨rfl, hb3⟩
          go_wp2
          go_ret
          exact ⟨rfl, hb3⟩
        · have d3 : decide ((20 : Int) < (n : Int)) = false := by simp; omega
          have d4 : decide ((20 : Int) < (m : Int)) = true := by simp; omega
          go_enter Try.func7, Try.ntmps7
          go_wp2_with fail
          refine (answers3_any _ hv).mono ?_
          rintro e w3 ⟨rfl, hb3⟩
          go_wp2
          go_ret
          exact ⟨rfl, hb3⟩
  have ha0 : a ≠ [] := fun e => hout (Or.inl (by rw [e]; rfl))
  have hb0 : b ≠ [] := fun e => hout (Or.inr (Or.inl (by rw [e]; rfl)))
  have hla20 : a.length ≤ 20 := by omega
  have hlb20 : b.length ≤ 20 := by omega
  have hla0 : 0 < a.length := by omega
  have hlb0 : 0 < b.length := by omega
  obtain ⟨ad, rfl⟩ := hp.some hla0
  obtain ⟨bd, rfl⟩ := hq.some hlb0
  have hwa := fun (w : World) (hB : B ≤ w.heap.size) (hp : Prs w B (some ad) a) (h2 : ∀ p ∈ a, p.1.length + p.2.length ≤ 100) => with_any aText (by decide) (some ad) c B 100 a (by omega) (by omega) h2 w hB hp
  have hwb := fun (w : World) (hB : B ≤ w.heap.size) (hp : Prs w B (some bd) b) (h1 : ∀ p ∈ a, p.1.length + p.2.length ≤ 100) (h2 : ∀ p ∈ b, p.1.length + p.2.length ≤ 100) => with_any (withL aText a) (Nat.le_trans (with_a_len hla20 h1) (by decide)) (some bd) c' B 100 b (by omega) (by omega) h2 w hB hp
  have hwab := fun (D : Option Addr) (k B' : Nat) (w : World) (hB : B' ≤ w.heap.size) (hp : Prs w B' D (a ++ b)) (h1 : ∀ p ∈ a, p.1.length + p.2.length ≤ 100) (h2 : ∀ p ∈ b, p.1.length + p.2.length ≤ 100) => with_any aText (by decide) D k B' 100 (a ++ b) (by simp; omega) (by omega) (fun p hp => by rcases List.mem_append.1 hp with h | h; exact h1 p h; exact h2 p h) w hB hp
  rw [with_ab ha0 hb0] at hwb
  have hcell1 : ∀ j u, (pcells a)[j]? = some u → w.cell? (ad.add j) = some u := hp.cells
  obtain ⟨n, hn⟩ : ∃ n, a.length = n := ⟨_, rfl⟩
  obtain ⟨m, hm⟩ : ∃ m, b.length = m := ⟨_, rfl⟩
  rw [hn] at hwa hla20 hla0 ⊢
  rw [hm] at hwb hlb20 hlb0 ⊢
  have d1 : ((n : Int) == 0) = false := by simp; omega
  have d2 : ((m : Int) == 0) = false := by simp; omega
  have d3 : decide ((20 : Int) < (n : Int)) = false := by simp; omega
  have d4 : decide ((20 : Int) < (m : Int)) = false := by simp; omega
  have HN := Lib.hid hn; have HM := Lib.hid hm; have HZA := Lib.hid hza; have HZB := Lib.hid hzb; have HWA := Lib.hid hwa; have HWB := Lib.hid hwb; have HWAB := Lib.hid hwab; clear hn hm hza hzb hwa hwb hwab hout hla hlb hcell1
  go_enter Try.func7, Try.ntmps7
  go_wp2
  go_loopw [5] (fun i wr => ∃ k q : Nat, k ≤ n + m ∧ i = .int .i64 k ∧ wr = w.drewN q ∧ (∀ j (hj : j < a.length), j < k → a[j].1.length + a[j].2.length ≤ 100) ∧ (∀ j (hj : j < b.length), j < k → b[j].1.length + b[j].2.length ≤ 100)) (fun i _ => n + m - (intOf i).toNat)
  case atStart => exact ⟨0, 0, Nat.zero_le _, rfl, rfl, fun _ _ h => absurd h (Nat.not_lt_zero _), fun _ _ h => absurd h (Nat.not_lt_zero _)⟩
  case round =>
    obtain ⟨k, q, hk, rfl, rfl, hba, hbb⟩ := hrel
    have HA := Lib.hid hba; have HB := Lib.hid hbb; clear hba hbb
    have gna : ¬ k < n → ∀ j (hj : j < a.length), j < k + 1 → a[j].1.length + a[j].2.length ≤ 100 := fun h j hj _ => HA.out j hj (by have := HN.out; omega)
    have gnb : ¬ k < m → ∀ j (hj : j < b.length), j < k + 1 → b[j].1.length + b[j].2.length ≤ 100 := fun h j hj _ => HB.out j hj (by have := HM.out; omega)
    have GNA := Lib.hid gna; have GNB := Lib.hid gnb; clear gna gnb
    by_cases hka : k < n
    · have dka : decide ((k : Int) < (n : Int)) = true := by simp; omega
      have hkl : k < a.length := by have := HN.out; omega
      obtain ⟨xad, hxad, hab, h1, h2⟩ := hp k hkl
      cases hxad
      have hsz := HZA.out a[k] (List.getElem_mem hkl)
      have g1 : a[k].1.length + a[k].2.length ≤ 100 → ∀ j (hj : j < a.length), j < k + 1 → a[j].1.length + a[j].2.length ≤ 100 := fun h j hj hjk => by
        rcases Nat.lt_succ_iff_lt_or_eq.1 hjk with h' | h'
        · exact HA.out j hj h'
        · subst h'; exact h
      have G1 := Lib.hid g1; clear g1
      generalize a[k] = x at *
      obtain ⟨xa, xb⟩ := x
      dsimp only at h1 h2 hsz
      unfold reachBytes at hsz
      have hza := hsz.1
      have hzb := hsz.2
      clear hsz
      have hw : IntKind.i64.wrap ((xa.length : Int) + (xb.length : Int)) = (xa.length : Int) + (xb.length : Int) := wraps_i64 _ (by omega) (by omega)
      by_cases hs : 100 < xa.length + xb.length
      · have hd2 : decide ((100 : Int) < (xa.length : Int) + (xb.length : Int)) = true := by simp; omega
        go_wp2
        go_quiet (fail)
        go_wp2_with fail
        refine (answers3_any _ (hv.below (belowDrewN (Below.refl _ _) _))).mono ?_
        rintro e w3 ⟨rfl, hb3⟩
        go_wp2
        go_ret
        exact ⟨rfl, (belowDrewN (Below.refl _ _) _).chain hb3⟩
      · have hd2 : decide ((100 : Int) < (xa.length : Int) + (xb.length : Int)) = false := by simp; omega
        have GA := Lib.hid (G1.out (Nat.le_of_not_lt hs)); clear G1 GNA
        by_cases hkb : k < m
        · have dkb : decide ((k : Int) < (m : Int)) = true := by simp; omega
          have hkl2 : k < b.length := by have := HM.out; omega
          obtain ⟨yad, hyad, hyab, h3, h4⟩ := hq k hkl2
          cases hyad
          have hsz2 := HZB.out b[k] (List.getElem_mem hkl2)
          have g2 : b[k].1.length + b[k].2.length ≤ 100 → ∀ j (hj : j < b.length), j < k + 1 → b[j].1.length + b[j].2.length ≤ 100 := fun h j hj hjk => by
            rcases Nat.lt_succ_iff_lt_or_eq.1 hjk with h' | h'
            · exact HB.out j hj h'
            · subst h'; exact h
          have G2 := Lib.hid g2; clear g2
          generalize b[k] = y at *
          obtain ⟨ya, yb⟩ := y
          dsimp only at h3 h4 hsz2
          unfold reachBytes at hsz2
          have hzc := hsz2.1
          have hzd := hsz2.2
          clear hsz2
          have hw2 : IntKind.i64.wrap ((ya.length : Int) + (yb.length : Int)) = (ya.length : Int) + (yb.length : Int) := wraps_i64 _ (by omega) (by omega)
          by_cases hs2 : 100 < ya.length + yb.length
          · have hd3 : decide ((100 : Int) < (ya.length : Int) + (yb.length : Int)) = true := by simp; omega
            go_wp2
            go_quiet (fail)
            go_wp2_with fail
            refine (answers3_any _ (hv.below (belowDrewN (Below.refl _ _) _))).mono ?_
            rintro e w3 ⟨rfl, hb3⟩
            go_wp2
            go_ret
            exact ⟨rfl, (belowDrewN (Below.refl _ _) _).chain hb3⟩
          · have hd3 : decide ((100 : Int) < (ya.length : Int) + (yb.length : Int)) = false := by simp; omega
            have GB := Lib.hid (G2.out (Nat.le_of_not_lt hs2)); clear G2 GNB
            go_wp2
            go_quiet (fail)
            go_wp2
            go_roundw
            case rel => exact ⟨k + 1, q + nq, by omega, by go_num, rfl, GA.out, GB.out⟩
            case measure => simp [intOf]; omega
        · have dkb : decide ((k : Int) < (m : Int)) = false := by simp; omega
          have GB := Lib.hid (GNB.out hkb); clear GNB
          go_wp2
          go_quiet (fail)
          go_wp2
          go_roundw
          case rel => exact ⟨k + 1, q + nq, by omega, by go_num, rfl, GA.out, GB.out⟩
          case measure => simp [intOf]; omega
    · have dka : decide ((k : Int) < (n : Int)) = false := by simp; omega
      have GA := Lib.hid (GNA.out hka); clear GNA
      by_cases hkb : k < m
      · have dkb : decide ((k : Int) < (m : Int)) = true := by simp; omega
        have hkl2 : k < b.length := by have := HM.out; omega
        obtain ⟨yad, hyad, hyab, h3, h4⟩ := hq k hkl2
        cases hyad
        have hsz2 := HZB.out b[k] (List.getElem_mem hkl2)
        have g2 : b[k].1.length + b[k].2.length ≤ 100 → ∀ j (hj : j < b.length), j < k + 1 → b[j].1.length + b[j].2.length ≤ 100 := fun h j hj hjk => by
          rcases Nat.lt_succ_iff_lt_or_eq.1 hjk with h' | h'
          · exact HB.out j hj h'
          · subst h'; exact h
        have G2 := Lib.hid g2; clear g2
        generalize b[k] = y at *
        obtain ⟨ya, yb⟩ := y
        dsimp only at h3 h4 hsz2
        unfold reachBytes at hsz2
        have hzc := hsz2.1
        have hzd := hsz2.2
        clear hsz2
        have hw2 : IntKind.i64.wrap ((ya.length : Int) + (yb.length : Int)) = (ya.length : Int) + (yb.length : Int) := wraps_i64 _ (by omega) (by omega)
        by_cases hs2 : 100 < ya.length + yb.length
        · have hd3 : decide ((100 : Int) < (ya.length : Int) + (yb.length : Int)) = true := by simp; omega
          go_wp2
          go_quiet (fail)
          go_wp2_with fail
          refine (answers3_any _ (hv.below (belowDrewN (Below.refl _ _) _))).mono ?_
          rintro e w3 ⟨rfl, hb3⟩
          go_wp2
          go_ret
          exact ⟨rfl, (belowDrewN (Below.refl _ _) _).chain hb3⟩
        · have hd3 : decide ((100 : Int) < (ya.length : Int) + (yb.length : Int)) = false := by simp; omega
          have GB := Lib.hid (G2.out (Nat.le_of_not_lt hs2)); clear G2 GNB
          go_wp2
          go_quiet (fail)
          go_wp2
          go_roundw
          case rel => exact ⟨k + 1, q + nq, by omega, by go_num, rfl, GA.out, GB.out⟩
          case measure => simp [intOf]; omega
      · have dkb : decide ((k : Int) < (m : Int)) = false := by simp; omega
        clear GNB
        have hsA : ∀ p ∈ a, p.1.length + p.2.length ≤ 100 := fun p hp => by
          obtain ⟨j, hj, rfl⟩ := List.getElem_of_mem hp
          exact HA.out j hj (by have := HN.out; omega)
        have hsB : ∀ p ∈ b, p.1.length + p.2.length ≤ 100 := fun p hp => by
          obtain ⟨j, hj, rfl⟩ := List.getElem_of_mem hp
          exact HB.out j hj (by have := HM.out; omega)
        have hwa := fun (w : World) (hB : B ≤ w.heap.size) (hp : Prs w B (some ad) a) => HWA.out w hB hp hsA
        have hwb := fun (w : World) (hB : B ≤ w.heap.size) (hp : Prs w B (some bd) b) => HWB.out w hB hp hsA hsB
        have hwab := fun (D : Option Addr) (k B' : Nat) (w : World) (hB : B' ≤ w.heap.size) (hp : Prs w B' D (a ++ b)) => HWAB.out D k B' w hB hp hsA hsB
        have hl1 : (pcells a).length = n * 2 := by rw [pcells_len, HN.out]
        have hl2 : (pcells b).length = m * 2 := by rw [pcells_len, HM.out]
        have hab : (a ++ b).length = n + m := by rw [List.length_append, HN.out, HM.out]
        rw [hab] at hwab
        clear HWA HWB HWAB hsA hsB HA HB HZA HZB GA
        obtain ⟨i0, hi, hz0, hz1, hz2⟩ := info_parts Try.infoPair
        have hbq : Below w.heap.size w (w.drewN q) := belowDrewN (Below.refl _ _) q
        have hp0 : Prs (w.drewN q) B (some ad) a := hp
        have hq0 : Prs (w.drewN q) B (some bd) b := hq
        have hB0 : B ≤ (w.drewN q).heap.size := hB
        have hv0 := hv.below hbq
        clear hp hq hB
        generalize w.drewN q = W0 at *
        go_wp2_with fail
        refine (answers3_any _ hv0).mono ?_
        rintro e w1 ⟨rfl, hb1⟩
        go_wp2_with fail
        refine (hwa _ (Nat.le_trans hB0 hb1.size) (hp0.below (hb1.mono hB0))).mono ?_
        rintro e w2 ⟨rfl, hb2⟩
        have hb02 := hb1.chain hb2
        go_wp2_with fail
        refine (hwb _ (Nat.le_trans hB0 hb02.size) (hq0.below (hb02.mono hB0))).mono ?_
        rintro e w3 ⟨rfl, hb3⟩
        have hb03 := hb02.chain hb3
        have hp3 := hp0.below (hb03.mono hB0)
        have hq3 := hq0.below (hb03.mono hB0)
        have hB3 := Nat.le_trans hB0 hb03.size
        generalize str (withL aText (a ++ b)) = T at *
        clear hwa hwb
        have hc4 : ∀ j u, (pcells a)[j]? = some u → (w3.alloc (.cells #[] 32)).cell? (ad.add j) = some u := (hp3.below ((Below.refl _ _).alloc hB3 _)).cells
        have HC4 := Lib.hid hc4; clear hc4
        have ho4 := World.ownsRow_lit (base := w3.heap.size) (e := 32) (size := 2) w3 #[] 0 (Nat.le_refl _) (by decide) rfl
        have HO4 := Lib.hid ho4; clear ho4
        go_wp2_with (at_builtin; (refine wpList_append_want _ rfl (.tmp 86) (.tmp 87) 30 rfl w3.heap.size 32 i0 _ 2 32 Try.underlying30 hi hz0 hz1 hz2 rfl (by decide) _ 0 [] rfl HO4.out ad n c (pcells a) rfl hl1 HC4.out (pcells_one a) (by unfold maxLen; omega) (by omega) (by simp) ?_))
        intro v5 w5 hown5 hg5 _
        have hown5' : w5.ownsRow w3.heap.size 32 2 v5 n (pcells a) := hown5
        have hb5 : Below w3.heap.size w3 w5 := ((Below.refl _ _).alloc (Nat.le_refl _) _).grown hg5 (by simp) (fun j hj => (HO4.out.lt j hj).1)
        have hc5 := (hq3.below (hb5.mono hB3)).cells
        have HC5 := Lib.hid hc5; have HO5 := Lib.hid hown5'; clear hc5 hown5' hown5 HC4 HO4
        have hbs5 := hb5.size
        go_wp2_with (at_builtin; (refine wpList_append_want _ rfl (.tmp 88) (.tmp 89) 30 rfl w3.heap.size 32 i0 _ 2 32 Try.underlying30 hi hz0 hz1 hz2 rfl (by decide) _ n (pcells a) rfl HO5.out bd m c' (pcells b) rfl hl2 HC5.out (pcells_one b) (by unfold maxLen; omega) (by omega) hbs5 ?_))
        intro v6 w6 hown6 hg6 _
        have hb6 : Below w3.heap.size w3 w6 := hb5.grown hg6 hbs5 (fun j hj => (HO5.out.lt j hj).1)
        have hrow6 : PRow w6 w3.heap.size v6 (a ++ b) := PRow.cut hown6 hab.symm (pcells_app a b).symm
        obtain ⟨D, cD, rfl, hr6⟩ := hrow6.reads
        rw [hab]
        clear hrow6 HO5 HC5
        go_wp2_with fail
        refine (hwab D cD w6.heap.size _ (Nat.le_refl _) hr6).mono ?_
        rintro e w7 ⟨rfl, hb7⟩
        go_wp2
        go_ret
        exact ⟨rfl, hbq.chain (hb03.chain (hb6.chain hb7))⟩
theorem uriAgain_law {w : World} (A : Option Addr) (c : Nat) (a : PL) (A' : Option Addr) (c' : Nat) (b : PL) (h : Prs w w.heap.size A a ∧ a.length ≤ reachBytes ∧ ∀ p ∈ a, p.1.length ≤ reachBytes ∧ p.2.length ≤ reachBytes)
    (h' : Prs w w.heap.size A' b ∧ b.length ≤ reachBytes ∧ ∀ p ∈ b, p.1.length ≤ reachBytes ∧ p.2.length ≤ reachBytes) (hv : VarIn w) :
    Calls Try.prog 7 #[.slice A a.length c, .slice A' b.length c'] w fun e w' => e = .returned (.bool true) ∧ Below w.heap.size w w' :=
  uriAgain_walk A A' c c' w.heap.size a b h.2.1 h.2.2 h'.2.1 h'.2.2 w hv (Nat.le_refl _) h.1 h'.1
end Go.Proofs.Ytdogcnlcefklkaa
