/- The reference's Build. -/
import Derived.Test.YtdogcnlcefklkaaBuild
import Derived.Test.YtdogcnlcefklkaaRefQuote
namespace Go.Proofs.Ytdogcnlcefklkaa
open Go.RowKit

theorem keep_two {W w' : World} {a : Addr} {k : Nat} {u v : Value} (h : W.cell? (a.add (k * 2)) = some u ∧ W.cell? ⟨(a.add (k * 2)).block, (a.add (k * 2)).off + 1, none⟩ = some v) (ha : a.block < W.heap.size) (hb : Below W.heap.size W w') :
    w'.cell? (a.add (k * 2)) = some u ∧ w'.cell? ⟨(a.add (k * 2)).block, (a.add (k * 2)).off + 1, none⟩ = some v :=
  ⟨(hb.cell (p := a.add (k * 2)) (by rw [add_block]; exact ha)).trans h.1, (hb.cell (p := ⟨(a.add (k * 2)).block, (a.add (k * 2)).off + 1, none⟩) (by show (a.add (k * 2)).block < _; rw [add_block]; exact ha)).trans h.2⟩
set_option maxRecDepth 100000 in
set_option maxHeartbeats 2000000 in
theorem refBuild_any (A : Option Addr) (c B m : Nat) (l : PL) (hl : l.length ≤ 1048576) (hm : m ≤ 1048576) (hz : ∀ p ∈ l, p.1.length + p.2.length ≤ m) (w : World) (hB : B ≤ w.heap.size) (hp : Prs w B A l) :
    Calls Try.prog 21 #[.slice A l.length c] w fun e w' => e = .returned (.string ⟨(buildL l).toArray⟩) ∧ Below w.heap.size w w' := by
  have hmax : l.length * (3 * m + 2) ≤ 1048576 * 3145730 := Nat.mul_le_mul hl (by omega)
  have hst := sized_take hz
  have hall : buildL (l.take l.length) = buildL l := by rw [List.take_length]
  obtain ⟨n, hn⟩ : ∃ n, l.length = n := ⟨_, rfl⟩
  obtain ⟨T, hT⟩ : ∃ T, l.length * (3 * m + 2) = T := ⟨_, rfl⟩
  rw [hT] at hmax hst
  rw [hn] at hl hall ⊢
  have HN := Lib.hid hn; have HZ := Lib.hid hz; have HST := Lib.hid hst; have HA := Lib.hid hall; clear hn hz hst hall hT
  go_enter Try.func21, Try.ntmps21
  go_wp2
  go_loopw [3, 4] (fun v i wr => ∃ k : Nat, k ≤ n ∧ i = .int .i64 k ∧ v = .string ⟨(buildL (l.take k)).toArray⟩ ∧ Below w.heap.size w wr) (fun _ i _ => n - (intOf i).toNat)
  case atStart => exact ⟨0, Nat.zero_le _, rfl, rfl, Below.refl _ _⟩
  case round =>
    obtain ⟨k, hk, rfl, rfl, hbw⟩ := hrel
    have hbs := hbw.size
    have hlk := HST.out k
    by_cases hlt : k < n
    · have hkl : k < l.length := by have := HN.out; omega
      obtain ⟨a, rfl, hab, h1, h2⟩ := (hp.below (hbw.mono hB)) k hkl
      have hlk1 := HST.out (k + 1)
      have hsz := HZ.out l[k] (List.getElem_mem hkl)
      have g1 := buildL_next l k hkl
      have g2 : k = 0 → buildL (l.take (k + 1)) = oneL l[k] := fun e => by subst e; exact buildL_first l hkl
      have G1 := Lib.hid g1; have G2 := Lib.hid g2; clear g1 g2
      generalize l[k] = x at *
      obtain ⟨xa, xb⟩ := x
      dsimp only at h1 h2 hsz
      have hqa : (str xa).size ≤ 46912496117759 := by rw [str_size]; omega
      have hqb : (str xb).size ≤ 46912496117759 := by rw [str_size]; omega
      have habr : a.block < wr.heap.size := by omega
      have h1d : wr.drew.cell? (a.add (k * 2)) = some (.string ⟨xa.toArray⟩) := h1
      have h2d : wr.drew.cell? ⟨(a.add (k * 2)).block, (a.add (k * 2)).off + 1, none⟩ = some (.string ⟨xb.toArray⟩) := h2
      by_cases hk0 : 0 < k
      · have HG := Lib.hid (G1.out hk0); clear G1 G2
        generalize buildL (l.take k) = acc at *
        have hnl : (buildL (l.take (k + 1))).length = acc.length + (1 + ((quoteL xa).length + (1 + (quoteL xb).length))) := by rw [HG.out]; simp [oneL]; omega
        have hq0 : acc.length + 1 + (quoteL xa).length + 1 + (quoteL xb).length ≤ T := by omega
        clear hnl hlk1
        go_wp2
        obtain ⟨S, hSS⟩ : ∃ S : ByteArray, S = ⟨acc.toArray⟩ ++ ⟨#[38]⟩ := ⟨_, rfl⟩
        have hS : S.data.toList = acc ++ [38] := by rw [hSS]; simp [ByteArray.data_append]
        have hSz : S.size = acc.length + 1 := by show S.data.toList.length = _; rw [hS]; simp
        have hq1 : S.size + (quoteL xa).length + 1 + (quoteL xb).length ≤ T := by omega
        rw [← hSS]
        clear hq0 hSz hSS
        obtain ⟨Q1, hQ1⟩ : ∃ Q : ByteArray, Q = ⟨(quoteL xa).toArray⟩ := ⟨_, rfl⟩
        obtain ⟨Q2, hQ2⟩ : ∃ Q : ByteArray, Q = ⟨(quoteL xb).toArray⟩ := ⟨_, rfl⟩
        have c1 := refQuote_any (str xa) hqa
        have c2 := refQuote_any (str xb) hqb
        rw [str_list, ← hQ1] at c1
        rw [str_list, ← hQ2] at c2
        have z1 : Q1.size = (quoteL xa).length := by rw [hQ1]; rfl
        have z2 : Q2.size = (quoteL xb).length := by rw [hQ2]; rfl
        have e1 : ∀ W, (Op.stringOp .add S Q1).run Try.prog W = .ok (.string (S ++ Q1)) W := fun W => run_string_add_sum W _ _ (by omega)
        have e2 : ∀ W, (Op.stringOp .add (S ++ Q1) ⟨#[61]⟩).run Try.prog W = .ok (.string (S ++ Q1 ++ ⟨#[61]⟩)) W := fun W => run_string_add_sum W _ _ (by rw [ByteArray.size_append]; show S.size + Q1.size + 1 ≤ _; omega)
        have e3 : ∀ W, (Op.stringOp .add (S ++ Q1 ++ ⟨#[61]⟩) Q2).run Try.prog W = .ok (.string (S ++ Q1 ++ ⟨#[61]⟩ ++ Q2)) W := fun W => run_string_add_sum W _ _ (by rw [ByteArray.size_append, ByteArray.size_append]; show S.size + Q1.size + 1 + Q2.size ≤ _; omega)
        have HN1 : Hid (S ++ Q1 ++ ⟨#[61]⟩ ++ Q2 = ⟨(buildL (l.take (k + 1))).toArray⟩) := by
          apply ByteArray.ext; apply Array.ext'
          rw [HG.out, hQ1, hQ2]
          simp [ByteArray.data_append, oneL, hS]
        have HZ1 := Lib.hid z1; have HZ2 := Lib.hid z2; clear z1 z2 hQ1 hQ2 hS hq1 hqa hqb hmax hlk hsz
        go_region_held3 (fun W => W.cell? (a.add (k * 2)) = some (.string ⟨xa.toArray⟩) ∧ W.cell? ⟨(a.add (k * 2)).block, (a.add (k * 2)).off + 1, none⟩ = some (.string ⟨xb.toArray⟩)) (first | exact ⟨h1, h2⟩ | exact ⟨h1d, h2d⟩ | exact keep_two ⟨h1d, h2d⟩ habr (by assumption) | exact keep_two (keep_two ⟨h1d, h2d⟩ habr hbA) (Nat.lt_of_lt_of_le habr hbA.size) (by assumption)) (first | (go_at_call 30; with_reducible refine (c1 _).mono ?_; rintro e w2 ⟨rfl, hbA⟩) | (go_at_call 30; with_reducible refine (c2 _).mono ?_; rintro e w2 ⟨rfl, hbB⟩))
        go_wp2
        go_roundw
        case rel => exact ⟨k + 1, by omega, by go_num, str_eq HN1.out, (hbw.drew.chain hbA).chain hbB⟩
        case measure => simp [intOf]; omega
      · have hke : k = 0 := by omega
        have HG := Lib.hid (G2.out hke); clear G1 G2
        have hkn : buildL (l.take k) = [] := by rw [hke]; rfl
        rw [hkn]
        clear hke hkn
        have hnl : (buildL (l.take (k + 1))).length = (quoteL xa).length + (1 + (quoteL xb).length) := by rw [HG.out]; simp [oneL]; omega
        have hq0 : (quoteL xa).length + 1 + (quoteL xb).length ≤ T := by omega
        clear hnl hlk1
        obtain ⟨S, hSS⟩ : ∃ S : ByteArray, S = ⟨([] : List UInt8).toArray⟩ := ⟨_, rfl⟩
        have hS : S.data.toList = [] := by rw [hSS]
        have hSz : S.size = 0 := by show S.data.toList.length = _; rw [hS]; simp
        have hq1 : S.size + (quoteL xa).length + 1 + (quoteL xb).length ≤ T := by omega
        rw [← hSS]
        clear hq0 hSz hSS
        go_wp2
        obtain ⟨Q1, hQ1⟩ : ∃ Q : ByteArray, Q = ⟨(quoteL xa).toArray⟩ := ⟨_, rfl⟩
        obtain ⟨Q2, hQ2⟩ : ∃ Q : ByteArray, Q = ⟨(quoteL xb).toArray⟩ := ⟨_, rfl⟩
        have c1 := refQuote_any (str xa) hqa
        have c2 := refQuote_any (str xb) hqb
        rw [str_list, ← hQ1] at c1
        rw [str_list, ← hQ2] at c2
        have z1 : Q1.size = (quoteL xa).length := by rw [hQ1]; rfl
        have z2 : Q2.size = (quoteL xb).length := by rw [hQ2]; rfl
        have e1 : ∀ W, (Op.stringOp .add S Q1).run Try.prog W = .ok (.string (S ++ Q1)) W := fun W => run_string_add_sum W _ _ (by omega)
        have e2 : ∀ W, (Op.stringOp .add (S ++ Q1) ⟨#[61]⟩).run Try.prog W = .ok (.string (S ++ Q1 ++ ⟨#[61]⟩)) W := fun W => run_string_add_sum W _ _ (by rw [ByteArray.size_append]; show S.size + Q1.size + 1 ≤ _; omega)
        have e3 : ∀ W, (Op.stringOp .add (S ++ Q1 ++ ⟨#[61]⟩) Q2).run Try.prog W = .ok (.string (S ++ Q1 ++ ⟨#[61]⟩ ++ Q2)) W := fun W => run_string_add_sum W _ _ (by rw [ByteArray.size_append, ByteArray.size_append]; show S.size + Q1.size + 1 + Q2.size ≤ _; omega)
        have HN1 : Hid (S ++ Q1 ++ ⟨#[61]⟩ ++ Q2 = ⟨(buildL (l.take (k + 1))).toArray⟩) := by
          apply ByteArray.ext; apply Array.ext'
          rw [HG.out, hQ1, hQ2]
          simp [ByteArray.data_append, oneL, hS]
        have HZ1 := Lib.hid z1; have HZ2 := Lib.hid z2; clear z1 z2 hQ1 hQ2 hS hq1 hqa hqb hmax hlk hsz
        go_region_held3 (fun W => W.cell? (a.add (k * 2)) = some (.string ⟨xa.toArray⟩) ∧ W.cell? ⟨(a.add (k * 2)).block, (a.add (k * 2)).off + 1, none⟩ = some (.string ⟨xb.toArray⟩)) (first | exact ⟨h1, h2⟩ | exact ⟨h1d, h2d⟩ | exact keep_two ⟨h1d, h2d⟩ habr (by assumption) | exact keep_two (keep_two ⟨h1d, h2d⟩ habr hbA) (Nat.lt_of_lt_of_le habr hbA.size) (by assumption)) (first | (go_at_call 30; with_reducible refine (c1 _).mono ?_; rintro e w2 ⟨rfl, hbA⟩) | (go_at_call 30; with_reducible refine (c2 _).mono ?_; rintro e w2 ⟨rfl, hbB⟩))
        go_wp2
        go_roundw
        case rel => exact ⟨k + 1, by omega, by go_num, str_eq HN1.out, (hbw.drew.chain hbA).chain hbB⟩
        case measure => simp [intOf]; omega
    · have hke : k = n := by omega
      subst hke
      rw [HA.out]
      go_wp2
      go_ret
      exact ⟨rfl, hbw⟩
end Go.Proofs.Ytdogcnlcefklkaa
