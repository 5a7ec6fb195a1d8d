/- Texts merged by program, in build order: LawJwkBack, OpenKeys, LawJwkCuts. -/
import Derived.Test.YtjgjajnpbcghmaaDoorM17
import Derived.Test.YtjgjajnpbcghmaaDoorM08
import Derived.Lib.LaidTab
import Derived.LaidMore
import Derived.LaidSub
import Derived.OpenShut
import Derived.ProofKit
import Derived.Stop.Joined
import Derived.Stop.LaidErr
import Derived.HandedShaped
import Derived.Shelf.Vars
import Derived.Test.YtjgjajnpbcghmaaDoorM15
namespace Go.Proofs.YtjgjajnpbcghmaaDoor
open Go.RowKit
set_option linter.unusedVariables false
set_option linter.unusedSimpArgs false

set_option maxRecDepth 100000 in
set_option maxHeartbeats 8000000 in
theorem jwkBack_walk (A : Option Addr) (c : Nat) (l : PL) (hlc : l.length ≤ c) (hlr : l.length ≤ reachBytes) (hz : ∀ p ∈ l, p.1.length ≤ reachBytes ∧ p.2.length ≤ reachBytes) (w : World) (hk : KitIn w.heap.size w) (hp : Prs w w.heap.size A l) :
    Calls Tryd.prog 3 #[.slice A l.length c] w fun e w' => e = .returned (.bool true) ∧ Below w.heap.size w w' := by
  unfold reachBytes at hlr
  have hkb := fun W (hb : Below w.heap.size w W) => (hk.below hb).more hb.size
  have hans := fun W (hb : Below w.heap.size w W) => answers7_any W (hkb W hb)
  obtain ⟨n, hn⟩ : ∃ n, l.length = n := ⟨_, rfl⟩
  by_cases h200 : 200 < n
  · have hd : decide ((200 : Int) < (n : Int)) = true := by simp; omega
    rw [hn]
    have HA := Lib.hid hans
    clear hans hkb hk hp hz hlr hlc hn
    go_enter Tryd.func3, Tryd.ntmps3
    go_wp2_with fail
    refine (HA.out _ (Below.refl _ _)).mono ?_
    rintro e w2 ⟨rfl, hb2⟩
    have HB2 := Lib.hid hb2; clear hb2
    dsimp only
    go_wp2
    go_ret
    exact ⟨rfl, HB2.out⟩
  · have hd : decide ((200 : Int) < (n : Int)) = false := by simp; omega
    have hprt := fun (hsm : ∀ p ∈ l, p.1.length + p.2.length ≤ 300) (W : World) (hb : Below w.heap.size w W) => printKeys_any A c l hlc (by unfold maxLen; omega) (fun p hp => by have := hsm p (List.mem_of_mem_take hp); omega) W ((hp.below hb).more hb.size) (hkb W hb).toTab
    have hrk := fun (hsm : ∀ p ∈ l, p.1.length + p.2.length ≤ 300) (W : World) (hb : Below w.heap.size w W) => refKeys_any A c l (by omega) (fun p hp => by have := hsm p (List.mem_of_mem_take hp); omega) W ((hp.below hb).more hb.size)
    have hpar := fun (hsl : (setT l).length ≤ 1000000) (W : World) (hb : Below w.heap.size w W) => parseKeys_any (setT l) (by omega) W (hkb W hb)
    have hlen : (∀ p ∈ l, p.1.length + p.2.length ≤ 300) → (setT l).length ≤ 1000000 := fun hsm => by
      have h := setT_le (M := 3000) (l := l) fun p hp => by
        have h1 := jkT_le p; have h2 := hsm p hp; omega
      omega
    unfold SetSays at hpar
    have hpl := fun (W : World) (hb : Below w.heap.size w W) => hp.below hb
    rw [hn] at hprt hrk ⊢
    have hn1 : n ≤ 200 := by omega
    have HN := Lib.hid hn; have HZ := Lib.hid hz; have HPRT := Lib.hid hprt; have HRK := Lib.hid hrk; have HPAR := Lib.hid hpar; have HLEN := Lib.hid hlen; have HA := Lib.hid hans; have HPL := Lib.hid hpl
    clear hn hz hprt hrk hpar hlen hans hkb hk hlc hlr hpl
    go_enter Tryd.func3, Tryd.ntmps3
    go_wp2
    go_loopw [3] (fun i wr => ∃ k q : Nat, k ≤ n ∧ i = .int .i64 k ∧ wr = w.drewN q ∧ ∀ j (hj : j < l.length), j < k → l[j].1.length + l[j].2.length ≤ 300) (fun i _ => n - (intOf i).toNat)
    case atStart => exact ⟨0, 0, Nat.zero_le _, rfl, rfl, fun _ _ h => absurd h (Nat.not_lt_zero _)⟩
    case round =>
      obtain ⟨k, q, hk, rfl, rfl, hb⟩ := hrel
      have HB := Lib.hid hb; clear hb
      by_cases hlt : k < n
      · have hkl : k < l.length := by have := HN.out; omega
        obtain ⟨a, rfl, hab, h1, h2⟩ := hp k hkl
        have hsz := HZ.out l[k] (List.getElem_mem hkl)
        have g1 : l[k].1.length + l[k].2.length ≤ 300 → ∀ j (hj : j < l.length), j < k + 1 → l[j].1.length + l[j].2.length ≤ 300 := fun h j hj hjk => by
          rcases Nat.lt_succ_iff_lt_or_eq.1 hjk with h' | h'
          · exact HB.out j hj h'
          · subst h'; exact h
        have G1 := Lib.hid g1; clear g1
        generalize l[k] = x at *
        obtain ⟨xa, xb⟩ := x
        dsimp only at h1 h2 hsz
        unfold reachBytes at hsz
        have hza := hsz.1
        have hzb := hsz.2
        clear hsz hp
        have hw : IntKind.i64.wrap ((xa.length : Int) + (xb.length : Int)) = (xa.length : Int) + (xb.length : Int) := wraps_i64 _ (by omega) (by omega)
        by_cases hs : 300 < xa.length + xb.length
        · have hd2 : decide ((300 : Int) < (xa.length : Int) + (xb.length : Int)) = true := by simp; omega
          go_wp2
          go_quiet (fail)
          go_wp2_with fail
          refine (HA.out _ (belowDrewN (Below.refl _ _) _)).mono ?_
          rintro e w3 ⟨rfl, hb3⟩
          have HB3 := Lib.hid hb3; clear hb3
          dsimp only
          go_wp2
          go_ret
          exact ⟨rfl, (belowDrewN (Below.refl _ _) _).chain HB3.out⟩
        · have hd2 : decide ((300 : Int) < (xa.length : Int) + (xb.length : Int)) = false := by simp; omega
          have HG := Lib.hid (G1.out (Nat.le_of_not_lt hs))
          go_wp2
          go_quiet (fail)
          go_wp2
          go_roundw
          case rel => exact ⟨k + 1, q + nq, by omega, by go_num, rfl, HG.out⟩
          case measure => simp [intOf]; omega
      · have hke : k = n := by omega
        subst hke
        have hsm : ∀ p ∈ l, p.1.length + p.2.length ≤ 300 := fun p hp => by
          obtain ⟨j, hj, rfl⟩ := List.getElem_of_mem hp
          exact HB.out j hj (by have := HN.out; omega)
        have hsl := HLEN.out hsm
        have hprt := HPRT.out hsm
        have hrk := HRK.out hsm
        have hpar := HPAR.out hsl
        have b0 : Below w.heap.size w (w.drewN q) := belowDrewN (Below.refl _ _) _
        obtain ⟨T, hT⟩ : ∃ T : ByteArray, (⟨(setT l).toArray⟩ : ByteArray) = T := ⟨_, rfl⟩
        have hTs : T.size = (setT l).length := by rw [← hT, barr_size]
        have hTT : (T != T) = false := by rw [bne, ba_eq]; rfl
        rw [hT] at hprt hrk hpar
        have HPR := Lib.hid hprt; have HRR := Lib.hid hrk; have B0 := Lib.hid b0
        clear hprt hrk b0 HPRT HRK hsm HB
        by_cases hbig : 4096 < (setT l).length
        · rw [setR_large hbig] at hpar
          have hd3 : decide ((4096 : Int) < (T.size : Int)) = true := by simp; omega
          have HPP := Lib.hid hpar
          clear hpar hT hTs hbig hsl hlt HLEN HPAR
          go_wp2_with fail
          refine (HPR.out _ B0.out).mono ?_
          rintro e w1 ⟨rfl, hb1⟩
          have B1 := Lib.hid (B0.out.chain hb1); clear hb1
          dsimp only
          go_wp2_with fail
          refine (HPP.out _ B1.out).mono ?_
          rintro e w2 ⟨⟨A2, c2, rfl, -, -⟩, hb2⟩
          have B2 := Lib.hid (B1.out.chain hb2); clear hb2
          dsimp only
          go_wp2_with fail
          refine (HRR.out _ B2.out).mono ?_
          rintro e w3 ⟨rfl, hb3⟩
          have B3 := Lib.hid (B2.out.chain hb3); clear hb3
          dsimp only
          go_wp2_with fail
          refine (HA.out _ B3.out).mono ?_
          rintro e w4 ⟨rfl, hb4⟩
          have B4 := Lib.hid (B3.out.chain hb4); clear hb4
          dsimp only
          go_wp2
          go_ret
          exact ⟨rfl, B4.out⟩
        · rw [setR_back l (by omega)] at hpar
          have hd3 : decide ((4096 : Int) < (T.size : Int)) = false := by simp; omega
          obtain ⟨t, ht⟩ : ∃ t, (l.take 64).length = t := ⟨_, rfl⟩
          have htk : t = min k 64 := by rw [← ht, List.length_take, HN.out]; omega
          have hsame : ∀ (W : World) (A2 : Option Addr), Prs W W.heap.size A2 (l.take 64) → Prs W w.heap.size A l → ∀ j, j < t → ∃ a a2 x y, A = some a ∧ A2 = some a2 ∧ W.cell? (a.add (j * 2)) = some (.string x) ∧ W.cell? ⟨(a.add (j * 2)).block, (a.add (j * 2)).off + 1, none⟩ = some (.string y) ∧ W.cell? (a2.add (j * 2)) = some (.string x) ∧ W.cell? ⟨(a2.add (j * 2)).block, (a2.add (j * 2)).off + 1, none⟩ = some (.string y) := fun W A2 q1 q2 j hj => by
            obtain ⟨a2, e2, -, m0, m1⟩ := q1 j (by omega)
            obtain ⟨a, e1, -, n0, n1⟩ := q2 j (by have := HN.out; omega)
            rw [List.getElem_take] at m0 m1
            rw [add_next] at m1 n1
            exact ⟨a, a2, _, _, e1, e2, n0, by rw [add_next]; exact n1, m0, by rw [add_next]; exact m1⟩
          rw [ht] at hpar
          have HPP := Lib.hid hpar; have HSAME := Lib.hid hsame; have HTK := Lib.hid htk
          have hf1 : (decide ((k : Int) ≤ 64) = true ∧ ((t : Int) != (k : Int)) = false) ∨ (decide ((k : Int) ≤ 64) = false ∧ ((t : Int) != (k : Int)) = true) := by
            by_cases h : k ≤ 64
            · left; constructor
              · simp; omega
              · simp; omega
            · right; constructor
              · simp; omega
              · simp; omega
          have ht0 : (0 : Int) ≤ t := by omega
          clear hpar hT hTs hbig hsl hlt HLEN HPAR ht htk hsame
          have hmain : True := trivial
          rcases hf1 with ⟨hf1, hf2⟩ | ⟨hf1, hf2⟩
          all_goals
            go_wp2_with fail
            refine (HPR.out _ B0.out).mono ?_
            rintro e w1 ⟨rfl, hb1⟩
            have B1 := Lib.hid (B0.out.chain hb1); clear hb1
            dsimp only
            go_wp2_with fail
            refine (HPP.out _ B1.out).mono ?_
            rintro e w2 ⟨⟨A2, c2, rfl, -, hp2⟩, hb2⟩
            have B2 := Lib.hid (B1.out.chain hb2); have P2 := Lib.hid hp2; clear hb2 hp2
            dsimp only
            go_wp2_with fail
            refine (HRR.out _ B2.out).mono ?_
            rintro e w3 ⟨rfl, hb3⟩
            have B3 := Lib.hid (B2.out.chain hb3); have P3 := Lib.hid ((P2.out.below hb3).more hb3.size); clear hb3
            dsimp only
            go_wp2
            go_loopw [7] (fun i wr => ∃ j q : Nat, j ≤ t ∧ i = .int .i64 j ∧ wr = w3.drewN q) (fun i _ => t - (intOf i).toNat)
            case atStart => exact ⟨0, 0, Nat.zero_le _, rfl, rfl⟩
            case round =>
              obtain ⟨j, q2, hjt, rfl, rfl⟩ := hrel
              by_cases hjl : j < t
              · obtain ⟨a, a2, x, y, rfl, rfl, m0, m1, o0, o1⟩ := HSAME.out w3 A2 P3.out (HPL.out _ B3.out) j hjl
                have hj0 : (0 : Int) ≤ j := by omega
                have hj1 : (j : Int) < t := by omega
                have hj2 : (j : Int) < k := by have := HTK.out; omega
                have hxx : (x != x) = false := by rw [bne, ba_eq]; rfl
                have hyy : (y != y) = false := by rw [bne, ba_eq]; rfl
                clear hp
                go_wp2
                go_quiet (fail)
                go_wp2
                go_roundw
                case rel => exact ⟨j + 1, q2 + nq, by omega, by go_num, rfl⟩
                case measure => simp [intOf]; omega
              · obtain rfl : j = t := by omega
                go_wp2_with fail
                refine (HA.out _ (belowDrewN B3.out _)).mono ?_
                rintro e w4 ⟨rfl, hb4⟩
                have B4 := Lib.hid ((belowDrewN B3.out q2).chain hb4); clear hb4
                dsimp only
                go_wp2
                go_ret
                exact ⟨rfl, B4.out⟩
theorem jwkBack_law {w : World} (A : Option Addr) (c : Nat) (l : PL) (h : Prs w w.heap.size A l ∧ l.length ≤ reachBytes ∧ (∀ p ∈ l, p.1.length ≤ reachBytes ∧ p.2.length ≤ reachBytes) ∧ (A = none → c = 0) ∧ l.length ≤ c) (hk : KitIn w.heap.size w) :
    Calls Tryd.prog 3 #[.slice A l.length c] w fun e w' => e = .returned (.bool true) ∧ Below w.heap.size w w' :=
  jwkBack_walk A c l h.2.2.2.2 h.2.1 h.2.2.1 w hk h.1
end Go.Proofs.YtjgjajnpbcghmaaDoor
namespace Go.Proofs.YtjgjajnpbcghmaaDoor
open Go.ChangeShapes Go.WideShapes Go.ChangeAt Go.RowKit

/-! ### arguments that are keys -/
theorem Tryd.cellsKey : Tryd.prog.cellsOf 25 = 2 := by kernel_rfl
theorem Tryd.bytesKey : Tryd.prog.bytesOf 25 = 32 := by kernel_rfl
set_option maxRecDepth 100000 in
/-- two cells that read as a key -/
theorem open_key2 {H : Type} {enc : TypeId × Value → H} {W : World} {base : Nat} {sp : Nat → Bool} {held : Bool} {n : Nat} {cs : List Value} {x : DataW H × List MemPlace}
    (h : DataW.trod enc Tryd.prog W base sp held n 25 cs = some x) : ∃ a b : ByteArray, cs = [.string a, .string b] ∧ x.1 = .agg [.lit (.string a.data.toList), .lit (.string b.data.toList)] := by
  obtain ⟨xs, m, _, hx, hlen, hxl, hf⟩ := DataW.trod_struct Tryd.underlying25 h
  rw [Tryd.cellsKey] at hlen
  match cs, hlen with
  | [c0, c1], _ =>
    have h0 : DataW.trod enc Tryd.prog W base sp held m 9 [c0] = xs[0]? := by
      have := hf 0 { name := "ID", type := 9, offset := 0, embedded := false, tag := "", pkgPath := "", byteOffset := 0 } rfl
      rwa [Tryd.cellsStr] at this
    have h1 : DataW.trod enc Tryd.prog W base sp held m 9 [c1] = xs[1]? := by
      have := hf 1 { name := "Secret", type := 9, offset := 1, embedded := false, tag := "", pkgPath := "", byteOffset := 16 } rfl
      rwa [Tryd.cellsStr] at this
    match xs, hxl with
    | [y0, y1], _ =>
      simp only [List.getElem?_cons_zero, List.getElem?_cons_succ] at h0 h1
      obtain ⟨a, ha, ya, za⟩ := DataW.trod_string Tryd.underlying9 h0
      obtain ⟨b, hb, yb, zb⟩ := DataW.trod_string Tryd.underlying9 h1
      simp at ha hb
      exact ⟨a, b, by rw [ha, hb], by rw [hx, ya, yb]; rfl⟩
set_option maxRecDepth 100000 in
/-- a key by value -/
theorem open_key {H : Type} {enc : TypeId × Value → H} {W : World} {base : Nat} {v : Value} {d : DataW H} {ps : List MemPlace} (hval : Value.okWide Tryd.prog W .any base 25 v)
    (hd : DataW.Trod enc Tryd.prog W 0 (fun _ => true) true 25 v d ps) (_ : ∀ x ∈ ps, x.block < W.heap.size) (hwt : ∀ n ∈ d.weights Tryd.prog 25, n ≤ reachBytes) :
    ∃ id sec : List UInt8, v = .agg #[.string ⟨id.toArray⟩, .string ⟨sec.toArray⟩] ∧ id.length ≤ reachBytes ∧ sec.length ≤ reachBytes := by
  obtain ⟨cs, rfl, hcs⟩ := okWide_struct Tryd.underlying25 hval
  obtain ⟨fuel, hf⟩ := hd
  obtain ⟨a, b, hab, hx⟩ := open_key2 hf
  obtain ⟨cs⟩ := cs
  simp only [Value.cells] at hab
  have hc : cs = [.string a, .string b] := hab
  subst hc
  have hd : d = .agg [.lit (.string a.data.toList), .lit (.string b.data.toList)] := hx
  rw [hd] at hwt
  refine ⟨a.data.toList, b.data.toList, by rw [← str_eta a, ← str_eta b], hwt _ ?_, hwt _ ?_⟩ <;> simp [DataW.weights, Tryd.underlying25, DataW.weightsEach]
set_option maxRecDepth 100000 in
/-- a slice of keys -/
theorem open_keysC {H : Type} {enc : TypeId × Value → H} {W : World} {base : Nat} {v : Value} {d : DataW H} {ps : List MemPlace} (hval : Value.okWide Tryd.prog W .any base 22 v)
    (hd : DataW.Trod enc Tryd.prog W 0 (fun _ => true) true 22 v d ps) (hlt : ∀ x ∈ ps, x.block < W.heap.size) (hwt : ∀ n ∈ d.weights Tryd.prog 22, n ≤ reachBytes) :
    ∃ (A : Option Addr) (c : Nat) (l : PL), v = .slice A l.length c ∧ Prs W W.heap.size A l ∧ l.length ≤ reachBytes ∧ (∀ p ∈ l, p.1.length ≤ reachBytes ∧ p.2.length ≤ reachBytes) ∧ (A = none → c = 0) ∧ l.length ≤ c := by
  obtain ⟨a0, len, cap, rfl⟩ := okWide_slice Tryd.underlying22 hval
  obtain ⟨fuel, hf⟩ := hd
  rcases Go.Deep.open_slice Tryd.underlying22 hf with ⟨hcs, hx⟩ | ⟨a, len', cap', m, n, D, Pl, hcs, _, hl, hm, hmm, hx, hi⟩
  · simp [Value.cells] at hcs
    obtain ⟨rfl, rfl, rfl⟩ := hcs
    exact ⟨none, 0, [], rfl, Prs.nil _ _ _, Nat.zero_le _, by simp, fun _ => rfl, Nat.le_refl _⟩
  · simp [Value.cells] at hcs
    obtain ⟨rfl, rfl, rfl⟩ := hcs
    simp only [if_true] at hmm
    subst hmm
    rw [Tryd.cellsKey] at hi hx
    have hall : ∀ i, ∃ x : ByteArray × ByteArray, i < m → W.cell? (a.add (i * 2)) = some (.string x.1) ∧ W.cell? (a.add (i * 2 + 1)) = some (.string x.2) ∧ D i = .agg [.lit (.string x.1.data.toList), .lit (.string x.2.data.toList)] := by
      intro i
      by_cases him : i < m
      · obtain ⟨cs', hc, ht'⟩ := hi i him
        obtain ⟨u, u', rfl, hD⟩ := open_key2 ht'
        obtain ⟨_, _, hat⟩ := World.cells?_some hc
        refine ⟨(u, u'), fun _ => ⟨?_, ?_, hD⟩⟩
        · have := hat 0 (by decide); simpa [Addr.add] using this
        · have := hat 1 (by decide); rw [Go.Deep.add_add] at this; simpa using this
      · exact ⟨(⟨#[]⟩, ⟨#[]⟩), fun h => absurd h him⟩
    obtain ⟨f, hf⟩ := Classical.axiomOfChoice hall
    let g : Nat → List UInt8 × List UInt8 := fun i => ((f i).1.data.toList, (f i).2.data.toList)
    simp only [Prod.mk.injEq] at hx
    have hlen : len ≤ reachBytes := by
      have := hwt ((len + (m - len)) * Tryd.prog.bytesOf 25) (by rw [hx.1]; simp [DataW.weights, Tryd.underlying22])
      rw [Tryd.bytesKey] at this
      omega
    refine ⟨some a, m, (List.range len).map g, by simp, fun k hk => ?_, by simpa using hlen, ?_, (fun h => by cases h), (by rw [List.length_map, List.length_range]; omega)⟩
    · have hk' : k < len := by simpa using hk
      refine ⟨a, rfl, ?_, ?_, ?_⟩
      · have hb : MemPlace.cell a.block a.off ∈ ps := by
          rw [hx.2, List.mem_append]
          exact .inl (MemPlace.mem_row.2 ⟨0, by omega, by simp⟩)
        exact hlt _ hb
      · rw [(hf k (by omega)).1]; simp [g]
      · rw [add_next, (hf k (by omega)).2.1]; simp [g]
    · intro p hp
      obtain ⟨i, hi', rfl⟩ := List.mem_map.1 hp
      have hil : i < len := by simpa using hi'
      have hD := (hf i (by omega)).2.2
      have hin : D i ∈ (List.range len).map D := List.mem_map.2 ⟨i, by simpa using hil, rfl⟩
      have hmem : ∀ n ∈ (D i).weights Tryd.prog 25, n ≤ reachBytes := fun n hn => hwt n (by
        rw [hx.1]
        simp only [DataW.weights, Tryd.underlying22, List.mem_cons, List.mem_append]
        exact .inr (.inl (weightsAll_in hin n hn)))
      rw [hD] at hmem
      refine ⟨hmem _ ?_, hmem _ ?_⟩ <;> simp [DataW.weights, Tryd.underlying25, DataW.weightsEach, g]
set_option maxRecDepth 100000 in
theorem open_keys {H : Type} {enc : TypeId × Value → H} {W : World} {base : Nat} {v : Value} {d : DataW H} {ps : List MemPlace} (hval : Value.okWide Tryd.prog W .any base 22 v)
    (hd : DataW.Trod enc Tryd.prog W 0 (fun _ => true) true 22 v d ps) (hlt : ∀ x ∈ ps, x.block < W.heap.size) (hwt : ∀ n ∈ d.weights Tryd.prog 22, n ≤ reachBytes) :
    ∃ (A : Option Addr) (c : Nat) (l : PL), v = .slice A l.length c ∧ Prs W W.heap.size A l ∧ l.length ≤ reachBytes ∧ (∀ p ∈ l, p.1.length ≤ reachBytes ∧ p.2.length ≤ reachBytes) ∧ (A = none → c = 0) := by
  obtain ⟨A, c, l, h1, h2, h3, h4, h5, _⟩ := open_keysC hval hd hlt hwt
  exact ⟨A, c, l, h1, h2, h3, h4, h5⟩
end Go.Proofs.YtjgjajnpbcghmaaDoor
namespace Go.Proofs.YtjgjajnpbcghmaaDoor
open Go.RowKit
set_option linter.unusedVariables false
set_option linter.unusedSimpArgs false

theorem extract_take (T : ByteArray) (r : Nat) : T.extract 0 r = ⟨(T.data.toList.take r).toArray⟩ := by
  apply ByteArray.ext
  apply Array.ext'
  simp
set_option maxRecDepth 100000 in
set_option maxHeartbeats 8000000 in
theorem jwkCuts_walk (A : Option Addr) (c : Nat) (l : PL) (hlr : l.length ≤ reachBytes) (hz : ∀ p ∈ l, p.1.length ≤ reachBytes ∧ p.2.length ≤ reachBytes) (x1 x2 : Int) (hx1 : (Lit.int .u16 x1).wf = true) (hx2 : (Lit.int .u8 x2).wf = true) (w : World) (hk : KitIn w.heap.size w) (hp : Prs w w.heap.size A l) :
    Calls Tryd.prog 5 #[.slice A l.length c, .int .u16 x1, .int .u8 x2] w fun e w' => e = .returned (.bool true) ∧ Below w.heap.size w w' := by
  unfold reachBytes at hlr
  have hr1 : 0 ≤ x1 ∧ x1 ≤ 65535 := by
    have h1 := hx1; have m0 : IntKind.u16.min = 0 := by decide
    have m1 : IntKind.u16.max = 65535 := by decide
    simp [Lit.wf, m0, m1] at h1; omega
  obtain ⟨b, hb8⟩ := byte_ex hx2
  have hkb := fun W (hb : Below w.heap.size w W) => (hk.below hb).more hb.size
  have hans := fun W (hb : Below w.heap.size w W) => answers7_any W (hkb W hb)
  obtain ⟨n, hn⟩ : ∃ n, l.length = n := ⟨_, rfl⟩
  by_cases h5 : 5 < n
  · have hd : decide ((5 : Int) < (n : Int)) = true := by simp; omega
    rw [hn]
    have HA := Lib.hid hans
    clear hans hkb hk hp hz hlr hn
    go_enter Tryd.func5, Tryd.ntmps5
    go_wp2_with fail
    refine (HA.out _ (Below.refl _ _)).mono ?_
    rintro e w2 ⟨rfl, hb2⟩
    have HB2 := Lib.hid hb2; clear hb2
    dsimp only
    go_wp2
    go_ret
    exact ⟨rfl, HB2.out⟩
  · have hd : decide ((5 : Int) < (n : Int)) = false := by simp; omega
    have hrk := fun (hsm : ∀ p ∈ l, p.1.length + p.2.length ≤ 100) (W : World) (hb : Below w.heap.size w W) => refKeys_any A c l (by omega) (fun p hp => by have := hsm p (List.mem_of_mem_take hp); omega) W ((hp.below hb).more hb.size)
    have hlen : (∀ p ∈ l, p.1.length + p.2.length ≤ 100) → (setT l).length < 4096 := fun hsm => by
      have h1 := itemsT_le (M := 700) (l := l.take 64) fun p hp => by
        have h1 := jkT_le p; have h2 := hsm p (List.mem_of_mem_take hp); omega
      have h2 : (l.take 64).length ≤ 5 := by rw [List.length_take]; omega
      have h3 := Nat.mul_le_mul_right (700 + 1) h2
      rw [setT_is]
      simp only [List.length_append, setFront, List.length_cons, List.length_nil]
      omega
    have hpar := fun (t : List UInt8) (ht : t.length ≤ 4096) (hv : parseV t = (V.zero, 2)) (W : World) (hb : Below w.heap.size w W) => by
      have := parseKeys_any t (by omega) W (hkb W hb)
      rw [setR_form hv] at this
      exact this
    unfold SetSays at hpar
    rw [hn] at hrk ⊢
    have hn1 : n ≤ 5 := by omega
    have HN := Lib.hid hn; have HZ := Lib.hid hz; have HRK := Lib.hid hrk; have HPAR := Lib.hid hpar; have HLEN := Lib.hid hlen; have HA := Lib.hid hans
    clear hn hz hrk hpar hlen hans hkb hk hlr
    go_enter Tryd.func5, Tryd.ntmps5
    go_wp2
    go_loopw [7] (fun i wr => ∃ k q : Nat, k ≤ n ∧ i = .int .i64 k ∧ wr = w.drewN q ∧ ∀ j (hj : j < l.length), j < k → l[j].1.length + l[j].2.length ≤ 100) (fun i _ => n - (intOf i).toNat)
    case atStart => exact ⟨0, 0, Nat.zero_le _, rfl, rfl, fun _ _ h => absurd h (Nat.not_lt_zero _)⟩
    case round =>
      obtain ⟨k, q, hk, rfl, rfl, hb⟩ := hrel
      have HB := Lib.hid hb; clear hb
      by_cases hlt : k < n
      · have hkl : k < l.length := by have := HN.out; omega
        obtain ⟨a, rfl, hab, h1, h2⟩ := hp k hkl
        have hsz := HZ.out l[k] (List.getElem_mem hkl)
        have g1 : l[k].1.length + l[k].2.length ≤ 100 → ∀ j (hj : j < l.length), j < k + 1 → l[j].1.length + l[j].2.length ≤ 100 := fun h j hj hjk => by
          rcases Nat.lt_succ_iff_lt_or_eq.1 hjk with h' | h'
          · exact HB.out j hj h'
          · subst h'; exact h
        have G1 := Lib.hid g1; clear g1
        generalize l[k] = x at *
        obtain ⟨xa, xb⟩ := x
        dsimp only at h1 h2 hsz
        unfold reachBytes at hsz
        have hza := hsz.1
        have hzb := hsz.2
        clear hsz hp
        have hw : IntKind.i64.wrap ((xa.length : Int) + (xb.length : Int)) = (xa.length : Int) + (xb.length : Int) := wraps_i64 _ (by omega) (by omega)
        by_cases hs : 100 < xa.length + xb.length
        · have hd2 : decide ((100 : Int) < (xa.length : Int) + (xb.length : Int)) = true := by simp; omega
          go_wp2
          go_quiet (fail)
          go_wp2_with fail
          refine (HA.out _ (belowDrewN (Below.refl _ _) _)).mono ?_
          rintro e w3 ⟨rfl, hb3⟩
          have HB3 := Lib.hid hb3; clear hb3
          dsimp only
          go_wp2
          go_ret
          exact ⟨rfl, (belowDrewN (Below.refl _ _) _).chain HB3.out⟩
        · have hd2 : decide ((100 : Int) < (xa.length : Int) + (xb.length : Int)) = false := by simp; omega
          have HG := Lib.hid (G1.out (Nat.le_of_not_lt hs))
          go_wp2
          go_quiet (fail)
          go_wp2
          go_roundw
          case rel => exact ⟨k + 1, q + nq, by omega, by go_num, rfl, HG.out⟩
          case measure => simp [intOf]; omega
      · have hke : k = n := by omega
        subst hke
        have hsm : ∀ p ∈ l, p.1.length + p.2.length ≤ 100 := fun p hp => by
          obtain ⟨j, hj, rfl⟩ := List.getElem_of_mem hp
          exact HB.out j hj (by have := HN.out; omega)
        have hsl := HLEN.out hsm
        have hpos := setT_pos l
        have hrk := HRK.out hsm
        have b0 : Below w.heap.size w (w.drewN q) := belowDrewN (Below.refl _ _) _
        obtain ⟨T, hT⟩ : ∃ T : ByteArray, (⟨(setT l).toArray⟩ : ByteArray) = T := ⟨_, rfl⟩
        have hTs : T.size = (setT l).length := by rw [← hT, barr_size]
        have hTl : T.data.toList = setT l := by rw [← hT]
        obtain ⟨r, hrT, hr⟩ : ∃ r : Nat, r < T.size ∧ x1.tmod (T.size : Int) = r := ⟨(x1.tmod (T.size : Int)).toNat, by have := Int.tmod_lt_of_pos x1 (show (0 : Int) < (T.size : Int) by omega); have := Int.tmod_nonneg (T.size : Int) hr1.1; omega, by have := Int.tmod_nonneg (T.size : Int) hr1.1; omega⟩
        have hp1 := HPAR.out ((setT l).take r) (by rw [List.length_take]; omega) (cut_none l r (by omega) (by omega))
        have hp2 := HPAR.out (setT l ++ [b]) (by rw [List.length_append, List.length_singleton]; omega) (more_none l b hsl)
        have e1 : (⟨((setT l).take r).toArray⟩ : ByteArray) = T.extract 0 r := by rw [extract_take, hTl]
        have e2 : (⟨(setT l ++ [b]).toArray⟩ : ByteArray) = T ++ ⟨#[b]⟩ := by rw [← hT]; apply ByteArray.ext; simp
        rw [e1] at hp1
        rw [e2] at hp2
        rw [hT] at hrk
        have n1 : ∀ W, (Op.stringOp .add T ⟨#[b]⟩).run Tryd.prog W = .ok (.string (T ++ ⟨#[b]⟩)) W := fun W => run_string_add_sum W _ _ (by show T.size + 1 ≤ _; omega)
        have kc : ∀ W : World, (convert 39 9 (.slice (some ⟨W.heap.size, 0, none⟩) 1 1)).run Tryd.prog (W.alloc (.cells #[.int .u8 (b.toNat : Int)] 5)) = .ok (.string ⟨#[b]⟩) (W.alloc (.cells #[.int .u8 (b.toNat : Int)] 5)) := fun W =>
          conv_at (W.alloc (.cells #[.int .u8 (b.toNat : Int)] 5)) W.heap.size [b] 1 1 rfl (fun j hj => by
            obtain rfl : j = 0 := by simp at hj; omega
            exact cell_here (heap_alloc_last W _))
        subst hb8
        have hT0 : ¬ ((T.size : Int) = 0) := by omega
        have hr0 : (0 : Int) ≤ r := by omega
        have hr2 : (r : Int) ≤ T.size := by omega
        have HRR := Lib.hid hrk; have HP1 := Lib.hid hp1; have HP2 := Lib.hid hp2; have B0 := Lib.hid b0
        clear hrk hp1 hp2 b0 HRK HPAR HLEN HB hsm hT hTs hTl e1 e2 hsl hpos hp HZ hrT
        go_wp2_with fail
        refine (HRR.out _ B0.out).mono ?_
        rintro e w1 ⟨rfl, hb1⟩
        have B1 := Lib.hid (B0.out.chain hb1); clear hb1
        dsimp only
        go_wp2_with fail
        refine (HP1.out _ B1.out).mono ?_
        rintro e w2 ⟨⟨A2, c2, rfl, -, -⟩, hb2⟩
        have B2 := Lib.hid (B1.out.chain hb2); clear hb2
        have kc2 := kc w2
        have B3 := Lib.hid (B2.out.alloc B2.out.size (.cells #[.int .u8 (b.toNat : Int)] 5))
        clear kc
        dsimp only
        go_wp2_with fail
        refine (HP2.out _ B3.out).mono ?_
        rintro e w4 ⟨⟨A3, c3, rfl, -, -⟩, hb4⟩
        have B4 := Lib.hid (B3.out.chain hb4); clear hb4
        dsimp only
        go_wp2_with fail
        refine (HA.out _ B4.out).mono ?_
        rintro e w5 ⟨rfl, hb5⟩
        have B5 := Lib.hid (B4.out.chain hb5); clear hb5
        dsimp only
        go_wp2
        go_ret
        exact ⟨rfl, B5.out⟩
theorem jwkCuts_law {w : World} (A : Option Addr) (c : Nat) (l : PL) (x1 x2 : Int) (h : Prs w w.heap.size A l ∧ l.length ≤ reachBytes ∧ (∀ p ∈ l, p.1.length ≤ reachBytes ∧ p.2.length ≤ reachBytes) ∧ (A = none → c = 0) ∧ l.length ≤ c) (hx1 : (Lit.int .u16 x1).wf = true) (hx2 : (Lit.int .u8 x2).wf = true) (hk : KitIn w.heap.size w) :
    Calls Tryd.prog 5 #[.slice A l.length c, .int .u16 x1, .int .u8 x2] w fun e w' => e = .returned (.bool true) ∧ Below w.heap.size w w' :=
  jwkCuts_walk A c l h.2.1 h.2.2.1 x1 x2 hx1 hx2 w hk h.1
end Go.Proofs.YtjgjajnpbcghmaaDoor
