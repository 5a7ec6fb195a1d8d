/- Texts merged by program, in build order: CliCode, CliFit, LawAsk0, LawAskC, Builder, Quote, Build, RefQuote, RefBuild. -/
import Derived.Test.YtlcpehmdhnakpaaDoorG05
import Derived.Test.YtlcpehmdhnakpaaDoorG02
import Derived.Test.YtlcpehmdhnakpaaDoorG09
import Derived.Deep.Cut
import Derived.Test.YtlcpehmdhnakpaaDoorG01
import Derived.Lib.Builder
import Derived.Lib.UnsafeStr
import Derived.Lib.AppendStr
import Derived.RegionTactic
import Derived.Test.YtlcpehmdhnakpaaDoorG03
set_option linter.unusedVariables false
set_option linter.unusedSimpArgs false
namespace Go.Proofs.YtlcpehmdhnakpaaDoor
open Go.RowKit
set_option linter.unusedVariables false
set_option linter.unusedSimpArgs false

/-- what the landed Client says: texts of the call's own -/
def CliOwn (B : Nat) (l : List CliP) (id : List UInt8) (e : Ending) (w' : World) : Prop := match findCl l id with
  | some r => ∃ u, e = .returned (.tuple #[.agg #[tv r.cID, tv r.cSecret, u], .bool true]) ∧ TRow w' B u r.cReds
  | none => e = .returned (.tuple #[.agg #[.string ⟨#[]⟩, .string ⟨#[]⟩, .slice none 0 0], .bool false])
/-- what Conn says -/
def CnnOwn (l : List ConnP) (id : List UInt8) (e : Ending) : Prop := match findCn l id with
  | some r => e = .returned (.tuple #[r.val, .bool true])
  | none => e = .returned (.tuple #[.agg #[.string ⟨#[]⟩, .string ⟨#[]⟩, .string ⟨#[]⟩, .string ⟨#[]⟩, .string ⟨#[]⟩, .bool false, .string ⟨#[]⟩], .bool false])
/-- what the landed Client does, behind world w0 -/
def CodeClient (w0 : World) : Prop := ∀ w, Below w0.heap.size w0 w → ∀ (x : CfgP) (A : Option Addr) (n c : Nat) (A' : Option Addr) (n' c' : Nat) (id : List UInt8), CfgIs w x A n c A' n' c' → x.fit → x.gClients.length ≤ 20 →
  Calls Tryd.prog 32 #[x.val A n c A' n' c', tv id] w fun e w' => CliOwn w.heap.size x.gClients id e w' ∧ Below w.heap.size w w'
/-- what the landed Redirect does, behind world w0 -/
def CodeRedir (w0 : World) : Prop := ∀ w, Below w0.heap.size w0 w → ∀ (r : CliP) (A : Option Addr) (n c : Nat) (s : List UInt8), n = r.cReds.length → r.fit → RdT w (.slice A n c) r.cReds →
  Calls Tryd.prog 33 #[.agg #[tv r.cID, tv r.cSecret, .slice A n c], tv s] w fun e w' => e = .returned (.bool (redirP r s)) ∧ Below w.heap.size w w'
end Go.Proofs.YtlcpehmdhnakpaaDoor
namespace Go.Proofs.YtlcpehmdhnakpaaDoor
set_option linter.unusedVariables false

theorem fit_one {id sec : List UInt8} {reds : List (List UInt8)} (h1 : id.length ≤ 200000000000000) (h2 : sec.length ≤ 200000000000000) (h3 : reds.length ≤ 100) (h4 : ∀ s ∈ reds, s.length ≤ 200000000000000) : CfgP.fitS ⟨[], [], [], [⟨id, sec, reds⟩], []⟩ := by
  refine ⟨⟨Nat.zero_le _, Nat.zero_le _, Nat.zero_le _, (show 1 ≤ 200000000000000 by decide), fun r hr => ?_, Nat.zero_le _, fun r hr => by cases hr⟩, Nat.zero_le _, (show 1 ≤ 20 by decide), Nat.zero_le _, fun k hk => ?_, fun k hk => by cases hk⟩
  · obtain rfl : r = _ := by simpa using hr
    exact ⟨h1, h2, (show reds.length * 16 ≤ 140737488355328 by omega), h4⟩
  · match k, hk with
    | 0, _ => exact h3
end Go.Proofs.YtlcpehmdhnakpaaDoor
namespace Go.Proofs.YtlcpehmdhnakpaaDoor
open Go.RowKit
set_option linter.unusedVariables false
set_option linter.unusedSimpArgs false

/-- the law's own config, and query -/
def urlR : List UInt8 := [104, 116, 116, 112, 58, 47, 47, 114]
def cfgR : CfgP := ⟨[], [], [], [⟨[97], [], [urlR]⟩], []⟩
def q0 : List UInt8 := [99, 108, 105, 101, 110, 116, 95, 105, 100, 61, 97, 38, 114, 101, 100, 105, 114, 101, 99, 116, 95, 117, 114, 105, 61, 104, 116, 116, 112, 58, 47, 47, 114, 38, 115, 116, 97, 116, 101, 61, 120]
def l0 : PL := [(kCid, [97]), (kRed, urlR), (kSta, [120])]
theorem form0 : formL q0 = some l0 := by decide +kernel
theorem parse0 : parseE q0 = 0 ∧ parseP q0 = l0 := parse_some (by decide) form0 (by decide)
theorem twice0 : twiceB l0 = false := twiceB_no fun i j hi hj h1 h2 => by
  have h3 : i < 3 := hi
  match i, j, h3 with
  | 0, j, _ => exact absurd h2 (Nat.not_lt_zero _)
  | 1, 0, _ => exact (by decide : kRed ≠ kCid)
  | 2, 0, _ => exact (by decide : kSta ≠ kCid)
  | 2, 1, _ => exact (by decide : kSta ≠ kRed)
  | 1, j + 1, _ => omega
  | 2, j + 2, _ => omega
theorem few0 : askFew l0 = ⟨[97], urlR, [120], [], [], []⟩ := by
  unfold askFew
  rw [show gP l0 kCid = [97] by decide, show gP l0 kRed = urlR by decide, show gP l0 kSta = [120] by decide]
  rfl
theorem ask0 : askP cfgR q0 = (⟨[97], urlR, [120], [], [], []⟩, eTyp, true) := by
  unfold askP
  rw [parse0.1, parse0.2, twice0, if_neg (by decide), few0]
  rw [show gP l0 kCid = [97] by decide, show gP l0 kRed = urlR by decide, show wrongP l0 = eTyp by decide]
  rw [show findCl cfgR.gClients [97] = some ⟨[97], [], [urlR]⟩ from rfl]
  dsimp only
  rw [if_neg (by decide), if_neg (by decide)]
theorem cfgR_fit : cfgR.fit := (fit_one (id := [97]) (sec := []) (reds := [urlR]) (by decide) (by decide) (by decide) (fun s hs => by rw [List.mem_singleton.1 hs]; decide)).1
/-- what the landed Check does, behind world w0 -/
def CodeAsk (w0 : World) : Prop := ∀ w, Below w0.heap.size w0 w → ∀ (x : CfgP) (A : Option Addr) (n c : Nat) (A' : Option Addr) (n' c' : Nat) (q : List UInt8), CfgIs w x A n c A' n' c' → x.fit → x.gClients.length ≤ 20 → q.length ≤ 1000000 →
  Calls Tryd.prog 8 #[x.val A n c A' n' c', tv q] w fun e w' => AskSays (askP x q) e ∧ Below w.heap.size w w'
theorem CodeAsk.later {w0 w : World} (K : CodeAsk w0) (hb : Below w0.heap.size w0 w) : CodeAsk w := fun W h => K W (hb.chain h)
set_option maxRecDepth 100000 in
set_option maxHeartbeats 8000000 in
theorem answers17_any {w : World} (K : CodeAsk w) : Calls Tryd.prog 7 #[] w fun e w' => e = .returned (.bool true) ∧ Below w.heap.size w w' := by
  obtain ⟨q, hq⟩ : ∃ q, w.heap.size = q := ⟨_, rfl⟩
  obtain ⟨U, hU⟩ : ∃ B : ByteArray, B = ⟨#[104, 116, 116, 112, 58, 47, 47, 114]⟩ := ⟨_, rfl⟩
  obtain ⟨X, hX⟩ : ∃ X, ((w.alloc (.cells #[.string U] 9)).alloc (.cells #[.string ⟨#[97]⟩, .string ⟨#[]⟩, .slice (some ⟨q, 0, none⟩) 1 1] 43)).alloc (.cells #[.string ⟨#[]⟩, .string ⟨#[]⟩, .string ⟨#[]⟩, .slice (some ⟨q + 1, 0, none⟩) 1 1, .slice none 0 0] 27) = X := ⟨_, rfl⟩
  have bX : Below w.heap.size w X := by rw [← hX]; exact (((Below.refl _ _).alloc (Nat.le_refl _) _).alloc (by simp) _).alloc (by simp; omega) _
  have x0 : X.heap[q]? = some (.cells #[.string U] 9 (0, 0)) := by rw [← hX, ← hq]; exact alloc_block (alloc_block (heap_alloc_last w _))
  have x1 : X.heap[q + 1]? = some (.cells #[.string ⟨#[97]⟩, .string ⟨#[]⟩, .slice (some ⟨q, 0, none⟩) 1 1] 43 (0, 0)) := by rw [← hX, ← hq]; exact alloc_block (fresh_at _ (by simp))
  have x2 : X.heap[q + 1 + 1]? = some (.cells #[.string ⟨#[]⟩, .string ⟨#[]⟩, .string ⟨#[]⟩, .slice (some ⟨q + 1, 0, none⟩) 1 1, .slice none 0 0] 27 (0, 0)) := by rw [← hX, ← hq]; exact fresh_at _ (by simp)
  have hcf : CfgIs X cfgR (some ⟨q + 1, 0, none⟩) 1 1 none 0 0 := by
    refine ⟨rfl, rfl, ⟨_, _, rfl, Nat.le_refl _, fun k r hk => ?_⟩, ⟨_, _, rfl, Nat.le_refl _, fun k r hk => by cases hk⟩⟩
    match k, hk with
    | 0, hk =>
      obtain rfl : _ = r := Option.some.inj hk
      refine ⟨q + 1, 0, _, rfl, (Array.getElem?_eq_some_iff.1 x1).1, cell_here x1, cell_here x1, cell_here x1, ⟨_, _, rfl, Nat.le_refl _, fun j y hj => ?_⟩⟩
      match j, hj with
      | 0, hj =>
        obtain rfl : _ = y := Option.some.inj hj
        exact ⟨q, 0, rfl, (Array.getElem?_eq_some_iff.1 x0).1, by rw [show tv urlR = Value.string U by rw [hU]; rfl]; exact cell_here x0⟩
  have hv : cfgR.val (some ⟨q + 1, 0, none⟩) 1 1 none 0 0 = .agg #[.string ⟨#[]⟩, .string ⟨#[]⟩, .string ⟨#[]⟩, .slice (some ⟨q + 1, 0, none⟩) 1 1, .slice none 0 0] := rfl
  have hc := K X bX cfgR _ _ _ _ _ _ q0 hcf cfgR_fit (by decide) (by decide)
  rw [hv, ask0] at hc
  unfold AskSays AskV.val tv at hc
  have hc : Calls Tryd.prog 8 #[.agg #[.string ⟨#[]⟩, .string ⟨#[]⟩, .string ⟨#[]⟩, .slice (some ⟨q + 1, 0, none⟩) 1 1, .slice none 0 0], .string ⟨#[99, 108, 105, 101, 110, 116, 95, 105, 100, 61, 97, 38, 114, 101, 100, 105, 114, 101, 99, 116, 95, 117, 114, 105, 61, 104, 116, 116, 112, 58, 47, 47, 114, 38, 115, 116, 97, 116, 101, 61, 120]⟩] X fun e w' => e = .returned (.tuple #[.agg #[.string ⟨#[97]⟩, .string U, .string ⟨#[120]⟩, .string ⟨#[]⟩, .string ⟨#[]⟩, .string ⟨#[]⟩], .string ⟨#[117, 110, 115, 117, 112, 112, 111, 114, 116, 101, 100, 95, 114, 101, 115, 112, 111, 110, 115, 101, 95, 116, 121, 112, 101]⟩, .bool true]) ∧ Below X.heap.size X w' := by rw [hU]; exact hc
  have HC := Lib.hid hc; have X2 := Lib.hid x2; have HX := Lib.hid hX; have HQ := Lib.hid hq; have BX := Lib.hid bX; have HUU := Lib.hid hU
  clear hc x0 x1 x2 hX hq bX hv hcf K hU
  go_enter Tryd.func7, Tryd.ntmps7
  go_upto_region 2 with fail
  rw [← HUU.out, HQ.out, HX.out]
  obtain ⟨⟨e0, e1, e2, e3, e4⟩, -⟩ := cellsK5_of X2.out
  go_wp2_with fail
  refine HC.out.mono ?_
  rintro e w1 ⟨rfl, hb1⟩
  have B1 := Lib.hid hb1
  clear hb1 e0 e1 e2 e3 e4
  dsimp only
  go_wp2_with fail
  go_ret
  exact ⟨rfl, BX.out.chain (B1.out.alloc B1.out.size _)⟩
end Go.Proofs.YtlcpehmdhnakpaaDoor
namespace Go.Proofs.YtlcpehmdhnakpaaDoor
open Go.RowKit
set_option linter.unusedVariables false
set_option linter.unusedSimpArgs false

/-- what Check answers, in letters -/
theorem askSays_of (T : AskV × List UInt8 × Bool) : ∃ (c0 c1 c2 c3 c4 c5 t : ByteArray) (bb : Bool), ∀ e, AskSays T e → e = .returned (.tuple #[.agg #[.string c0, .string c1, .string c2, .string c3, .string c4, .string c5], .string t, .bool bb]) :=
  ⟨_, _, _, _, _, _, _, _, fun e h => h⟩
set_option maxRecDepth 100000 in
set_option maxHeartbeats 8000000 in
theorem askChecks_at {w : World} (K : CodeAsk w) (x : CfgP) (A : Option Addr) (n c : Nat) (A' : Option Addr) (n' c' : Nat) (q : List UInt8) (h : CfgIs w x A n c A' n' c') (hfit : x.fit) (hq : q.length ≤ 200000000000000) :
    Calls Tryd.prog 3 #[x.val A n c A' n' c', tv q] w fun e w' => e = .returned (.bool true) ∧ Below w.heap.size w w' := by
  obtain ⟨IS, hIS⟩ : ∃ z : ByteArray, (⟨x.gIssuer.toArray⟩ : ByteArray) = z := ⟨_, rfl⟩
  obtain ⟨KI, hKI⟩ : ∃ z : ByteArray, (⟨x.gKeyID.toArray⟩ : ByteArray) = z := ⟨_, rfl⟩
  obtain ⟨KS, hKS⟩ : ∃ z : ByteArray, (⟨x.gKeySecret.toArray⟩ : ByteArray) = z := ⟨_, rfl⟩
  obtain ⟨Q, hQ⟩ : ∃ z : ByteArray, (⟨q.toArray⟩ : ByteArray) = z := ⟨_, rfl⟩
  have hv : x.val A n c A' n' c' = .agg #[.string IS, .string KI, .string KS, .slice A n c, .slice A' n' c'] := by unfold CfgP.val tv; rw [hIS, hKI, hKS]
  have tQ : tv q = .string Q := by rw [← hQ]; rfl
  have zQ : Q.size = q.length := by rw [← hQ]; show q.toArray.size = _; simp
  have hn : n = x.gClients.length := h.1
  have hnl : n ≤ 200000000000000 := by rw [hn]; exact hfit.2.2.2.1
  obtain ⟨b, hb⟩ : ∃ z, w.heap.size = z := ⟨_, rfl⟩
  obtain ⟨X, hX⟩ : ∃ X, w.alloc (.cells #[.string IS, .string KI, .string KS, .slice A n c, .slice A' n' c'] 27) = X := ⟨_, rfl⟩
  have bX : Below w.heap.size w X := by rw [← hX]; exact (Below.refl _ _).alloc (Nat.le_refl _) _
  have x1 : X.heap[b]? = some (.cells #[.string IS, .string KI, .string KS, .slice A n c, .slice A' n' c'] 27 (0, 0)) := by rw [← hX, ← hb]; exact heap_alloc_last w _
  have ha := fun W (hB : Below X.heap.size X W) => answers17_any (K.later (bX.chain hB))
  have HA := Lib.hid ha; have HXE := Lib.hid hX; have XW := Lib.hid bX; have X1 := Lib.hid x1; have HB := Lib.hid hb
  by_cases hsm : n ≤ 20 ∧ Q.size ≤ 5000
  rotate_left
  · rw [hv, tQ]
    clear ha x1 bX hX hb hv hIS hKI hKS hQ tQ zQ h hfit K hn
    go_enter Tryd.func3, Tryd.ntmps3
    go_upto_region 1 with fail
    rw [HXE.out, HB.out]
    obtain ⟨⟨e0, e1, e2, e3, e4⟩, -⟩ := cellsK5_of X1.out
    by_cases h1 : n ≤ 20
    · have t1 : ¬ (20 : Int) < (n : Int) := by omega
      have t2 : (5000 : Int) < (Q.size : Int) := by omega
      go_wp2_with fail
      refine (HA.out _ (Below.refl _ _)).mono ?_
      rintro e w1 ⟨rfl, hb1⟩
      have Q1 := Lib.hid hb1
      clear hb1
      dsimp only
      go_wp2_with fail
      go_ret
      exact ⟨rfl, XW.out.chain Q1.out⟩
    · have t1 : (20 : Int) < (n : Int) := by omega
      go_wp2_with fail
      refine (HA.out _ (Below.refl _ _)).mono ?_
      rintro e w1 ⟨rfl, hb1⟩
      have Q1 := Lib.hid hb1
      clear hb1
      dsimp only
      go_wp2_with fail
      go_ret
      exact ⟨rfl, XW.out.chain Q1.out⟩
  obtain ⟨h1, h2⟩ := hsm
  obtain ⟨c0, c1, c2, c3, c4, c5, t, bb, hsay⟩ := askSays_of (askP x q)
  have hc := fun W (hB : Below X.heap.size X W) => (K W (bX.chain hB) x A n c A' n' c' q (h.below (bX.chain hB)) hfit (by omega) (by omega)).mono fun e w' h => And.intro (hsay e h.1) h.2
  have hr := fun W (hB : Below X.heap.size X W) => (refAsk_any x A n c A' n' c' q W (h.below (bX.chain hB)) hfit h1).mono fun e w' h => And.intro (hsay e h.1) h.2
  rw [hv, tQ] at hc hr
  rw [hv, tQ]
  have t1 : ¬ (20 : Int) < (n : Int) := by omega
  have t2 : ¬ (5000 : Int) < (Q.size : Int) := by omega
  have htt : (t.toList == t.toList) = true := by simp
  have hbb : (bb == bb) = true := by simp
  have HC := Lib.hid hc; have HR := Lib.hid hr
  clear ha x1 bX hX hb hv hIS hKI hKS hQ tQ zQ h hfit K hn hsay hc hr
  go_enter Tryd.func3, Tryd.ntmps3
  go_upto_region 1 with fail
  rw [HXE.out, HB.out]
  obtain ⟨⟨e0, e1, e2, e3, e4⟩, -⟩ := cellsK5_of X1.out
  go_wp2_with fail
  refine (HC.out _ (Below.refl _ _)).mono ?_
  rintro e w1 ⟨rfl, hb1⟩
  obtain ⟨p1, hp1⟩ : ∃ z, w1.heap.size = z := ⟨_, rfl⟩
  obtain ⟨V1, hV1⟩ : ∃ W, w1.alloc (.cells #[.string c0, .string c1, .string c2, .string c3, .string c4, .string c5] 30) = W := ⟨_, rfl⟩
  have hv1 : Below w1.heap.size w1 V1 := by rw [← hV1]; exact (Below.refl _ _).alloc (Nat.le_refl _) _
  have k1 : V1.heap[p1]? = some (.cells #[.string c0, .string c1, .string c2, .string c3, .string c4, .string c5] 30 (0, 0)) := by rw [← hV1, ← hp1]; exact heap_alloc_last w1 _
  have Q1 := Lib.hid (hb1.chain hv1); have KV1 := Lib.hid k1; have HV1 := Lib.hid hV1; have HP1 := Lib.hid hp1
  clear hb1 hv1 k1 hV1 hp1 e0 e1 e2 e3 e4
  obtain ⟨⟨e0, e1, e2, e3, e4⟩, -⟩ := cellsK5_of (blk_below X1.out Q1.out)
  dsimp only
  go_upto_region 4 with fail
  rw [HV1.out, HP1.out]
  go_wp2_with fail
  refine (HR.out _ Q1.out).mono ?_
  rintro e w2 ⟨rfl, hb2⟩
  obtain ⟨p2, hp2⟩ : ∃ z, w2.heap.size = z := ⟨_, rfl⟩
  obtain ⟨V2, hV2⟩ : ∃ W, w2.alloc (.cells #[.string c0, .string c1, .string c2, .string c3, .string c4, .string c5] 33) = W := ⟨_, rfl⟩
  have hv2 : Below w2.heap.size w2 V2 := by rw [← hV2]; exact (Below.refl _ _).alloc (Nat.le_refl _) _
  have k2 : V2.heap[p2]? = some (.cells #[.string c0, .string c1, .string c2, .string c3, .string c4, .string c5] 33 (0, 0)) := by rw [← hV2, ← hp2]; exact heap_alloc_last w2 _
  have Q2 := Lib.hid (Q1.out.chain (hb2.chain hv2)); have KV2 := Lib.hid k2; have KV12 := Lib.hid (blk_below KV1.out (hb2.chain hv2)); have HV2 := Lib.hid hV2; have HP2 := Lib.hid hp2
  clear hb2 hv2 k2 hV2 hp2 e0 e1 e2 e3 e4 KV1
  dsimp only
  go_upto_region 5 with fail
  rw [HV2.out, HP2.out]
  go_wp2_with fail
  refine (HA.out _ Q2.out).mono ?_
  rintro e w3 ⟨rfl, hb3⟩
  have Q3 := Lib.hid (Q2.out.chain hb3)
  obtain ⟨⟨m0, m1, m2, m3, m4, m5⟩, -⟩ := cellsK6_of (blk_below KV12.out hb3)
  obtain ⟨⟨n0, n1, n2, n3, n4, n5⟩, -⟩ := cellsK6_of (blk_below KV2.out hb3)
  clear hb3
  dsimp only
  go_wp2_with fail
  go_ret
  exact ⟨rfl, XW.out.chain Q3.out⟩
end Go.Proofs.YtlcpehmdhnakpaaDoor
namespace Go.Proofs.YtlcpehmdhnakpaaDoor
open Go.RowKit

end Go.Proofs.YtlcpehmdhnakpaaDoor
namespace Go.Proofs.YtlcpehmdhnakpaaDoor
open Go.RowKit
end Go.Proofs.YtlcpehmdhnakpaaDoor
namespace Go.Proofs.YtlcpehmdhnakpaaDoor
open Go.RowKit

/-- the form of the first k, and what is written ahead of the next one -/
theorem buildL_first (l : PL) (h : 0 < l.length) : buildL (l.take 1) = oneL l[0] := by
  cases l with
  | nil => simp at h
  | cons p r => simp [buildL]
theorem buildL_next (l : PL) (k : Nat) (h : k < l.length) (h0 : 0 < k) : buildL (l.take (k + 1)) = buildL (l.take k) ++ 38 :: oneL l[k] := by
  rw [List.take_succ_eq_append_getElem h, buildL_snoc]
  intro e
  have := congrArg List.length e
  rw [List.length_take] at this
  simp at this
  rcases this with h1 | h1
  · omega
  · rw [h1] at h; simp at h
theorem sized_take {l : PL} {m : Nat} (h : ∀ p ∈ l, p.1.length + p.2.length ≤ m) (k : Nat) : (buildL (l.take k)).length ≤ l.length * (3 * m + 2) := by
  refine Nat.le_trans (buildL_len _ m fun p hp => h p (List.mem_of_mem_take hp)) (Nat.mul_le_mul_right _ ?_)
  simp; omega

theorem cell_two {w : World} {b : Nat} {u v : Value} {t : TypeId} (h : w.heap[b]? = some (.cells #[u, v] t (0, 0))) : w.cell? ⟨b, 0, none⟩ = some u ∧ w.cell? ⟨b, 1, none⟩ = some v := by
  rw [Lib.cell_of_heap h, Lib.cell_of_heap h]; exact ⟨rfl, rfl⟩

end Go.Proofs.YtlcpehmdhnakpaaDoor
namespace Go.Proofs.YtlcpehmdhnakpaaDoor
open Go.RowKit

set_option maxRecDepth 100000 in
theorem refQuote_any (s : ByteArray) (hs : s.size ≤ 46912496117759) (w : World) :
    Calls Tryd.prog 26 #[.string s] w fun e w' => e = .returned (.string ⟨(quoteL s.data.toList).toArray⟩) ∧ Below w.heap.size w w' := by
  obtain ⟨i0, hi, hz0, hz1, hz2⟩ := info_parts Tryd.infoByte
  go_enter Tryd.func26, Tryd.ntmps26
  go_wp2
  go_loopw [3, 4] (fun v i wr => ∃ k : Nat, k ≤ s.size ∧ i = .int .i64 k ∧ Buf wr w.heap.size v (quoteL (s.data.toList.take k)) ∧ Below w.heap.size w wr) (fun _ i _ => s.size - (intOf i).toNat)
  case atStart => exact ⟨0, Nat.zero_le _, rfl, World.ownsRow_nil _ _ _ _, Below.refl _ _⟩
  case round =>
    obtain ⟨k, hk, rfl, hown, hb⟩ := hrel
    have hql := quoteL_le (s.data.toList.take k)
    have htl : (s.data.toList.take k).length ≤ k := List.length_take_le _ _
    have hbs := hb.size
    by_cases hlt : k < s.size
    · have hsn := take_snoc s k hlt
      by_cases hp : plainB s[k] = true
      · have hnext : quoteL (s.data.toList.take (k + 1)) = quoteL (s.data.toList.take k) ++ [s[k]] := by rw [hsn, quoteL_snoc]; simp [quote1, hp]
        have HN := Lib.hid hnext; clear hnext hsn
        go_wp2_with (first
          | (go_at_call 41; refine (refPlain_any _ _).mono ?_; rintro e w' ⟨rfl, rfl⟩)
          | (at_builtin; refine wpList_append_own _ rfl (.tmp 15) (.tmp 19) 62 rfl w.heap.size 5 i0 _ 1 1 Tryd.underlying62 hi hz0 hz1 hz2 rfl (by decide) _ _ _ rfl (World.ownsRow.alloc hown _) ⟨_, 0, none⟩ 1 1 [.int .u8 s[k].toNat] rfl rfl (new_cells _ #[_] _) (one_cell _) (by unfold maxLen; omega) (by omega) (by simp; omega) ?_))
        intro v' w1 hown' hg' _
        have hb1 : Below w.heap.size w w1 := (hb.alloc hbs _).grown hg' (by simp; omega) (fun j hj => (hown.lt j hj).1)
        go_wp2
        go_roundw
        case rel => exact ⟨k + 1, by omega, by go_num, Buf.cut hown' (by rw [HN.out]; simp) (by rw [HN.out, cells_app]; rfl), hb1⟩
        case measure => simp [intOf]; omega
      · have hp' : plainB s[k] = false := by simpa using hp
        have hnext : quoteL (s.data.toList.take (k + 1)) = quoteL (s.data.toList.take k) ++ [37, hexU (s[k].toNat / 16), hexU (s[k].toNat % 16)] := by rw [hsn, quoteL_snoc]; simp [quote1, hp']
        have HN := Lib.hid hnext; clear hnext hsn hp
        have hu := s[k].toNat_lt
        go_wp2_with (first
          | (go_at_call 41; refine (refPlain_any _ _).mono ?_; rintro e w' ⟨rfl, rfl⟩))
        have hw16 : IntKind.u8.wrap ((s[k].toNat : Int) / 16) = (s[k].toNat : Int) / 16 := by rw [IntKind.wrap_u8]; omega
        have h16a : 0 ≤ (s[k].toNat : Int) / 16 := by omega
        have h16b : (s[k].toNat : Int) / 16 < 16 := by omega
        have hm16 : (s[k].toNat : Int).tmod 16 = (s[k].toNat : Int) % 16 := Int.tmod_eq_emod_of_nonneg (by omega)
        have hx16 : IntKind.u8.wrap ((s[k].toNat : Int) % 16) = (s[k].toNat : Int) % 16 := by rw [IntKind.wrap_u8]; omega
        have h15a : 0 ≤ (s[k].toNat : Int) % 16 := by omega
        have h15b : (s[k].toNat : Int) % 16 < 16 := by omega
        go_region_held3 (fun _ => True) (trivial) ((refine step_append_own rfl (.tmp 21) (.tmp 32) 62 rfl w.heap.size 5 i0 _ 1 1 Tryd.underlying62 hi hz0 hz1 hz2 rfl (by decide) _ _ _ rfl (World.ownsRow.alloc (World.ownsRow.drew hown) _) ⟨_, 0, none⟩ 3 3 [.int .u8 37, .int .u8 _, .int .u8 _] rfl rfl (new_cells _ #[_, _, _] _) (three_cells _ _ _) (by unfold maxLen; omega) (by omega) (by simp; omega) ?_; intro v' w1 hown' hg' hn'))
        all_goals
          have hb1 : Below w.heap.size w w1 := ((hb.drew).alloc hbs _).grown hg' (by simp; omega) (fun j hj => (hown.lt j hj).1)
          go_wp2
          go_roundw
          case rel => exact ⟨k + 1, by omega, by go_num, Buf.cut hown' (by rw [HN.out]; simp) (by rw [HN.out, cells_app]; exact congrArg _ (hex_cells s[k] _ _ rfl rfl _ _)), hb1⟩
          case measure => simp [intOf]; omega
    · have hke : k = s.size := by omega
      subst hke
      have hcv := hown.text
      go_wp2
      go_ret
      exact ⟨ret_str (by rw [take_all]), hb⟩
end Go.Proofs.YtlcpehmdhnakpaaDoor
namespace Go.Proofs.YtlcpehmdhnakpaaDoor
open Go.RowKit

theorem keep_two {W w' : World} {a : Addr} {k : Nat} {u v : Value} (h : W.cell? (a.add (k * 2)) = some u ∧ W.cell? ⟨(a.add (k * 2)).block, (a.add (k * 2)).off + 1, none⟩ = some v) (ha : a.block < W.heap.size) (hb : Below W.heap.size W w') :
    w'.cell? (a.add (k * 2)) = some u ∧ w'.cell? ⟨(a.add (k * 2)).block, (a.add (k * 2)).off + 1, none⟩ = some v :=
  ⟨(hb.cell (p := a.add (k * 2)) (by rw [add_block]; exact ha)).trans h.1, (hb.cell (p := ⟨(a.add (k * 2)).block, (a.add (k * 2)).off + 1, none⟩) (by show (a.add (k * 2)).block < _; rw [add_block]; exact ha)).trans h.2⟩
set_option maxRecDepth 100000 in
set_option maxHeartbeats 2000000 in
theorem refBuild_any (A : Option Addr) (c B m : Nat) (l : PL) (hl : l.length ≤ 1048576) (hm : m ≤ 1048576) (hz : ∀ p ∈ l, p.1.length + p.2.length ≤ m) (w : World) (hB : B ≤ w.heap.size) (hp : Prs w B A l) :
    Calls Tryd.prog 10 #[.slice A l.length c] w fun e w' => e = .returned (.string ⟨(buildL l).toArray⟩) ∧ Below w.heap.size w w' := by
  have hmax : l.length * (3 * m + 2) ≤ 1048576 * 3145730 := Nat.mul_le_mul hl (by omega)
  have hst := sized_take hz
  have hall : buildL (l.take l.length) = buildL l := by rw [List.take_length]
  obtain ⟨n, hn⟩ : ∃ n, l.length = n := ⟨_, rfl⟩
  obtain ⟨T, hT⟩ : ∃ T, l.length * (3 * m + 2) = T := ⟨_, rfl⟩
  rw [hT] at hmax hst
  rw [hn] at hl hall ⊢
  have HN := Lib.hid hn; have HZ := Lib.hid hz; have HST := Lib.hid hst; have HA := Lib.hid hall; clear hn hz hst hall hT
  go_enter Tryd.func10, Tryd.ntmps10
  go_wp2
  go_loopw [3, 4] (fun v i wr => ∃ k : Nat, k ≤ n ∧ i = .int .i64 k ∧ v = .string ⟨(buildL (l.take k)).toArray⟩ ∧ Below w.heap.size w wr) (fun _ i _ => n - (intOf i).toNat)
  case atStart => exact ⟨0, Nat.zero_le _, rfl, rfl, Below.refl _ _⟩
  case round =>
    obtain ⟨k, hk, rfl, rfl, hbw⟩ := hrel
    have hbs := hbw.size
    have hlk := HST.out k
    by_cases hlt : k < n
    · have hkl : k < l.length := by have := HN.out; omega
      obtain ⟨a, rfl, hab, h1, h2⟩ := (hp.below (hbw.mono hB)) k hkl
      have hlk1 := HST.out (k + 1)
      have hsz := HZ.out l[k] (List.getElem_mem hkl)
      have g1 := buildL_next l k hkl
      have g2 : k = 0 → buildL (l.take (k + 1)) = oneL l[k] := fun e => by subst e; exact buildL_first l hkl
      have G1 := Lib.hid g1; have G2 := Lib.hid g2; clear g1 g2
      generalize l[k] = x at *
      obtain ⟨xa, xb⟩ := x
      dsimp only at h1 h2 hsz
      have hqa : (str xa).size ≤ 46912496117759 := by rw [str_size]; omega
      have hqb : (str xb).size ≤ 46912496117759 := by rw [str_size]; omega
      have habr : a.block < wr.heap.size := by omega
      have h1d : wr.drew.cell? (a.add (k * 2)) = some (.string ⟨xa.toArray⟩) := h1
      have h2d : wr.drew.cell? ⟨(a.add (k * 2)).block, (a.add (k * 2)).off + 1, none⟩ = some (.string ⟨xb.toArray⟩) := h2
      by_cases hk0 : 0 < k
      · have HG := Lib.hid (G1.out hk0); clear G1 G2
        generalize buildL (l.take k) = acc at *
        have hnl : (buildL (l.take (k + 1))).length = acc.length + (1 + ((quoteL xa).length + (1 + (quoteL xb).length))) := by rw [HG.out]; simp [oneL]; omega
        have hq0 : acc.length + 1 + (quoteL xa).length + 1 + (quoteL xb).length ≤ T := by omega
        clear hnl hlk1
        go_wp2
        obtain ⟨S, hSS⟩ : ∃ S : ByteArray, S = ⟨acc.toArray⟩ ++ ⟨#[38]⟩ := ⟨_, rfl⟩
        have hS : S.data.toList = acc ++ [38] := by rw [hSS]; simp [ByteArray.data_append]
        have hSz : S.size = acc.length + 1 := by show S.data.toList.length = _; rw [hS]; simp
        have hq1 : S.size + (quoteL xa).length + 1 + (quoteL xb).length ≤ T := by omega
        rw [← hSS]
        clear hq0 hSz hSS
        obtain ⟨Q1, hQ1⟩ : ∃ Q : ByteArray, Q = ⟨(quoteL xa).toArray⟩ := ⟨_, rfl⟩
        obtain ⟨Q2, hQ2⟩ : ∃ Q : ByteArray, Q = ⟨(quoteL xb).toArray⟩ := ⟨_, rfl⟩
        have c1 := refQuote_any (str xa) hqa
        have c2 := refQuote_any (str xb) hqb
        rw [str_list, ← hQ1] at c1
        rw [str_list, ← hQ2] at c2
        have z1 : Q1.size = (quoteL xa).length := by rw [hQ1]; rfl
        have z2 : Q2.size = (quoteL xb).length := by rw [hQ2]; rfl
        have e1 : ∀ W, (Op.stringOp .add S Q1).run Tryd.prog W = .ok (.string (S ++ Q1)) W := fun W => run_string_add_sum W _ _ (by omega)
        have e2 : ∀ W, (Op.stringOp .add (S ++ Q1) ⟨#[61]⟩).run Tryd.prog W = .ok (.string (S ++ Q1 ++ ⟨#[61]⟩)) W := fun W => run_string_add_sum W _ _ (by rw [ByteArray.size_append]; show S.size + Q1.size + 1 ≤ _; omega)
        have e3 : ∀ W, (Op.stringOp .add (S ++ Q1 ++ ⟨#[61]⟩) Q2).run Tryd.prog W = .ok (.string (S ++ Q1 ++ ⟨#[61]⟩ ++ Q2)) W := fun W => run_string_add_sum W _ _ (by rw [ByteArray.size_append, ByteArray.size_append]; show S.size + Q1.size + 1 + Q2.size ≤ _; omega)
        have HN1 : Hid (S ++ Q1 ++ ⟨#[61]⟩ ++ Q2 = ⟨(buildL (l.take (k + 1))).toArray⟩) := by
          apply ByteArray.ext; apply Array.ext'
          rw [HG.out, hQ1, hQ2]
          simp [ByteArray.data_append, oneL, hS]
        have HZ1 := Lib.hid z1; have HZ2 := Lib.hid z2; clear z1 z2 hQ1 hQ2 hS hq1 hqa hqb hmax hlk hsz
        go_region_held3 (fun W => W.cell? (a.add (k * 2)) = some (.string ⟨xa.toArray⟩) ∧ W.cell? ⟨(a.add (k * 2)).block, (a.add (k * 2)).off + 1, none⟩ = some (.string ⟨xb.toArray⟩)) (first | exact ⟨h1, h2⟩ | exact ⟨h1d, h2d⟩ | exact keep_two ⟨h1d, h2d⟩ habr (by assumption) | exact keep_two (keep_two ⟨h1d, h2d⟩ habr hbA) (Nat.lt_of_lt_of_le habr hbA.size) (by assumption)) (first | (go_at_call 26; with_reducible refine (c1 _).mono ?_; rintro e w2 ⟨rfl, hbA⟩) | (go_at_call 26; with_reducible refine (c2 _).mono ?_; rintro e w2 ⟨rfl, hbB⟩))
        go_wp2
        go_roundw
        case rel => exact ⟨k + 1, by omega, by go_num, str_eq HN1.out, (hbw.drew.chain hbA).chain hbB⟩
        case measure => simp [intOf]; omega
      · have hke : k = 0 := by omega
        have HG := Lib.hid (G2.out hke); clear G1 G2
        have hkn : buildL (l.take k) = [] := by rw [hke]; rfl
        rw [hkn]
        clear hke hkn
        have hnl : (buildL (l.take (k + 1))).length = (quoteL xa).length + (1 + (quoteL xb).length) := by rw [HG.out]; simp [oneL]; omega
        have hq0 : (quoteL xa).length + 1 + (quoteL xb).length ≤ T := by omega
        clear hnl hlk1
        obtain ⟨S, hSS⟩ : ∃ S : ByteArray, S = ⟨([] : List UInt8).toArray⟩ := ⟨_, rfl⟩
        have hS : S.data.toList = [] := by rw [hSS]
        have hSz : S.size = 0 := by show S.data.toList.length = _; rw [hS]; simp
        have hq1 : S.size + (quoteL xa).length + 1 + (quoteL xb).length ≤ T := by omega
        rw [← hSS]
        clear hq0 hSz hSS
        go_wp2
        obtain ⟨Q1, hQ1⟩ : ∃ Q : ByteArray, Q = ⟨(quoteL xa).toArray⟩ := ⟨_, rfl⟩
        obtain ⟨Q2, hQ2⟩ : ∃ Q : ByteArray, Q = ⟨(quoteL xb).toArray⟩ := ⟨_, rfl⟩
        have c1 := refQuote_any (str xa) hqa
        have c2 := refQuote_any (str xb) hqb
        rw [str_list, ← hQ1] at c1
        rw [str_list, ← hQ2] at c2
        have z1 : Q1.size = (quoteL xa).length := by rw [hQ1]; rfl
        have z2 : Q2.size = (quoteL xb).length := by rw [hQ2]; rfl
        have e1 : ∀ W, (Op.stringOp .add S Q1).run Tryd.prog W = .ok (.string (S ++ Q1)) W := fun W => run_string_add_sum W _ _ (by omega)
        have e2 : ∀ W, (Op.stringOp .add (S ++ Q1) ⟨#[61]⟩).run Tryd.prog W = .ok (.string (S ++ Q1 ++ ⟨#[61]⟩)) W := fun W => run_string_add_sum W _ _ (by rw [ByteArray.size_append]; show S.size + Q1.size + 1 ≤ _; omega)
        have e3 : ∀ W, (Op.stringOp .add (S ++ Q1 ++ ⟨#[61]⟩) Q2).run Tryd.prog W = .ok (.string (S ++ Q1 ++ ⟨#[61]⟩ ++ Q2)) W := fun W => run_string_add_sum W _ _ (by rw [ByteArray.size_append, ByteArray.size_append]; show S.size + Q1.size + 1 + Q2.size ≤ _; omega)
        have HN1 : Hid (S ++ Q1 ++ ⟨#[61]⟩ ++ Q2 = ⟨(buildL (l.take (k + 1))).toArray⟩) := by
          apply ByteArray.ext; apply Array.ext'
          rw [HG.out, hQ1, hQ2]
          simp [ByteArray.data_append, oneL, hS]
        have HZ1 := Lib.hid z1; have HZ2 := Lib.hid z2; clear z1 z2 hQ1 hQ2 hS hq1 hqa hqb hmax hlk hsz
        go_region_held3 (fun W => W.cell? (a.add (k * 2)) = some (.string ⟨xa.toArray⟩) ∧ W.cell? ⟨(a.add (k * 2)).block, (a.add (k * 2)).off + 1, none⟩ = some (.string ⟨xb.toArray⟩)) (first | exact ⟨h1, h2⟩ | exact ⟨h1d, h2d⟩ | exact keep_two ⟨h1d, h2d⟩ habr (by assumption) | exact keep_two (keep_two ⟨h1d, h2d⟩ habr hbA) (Nat.lt_of_lt_of_le habr hbA.size) (by assumption)) (first | (go_at_call 26; with_reducible refine (c1 _).mono ?_; rintro e w2 ⟨rfl, hbA⟩) | (go_at_call 26; with_reducible refine (c2 _).mono ?_; rintro e w2 ⟨rfl, hbB⟩))
        go_wp2
        go_roundw
        case rel => exact ⟨k + 1, by omega, by go_num, str_eq HN1.out, (hbw.drew.chain hbA).chain hbB⟩
        case measure => simp [intOf]; omega
    · have hke : k = n := by omega
      subst hke
      rw [HA.out]
      go_wp2
      go_ret
      exact ⟨rfl, hbw⟩
end Go.Proofs.YtlcpehmdhnakpaaDoor
