/- Texts merged by program, in build order: TrodMore, LaidJson, LawClaimsKeys, LawClaimsFit, PutSet. -/
import Derived.Carry
import Derived.Test.YtcbajbpdgmmaeaaDoorC03
import Derived.Lib.LaidTab
import Derived.LaidMore
import Derived.LaidSub
import Derived.OpenShut
import Derived.ProofKit
import Derived.Stop.Joined
import Derived.Stop.LaidErr
import Derived.Test.YtcbajbpdgmmaeaaDoorC19
import Derived.BigQuiet
import Derived.Test.YtcbajbpdgmmaeaaDoorC20
import Derived.Test.YtcbajbpdgmmaeaaDoorC13
import Derived.Test.YtcbajbpdgmmaeaaDoorC07
import Derived.Laws.OwnMore
namespace Go.Proofs.YtcbajbpdgmmaeaaDoor
open Go.ChangeShapes Go.RowKit
section
variable {H : Type} {enc : TypeId × Value → H} {P : Program} {w : World} {base : Nat} {spare : Nat → Bool} {held : Bool}

theorem trodAll_five {t0 t1 t2 t3 t4 : TypeId} {args : Array Value} {ds : List (DataW H)} {ps : List MemPlace} (h : DataW.TrodAll enc P w base spare held [t0, t1, t2, t3, t4] args.toList ds ps) :
    ∃ v0 v1 v2 v3 v4 d0 d1 d2 d3 d4 p0 p1 p2 p3 p4, args = #[v0, v1, v2, v3, v4] ∧ ds = [d0, d1, d2, d3, d4] ∧ ps = p0 ++ p1 ++ p2 ++ p3 ++ p4 ∧ DataW.Trod enc P w base spare held t0 v0 d0 p0 ∧ DataW.Trod enc P w base spare held t1 v1 d1 p1 ∧ DataW.Trod enc P w base spare held t2 v2 d2 p2 ∧ DataW.Trod enc P w base spare held t3 v3 d3 p3 ∧ DataW.Trod enc P w base spare held t4 v4 d4 p4 := by
  obtain ⟨v0, vs0, d0, ds0, p0, q0, hargs, rfl, rfl, h0, g0⟩ := trodAll_cons h
  obtain ⟨v1, vs1, d1, ds1, p1, q1, rfl, rfl, rfl, h1, g1⟩ := trodAll_cons g0
  obtain ⟨v2, vs2, d2, ds2, p2, q2, rfl, rfl, rfl, h2, g2⟩ := trodAll_cons g1
  obtain ⟨v3, vs3, d3, ds3, p3, q3, rfl, rfl, rfl, h3, g3⟩ := trodAll_cons g2
  obtain ⟨v4, vs4, d4, ds4, p4, q4, rfl, rfl, rfl, h4, g4⟩ := trodAll_cons g3
  obtain ⟨rfl, rfl, rfl⟩ := trodAll_nil g4
  exact ⟨v0, v1, v2, v3, v4, d0, d1, d2, d3, d4, p0, p1, p2, p3, p4, by cases args; simp_all, rfl, by simp, h0, h1, h2, h3, h4⟩
theorem trodAll_mk5 {t0 t1 t2 t3 t4 : TypeId} {v0 v1 v2 v3 v4 : Value} {d0 d1 d2 d3 d4 : DataW H} {p0 p1 p2 p3 p4 : List MemPlace} (h0 : DataW.Trod enc P w base spare held t0 v0 d0 p0) (h1 : DataW.Trod enc P w base spare held t1 v1 d1 p1) (h2 : DataW.Trod enc P w base spare held t2 v2 d2 p2) (h3 : DataW.Trod enc P w base spare held t3 v3 d3 p3) (h4 : DataW.Trod enc P w base spare held t4 v4 d4 p4) : DataW.TrodAll enc P w base spare held [t0, t1, t2, t3, t4] [v0, v1, v2, v3, v4] [d0, d1, d2, d3, d4] (p0 ++ (p1 ++ (p2 ++ (p3 ++ (p4))))) :=
  ⟨p0, p1 ++ (p2 ++ (p3 ++ (p4))), h0, trodAll_mk4 h1 h2 h3 h4, rfl⟩
theorem trodAll_six {t0 t1 t2 t3 t4 t5 : TypeId} {args : Array Value} {ds : List (DataW H)} {ps : List MemPlace} (h : DataW.TrodAll enc P w base spare held [t0, t1, t2, t3, t4, t5] args.toList ds ps) :
    ∃ v0 v1 v2 v3 v4 v5 d0 d1 d2 d3 d4 d5 p0 p1 p2 p3 p4 p5, args = #[v0, v1, v2, v3, v4, v5] ∧ ds = [d0, d1, d2, d3, d4, d5] ∧ ps = p0 ++ p1 ++ p2 ++ p3 ++ p4 ++ p5 ∧ DataW.Trod enc P w base spare held t0 v0 d0 p0 ∧ DataW.Trod enc P w base spare held t1 v1 d1 p1 ∧ DataW.Trod enc P w base spare held t2 v2 d2 p2 ∧ DataW.Trod enc P w base spare held t3 v3 d3 p3 ∧ DataW.Trod enc P w base spare held t4 v4 d4 p4 ∧ DataW.Trod enc P w base spare held t5 v5 d5 p5 := by
  obtain ⟨v0, vs0, d0, ds0, p0, q0, hargs, rfl, rfl, h0, g0⟩ := trodAll_cons h
  obtain ⟨v1, vs1, d1, ds1, p1, q1, rfl, rfl, rfl, h1, g1⟩ := trodAll_cons g0
  obtain ⟨v2, vs2, d2, ds2, p2, q2, rfl, rfl, rfl, h2, g2⟩ := trodAll_cons g1
  obtain ⟨v3, vs3, d3, ds3, p3, q3, rfl, rfl, rfl, h3, g3⟩ := trodAll_cons g2
  obtain ⟨v4, vs4, d4, ds4, p4, q4, rfl, rfl, rfl, h4, g4⟩ := trodAll_cons g3
  obtain ⟨v5, vs5, d5, ds5, p5, q5, rfl, rfl, rfl, h5, g5⟩ := trodAll_cons g4
  obtain ⟨rfl, rfl, rfl⟩ := trodAll_nil g5
  exact ⟨v0, v1, v2, v3, v4, v5, d0, d1, d2, d3, d4, d5, p0, p1, p2, p3, p4, p5, by cases args; simp_all, rfl, by simp, h0, h1, h2, h3, h4, h5⟩
theorem trodAll_mk6 {t0 t1 t2 t3 t4 t5 : TypeId} {v0 v1 v2 v3 v4 v5 : Value} {d0 d1 d2 d3 d4 d5 : DataW H} {p0 p1 p2 p3 p4 p5 : List MemPlace} (h0 : DataW.Trod enc P w base spare held t0 v0 d0 p0) (h1 : DataW.Trod enc P w base spare held t1 v1 d1 p1) (h2 : DataW.Trod enc P w base spare held t2 v2 d2 p2) (h3 : DataW.Trod enc P w base spare held t3 v3 d3 p3) (h4 : DataW.Trod enc P w base spare held t4 v4 d4 p4) (h5 : DataW.Trod enc P w base spare held t5 v5 d5 p5) : DataW.TrodAll enc P w base spare held [t0, t1, t2, t3, t4, t5] [v0, v1, v2, v3, v4, v5] [d0, d1, d2, d3, d4, d5] (p0 ++ (p1 ++ (p2 ++ (p3 ++ (p4 ++ (p5)))))) :=
  ⟨p0, p1 ++ (p2 ++ (p3 ++ (p4 ++ (p5)))), h0, trodAll_mk5 h1 h2 h3 h4 h5, rfl⟩
theorem trodAll_seven {t0 t1 t2 t3 t4 t5 t6 : TypeId} {args : Array Value} {ds : List (DataW H)} {ps : List MemPlace} (h : DataW.TrodAll enc P w base spare held [t0, t1, t2, t3, t4, t5, t6] args.toList ds ps) :
    ∃ v0 v1 v2 v3 v4 v5 v6 d0 d1 d2 d3 d4 d5 d6 p0 p1 p2 p3 p4 p5 p6, args = #[v0, v1, v2, v3, v4, v5, v6] ∧ ds = [d0, d1, d2, d3, d4, d5, d6] ∧ ps = p0 ++ p1 ++ p2 ++ p3 ++ p4 ++ p5 ++ p6 ∧ DataW.Trod enc P w base spare held t0 v0 d0 p0 ∧ DataW.Trod enc P w base spare held t1 v1 d1 p1 ∧ DataW.Trod enc P w base spare held t2 v2 d2 p2 ∧ DataW.Trod enc P w base spare held t3 v3 d3 p3 ∧ DataW.Trod enc P w base spare held t4 v4 d4 p4 ∧ DataW.Trod enc P w base spare held t5 v5 d5 p5 ∧ DataW.Trod enc P w base spare held t6 v6 d6 p6 := by
  obtain ⟨v0, vs0, d0, ds0, p0, q0, hargs, rfl, rfl, h0, g0⟩ := trodAll_cons h
  obtain ⟨v1, vs1, d1, ds1, p1, q1, rfl, rfl, rfl, h1, g1⟩ := trodAll_cons g0
  obtain ⟨v2, vs2, d2, ds2, p2, q2, rfl, rfl, rfl, h2, g2⟩ := trodAll_cons g1
  obtain ⟨v3, vs3, d3, ds3, p3, q3, rfl, rfl, rfl, h3, g3⟩ := trodAll_cons g2
  obtain ⟨v4, vs4, d4, ds4, p4, q4, rfl, rfl, rfl, h4, g4⟩ := trodAll_cons g3
  obtain ⟨v5, vs5, d5, ds5, p5, q5, rfl, rfl, rfl, h5, g5⟩ := trodAll_cons g4
  obtain ⟨v6, vs6, d6, ds6, p6, q6, rfl, rfl, rfl, h6, g6⟩ := trodAll_cons g5
  obtain ⟨rfl, rfl, rfl⟩ := trodAll_nil g6
  exact ⟨v0, v1, v2, v3, v4, v5, v6, d0, d1, d2, d3, d4, d5, d6, p0, p1, p2, p3, p4, p5, p6, by cases args; simp_all, rfl, by simp, h0, h1, h2, h3, h4, h5, h6⟩
theorem trodAll_mk7 {t0 t1 t2 t3 t4 t5 t6 : TypeId} {v0 v1 v2 v3 v4 v5 v6 : Value} {d0 d1 d2 d3 d4 d5 d6 : DataW H} {p0 p1 p2 p3 p4 p5 p6 : List MemPlace} (h0 : DataW.Trod enc P w base spare held t0 v0 d0 p0) (h1 : DataW.Trod enc P w base spare held t1 v1 d1 p1) (h2 : DataW.Trod enc P w base spare held t2 v2 d2 p2) (h3 : DataW.Trod enc P w base spare held t3 v3 d3 p3) (h4 : DataW.Trod enc P w base spare held t4 v4 d4 p4) (h5 : DataW.Trod enc P w base spare held t5 v5 d5 p5) (h6 : DataW.Trod enc P w base spare held t6 v6 d6 p6) : DataW.TrodAll enc P w base spare held [t0, t1, t2, t3, t4, t5, t6] [v0, v1, v2, v3, v4, v5, v6] [d0, d1, d2, d3, d4, d5, d6] (p0 ++ (p1 ++ (p2 ++ (p3 ++ (p4 ++ (p5 ++ (p6))))))) :=
  ⟨p0, p1 ++ (p2 ++ (p3 ++ (p4 ++ (p5 ++ (p6))))), h0, trodAll_mk6 h1 h2 h3 h4 h5 h6, rfl⟩
theorem trodAll_eight {t0 t1 t2 t3 t4 t5 t6 t7 : TypeId} {args : Array Value} {ds : List (DataW H)} {ps : List MemPlace} (h : DataW.TrodAll enc P w base spare held [t0, t1, t2, t3, t4, t5, t6, t7] args.toList ds ps) :
    ∃ v0 v1 v2 v3 v4 v5 v6 v7 d0 d1 d2 d3 d4 d5 d6 d7 p0 p1 p2 p3 p4 p5 p6 p7, args = #[v0, v1, v2, v3, v4, v5, v6, v7] ∧ ds = [d0, d1, d2, d3, d4, d5, d6, d7] ∧ ps = p0 ++ p1 ++ p2 ++ p3 ++ p4 ++ p5 ++ p6 ++ p7 ∧ DataW.Trod enc P w base spare held t0 v0 d0 p0 ∧ DataW.Trod enc P w base spare held t1 v1 d1 p1 ∧ DataW.Trod enc P w base spare held t2 v2 d2 p2 ∧ DataW.Trod enc P w base spare held t3 v3 d3 p3 ∧ DataW.Trod enc P w base spare held t4 v4 d4 p4 ∧ DataW.Trod enc P w base spare held t5 v5 d5 p5 ∧ DataW.Trod enc P w base spare held t6 v6 d6 p6 ∧ DataW.Trod enc P w base spare held t7 v7 d7 p7 := by
  obtain ⟨v0, vs0, d0, ds0, p0, q0, hargs, rfl, rfl, h0, g0⟩ := trodAll_cons h
  obtain ⟨v1, vs1, d1, ds1, p1, q1, rfl, rfl, rfl, h1, g1⟩ := trodAll_cons g0
  obtain ⟨v2, vs2, d2, ds2, p2, q2, rfl, rfl, rfl, h2, g2⟩ := trodAll_cons g1
  obtain ⟨v3, vs3, d3, ds3, p3, q3, rfl, rfl, rfl, h3, g3⟩ := trodAll_cons g2
  obtain ⟨v4, vs4, d4, ds4, p4, q4, rfl, rfl, rfl, h4, g4⟩ := trodAll_cons g3
  obtain ⟨v5, vs5, d5, ds5, p5, q5, rfl, rfl, rfl, h5, g5⟩ := trodAll_cons g4
  obtain ⟨v6, vs6, d6, ds6, p6, q6, rfl, rfl, rfl, h6, g6⟩ := trodAll_cons g5
  obtain ⟨v7, vs7, d7, ds7, p7, q7, rfl, rfl, rfl, h7, g7⟩ := trodAll_cons g6
  obtain ⟨rfl, rfl, rfl⟩ := trodAll_nil g7
  exact ⟨v0, v1, v2, v3, v4, v5, v6, v7, d0, d1, d2, d3, d4, d5, d6, d7, p0, p1, p2, p3, p4, p5, p6, p7, by cases args; simp_all, rfl, by simp, h0, h1, h2, h3, h4, h5, h6, h7⟩
theorem trodAll_mk8 {t0 t1 t2 t3 t4 t5 t6 t7 : TypeId} {v0 v1 v2 v3 v4 v5 v6 v7 : Value} {d0 d1 d2 d3 d4 d5 d6 d7 : DataW H} {p0 p1 p2 p3 p4 p5 p6 p7 : List MemPlace} (h0 : DataW.Trod enc P w base spare held t0 v0 d0 p0) (h1 : DataW.Trod enc P w base spare held t1 v1 d1 p1) (h2 : DataW.Trod enc P w base spare held t2 v2 d2 p2) (h3 : DataW.Trod enc P w base spare held t3 v3 d3 p3) (h4 : DataW.Trod enc P w base spare held t4 v4 d4 p4) (h5 : DataW.Trod enc P w base spare held t5 v5 d5 p5) (h6 : DataW.Trod enc P w base spare held t6 v6 d6 p6) (h7 : DataW.Trod enc P w base spare held t7 v7 d7 p7) : DataW.TrodAll enc P w base spare held [t0, t1, t2, t3, t4, t5, t6, t7] [v0, v1, v2, v3, v4, v5, v6, v7] [d0, d1, d2, d3, d4, d5, d6, d7] (p0 ++ (p1 ++ (p2 ++ (p3 ++ (p4 ++ (p5 ++ (p6 ++ (p7)))))))) :=
  ⟨p0, p1 ++ (p2 ++ (p3 ++ (p4 ++ (p5 ++ (p6 ++ (p7)))))), h0, trodAll_mk7 h1 h2 h3 h4 h5 h6 h7, rfl⟩
theorem trodAll_nine {t0 t1 t2 t3 t4 t5 t6 t7 t8 : TypeId} {args : Array Value} {ds : List (DataW H)} {ps : List MemPlace} (h : DataW.TrodAll enc P w base spare held [t0, t1, t2, t3, t4, t5, t6, t7, t8] args.toList ds ps) :
    ∃ v0 v1 v2 v3 v4 v5 v6 v7 v8 d0 d1 d2 d3 d4 d5 d6 d7 d8 p0 p1 p2 p3 p4 p5 p6 p7 p8, args = #[v0, v1, v2, v3, v4, v5, v6, v7, v8] ∧ ds = [d0, d1, d2, d3, d4, d5, d6, d7, d8] ∧ ps = p0 ++ p1 ++ p2 ++ p3 ++ p4 ++ p5 ++ p6 ++ p7 ++ p8 ∧ DataW.Trod enc P w base spare held t0 v0 d0 p0 ∧ DataW.Trod enc P w base spare held t1 v1 d1 p1 ∧ DataW.Trod enc P w base spare held t2 v2 d2 p2 ∧ DataW.Trod enc P w base spare held t3 v3 d3 p3 ∧ DataW.Trod enc P w base spare held t4 v4 d4 p4 ∧ DataW.Trod enc P w base spare held t5 v5 d5 p5 ∧ DataW.Trod enc P w base spare held t6 v6 d6 p6 ∧ DataW.Trod enc P w base spare held t7 v7 d7 p7 ∧ DataW.Trod enc P w base spare held t8 v8 d8 p8 := by
  obtain ⟨v0, vs0, d0, ds0, p0, q0, hargs, rfl, rfl, h0, g0⟩ := trodAll_cons h
  obtain ⟨v1, vs1, d1, ds1, p1, q1, rfl, rfl, rfl, h1, g1⟩ := trodAll_cons g0
  obtain ⟨v2, vs2, d2, ds2, p2, q2, rfl, rfl, rfl, h2, g2⟩ := trodAll_cons g1
  obtain ⟨v3, vs3, d3, ds3, p3, q3, rfl, rfl, rfl, h3, g3⟩ := trodAll_cons g2
  obtain ⟨v4, vs4, d4, ds4, p4, q4, rfl, rfl, rfl, h4, g4⟩ := trodAll_cons g3
  obtain ⟨v5, vs5, d5, ds5, p5, q5, rfl, rfl, rfl, h5, g5⟩ := trodAll_cons g4
  obtain ⟨v6, vs6, d6, ds6, p6, q6, rfl, rfl, rfl, h6, g6⟩ := trodAll_cons g5
  obtain ⟨v7, vs7, d7, ds7, p7, q7, rfl, rfl, rfl, h7, g7⟩ := trodAll_cons g6
  obtain ⟨v8, vs8, d8, ds8, p8, q8, rfl, rfl, rfl, h8, g8⟩ := trodAll_cons g7
  obtain ⟨rfl, rfl, rfl⟩ := trodAll_nil g8
  exact ⟨v0, v1, v2, v3, v4, v5, v6, v7, v8, d0, d1, d2, d3, d4, d5, d6, d7, d8, p0, p1, p2, p3, p4, p5, p6, p7, p8, by cases args; simp_all, rfl, by simp, h0, h1, h2, h3, h4, h5, h6, h7, h8⟩
theorem trodAll_mk9 {t0 t1 t2 t3 t4 t5 t6 t7 t8 : TypeId} {v0 v1 v2 v3 v4 v5 v6 v7 v8 : Value} {d0 d1 d2 d3 d4 d5 d6 d7 d8 : DataW H} {p0 p1 p2 p3 p4 p5 p6 p7 p8 : List MemPlace} (h0 : DataW.Trod enc P w base spare held t0 v0 d0 p0) (h1 : DataW.Trod enc P w base spare held t1 v1 d1 p1) (h2 : DataW.Trod enc P w base spare held t2 v2 d2 p2) (h3 : DataW.Trod enc P w base spare held t3 v3 d3 p3) (h4 : DataW.Trod enc P w base spare held t4 v4 d4 p4) (h5 : DataW.Trod enc P w base spare held t5 v5 d5 p5) (h6 : DataW.Trod enc P w base spare held t6 v6 d6 p6) (h7 : DataW.Trod enc P w base spare held t7 v7 d7 p7) (h8 : DataW.Trod enc P w base spare held t8 v8 d8 p8) : DataW.TrodAll enc P w base spare held [t0, t1, t2, t3, t4, t5, t6, t7, t8] [v0, v1, v2, v3, v4, v5, v6, v7, v8] [d0, d1, d2, d3, d4, d5, d6, d7, d8] (p0 ++ (p1 ++ (p2 ++ (p3 ++ (p4 ++ (p5 ++ (p6 ++ (p7 ++ (p8))))))))) :=
  ⟨p0, p1 ++ (p2 ++ (p3 ++ (p4 ++ (p5 ++ (p6 ++ (p7 ++ (p8))))))), h0, trodAll_mk8 h1 h2 h3 h4 h5 h6 h7 h8, rfl⟩
theorem trodAll_ten {t0 t1 t2 t3 t4 t5 t6 t7 t8 t9 : TypeId} {args : Array Value} {ds : List (DataW H)} {ps : List MemPlace} (h : DataW.TrodAll enc P w base spare held [t0, t1, t2, t3, t4, t5, t6, t7, t8, t9] args.toList ds ps) :
    ∃ v0 v1 v2 v3 v4 v5 v6 v7 v8 v9 d0 d1 d2 d3 d4 d5 d6 d7 d8 d9 p0 p1 p2 p3 p4 p5 p6 p7 p8 p9, args = #[v0, v1, v2, v3, v4, v5, v6, v7, v8, v9] ∧ ds = [d0, d1, d2, d3, d4, d5, d6, d7, d8, d9] ∧ ps = p0 ++ p1 ++ p2 ++ p3 ++ p4 ++ p5 ++ p6 ++ p7 ++ p8 ++ p9 ∧ DataW.Trod enc P w base spare held t0 v0 d0 p0 ∧ DataW.Trod enc P w base spare held t1 v1 d1 p1 ∧ DataW.Trod enc P w base spare held t2 v2 d2 p2 ∧ DataW.Trod enc P w base spare held t3 v3 d3 p3 ∧ DataW.Trod enc P w base spare held t4 v4 d4 p4 ∧ DataW.Trod enc P w base spare held t5 v5 d5 p5 ∧ DataW.Trod enc P w base spare held t6 v6 d6 p6 ∧ DataW.Trod enc P w base spare held t7 v7 d7 p7 ∧ DataW.Trod enc P w base spare held t8 v8 d8 p8 ∧ DataW.Trod enc P w base spare held t9 v9 d9 p9 := by
  obtain ⟨v0, vs0, d0, ds0, p0, q0, hargs, rfl, rfl, h0, g0⟩ := trodAll_cons h
  obtain ⟨v1, vs1, d1, ds1, p1, q1, rfl, rfl, rfl, h1, g1⟩ := trodAll_cons g0
  obtain ⟨v2, vs2, d2, ds2, p2, q2, rfl, rfl, rfl, h2, g2⟩ := trodAll_cons g1
  obtain ⟨v3, vs3, d3, ds3, p3, q3, rfl, rfl, rfl, h3, g3⟩ := trodAll_cons g2
  obtain ⟨v4, vs4, d4, ds4, p4, q4, rfl, rfl, rfl, h4, g4⟩ := trodAll_cons g3
  obtain ⟨v5, vs5, d5, ds5, p5, q5, rfl, rfl, rfl, h5, g5⟩ := trodAll_cons g4
  obtain ⟨v6, vs6, d6, ds6, p6, q6, rfl, rfl, rfl, h6, g6⟩ := trodAll_cons g5
  obtain ⟨v7, vs7, d7, ds7, p7, q7, rfl, rfl, rfl, h7, g7⟩ := trodAll_cons g6
  obtain ⟨v8, vs8, d8, ds8, p8, q8, rfl, rfl, rfl, h8, g8⟩ := trodAll_cons g7
  obtain ⟨v9, vs9, d9, ds9, p9, q9, rfl, rfl, rfl, h9, g9⟩ := trodAll_cons g8
  obtain ⟨rfl, rfl, rfl⟩ := trodAll_nil g9
  exact ⟨v0, v1, v2, v3, v4, v5, v6, v7, v8, v9, d0, d1, d2, d3, d4, d5, d6, d7, d8, d9, p0, p1, p2, p3, p4, p5, p6, p7, p8, p9, by cases args; simp_all, rfl, by simp, h0, h1, h2, h3, h4, h5, h6, h7, h8, h9⟩
theorem trodAll_mk10 {t0 t1 t2 t3 t4 t5 t6 t7 t8 t9 : TypeId} {v0 v1 v2 v3 v4 v5 v6 v7 v8 v9 : Value} {d0 d1 d2 d3 d4 d5 d6 d7 d8 d9 : DataW H} {p0 p1 p2 p3 p4 p5 p6 p7 p8 p9 : List MemPlace} (h0 : DataW.Trod enc P w base spare held t0 v0 d0 p0) (h1 : DataW.Trod enc P w base spare held t1 v1 d1 p1) (h2 : DataW.Trod enc P w base spare held t2 v2 d2 p2) (h3 : DataW.Trod enc P w base spare held t3 v3 d3 p3) (h4 : DataW.Trod enc P w base spare held t4 v4 d4 p4) (h5 : DataW.Trod enc P w base spare held t5 v5 d5 p5) (h6 : DataW.Trod enc P w base spare held t6 v6 d6 p6) (h7 : DataW.Trod enc P w base spare held t7 v7 d7 p7) (h8 : DataW.Trod enc P w base spare held t8 v8 d8 p8) (h9 : DataW.Trod enc P w base spare held t9 v9 d9 p9) : DataW.TrodAll enc P w base spare held [t0, t1, t2, t3, t4, t5, t6, t7, t8, t9] [v0, v1, v2, v3, v4, v5, v6, v7, v8, v9] [d0, d1, d2, d3, d4, d5, d6, d7, d8, d9] (p0 ++ (p1 ++ (p2 ++ (p3 ++ (p4 ++ (p5 ++ (p6 ++ (p7 ++ (p8 ++ (p9)))))))))) :=
  ⟨p0, p1 ++ (p2 ++ (p3 ++ (p4 ++ (p5 ++ (p6 ++ (p7 ++ (p8 ++ (p9)))))))), h0, trodAll_mk9 h1 h2 h3 h4 h5 h6 h7 h8 h9, rfl⟩
end
end Go.Proofs.YtcbajbpdgmmaeaaDoor
namespace Go.Proofs.YtcbajbpdgmmaeaaDoor
open Go.ChangeShapes Go.WideShapes Go.ChangeAt Go.RowKit

/-- what the rows list -/
def listed : List (String × DataW Unit) := [("math/bits.deBruijn32tab", Rows.laid_math_bits_deBruijn32tab), ("math/bits.deBruijn64tab", Rows.laid_math_bits_deBruijn64tab), ("internal/strconv.uint64pow10", Rows.laid_internal_strconv_uint64pow10), ("strconv.ErrRange", Rows.laid_strconv_ErrRange), ("strconv.ErrSyntax", Rows.laid_strconv_ErrSyntax)]
theorem listed_plain : (listed.all fun x => x.2.handleName?.isNone) = true := by kernel_rfl
theorem pow_data : (Rows.laid_internal_strconv_uint64pow10 : DataW Unit) = Lib.tabData .u64 Lib.pow10Tab := by kernel_rfl
theorem gSyn : Tryd.prog.globalNamed "strconv.ErrSyntax" = some 1 := by kernel_rfl
theorem gRng : Tryd.prog.globalNamed "strconv.ErrRange" = some 2 := by kernel_rfl
theorem tPow : (Tryd.prog.globals[3]?).map (·.type) = some 114 := by kernel_rfl
theorem tSyn : (Tryd.prog.globals[1]?).map (·.type) = some 85 := by kernel_rfl
theorem tRng : (Tryd.prog.globals[2]?).map (·.type) = some 85 := by kernel_rfl
theorem cellsU64 : Tryd.prog.cellsOf 78 = 1 := by kernel_rfl
theorem cellsPow : Tryd.prog.cellsOf 114 = 20 := by kernel_rfl
/-- what reads as a value of an interface is one cell that holds one -/
theorem iface_cell {H : Type} {enc : TypeId × Value → H} {P : Program} {w : World} {base : Nat} {sp : Nat → Bool} {fuel : Nat} {ti : TypeId} {ms : Array (String × TypeId)} {cs : List Value} {nm : String} {d : DataW H} {p : List MemPlace}
    (hi : P.underlying ti = some (.interface ms)) (h : DataW.trod enc P w base sp false fuel ti cs = some (.iface nm d, p)) : ∃ u v, cs = [.iface u v] := by
  cases fuel with
  | zero => simp [DataW.trod] at h
  | succ fuel =>
    unfold DataW.trod at h
    rw [hi] at h
    match cs, h with
    | [.iface u v], _ => exact ⟨u, v, rfl⟩
    | [.nilIface], h => simp at h
theorem sent_cell {n nm : String} {g : Nat} {d : DataW Unit} {ti : TypeId} {ms : Array (String × TypeId)} {r : List (String × DataW Unit)} {W : World} (h : laidMet Tryd.prog ((n, .iface nm d) :: r) W) (hg : Tryd.prog.globalNamed n = some g)
    (hty : (Tryd.prog.globals[g]?).map (·.type) = some ti) (hi : Tryd.prog.underlying ti = some (.interface ms)) : ∃ u v, W.cell? ⟨g, 0, none⟩ = some (.iface u v) := by
  obtain ⟨ps, ⟨g', t', cs, fuel, p, q, hg', ht', hvar, hd, _, _⟩, _⟩ := h
  obtain rfl := Option.some.inj (hg.symm.trans hg')
  obtain rfl := Option.some.inj (hty.symm.trans ht')
  obtain ⟨u, v, e⟩ := iface_cell hi hd
  refine ⟨u, v, ?_⟩
  have := World.var?_cell hg hvar 0
  rw [this, ← Array.getElem?_toList, e]; rfl
theorem lt_of_cell {W : World} {g o : Nat} {v : Value} (h : W.cell? ⟨g, o, none⟩ = some v) : g < W.heap.size := by
  refine Nat.lt_of_not_le fun hle => ?_
  have : W.cell? ⟨g, o, none⟩ = none := by simp [World.cell?, Array.getElem?_eq_none hle]
  rw [this] at h; cases h
theorem kitIn_of_laid {W : World} (h : laidMetH Tryd.prog listed W) : KitIn W.heap.size W := by
  rw [MakeChecks.laidMetH_plain _ _ _ listed_plain] at h
  have h3 := h.tail.tail
  have h4 := h3.tail
  have h5 := h4.tail
  have h3' : laidMet Tryd.prog (("internal/strconv.uint64pow10", Lib.tabData .u64 Lib.pow10Tab) :: [("strconv.ErrRange", Rows.laid_strconv_ErrRange), ("strconv.ErrSyntax", Rows.laid_strconv_ErrSyntax)]) W := by rw [← pow_data]; exact h3
  have hT := Lib.tabIs_of_head gPow tPow Tryd.underlying114 Tryd.underlying78 cellsU64 cellsPow h3'
  obtain ⟨u, v, e4⟩ := sent_cell h4 gRng tRng Tryd.underlying85
  obtain ⟨u', v', e5⟩ := sent_cell h5 gSyn tSyn Tryd.underlying85
  exact ⟨hT, ⟨_, e5, .inr ⟨_, _, rfl⟩⟩, ⟨_, e4, .inr ⟨_, _, rfl⟩⟩, lt_of_cell (hT.cell gPow 0 (by decide)), lt_of_cell e5, lt_of_cell e4⟩
theorem door_met (os : Os) (args : Array Value) : laidMetH Tryd.prog listed ((World.doorLaid Tryd.prog 400 os).forCall (fun _ _ => 0) ⟨#[], args, []⟩).memory :=
  laidMetH_of_parts3 (fuel := 8) (laidMet_of_run' 8 (by kernel_rfl) (by kernel_rfl)) (by kernel_rfl) (by kernel_rfl)
end Go.Proofs.YtcbajbpdgmmaeaaDoor
namespace Go.Proofs.YtcbajbpdgmmaeaaDoor
open Go.RowKit
set_option linter.unusedVariables false
set_option linter.unusedSimpArgs false

def kwAt : Nat → ByteArray
  | 0 => ⟨#[105, 115, 115]⟩ | 1 => ⟨#[115, 117, 98]⟩ | 2 => ⟨#[97, 117, 100]⟩ | 3 => ⟨#[105, 97, 116]⟩ | 4 => ⟨#[101, 120, 112]⟩ | _ => ⟨#[110, 111, 110, 99, 101]⟩
theorem claimK_at (nonce : List UInt8) (j : Nat) (h : j < (claimK nonce).length) : (⟨((claimK nonce)[j]).toArray⟩ : ByteArray) = kwAt j := by
  have e : claimK nonce = [wIss, wSub, wAud, wIat, wExp] ++ if nonce = [] then [] else [wNonce] := rfl
  rw [List.getElem_of_eq e]
  by_cases hz : nonce = []
  · simp only [hz, if_true, List.append_nil]
    rw [hz] at h
    match j, h with
    | 0, _ => rfl
    | 1, _ => rfl
    | 2, _ => rfl
    | 3, _ => rfl
    | 4, _ => rfl
    | n + 5, h => exact absurd h (by show ¬ n + 5 < 5; omega)
  · simp only [hz, if_false]
    have hl : (claimK nonce).length = 6 := by rw [e, if_neg hz]; rfl
    rw [hl] at h
    match j, h with
    | 0, _ => rfl
    | 1, _ => rfl
    | 2, _ => rfl
    | 3, _ => rfl
    | 4, _ => rfl
    | 5, _ => rfl
    | n + 6, h => exact absurd h (by omega)
/-- the cells of what is made that the law looks at -/
theorem claims_cells {n : Nat} {iss sub aud nonce : List UInt8} {iat exp : Int} {W : World} {L N : Nat} {cs : List Value} (hn : (claimK nonce).length = n) (h : VIs W L N (claimV iss sub aud nonce iat exp) cs) :
    ∃ g o c g' o' c', cs = [.int .i64 6, .int .i64 0, .string ⟨#[]⟩, .slice (some ⟨g, o, none⟩) n c, .slice (some ⟨g', o', none⟩) n c'] ∧
      (∀ j, j < n → g' < N ∧ W.cell? ⟨g', o' + j, none⟩ = some (.string (kwAt j))) ∧ g < N ∧
      W.cell? ⟨g, o + 5 + 2, none⟩ = some (.string ⟨sub.toArray⟩) ∧ W.cell? ⟨g, o + 15 + 1, none⟩ = some (.int .i64 iat) ∧ W.cell? ⟨g, o + 20 + 1, none⟩ = some (.int .i64 exp) := by
  obtain ⟨-, A, c, A', c', rfl, r1, r2⟩ := h.out
  rcases r1 with r1 | ⟨g', o', rfl, r1⟩
  · exact absurd r1 (by unfold claimK; simp)
  rcases r2 with r2 | ⟨g, o, rfl, r2⟩
  · exact absurd r2 (by unfold claimL; simp)
  have hl : 5 ≤ (claimL iss sub aud nonce iat exp).length := by unfold claimL; simp
  have hll : (claimL iss sub aud nonce iat exp).length = n := by rw [← hn, claimK_len nonce nonce nonce nonce 0 0]; unfold claimL; split <;> rfl
  have i1 := r2.get 1 (by omega)
  have i3 := r2.get 3 (by omega)
  have i4 := r2.get 4 (by omega)
  obtain ⟨-, hg, c1, f1, v1⟩ := i1
  obtain ⟨-, -, c3, f3, v3⟩ := i3
  obtain ⟨-, -, c4, f4, v4⟩ := i4
  have e1 : (claimL iss sub aud nonce iat exp)[1]'(by omega) = textV sub := rfl
  have e3 : (claimL iss sub aud nonce iat exp)[3]'(by omega) = numV iat := rfl
  have e4 : (claimL iss sub aud nonce iat exp)[4]'(by omega) = numV exp := rfl
  rw [e1] at v1
  rw [e3] at v3
  rw [e4] at v4
  obtain ⟨_, _, _, _, q1⟩ := v1.form
  obtain ⟨_, _, _, _, q3⟩ := v3.form
  obtain ⟨_, _, _, _, q4⟩ := v4.form
  subst q1 q3 q4
  obtain ⟨_, _, _, _, _, hh1, -, -, m1, -, -⟩ := f1
  obtain ⟨_, _, _, _, _, hh3, -, m3, -, -, -⟩ := f3
  obtain ⟨_, _, _, _, _, hh4, -, m4, -, -, -⟩ := f4
  cases hh1
  cases hh3
  cases hh4
  rw [hn, hll]
  refine ⟨g, o, c, g', o', c', rfl, fun j hj => ?_, hg, m1, m3, m4⟩
  have := r1.get j (by omega)
  rw [claimK_at] at this
  exact this.2
set_option maxRecDepth 100000 in
set_option maxHeartbeats 4000000 in
theorem claimsKeys_at (MAKE : MakeSays) (CHECK : CodeCheck) (S1 S2 : ByteArray) (h1 : S1.size ≤ maxLen) (h2 : S2.size ≤ maxLen) (w : World) (hk : KitIn w.heap.size w) :
    Calls Tryd.prog 7 #[.string S1, .string S2] w fun e w' => e = .returned (.bool true) ∧ Below w.heap.size w w' := by
  unfold maxLen at h1 h2
  have hkb := fun W (hb : Below w.heap.size w W) => (hk.below hb).more hb.size
  have hans := fun W (hb : Below w.heap.size w W) => answers8_any MAKE CHECK W (hkb W hb)
  have hmk := MAKE cI S1.data.toList cA S2.data.toList 1 2 (by decide) (show S1.size ≤ _ by omega) (by decide) (show S2.size ≤ _ by omega) ⟨by decide, by decide⟩ ⟨by decide, by decide⟩ w
  have hmk2 : Calls Tryd.prog 11 #[.string ⟨#[105]⟩, .string ⟨S1.data.toList.toArray⟩, .string ⟨#[97]⟩, .string ⟨S2.data.toList.toArray⟩, .int .i64 1, .int .i64 2] w fun e w' => (∃ cs L N, e = .returned (.agg (List.toArray cs)) ∧ VIs w' L N (claimV cI S1.data.toList cA S2.data.toList 1 2) cs ∧ N ≤ w'.heap.size) ∧ Below w.heap.size w w' := hmk
  clear hmk hkb hk
  have e1 : (⟨S1.data.toList.toArray⟩ : ByteArray) = S1 := by simp
  have e2 : (⟨S2.data.toList.toArray⟩ : ByteArray) = S2 := by simp
  have hcells := fun (n : Nat) (hn : (claimK S2.data.toList).length = n) W L N cs (h : VIs W L N (claimV cI S1.data.toList cA S2.data.toList 1 2) cs) => claims_cells hn h
  rw [e1, e2] at hmk2
  rw [e1] at hcells
  clear e1 e2
  have HA := Lib.hid hans; have HMK := Lib.hid hmk2
  clear hans hmk2 h1 h2
  by_cases hz : S2.data.toList = []
  · have hb : (S2.toList == []) = true := by rw [ByteArray.toList_eq]; simp [hz]
    have hf := hcells 5 (by unfold claimK; rw [if_pos hz]; rfl)
    have HF := Lib.hid hf
    clear hf hcells hz
    go_enter Tryd.func7, Tryd.ntmps7
    go_wp2_with fail
    refine HMK.out.mono ?_
    rintro e w1 ⟨⟨cs, L, N, rfl, v1, hN1⟩, hb1⟩
    obtain ⟨g, o, c, g', o', c', rfl, k1, hg, m1, m3, m4⟩ := HF.out _ _ _ _ v1
    obtain ⟨X, hX⟩ : ∃ X, X = (w1.alloc (.cells #[.int .i64 6, .int .i64 0, .string ⟨#[]⟩, .slice (some ⟨g, o, none⟩) 5 c, .slice (some ⟨g', o', none⟩) 5 c'] 28)).alloc (.cells #[.string (kwAt 0), .string (kwAt 1), .string (kwAt 2), .string (kwAt 3), .string (kwAt 4), .string (kwAt 5)] 9) := ⟨_, rfl⟩
    have bX : Below w1.heap.size w1 X := by rw [hX]; exact ((Below.refl _ _).alloc (Nat.le_refl _) _).alloc (by simp) _
    have q2 : X.heap[w1.heap.size]? = some (.cells #[.int .i64 6, .int .i64 0, .string ⟨#[]⟩, .slice (some ⟨g, o, none⟩) 5 c, .slice (some ⟨g', o', none⟩) 5 c'] 28 (0, 0)) := by rw [hX]; exact alloc_block (heap_alloc_last w1 _)
    have q3 : X.heap[w1.heap.size + 1]? = some (.cells #[.string (kwAt 0), .string (kwAt 1), .string (kwAt 2), .string (kwAt 3), .string (kwAt 4), .string (kwAt 5)] 9 (0, 0)) := by rw [hX]; exact fresh_at _ (by simp)
    have m1' : X.cell? ⟨g, o + 5 + 2, none⟩ = _ := (bX.cell (p := ⟨g, o + 5 + 2, none⟩) (by show g < _; omega)).trans m1
    have m3' : X.cell? ⟨g, o + 15 + 1, none⟩ = _ := (bX.cell (p := ⟨g, o + 15 + 1, none⟩) (by show g < _; omega)).trans m3
    have m4' : X.cell? ⟨g, o + 20 + 1, none⟩ = _ := (bX.cell (p := ⟨g, o + 20 + 1, none⟩) (by show g < _; omega)).trans m4
    have kk : ∀ j, j < 5 → X.cell? ⟨g', o' + j, none⟩ = some (.string (kwAt j)) ∧ X.cell? ⟨w1.heap.size + 1, j, none⟩ = some (.string (kwAt j)) := fun j hj => by
      refine ⟨(bX.cell (p := ⟨g', o' + j, none⟩) (by show g' < _; have := (k1 j hj).1; omega)).trans (k1 j hj).2, ?_⟩
      rw [cell_here q3]
      match j, hj with
      | 0, _ => rfl
      | 1, _ => rfl
      | 2, _ => rfl
      | 3, _ => rfl
      | 4, _ => rfl
    obtain ⟨⟨e0, e1, e2, e3, e4⟩, -⟩ := box_of q2
    have hbX := hb1.chain bX
    have HX := Lib.hid hX; have HB := Lib.hid hbX; have KK := Lib.hid kk
    rw [hX] at e0 e1 e2 e3 e4
    have E3 : X.cell? ⟨w1.heap.size, 3, none⟩ = some (.slice (some ⟨g, o, none⟩) 5 c) := cell_here q2
    have E4 : X.cell? ⟨w1.heap.size, 4, none⟩ = some (.slice (some ⟨g', o', none⟩) 5 c') := cell_here q2
    have zx : w1.heap.size < X.heap.size ∧ g < X.heap.size := by have := (Array.getElem?_eq_some_iff.1 q2).1; have := bX.size; exact ⟨by omega, by omega⟩
    have ZX := Lib.hid zx; clear zx
    have hE3 := Lib.hid E3; have hE4 := Lib.hid E4; have M1 := Lib.hid m1'; have M3 := Lib.hid m3'; have M4 := Lib.hid m4'
    clear hX bX q2 q3 m1 m3 m4 m1' m3' m4' kk k1 hb1 hbX v1 hN1 hg E3 E4
    dsimp only
    go_wp2_with fail
    change Code.wp _ _ _ _ ((w1.alloc (.cells #[.int .i64 6, .int .i64 0, .string ⟨#[]⟩, .slice (some ⟨g, o, none⟩) 5 c, .slice (some ⟨g', o', none⟩) 5 c'] 28)).alloc (.cells #[.string (kwAt 0), .string (kwAt 1), .string (kwAt 2), .string (kwAt 3), .string (kwAt 4), .string (kwAt 5)] 9))
    rw [← HX.out]
    clear e0 e1 e2 e3 e4
    go_loopw [8] (fun i W => ∃ k q : Nat, k ≤ 5 ∧ i = .int .i64 k ∧ W = X.drewN q) (fun i _ => 5 - (intOf i).toNat)
    case atStart => exact ⟨0, 0, Nat.zero_le _, rfl, rfl⟩
    case round =>
      obtain ⟨k, q, hk, rfl, rfl⟩ := hrel
      have E3 : (X.drewN q).cell? ⟨w1.heap.size, 3, none⟩ = some (.slice (some ⟨g, o, none⟩) 5 c) := hE3.out
      have E4 : (X.drewN q).cell? ⟨w1.heap.size, 4, none⟩ = some (.slice (some ⟨g', o', none⟩) 5 c') := hE4.out
      by_cases hlt : k < 5
      · have h1 : (X.drewN q).cell? ⟨g', o' + k, none⟩ = some (.string (kwAt k)) := (KK.out k hlt).1
        have h2 : (X.drewN q).cell? ⟨w1.heap.size + 1, k, none⟩ = some (.string (kwAt k)) := (KK.out k hlt).2
        obtain ⟨x, hx⟩ : ∃ x, kwAt k = x := ⟨_, rfl⟩
        rw [hx] at h1 h2
        have hne : (!x.toList == x.toList) = false := by simp
        have hk0 : (0 : Int) ≤ k := by omega
        have hk1 : (k : Int) < 5 := by omega
        have hk2 : (k : Int) < 6 := by omega
        have hkr : decide ((k : Int) < 5) = true := by simp; omega
        clear hx hb E3
        generalize hW : X.drewN q = W at *
        have HW := Lib.hid hW; clear hW
        go_wp2
        go_quiet (fail)
        go_wp2
        go_roundw
        case rel => exact ⟨k + 1, _, by omega, by go_num, by rw [← HW.out, World.drewN_drewN]⟩
        case measure => simp [intOf]; omega
      · obtain rfl : k = 5 := by omega
        have hkr : decide (((5 : Nat) : Int) < 5) = false := by simp
        have hans := HA.out (X.drewN q) (belowDrewN HB.out q)
        have HAN := Lib.hid hans
        clear E3 E4 hans
        go_wp2_with fail
        refine HAN.out.mono ?_
        rintro e w3 ⟨rfl, hb3⟩
        have bq := belowDrewN HB.out q
        have HBQ := Lib.hid (bq.chain hb3)
        have gx := ZX.out
        have e3 := (hb3.cell (p := ⟨w1.heap.size, 3, none⟩) (by show w1.heap.size < X.heap.size; omega)).trans hE3.out
        have n1 := (hb3.cell (p := ⟨g, o + 5 + 2, none⟩) (by show g < X.heap.size; omega)).trans M1.out
        have n3 := (hb3.cell (p := ⟨g, o + 15 + 1, none⟩) (by show g < X.heap.size; omega)).trans M3.out
        have n4 := (hb3.cell (p := ⟨g, o + 20 + 1, none⟩) (by show g < X.heap.size; omega)).trans M4.out
        have hss : (S1.toList == S1.toList) = true := by simp
        clear hb3 bq gx
        dsimp only
        go_wp2
        go_ret
        exact ⟨rfl, HBQ.out⟩
  · have hb : (S2.toList == []) = false := by rw [ByteArray.toList_eq]; simp; intro h; exact hz (by rw [h])
    have hf := hcells 6 (by unfold claimK; rw [if_neg hz]; rfl)
    have HF := Lib.hid hf
    clear hf hcells hz
    go_enter Tryd.func7, Tryd.ntmps7
    go_wp2_with fail
    refine HMK.out.mono ?_
    rintro e w1 ⟨⟨cs, L, N, rfl, v1, hN1⟩, hb1⟩
    obtain ⟨g, o, c, g', o', c', rfl, k1, hg, m1, m3, m4⟩ := HF.out _ _ _ _ v1
    obtain ⟨X, hX⟩ : ∃ X, X = (w1.alloc (.cells #[.int .i64 6, .int .i64 0, .string ⟨#[]⟩, .slice (some ⟨g, o, none⟩) 6 c, .slice (some ⟨g', o', none⟩) 6 c'] 28)).alloc (.cells #[.string (kwAt 0), .string (kwAt 1), .string (kwAt 2), .string (kwAt 3), .string (kwAt 4), .string (kwAt 5)] 9) := ⟨_, rfl⟩
    have bX : Below w1.heap.size w1 X := by rw [hX]; exact ((Below.refl _ _).alloc (Nat.le_refl _) _).alloc (by simp) _
    have q2 : X.heap[w1.heap.size]? = some (.cells #[.int .i64 6, .int .i64 0, .string ⟨#[]⟩, .slice (some ⟨g, o, none⟩) 6 c, .slice (some ⟨g', o', none⟩) 6 c'] 28 (0, 0)) := by rw [hX]; exact alloc_block (heap_alloc_last w1 _)
    have q3 : X.heap[w1.heap.size + 1]? = some (.cells #[.string (kwAt 0), .string (kwAt 1), .string (kwAt 2), .string (kwAt 3), .string (kwAt 4), .string (kwAt 5)] 9 (0, 0)) := by rw [hX]; exact fresh_at _ (by simp)
    have m1' : X.cell? ⟨g, o + 5 + 2, none⟩ = _ := (bX.cell (p := ⟨g, o + 5 + 2, none⟩) (by show g < _; omega)).trans m1
    have m3' : X.cell? ⟨g, o + 15 + 1, none⟩ = _ := (bX.cell (p := ⟨g, o + 15 + 1, none⟩) (by show g < _; omega)).trans m3
    have m4' : X.cell? ⟨g, o + 20 + 1, none⟩ = _ := (bX.cell (p := ⟨g, o + 20 + 1, none⟩) (by show g < _; omega)).trans m4
    have kk : ∀ j, j < 6 → X.cell? ⟨g', o' + j, none⟩ = some (.string (kwAt j)) ∧ X.cell? ⟨w1.heap.size + 1, j, none⟩ = some (.string (kwAt j)) := fun j hj => by
      refine ⟨(bX.cell (p := ⟨g', o' + j, none⟩) (by show g' < _; have := (k1 j hj).1; omega)).trans (k1 j hj).2, ?_⟩
      rw [cell_here q3]
      match j, hj with
      | 0, _ => rfl
      | 1, _ => rfl
      | 2, _ => rfl
      | 3, _ => rfl
      | 4, _ => rfl
      | 5, _ => rfl
    obtain ⟨⟨e0, e1, e2, e3, e4⟩, -⟩ := box_of q2
    have hbX := hb1.chain bX
    have HX := Lib.hid hX; have HB := Lib.hid hbX; have KK := Lib.hid kk
    rw [hX] at e0 e1 e2 e3 e4
    have E3 : X.cell? ⟨w1.heap.size, 3, none⟩ = some (.slice (some ⟨g, o, none⟩) 6 c) := cell_here q2
    have E4 : X.cell? ⟨w1.heap.size, 4, none⟩ = some (.slice (some ⟨g', o', none⟩) 6 c') := cell_here q2
    have zx : w1.heap.size < X.heap.size ∧ g < X.heap.size := by have := (Array.getElem?_eq_some_iff.1 q2).1; have := bX.size; exact ⟨by omega, by omega⟩
    have ZX := Lib.hid zx; clear zx
    have hE3 := Lib.hid E3; have hE4 := Lib.hid E4; have M1 := Lib.hid m1'; have M3 := Lib.hid m3'; have M4 := Lib.hid m4'
    clear hX bX q2 q3 m1 m3 m4 m1' m3' m4' kk k1 hb1 hbX v1 hN1 hg E3 E4
    dsimp only
    go_wp2_with fail
    change Code.wp _ _ _ _ ((w1.alloc (.cells #[.int .i64 6, .int .i64 0, .string ⟨#[]⟩, .slice (some ⟨g, o, none⟩) 6 c, .slice (some ⟨g', o', none⟩) 6 c'] 28)).alloc (.cells #[.string (kwAt 0), .string (kwAt 1), .string (kwAt 2), .string (kwAt 3), .string (kwAt 4), .string (kwAt 5)] 9))
    rw [← HX.out]
    clear e0 e1 e2 e3 e4
    go_loopw [8] (fun i W => ∃ k q : Nat, k ≤ 6 ∧ i = .int .i64 k ∧ W = X.drewN q) (fun i _ => 6 - (intOf i).toNat)
    case atStart => exact ⟨0, 0, Nat.zero_le _, rfl, rfl⟩
    case round =>
      obtain ⟨k, q, hk, rfl, rfl⟩ := hrel
      have E3 : (X.drewN q).cell? ⟨w1.heap.size, 3, none⟩ = some (.slice (some ⟨g, o, none⟩) 6 c) := hE3.out
      have E4 : (X.drewN q).cell? ⟨w1.heap.size, 4, none⟩ = some (.slice (some ⟨g', o', none⟩) 6 c') := hE4.out
      by_cases hlt : k < 6
      · have h1 : (X.drewN q).cell? ⟨g', o' + k, none⟩ = some (.string (kwAt k)) := (KK.out k hlt).1
        have h2 : (X.drewN q).cell? ⟨w1.heap.size + 1, k, none⟩ = some (.string (kwAt k)) := (KK.out k hlt).2
        obtain ⟨x, hx⟩ : ∃ x, kwAt k = x := ⟨_, rfl⟩
        rw [hx] at h1 h2
        have hne : (!x.toList == x.toList) = false := by simp
        have hk0 : (0 : Int) ≤ k := by omega
        have hk1 : (k : Int) < 6 := by omega
        have hk2 : (k : Int) < 6 := by omega
        have hkr : decide ((k : Int) < 6) = true := by simp; omega
        clear hx hb E3
        generalize hW : X.drewN q = W at *
        have HW := Lib.hid hW; clear hW
        go_wp2
        go_quiet (fail)
        go_wp2
        go_roundw
        case rel => exact ⟨k + 1, _, by omega, by go_num, by rw [← HW.out, World.drewN_drewN]⟩
        case measure => simp [intOf]; omega
      · obtain rfl : k = 6 := by omega
        have hkr : decide (((6 : Nat) : Int) < 6) = false := by simp
        have hans := HA.out (X.drewN q) (belowDrewN HB.out q)
        have HAN := Lib.hid hans
        clear E3 E4 hans
        go_wp2_with fail
        refine HAN.out.mono ?_
        rintro e w3 ⟨rfl, hb3⟩
        have bq := belowDrewN HB.out q
        have HBQ := Lib.hid (bq.chain hb3)
        have gx := ZX.out
        have e3 := (hb3.cell (p := ⟨w1.heap.size, 3, none⟩) (by show w1.heap.size < X.heap.size; omega)).trans hE3.out
        have n1 := (hb3.cell (p := ⟨g, o + 5 + 2, none⟩) (by show g < X.heap.size; omega)).trans M1.out
        have n3 := (hb3.cell (p := ⟨g, o + 15 + 1, none⟩) (by show g < X.heap.size; omega)).trans M3.out
        have n4 := (hb3.cell (p := ⟨g, o + 20 + 1, none⟩) (by show g < X.heap.size; omega)).trans M4.out
        have hss : (S1.toList == S1.toList) = true := by simp
        clear hb3 bq gx
        dsimp only
        go_wp2
        go_ret
        exact ⟨rfl, HBQ.out⟩
end Go.Proofs.YtcbajbpdgmmaeaaDoor
namespace Go.Proofs.YtcbajbpdgmmaeaaDoor
open Go.RowKit
set_option linter.unusedVariables false
set_option linter.unusedSimpArgs false

theorem claim_len (iss sub aud nonce : List UInt8) (iat exp : Int) (hi : moment iat) (he : moment exp) (h : iss.length + sub.length + aud.length + nonce.length ≤ 10000000) : (claimV iss sub aud nonce iat exp).show.length ≤ 10000000000000 := by
  have hf := claimV_fits iss sub aud nonce iat exp hi he 6
  have hs := show_wt _ _ (Nat.le_refl _) (fits_isgood hf)
  have hw : (claimV iss sub aud nonce iat exp).wt ≤ iss.length + sub.length + aud.length + nonce.length + 1000 := by
    unfold claimV claimL claimK
    rw [wt_mk]
    by_cases hn : nonce = []
    · rw [if_pos hn, if_pos hn]
      simp only [List.append_nil, wts_cons, V.wts, kwts_cons, kwts_nil, textV, numV, wt_mk, wIss, wSub, wAud, wIat, wExp, List.length_cons, List.length_nil]
      omega
    · rw [if_neg hn, if_neg hn]
      simp only [List.cons_append, List.nil_append, wts_cons, V.wts, kwts_cons, kwts_nil, textV, numV, wt_mk, wIss, wSub, wAud, wIat, wExp, wNonce, List.length_cons, List.length_nil]
      omega
  omega
/-- one call's answer, of which the error's number and the text matter alone -/
def OneC (X : ByteArray) (E : Int) (e : Ending) : Prop := ∃ k n t A a b A' a' b', e = .returned (.tuple #[.string X, .agg #[.int .i64 k, .int .i64 n, .string t, .slice A a b, .slice A' a' b'], .int .i64 E])
theorem CheckSays.one {x : List UInt8} {v : V} {E : Int} {w : World} {e : Ending} {w' : World} (h : CheckSays (x, v, E) w e w') : OneC ⟨x.toArray⟩ E e ∧ Below w.heap.size w w' := by
  obtain ⟨⟨cs, L, N, he, hv, -⟩, hb⟩ := h
  obtain ⟨A, a, A', a', rfl⟩ := hv.form
  exact ⟨⟨_, _, _, _, _, _, _, _, _, he⟩, hb⟩
theorem snoc_ne (l : List UInt8) (c : UInt8) : l ≠ l ++ [c] := fun h => by
  have := congrArg List.length h
  simp at this
theorem snoc_list (S : ByteArray) : (⟨(S.data.toList ++ [120]).toArray⟩ : ByteArray) = S ++ ⟨#[120]⟩ := by
  apply ByteArray.ext
  rw [ByteArray.data_append]
  apply Array.ext'
  simp
set_option maxRecDepth 100000 in
set_option maxHeartbeats 8000000 in
theorem claimsFit_at (MAKE : MakeSays) (CHECK : CodeCheck) (S1 S2 S3 S4 : ByteArray) (exp now : Int) (h1 : S1.size ≤ maxLen) (h2 : S2.size ≤ maxLen) (h3 : S3.size ≤ maxLen) (h4 : S4.size ≤ maxLen) (hsum : S1.size + S2.size + S3.size + S4.size ≤ 1048576) (w : World) (hk : KitIn w.heap.size w) :
    Calls Tryd.prog 5 #[.string S1, .string S2, .string S3, .string S4, .int .i64 exp, .int .i64 now] w fun e w' => e = .returned (.bool true) ∧ Below w.heap.size w w' := by
  have hkb := fun W (hb : Below w.heap.size w W) => (hk.below hb).more hb.size
  have hans := fun W (hb : Below w.heap.size w W) => answers8_any MAKE CHECK W (hkb W hb)
  have hm1 := fun W => moment_any exp W
  have hm2 := fun W => moment_any now W
  have hme : ∀ n : Int, (decide (-9007199254740992 ≤ n) && decide (n ≤ 9007199254740992)) = true ↔ moment n := fun n => by unfold moment; simp
  have he1 := hme exp
  have he2 := hme now
  obtain ⟨b1, hb1⟩ : ∃ b, (decide (-9007199254740992 ≤ exp) && decide (exp ≤ 9007199254740992)) = b := ⟨_, rfl⟩
  obtain ⟨b2, hb2⟩ : ∃ b, (decide (-9007199254740992 ≤ now) && decide (now ≤ 9007199254740992)) = b := ⟨_, rfl⟩
  rw [hb1] at hm1 he1
  rw [hb2] at hm2 he2
  have HA := Lib.hid hans; have HM1 := Lib.hid hm1; have HM2 := Lib.hid hm2
  clear hans hm1 hm2 hme hb1 hb2
  cases b1 with
  | false =>
    clear he1 he2 hk hkb h1 h2 h3 h4 hsum
    go_enter Tryd.func5, Tryd.ntmps5
    go_wp2_with fail
    refine (HM1.out _).mono ?_
    rintro e _ ⟨rfl, rfl⟩
    dsimp only
    go_wp2_with fail
    refine (HA.out _ (Below.refl _ _)).mono ?_
    rintro e w1 ⟨rfl, hb1⟩
    have B1 := Lib.hid hb1; clear hb1
    dsimp only
    go_wp2
    go_ret
    exact ⟨rfl, B1.out⟩
  | true =>
  cases b2 with
  | false =>
    clear he1 he2 hk hkb h1 h2 h3 h4 hsum
    go_enter Tryd.func5, Tryd.ntmps5
    go_wp2_with fail
    refine (HM1.out _).mono ?_
    rintro e _ ⟨rfl, rfl⟩
    dsimp only
    go_wp2_with fail
    refine (HM2.out _).mono ?_
    rintro e _ ⟨rfl, rfl⟩
    dsimp only
    go_wp2_with fail
    refine (HA.out _ (Below.refl _ _)).mono ?_
    rintro e w1 ⟨rfl, hb1⟩
    have B1 := Lib.hid hb1; clear hb1
    dsimp only
    go_wp2
    go_ret
    exact ⟨rfl, B1.out⟩
  | true =>
  obtain ⟨q1, hq1⟩ : ∃ b, (S2.toList == []) = b := ⟨_, rfl⟩
  cases q1 with
  | true =>
    clear he1 he2 hk hkb h1 h2 h3 h4 hsum
    go_enter Tryd.func5, Tryd.ntmps5
    go_wp2_with fail
    refine (HM1.out _).mono ?_
    rintro e _ ⟨rfl, rfl⟩
    dsimp only
    go_wp2_with fail
    refine (HM2.out _).mono ?_
    rintro e _ ⟨rfl, rfl⟩
    dsimp only
    go_wp2_with fail
    refine (HA.out _ (Below.refl _ _)).mono ?_
    rintro e w1 ⟨rfl, hb1⟩
    have B1 := Lib.hid hb1; clear hb1
    dsimp only
    go_wp2
    go_ret
    exact ⟨rfl, B1.out⟩
  | false =>
  obtain ⟨q2, hq2⟩ : ∃ b, (S4.toList == []) = b := ⟨_, rfl⟩
  cases q2 with
  | true =>
    clear he1 he2 hk hkb h1 h2 h3 h4 hsum
    go_enter Tryd.func5, Tryd.ntmps5
    go_wp2_with fail
    refine (HM1.out _).mono ?_
    rintro e _ ⟨rfl, rfl⟩
    dsimp only
    go_wp2_with fail
    refine (HM2.out _).mono ?_
    rintro e _ ⟨rfl, rfl⟩
    dsimp only
    go_wp2_with fail
    refine (HA.out _ (Below.refl _ _)).mono ?_
    rintro e w1 ⟨rfl, hb1⟩
    have B1 := Lib.hid hb1; clear hb1
    dsimp only
    go_wp2
    go_ret
    exact ⟨rfl, B1.out⟩
  | false =>
    have me := he1.1 rfl
    have mn := he2.1 rfl
    have hsub : S2.data.toList ≠ [] := fun h => by rw [ByteArray.toList_eq, h] at hq1; cases hq1
    have hnon : S4.data.toList ≠ [] := fun h => by rw [ByteArray.toList_eq, h] at hq2; cases hq2
    have hz : ∀ S : ByteArray, S.data.toList.length = S.size := fun S => rfl
    have m0 : moment 0 := ⟨by decide, by decide⟩
    have hmk := MAKE S1.data.toList S2.data.toList S3.data.toList S4.data.toList 0 exp (by rw [hz]; omega) (by rw [hz]; omega) (by rw [hz]; omega) (by rw [hz]; omega) m0 me w
    have hfit := fun i a n => claim_fit S1.data.toList S2.data.toList S3.data.toList S4.data.toList 0 exp i a n now hsub hnon
    have hcf := claimV_fits S1.data.toList S2.data.toList S3.data.toList S4.data.toList 0 exp m0 me 6
    have hln := claim_len S1.data.toList S2.data.toList S3.data.toList S4.data.toList 0 exp m0 me (by rw [hz, hz, hz, hz]; omega)
    have hfs := fSub S1.data.toList S2.data.toList S3.data.toList S4.data.toList 0 exp
    obtain ⟨v, hv⟩ : ∃ v, claimV S1.data.toList S2.data.toList S3.data.toList S4.data.toList 0 exp = v := ⟨_, rfl⟩
    rw [hv] at hmk hcf hln hfs
    simp only [hv] at hfit
    have hjs := fun (W : World) (L N : Nat) (cs : List Value) (h : VIs W L N v cs) (hN : N ≤ W.heap.size) => refJSON_any v W L N cs (fun _ => hln) h hN
    have hpv : printV v = v.show := by unfold printV; rw [if_pos hcf]
    rw [hpv] at hjs
    have hcs := fun (hl : v.show.length ≤ 4096) i a n => check_show hcf hl i a n now
    simp only [strList] at hmk
    obtain ⟨T, hT⟩ : ∃ T : ByteArray, (⟨v.show.toArray⟩ : ByteArray) = T := ⟨_, rfl⟩
    have hTs : T.size = v.show.length := by rw [← hT]; show v.show.toArray.size = _; simp
    rw [hT] at hjs
    have HF := Lib.hid (fun W L N cs (h : VIs W L N v cs) => h.form)
    have HMK := Lib.hid hmk; have HJS := Lib.hid hjs
    clear hmk hjs he1 he2
    by_cases hl : v.show.length ≤ 4096
    · have hgt : decide ((4096 : Int) < T.size) = false := by rw [hTs]; simp; omega
      have hone : ∀ (i a n : List UInt8) (hi : i.length ≤ 9223372036854775807) (W : World), Below w.heap.size w W → Calls Tryd.prog 13 #[.string T, .string ⟨i.toArray⟩, .string ⟨a.toArray⟩, .string ⟨n.toArray⟩, .int .i64 now] W fun e w' => CheckSays (if fitV v i a n now then (((fieldV wSub v).getD V.zero).text, v, 0) else ([], V.zero, 9)) W e w' := fun i a n hi W hb => by
        have h := CHECK v.show i a n now (by omega) mn W (hkb W hb)
        rw [hcs hl, hT] at h; exact h
      have hx1 : ∀ (a n : List UInt8) (W : World), Below w.heap.size w W → Calls Tryd.prog 13 #[.string T, .string (S1 ++ ⟨#[120]⟩), .string ⟨a.toArray⟩, .string ⟨n.toArray⟩, .int .i64 now] W fun e w' => OneC ⟨#[]⟩ 9 e ∧ Below W.heap.size W w' := fun a n W hb => by
        have h := hone (S1.data.toList ++ [120]) a n (by rw [List.length_append, hz]; simp; omega) W hb
        rw [hfit, decide_eq_false (snoc_ne _ _), if_neg (by simp), snoc_list] at h
        exact h.mono fun e w' q => q.one
      have hx2 : ∀ (n : List UInt8) (W : World), Below w.heap.size w W → Calls Tryd.prog 13 #[.string T, .string S1, .string (S3 ++ ⟨#[120]⟩), .string ⟨n.toArray⟩, .int .i64 now] W fun e w' => OneC ⟨#[]⟩ 9 e ∧ Below W.heap.size W w' := fun n W hb => by
        have h := hone S1.data.toList (S3.data.toList ++ [120]) n (by rw [hz]; omega) W hb
        rw [hfit, decide_eq_false (snoc_ne _ _), if_neg (by simp), snoc_list, strList] at h
        exact h.mono fun e w' q => q.one
      have hx3 : ∀ (W : World), Below w.heap.size w W → Calls Tryd.prog 13 #[.string T, .string S1, .string S3, .string (S4 ++ ⟨#[120]⟩), .int .i64 now] W fun e w' => OneC ⟨#[]⟩ 9 e ∧ Below W.heap.size W w' := fun W hb => by
        have h := hone S1.data.toList S3.data.toList (S4.data.toList ++ [120]) (by rw [hz]; omega) W hb
        rw [hfit, decide_eq_false (snoc_ne _ _), if_neg (by simp), snoc_list, strList, strList] at h
        exact h.mono fun e w' q => q.one
      have hy1 := hone S1.data.toList S3.data.toList S4.data.toList (by rw [hz]; omega)
      have hy2 := hone S1.data.toList S3.data.toList [] (by rw [hz]; omega)
      have htx : ((fieldV wSub v).getD V.zero).text = S2.data.toList := by rw [hfs]; rfl
      rw [hfit, htx] at hy1 hy2
      have hx1' := hx1 S3.data.toList S4.data.toList
      have hx2' := hx2 S4.data.toList
      simp only [strList] at hx1' hx2' hy1 hy2
      have hs1 : ∀ W, (Op.stringOp .add S1 ⟨#[120]⟩).run Tryd.prog W = .ok (.string (S1 ++ ⟨#[120]⟩)) W := fun W => run_string_add_sum W _ _ (by show S1.size + 1 ≤ _; omega)
      have hs2 : ∀ W, (Op.stringOp .add S3 ⟨#[120]⟩).run Tryd.prog W = .ok (.string (S3 ++ ⟨#[120]⟩)) W := fun W => run_string_add_sum W _ _ (by show S3.size + 1 ≤ _; omega)
      have hs3 : ∀ W, (Op.stringOp .add S4 ⟨#[120]⟩).run Tryd.prog W = .ok (.string (S4 ++ ⟨#[120]⟩)) W := fun W => run_string_add_sum W _ _ (by show S4.size + 1 ≤ _; omega)
      have HX1 := Lib.hid hx1'; have HX2 := Lib.hid hx2'; have HX3 := Lib.hid hx3
      clear hx1 hx2 hx3 hx1' hx2' hone hcs hfit hcf hln hfs hpv hkb hk hz m0 me mn hsub hnon htx hTs hT hv h1 h2 h3 h4 hsum hl
      by_cases hno : now < exp
      · have hdn : decide (now < exp) = true := by simp [hno]
        rw [hdn] at hy1 hy2
        have HY1 : Hid (∀ (W : World), Below w.heap.size w W → Calls Tryd.prog 13 #[.string T, .string S1, .string S3, .string S4, .int .i64 now] W fun e w' => OneC S2 0 e ∧ Below W.heap.size W w') := Lib.hid fun W hb => (hy1 W hb).mono fun e w' q => by
          have := (show CheckSays (S2.data.toList, v, 0) W e w' by simpa using q).one
          rwa [strList] at this
        have HY2 : Hid (∀ (W : World), Below w.heap.size w W → Calls Tryd.prog 13 #[.string T, .string S1, .string S3, .string ⟨#[]⟩, .int .i64 now] W fun e w' => OneC S2 0 e ∧ Below W.heap.size W w') := Lib.hid fun W hb => (hy2 W hb).mono fun e w' q => by
          have := (show CheckSays (S2.data.toList, v, 0) W e w' by simpa using q).one
          rwa [strList] at this
        have hss : (S2.toList == S2.toList) = true := by simp
        clear hy1 hy2 hno
        go_enter Tryd.func5, Tryd.ntmps5
        go_wp2_with fail
        refine (HM1.out _).mono ?_
        rintro e _ ⟨rfl, rfl⟩
        dsimp only
        go_wp2_with fail
        refine (HM2.out _).mono ?_
        rintro e _ ⟨rfl, rfl⟩
        dsimp only
        go_wp2_with fail
        refine HMK.out.mono ?_
        rintro e w1 ⟨⟨cs, L, N, rfl, v1, hN1⟩, hb1⟩
        obtain ⟨z1, z2, z3, z4, rfl⟩ := HF.out _ _ _ _ v1
        have B1 := Lib.hid hb1; have V1 := Lib.hid v1
        clear hb1 v1
        dsimp only
        go_wp2_with fail
        refine (HJS.out _ _ _ _ V1.out hN1).mono ?_
        rintro e w2 ⟨rfl, hb2⟩
        have B2 := Lib.hid (B1.out.chain hb2); clear hb2
        dsimp only
        go_wp2_with fail
        refine (HY1.out _ B2.out).mono ?_
        rintro e y1 ⟨⟨k1, n1, t1, A1, a1, p1, C1, c1, r1, rfl⟩, hb⟩
        have D1 := Lib.hid (B2.out.chain (hb.alloc hb.size (.cells #[.int .i64 k1, .int .i64 n1, .string t1, .slice A1 a1 p1, .slice C1 c1 r1] 28)))
        clear hb
        dsimp only
        go_wp2_with fail
        refine (HX1.out _ D1.out).mono ?_
        rintro e y2 ⟨⟨k2, n2, t2, A2, a2, p2, C2, c2, r2, rfl⟩, hb⟩
        have D2 := Lib.hid (D1.out.chain (hb.alloc hb.size (.cells #[.int .i64 k2, .int .i64 n2, .string t2, .slice A2 a2 p2, .slice C2 c2 r2] 28)))
        clear hb
        dsimp only
        go_wp2_with fail
        refine (HX2.out _ D2.out).mono ?_
        rintro e y3 ⟨⟨k3, n3, t3, A3, a3, p3, C3, c3, r3, rfl⟩, hb⟩
        have D3 := Lib.hid (D2.out.chain (hb.alloc hb.size (.cells #[.int .i64 k3, .int .i64 n3, .string t3, .slice A3 a3 p3, .slice C3 c3 r3] 28)))
        clear hb
        dsimp only
        go_wp2_with fail
        refine (HX3.out _ D3.out).mono ?_
        rintro e y4 ⟨⟨k4, n4, t4, A4, a4, p4, C4, c4, r4, rfl⟩, hb⟩
        have D4 := Lib.hid (D3.out.chain (hb.alloc hb.size (.cells #[.int .i64 k4, .int .i64 n4, .string t4, .slice A4 a4 p4, .slice C4 c4 r4] 28)))
        clear hb
        dsimp only
        go_wp2_with fail
        refine (HY2.out _ D4.out).mono ?_
        rintro e y5 ⟨⟨k5, n5, t5, A5, a5, p5, C5, c5, r5, rfl⟩, hb⟩
        have D5 := Lib.hid (D4.out.chain (hb.alloc hb.size (.cells #[.int .i64 k5, .int .i64 n5, .string t5, .slice A5 a5 p5, .slice C5 c5 r5] 28)))
        clear hb
        dsimp only
        go_wp2_with fail
        refine (HA.out _ D5.out).mono ?_
        rintro e wz ⟨rfl, hbz⟩
        have BZ := Lib.hid (D5.out.chain hbz); clear hbz
        dsimp only
        go_wp2
        go_ret
        exact ⟨rfl, BZ.out⟩
      · have hdn : decide (now < exp) = false := by simp [hno]
        rw [hdn] at hy1 hy2
        have HY1 : Hid (∀ (W : World), Below w.heap.size w W → Calls Tryd.prog 13 #[.string T, .string S1, .string S3, .string S4, .int .i64 now] W fun e w' => OneC ⟨#[]⟩ 9 e ∧ Below W.heap.size W w') := Lib.hid fun W hb => (hy1 W hb).mono fun e w' q => (show CheckSays ([], V.zero, 9) W e w' by simpa using q).one
        have HY2 : Hid (∀ (W : World), Below w.heap.size w W → Calls Tryd.prog 13 #[.string T, .string S1, .string S3, .string ⟨#[]⟩, .int .i64 now] W fun e w' => OneC ⟨#[]⟩ 9 e ∧ Below W.heap.size W w') := Lib.hid fun W hb => (hy2 W hb).mono fun e w' q => (show CheckSays ([], V.zero, 9) W e w' by simpa using q).one
        clear hy1 hy2 hno
        go_enter Tryd.func5, Tryd.ntmps5
        go_wp2_with fail
        refine (HM1.out _).mono ?_
        rintro e _ ⟨rfl, rfl⟩
        dsimp only
        go_wp2_with fail
        refine (HM2.out _).mono ?_
        rintro e _ ⟨rfl, rfl⟩
        dsimp only
        go_wp2_with fail
        refine HMK.out.mono ?_
        rintro e w1 ⟨⟨cs, L, N, rfl, v1, hN1⟩, hb1⟩
        obtain ⟨z1, z2, z3, z4, rfl⟩ := HF.out _ _ _ _ v1
        have B1 := Lib.hid hb1; have V1 := Lib.hid v1
        clear hb1 v1
        dsimp only
        go_wp2_with fail
        refine (HJS.out _ _ _ _ V1.out hN1).mono ?_
        rintro e w2 ⟨rfl, hb2⟩
        have B2 := Lib.hid (B1.out.chain hb2); clear hb2
        dsimp only
        go_wp2_with fail
        refine (HY1.out _ B2.out).mono ?_
        rintro e y1 ⟨⟨k1, n1, t1, A1, a1, p1, C1, c1, r1, rfl⟩, hb⟩
        have D1 := Lib.hid (B2.out.chain (hb.alloc hb.size (.cells #[.int .i64 k1, .int .i64 n1, .string t1, .slice A1 a1 p1, .slice C1 c1 r1] 28)))
        clear hb
        dsimp only
        go_wp2_with fail
        refine (HX1.out _ D1.out).mono ?_
        rintro e y2 ⟨⟨k2, n2, t2, A2, a2, p2, C2, c2, r2, rfl⟩, hb⟩
        have D2 := Lib.hid (D1.out.chain (hb.alloc hb.size (.cells #[.int .i64 k2, .int .i64 n2, .string t2, .slice A2 a2 p2, .slice C2 c2 r2] 28)))
        clear hb
        dsimp only
        go_wp2_with fail
        refine (HX2.out _ D2.out).mono ?_
        rintro e y3 ⟨⟨k3, n3, t3, A3, a3, p3, C3, c3, r3, rfl⟩, hb⟩
        have D3 := Lib.hid (D2.out.chain (hb.alloc hb.size (.cells #[.int .i64 k3, .int .i64 n3, .string t3, .slice A3 a3 p3, .slice C3 c3 r3] 28)))
        clear hb
        dsimp only
        go_wp2_with fail
        refine (HX3.out _ D3.out).mono ?_
        rintro e y4 ⟨⟨k4, n4, t4, A4, a4, p4, C4, c4, r4, rfl⟩, hb⟩
        have D4 := Lib.hid (D3.out.chain (hb.alloc hb.size (.cells #[.int .i64 k4, .int .i64 n4, .string t4, .slice A4 a4 p4, .slice C4 c4 r4] 28)))
        clear hb
        dsimp only
        go_wp2_with fail
        refine (HY2.out _ D4.out).mono ?_
        rintro e y5 ⟨⟨k5, n5, t5, A5, a5, p5, C5, c5, r5, rfl⟩, hb⟩
        have D5 := Lib.hid (D4.out.chain (hb.alloc hb.size (.cells #[.int .i64 k5, .int .i64 n5, .string t5, .slice A5 a5 p5, .slice C5 c5 r5] 28)))
        clear hb
        dsimp only
        go_wp2_with fail
        refine (HA.out _ D5.out).mono ?_
        rintro e wz ⟨rfl, hbz⟩
        have BZ := Lib.hid (D5.out.chain hbz); clear hbz
        dsimp only
        go_wp2
        go_ret
        exact ⟨rfl, BZ.out⟩
    · have hgt : decide ((4096 : Int) < T.size) = true := by rw [hTs]; simp; omega
      clear hcs hfit hcf hln hfs hpv hkb hk hz m0 me mn hsub hnon hTs hT hv h1 h2 h3 h4 hsum hl
      go_enter Tryd.func5, Tryd.ntmps5
      go_wp2_with fail
      refine (HM1.out _).mono ?_
      rintro e _ ⟨rfl, rfl⟩
      dsimp only
      go_wp2_with fail
      refine (HM2.out _).mono ?_
      rintro e _ ⟨rfl, rfl⟩
      dsimp only
      go_wp2_with fail
      refine HMK.out.mono ?_
      rintro e w1 ⟨⟨cs, L, N, rfl, v1, hN1⟩, hb1⟩
      obtain ⟨z1, z2, z3, z4, rfl⟩ := HF.out _ _ _ _ v1
      have B1 := Lib.hid hb1; have V1 := Lib.hid v1
      clear hb1 v1
      dsimp only
      go_wp2_with fail
      refine (HJS.out _ _ _ _ V1.out hN1).mono ?_
      rintro e w2 ⟨rfl, hb2⟩
      have B2 := Lib.hid (B1.out.chain hb2); clear hb2
      dsimp only
      go_wp2_with fail
      refine (HA.out _ B2.out).mono ?_
      rintro e wz ⟨rfl, hbz⟩
      have BZ := Lib.hid (B2.out.chain hbz); clear hbz
      dsimp only
      go_wp2
      go_ret
      exact ⟨rfl, BZ.out⟩
end Go.Proofs.YtcbajbpdgmmaeaaDoor
namespace Go.Proofs.YtcbajbpdgmmaeaaDoor
open Go.RowKit
set_option linter.unusedVariables false
set_option linter.unusedSimpArgs false

def put5 (xs : List Value) (j : Nat) (c0 c1 c2 c3 c4 : Value) : List Value := ((((xs.set j c0).set (j + 1) c1).set (j + 2) c2).set (j + 3) c3).set (j + 4) c4
theorem put5_at {xs : List Value} {j : Nat} (h : j + 5 ≤ xs.length) (c0 c1 c2 c3 c4 : Value) : (put5 xs j c0 c1 c2 c3 c4)[j]? = some c0 ∧ (put5 xs j c0 c1 c2 c3 c4)[j + 1]? = some c1 ∧ (put5 xs j c0 c1 c2 c3 c4)[j + 2]? = some c2 ∧ (put5 xs j c0 c1 c2 c3 c4)[j + 3]? = some c3 ∧ (put5 xs j c0 c1 c2 c3 c4)[j + 4]? = some c4 := by
  unfold put5
  refine ⟨?_, ?_, ?_, ?_, ?_⟩ <;> simp [List.getElem?_set] <;> omega
theorem put5_other {xs : List Value} {j k : Nat} (h : k < j ∨ j + 5 ≤ k) (c0 c1 c2 c3 c4 : Value) : (put5 xs j c0 c1 c2 c3 c4)[k]? = xs[k]? := by
  unfold put5
  rw [List.getElem?_set_ne (by omega), List.getElem?_set_ne (by omega), List.getElem?_set_ne (by omega), List.getElem?_set_ne (by omega), List.getElem?_set_ne (by omega)]
theorem OSt.put {B p L N : Nat} {w wr : World} {g c : Nat} {kv : Value} {l : List V} {ks : List (List UInt8)} {xs : List Value} (h : OSt B p L N w wr (.slice (some ⟨g, 0, none⟩) l.length c) kv l ks xs) (j : Nat) (hj : j < l.length) (x : V) {c0 c1 c2 c3 c4 : Value} (hx : VIs w L N x [c0, c1, c2, c3, c4]) :
    OSt B p L N w (set5 wr g (j * 5) c0 c1 c2 c3 c4) (.slice (some ⟨g, 0, none⟩) l.length c) kv (l.set j x) ks (put5 xs (j * 5) c0 c1 c2 c3 c4) := by
  have hone := five_oneR hx
  have hgp : g ≠ p := fun e => h.far (by rw [e]; rfl)
  have hgB : B ≤ g := (h.rowL.lt g rfl).1
  have hlen : xs.length = l.length * 5 := h.rowL.1
  have hr : (set5 wr g (j * 5) c0 c1 c2 c3 c4).ownsRow B 28 5 (.slice (some ⟨g, 0, none⟩) l.length c) l.length (put5 xs (j * 5) c0 c1 c2 c3 c4) := by
    have r0 := (h.rowL.stored (j * 5) c0).1
    have r1 := (r0.stored (j * 5 + 1) c1).1
    have r2 := (r1.stored (j * 5 + 2) c2).1
    have r3 := (r2.stored (j * 5 + 3) c3).1
    exact (r3.stored (j * 5 + 4) c4).1
  refine ⟨(set5_there (Ne.symm hgp)).trans h.var, by rw [List.length_set]; exact hr, own_kept h.rowK fun g' hg' => set5_there (fun e => ?_), h.far, fun i hi => ?_, h.low.trans (set5_below hgB)⟩
  · exact own_apart h.rowL h.rowK (by decide) g rfl (by rw [← e]; exact hg')
  · rw [List.length_set] at hi
    by_cases hij : i = j
    · subst hij
      obtain ⟨e0, e1, e2, e3, e4⟩ := put5_at (xs := xs) (j := i * 5) (by omega) c0 c1 c2 c3 c4
      exact ⟨c0, c1, c2, c3, c4, e0, e1, e2, e3, e4, by rw [List.getElem_set_self]; exact hx⟩
    · obtain ⟨d0, d1, d2, d3, d4, e0, e1, e2, e3, e4, hv⟩ := h.elem i hi
      have ho : ∀ k, k < 5 → (put5 xs (j * 5) c0 c1 c2 c3 c4)[i * 5 + k]? = xs[i * 5 + k]? := fun k hk => put5_other (by omega) c0 c1 c2 c3 c4
      exact ⟨d0, d1, d2, d3, d4, (ho 0 (by decide)).trans e0, (ho 1 (by decide)).trans e1, (ho 2 (by decide)).trans e2, (ho 3 (by decide)).trans e3, (ho 4 (by decide)).trans e4, by rw [List.getElem_set_ne (Ne.symm hij)]; exact hv⟩
end Go.Proofs.YtcbajbpdgmmaeaaDoor
