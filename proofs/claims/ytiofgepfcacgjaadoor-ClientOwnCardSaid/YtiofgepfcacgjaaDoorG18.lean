/- Texts merged by program, in build order: RuleParse, RulesPure. -/
import Derived.Test.YtiofgepfcacgjaaDoorG17
import Derived.Laws.MakeOwn
import Derived.Maps.AppendAt
import Derived.Maps.OwnIn
import Derived.Test.YtiofgepfcacgjaaDoorG03
set_option linter.unusedVariables false
set_option linter.unusedSimpArgs false
namespace Go.Proofs.YtiofgepfcacgjaaDoor
open Go.RowKit Go.Shelf
set_option linter.unusedVariables false
set_option linter.unusedSimpArgs false
attribute [local go_sem] Oper.semAt_some

/-- what Parse says: which fault, and which rules -/
def parseRE (s : List UInt8) : Int := if s = [] then 0 else if 64 < (splitL 59 s).length then 3 else if (splitL 59 s).all (fun p => (ruleR p).good) = true then 0 else 2
def parseRL (s : List UInt8) : List RU := if s = [] then [] else (splitL 59 s).map ruleR
theorem countByte_split (c : UInt8) : ∀ s : List UInt8, Lib.countByte s c + 1 = (splitL c s).length
  | [] => rfl
  | x :: r => by
    have ih := countByte_split c r
    unfold Lib.countByte at ih ⊢
    rw [splitL_cons, List.count_cons]
    by_cases h : x = c
    · subst h
      rw [if_pos rfl, List.length_cons, ← ih]
      simp
    · rw [if_neg h, if_neg (by simpa using h)]
      have hne : splitL c r ≠ [] := fun e => by rw [e] at ih; simp at ih
      cases hs : splitL c r with
      | nil => exact absurd hs hne
      | cons a b => rw [hs] at ih; simpa using ih
theorem parseRE_0 {s : List UInt8} (h : parseRE s = 0) : (parseRL s).length ≤ 64 ∧ ∀ r ∈ parseRL s, r.good = true := by
  unfold parseRE at h
  unfold parseRL
  by_cases h0 : s = []
  · rw [if_pos h0]; exact ⟨Nat.zero_le _, fun r hr => by cases hr⟩
  · rw [if_neg h0] at h ⊢
    by_cases h1 : 64 < (splitL 59 s).length
    · rw [if_pos h1] at h; cases h
    · rw [if_neg h1] at h
      by_cases h2 : (splitL 59 s).all (fun p => (ruleR p).good) = true
      · refine ⟨by rw [List.length_map]; omega, fun r hr => ?_⟩
        obtain ⟨p, hp, rfl⟩ := List.mem_map.1 hr
        exact List.all_eq_true.1 h2 p hp
      · rw [if_neg h2] at h; cases h
theorem Tryd.infoRule : (Tryd.prog.info? 89).map (fun i => (i.zero, i.size, i.bytes)) = some (some (.agg #[.string ⟨#[]⟩, .slice none 0 0]), 2, 40) := by kernel_rfl
/-- what holds between two rounds: the results' variables, the list's own, the rules so far -/
structure PIn {m : Nat} (B X L : Nat) (w : World) (pre : List (PartR m)) (W : World) : Prop where
  r0 : W.heap[B]? = some (.cells #[.slice none 0 0] 79 (0, 0))
  r1 : W.heap[B + 1]? = some (.cells #[.int .i64 0] 3 (0, 0))
  r2 : W.heap[B + 2]? = some (.cells #[.int .i64 0] 55 (0, 0))
  list : ∃ v xs, W.heap[X]? = some (.cells #[v] 79 (0, 0)) ∧ W.ownsRow (B + 3) 89 2 v pre.length xs ∧ (∀ g, v.ownBlock = some g → g = B + 3 ∨ L + 3 ≤ g) ∧
    ∀ i (h : i < pre.length), ∃ u, xs[i * 2]? = some (tv (ruleR pre[i].1).op) ∧ xs[i * 2 + 1]? = some u ∧ RdS (L + 3) W u (ruleR pre[i].1).args
  good : ∀ p ∈ pre, (ruleR p.1).good = true
  low : Below B w W
structure PEx {m : Nat} (B : Nat) (w : World) (pre : List (PartR m)) (W : World) : Prop where
  bad : ∃ p ∈ pre, (ruleR p.1).good = false
  r0 : W.heap[B]? = some (.cells #[.slice none 0 0] 79 (0, 0))
  r1 : ∃ k, W.heap[B + 1]? = some (.cells #[.int .i64 k] 3 (0, 0))
  r2 : W.heap[B + 2]? = some (.cells #[.int .i64 2] 55 (0, 0))
  low : Below B w W
theorem PIn.turn {m B X L : Nat} {w A A' : World} {pre : List (PartR m)} (h : PIn B X L w pre A) (h1 : B + 3 < X) (h2 : X < L) (ht : TurnC (L + 3) L A A') : PIn B X L w pre A' := by
  obtain ⟨q, hq, hb⟩ := ht
  obtain ⟨r0, r1, r2, ⟨v, xs, x1, x2, x3, x4⟩, g, low⟩ := h
  have hqL : L ≤ q := by omega
  have hqc : ∀ b C t fr, A.heap[b]? = some (.cells C t fr) → L + 3 ≤ b → b ≠ q := fun b C t fr hc hb e => by
    subst e
    rcases hq with hq | ⟨_, o, ho, hoc⟩
    · omega
    · rw [hc] at ho; injection ho with ho; subst ho; cases hoc
  have keep : ∀ {b : Nat} {o : Obj}, A.heap[b]? = some o → b ≠ q → A'.heap[b]? = some o := fun ho hne => (hb.block _ (Array.getElem?_eq_some_iff.1 ho).1 hne).trans ho
  refine ⟨keep r0 (by omega), keep r1 (by omega), keep r2 (by omega), ⟨v, xs, keep x1 (by omega), own_kept x2 fun b hbv => hb.block b (x2.lt b hbv).2 ?_, x3, fun i hi => ?_⟩, g, ?_⟩
  · rcases x3 b hbv with e | e
    · omega
    · rcases x2.2 with ⟨rfl, _⟩ | ⟨b', cap, cur, rfl, _, hc, _⟩
      · cases hbv
      · injection hbv with hbv
        subst hbv
        exact hqc _ _ _ _ hc e
  · obtain ⟨u, y1, y2, y3⟩ := x4 i hi
    exact ⟨u, y1, y2, y3.keep fun b C hbL hc => hb.block b (Array.getElem?_eq_some_iff.1 hc).1 (hqc _ _ _ _ hc hbL)⟩
  · have hAs := low.size
    exact low.trans ⟨hb.os, hb.tape, hb.output, hb.size, fun k hk => hb.block k (by have := (Array.getElem?_eq_some_iff.1 r2).1; omega) (by omega)⟩
theorem PEx.turn {m B X L : Nat} {w A A' : World} {pre : List (PartR m)} (h : PEx B w pre A) (h1 : B + 3 < X) (h2 : X < L) (ht : TurnC (L + 3) L A A') : PEx B w pre A' := by
  obtain ⟨q, hq, hb⟩ := ht
  obtain ⟨bad, r0, ⟨k, r1⟩, r2, low⟩ := h
  have hqL : L ≤ q := by omega
  have keep : ∀ {b : Nat} {o : Obj}, A.heap[b]? = some o → b ≠ q → A'.heap[b]? = some o := fun ho hne => (hb.block _ (Array.getElem?_eq_some_iff.1 ho).1 hne).trans ho
  exact ⟨bad, keep r0 (by omega), ⟨k, keep r1 (by omega)⟩, keep r2 (by omega), low.trans ⟨hb.os, hb.tape, hb.output, hb.size, fun k hk => hb.block k (by have := (Array.getElem?_eq_some_iff.1 r2).1; omega) (by omega)⟩⟩
theorem PIn.keep {m B X L : Nat} {w A A' : World} {pre : List (PartR m)} (h : PIn B X L w pre A) (h1 : B + 3 < X) (h2 : X < L) (hb : Below A.heap.size A A') : PIn B X L w pre A' := h.turn h1 h2 (turn_cell (ButO.of hb))
/-- a rule more: behind the append, and the store of the row -/
theorem PIn.more {m B X L : Nat} {w W W5 : World} {pre : List (PartR m)} {v v5 : Value} {xs : List Value} (h : PIn B X L w pre W) (h1 : B + 3 < X) (h2 : X < L) (hs : L + 3 ≤ W.heap.size) (x : PartR m) (u : Value)
    (y1 : W.heap[X]? = some (.cells #[v] 79 (0, 0))) (y2 : W.ownsRow (B + 3) 89 2 v pre.length xs) (y3 : ∀ g, v.ownBlock = some g → g = B + 3 ∨ L + 3 ≤ g)
    (y4 : ∀ i (h : i < pre.length), ∃ u, xs[i * 2]? = some (tv (ruleR pre[i].1).op) ∧ xs[i * 2 + 1]? = some u ∧ RdS (L + 3) W u (ruleR pre[i].1).args)
    (hu : RdS (L + 3) W u (ruleR x.1).args) (hg : (ruleR x.1).good = true) (hown : W5.ownsRow (B + 3) 89 2 v5 (pre.length + 1) (xs ++ [tv (ruleR x.1).op, u])) (hgr : W.grownBy W5 v.ownBlock) (hat : v5.ownBlock = v.ownBlock ∨ v5.ownBlock = some W.heap.size) :
    PIn B X L w (pre ++ [x]) (W5.setCell ⟨X, 0, none⟩ v5) ∧ KeepsFrom (L + 3) W (W5.setCell ⟨X, 0, none⟩ v5) ∧ ∀ k, (k = L ∨ k = L + 1 ∨ k = L + 1 + 1) → (W5.setCell ⟨X, 0, none⟩ v5).heap[k]? = W.heap[k]? := by
  have hfar : ∀ k, k < L + 3 → k ≠ B + 3 → v.ownBlock ≠ some k := fun k hk hk3 e => by
    rcases y3 k e with e | e <;> omega
  have keep : ∀ k, k < W.heap.size → k < L + 3 → k ≠ B + 3 → k ≠ X → (W5.setCell ⟨X, 0, none⟩ v5).heap[k]? = W.heap[k]? := fun k hk hkL hk3 hkX =>
    (set_there _ hkX).trans (hgr.block k hk (fun e => hfar k hkL hk3 e.symm))
  have kp : ∀ {k : Nat} {o : Obj}, W.heap[k]? = some o → k < L + 3 → k ≠ B + 3 → k ≠ X → (W5.setCell ⟨X, 0, none⟩ v5).heap[k]? = some o := fun ho h1 h2 h3 => (keep _ (Array.getElem?_eq_some_iff.1 ho).1 h1 h2 h3).trans ho
  have hcell : ∀ b C t, W.heap[b]? = some (.cells C t (0, 0)) → t ≠ 89 → b ≠ X → (W5.setCell ⟨X, 0, none⟩ v5).heap[b]? = W.heap[b]? := fun b C t hc ht hb =>
    (set_there _ hb).trans (hgr.block b (Array.getElem?_eq_some_iff.1 hc).1 (fun e => own_not y2 hc (Ne.symm ht) e.symm))
  have hrd : ∀ {u l}, RdS (L + 3) W u l → RdS (L + 3) (W5.setCell ⟨X, 0, none⟩ v5) u l := fun hr => hr.keep fun g C hgL hc => hcell g C _ hc (by decide) (by omega)
  have hxl := y2.1
  refine ⟨⟨kp h.r0 (by omega) (by omega) (by omega), kp h.r1 (by omega) (by omega) (by omega), kp h.r2 (by omega) (by omega) (by omega), ⟨v5, xs ++ [tv (ruleR x.1).op, u], ?_, ?_, fun g e => ?_, fun i hi => ?_⟩, fun p hp => ?_, ?_⟩, ⟨?_, fun k o hk ho hoc => ?_⟩, fun k hk => keep k (by omega) (by omega) (by omega) (by omega)⟩
  · have hx5 : W5.heap[X]? = some (.cells #[v] 79 (0, 0)) := (hgr.block X (by omega) (fun e => hfar X (by omega) (by omega) e.symm)).trans y1
    have := set_here (o := 0) hx5 v5
    simpa using this
  · rw [List.length_append, List.length_singleton]
    refine own_kept hown fun g e => set_there _ ?_
    rcases hat with ha | ha
    · rw [ha] at e; rcases y3 g e with e | e <;> omega
    · rw [ha] at e; injection e with e; omega
  · rcases hat with ha | ha
    · rw [ha] at e; exact y3 g e
    · rw [ha] at e; injection e with e; omega
  · rcases Nat.lt_or_ge i pre.length with hil | hil
    · obtain ⟨u', z1, z2, z3⟩ := y4 i hil
      have hgl : (pre ++ [x])[i] = pre[i] := List.getElem_append_left hil
      rw [hgl]
      exact ⟨u', by rw [List.getElem?_append_left (by omega)]; exact z1, by rw [List.getElem?_append_left (by omega)]; exact z2, hrd z3⟩
    · have hie : i = pre.length := by simp at hi; omega
      subst hie
      have hgl : (pre ++ [x])[pre.length] = x := by simp
      rw [hgl]
      exact ⟨u, by rw [List.getElem?_append_right (by omega), show pre.length * 2 - xs.length = 0 by omega]; rfl, by rw [List.getElem?_append_right (by omega), show pre.length * 2 + 1 - xs.length = 1 by omega]; rfl, hrd hu⟩
  · rcases List.mem_append.1 hp with hp | hp
    · exact h.good p hp
    · rw [List.mem_singleton] at hp; subst hp; exact hg
  · exact (h.low.trans ((Below.refl B W).grown hgr (by omega) (fun k hk => by rcases y3 k hk with e | e <;> omega))).setCell (p := ⟨X, 0, none⟩) (by show B ≤ X; omega) _
  · rw [set_size]; exact hgr.size
  · refine (set_there _ (by omega)).trans ((hgr.block k (Array.getElem?_eq_some_iff.1 ho).1 (fun e => ?_)).trans ho)
    rcases y2.2 with ⟨rfl, _⟩ | ⟨b', cap, cur, rfl, _, hc, _⟩
    · cases e
    · injection e with e
      have e : k = b' := e
      subst e
      rw [hc] at ho; injection ho with ho; subst ho; cases hoc
/-- the rules, read -/
theorem PIn.rdu {m B X L : Nat} {w W : World} {pre : List (PartR m)} {v : Value} {xs : List Value} (y2 : W.ownsRow (B + 3) 89 2 v pre.length xs)
    (y4 : ∀ i (h : i < pre.length), ∃ u, xs[i * 2]? = some (tv (ruleR pre[i].1).op) ∧ xs[i * 2 + 1]? = some u ∧ RdS (L + 3) W u (ruleR pre[i].1).args) : RdU W v ((valsR pre).map ruleR) := by
  have hc := fun g => World.ownsRow.cells (g := g) y2
  have hln : ((valsR pre).map ruleR).length = pre.length := by rw [List.length_map, valsR_len]
  rcases y2.2 with ⟨rfl, h0⟩ | ⟨g, cap, cur, rfl, hB, hg, h4, _⟩
  · have : pre = [] := List.length_eq_zero_iff.1 h0
    subst this
    exact ⟨none, 0, rfl, Nat.le_refl _, fun k r hk => by cases hk⟩
  · refine ⟨some ⟨g, 0, none⟩, cap, by rw [hln], by rw [hln]; exact h4, fun k r hk => ?_⟩
    have hkl : k < pre.length := by have := (List.getElem?_eq_some_iff.1 hk).1; omega
    obtain ⟨u, z1, z2, z3⟩ := y4 k hkl
    have hr : r = ruleR pre[k].1 := by
      unfold valsR at hk
      rw [List.map_map, List.getElem?_map, List.getElem?_eq_getElem hkl] at hk
      injection hk with hk; exact hk.symm
    subst hr
    refine ⟨g, 0, u, rfl, (Array.getElem?_eq_some_iff.1 hg).1, ?_, ?_, z3.rdt⟩
    · have := hc g rfl _ _ z1; rwa [Addr.add_lit] at this
    · have := hc g rfl _ _ z2; rwa [Addr.add_lit] at this
theorem RdS.later {L : Nat} {w w' : World} {u : Value} {l : List (List UInt8)} (h : RdS L w u l) (hb : Below w.heap.size w w') : RdS L w' u l := h.keep fun g C _ hc => hb.block g (Array.getElem?_eq_some_iff.1 hc).1
/-- the list's variable and its row -/
structure PRow14 {m : Nat} (B X L : Nat) (pre : List (PartR m)) (W : World) (v : Value) (xs : List Value) : Prop where
  y1 : W.heap[X]? = some (.cells #[v] 79 (0, 0))
  y2 : W.ownsRow (B + 3) 89 2 v pre.length xs
  y3 : ∀ g, v.ownBlock = some g → g = B + 3 ∨ L + 3 ≤ g
  y4 : ∀ i (h : i < pre.length), ∃ u, xs[i * 2]? = some (tv (ruleR pre[i].1).op) ∧ xs[i * 2 + 1]? = some u ∧ RdS (L + 3) W u (ruleR pre[i].1).args
theorem PRow14.later {m B X L : Nat} {pre : List (PartR m)} {W W' : World} {v : Value} {xs : List Value} (h : PRow14 B X L pre W v xs) (hb : Below W.heap.size W W') : PRow14 B X L pre W' v xs :=
  ⟨blk_below h.y1 hb, own_below h.y2 hb, h.y3, fun i hi => by obtain ⟨u, a, b, c⟩ := h.y4 i hi; exact ⟨u, a, b, c.later hb⟩⟩
theorem keeps_below {B : Nat} {W W' : World} (h : Below W.heap.size W W') : KeepsFrom B W W' := ⟨h.size, fun k o _ hk _ => (h.block k (Array.getElem?_eq_some_iff.1 hk).1).trans hk⟩
/-- the three results stored -/
theorem res_set {B : Nat} {W : World} {v0 v1 v2 u0 u1 u2 : Value} {t0 t1 t2 : TypeId} (h0 : W.heap[B]? = some (.cells #[u0] t0 (0, 0))) (h1 : W.heap[B + 1]? = some (.cells #[u1] t1 (0, 0))) (h2 : W.heap[B + 2]? = some (.cells #[u2] t2 (0, 0))) :
    (((W.setCell ⟨B, 0, none⟩ v0).setCell ⟨B + 1, 0, none⟩ v1).setCell ⟨B + 1 + 1, 0, none⟩ v2).heap[B]? = some (.cells #[v0] t0 (0, 0)) ∧ (((W.setCell ⟨B, 0, none⟩ v0).setCell ⟨B + 1, 0, none⟩ v1).setCell ⟨B + 1 + 1, 0, none⟩ v2).heap[B + 1]? = some (.cells #[v1] t1 (0, 0)) ∧
    (((W.setCell ⟨B, 0, none⟩ v0).setCell ⟨B + 1, 0, none⟩ v1).setCell ⟨B + 1 + 1, 0, none⟩ v2).heap[B + 2]? = some (.cells #[v2] t2 (0, 0)) ∧ ∀ k, k < B ∨ B + 3 ≤ k → (((W.setCell ⟨B, 0, none⟩ v0).setCell ⟨B + 1, 0, none⟩ v1).setCell ⟨B + 1 + 1, 0, none⟩ v2).heap[k]? = W.heap[k]? := by
  refine ⟨?_, ?_, ?_, fun k hk => ?_⟩
  · rw [set_there _ (by omega), set_there _ (by omega)]
    have := set_here (o := 0) h0 v0
    simpa using this
  · rw [set_there _ (by omega)]
    have := set_here (o := 0) ((set_there (o := 0) v0 (by omega : B + 1 ≠ B)).trans h1) v1
    simpa using this
  · have := set_here (o := 0) ((set_there (o := 0) v1 (by omega : B + 1 + 1 ≠ B + 1)).trans ((set_there (o := 0) v0 (by omega : B + 1 + 1 ≠ B)).trans h2)) v2
    simpa using this
  · rw [set_there _ (by omega), set_there _ (by omega), set_there _ (by omega)]
theorem PRow14.other {m B X L : Nat} {pre : List (PartR m)} {W W' : World} {v : Value} {xs : List Value} (h : PRow14 B X L pre W v xs) (hX : B + 3 < X) (hX2 : X < L) (hk : ∀ k C t, W.heap[k]? = some (.cells C t (0, 0)) → B + 3 ≤ k → W'.heap[k]? = W.heap[k]?) : PRow14 B X L pre W' v xs := by
  refine ⟨(hk _ _ _ h.y1 (by omega)).trans h.y1, ?_, h.y3, fun i hi => ?_⟩
  · rcases h.y2.2 with ⟨rfl, h0⟩ | ⟨g, cap, cur, rfl, hB, hg, r⟩
    · exact ⟨h.y2.1, .inl ⟨rfl, h0⟩⟩
    · exact own_kept h.y2 fun g' hg' => by
        injection hg' with hg'
        have e : g = g' := hg'
        subst e
        exact hk _ _ _ hg hB
  · obtain ⟨u, a, b, c⟩ := h.y4 i hi
    exact ⟨u, a, b, c.keep fun g C hgL hc => hk g C _ hc (by omega)⟩
/-- what Parse answers -/
def ParseSays (w : World) (s : List UInt8) (e : Ending) (w' : World) : Prop :=
  ∃ A n c k, e = .returned (.tuple #[.slice A n c, .int .i64 k, .int .i64 (parseRE s)]) ∧ (parseRE s = 0 → k = 0 ∧ n = (parseRL s).length ∧ RdU w' (.slice A n c) (parseRL s)) ∧ Below w.heap.size w w'
set_option maxRecDepth 100000 in
set_option maxHeartbeats 4000000 in
theorem parse_in14 (n : Nat) (hn : 4 ≤ n) (s : List UInt8) (hs : s.length ≤ 1000000000) (w : World) (hj : Var0 w) :
    CallsIn Fence.wide n Tryd.prog 65 #[.string ⟨s.toArray⟩] w (ParseSays w s) := by
  have h1 : 1 ≤ n := by omega
  obtain ⟨S, hS⟩ : ∃ S : ByteArray, (⟨s.toArray⟩ : ByteArray) = S := ⟨_, rfl⟩
  have hSl : S.toList = s := by rw [← hS, ByteArray.toList_eq]
  rw [hS]
  by_cases h0 : s = []
  · subst h0
    have t1 : S.toList = [] := hSl
    have t0 : S.toList.isEmpty = true := by rw [t1]; rfl
    clear hSl hS
    refine callsIn_of_wp_marks Tryd.func65 rfl trivial ?_ rfl
    simp only [Tryd.ntmps65, List.size_toArray, List.length_cons, List.length_nil, Nat.reduceAdd, Nat.reduceSub, Array.replicate_succ, Array.replicate_zero, List.push_toArray, List.append_toArray, List.nil_append, List.cons_append]
    gi_wp2
    refine ⟨.tuple #[.slice none 0 0, .int .i64 0, .int .i64 0], ?_, none, 0, 0, 0, rfl, fun _ => ⟨rfl, rfl, none, 0, rfl, Nat.le_refl _, fun k r hk => by cases hk⟩, ?_⟩
    · simp [results, Tryd.results65, go_sem]
    · exact (((Below.refl _ w).alloc (Nat.le_refl _) _).alloc (by simp) _).alloc (by simp; omega) _
  · have t1 : ¬ S.toList = [] := by rw [hSl]; exact h0
    have t0 : S.toList.isEmpty = false := by simpa using t1
    obtain ⟨N, hN⟩ : ∃ N, (splitL 59 s).length = N := ⟨_, rfl⟩
    have hcn : Lib.countByte S.data.toList 59 + 1 = N := by
      rw [← hN, ← countByte_split, ← hS]
    obtain ⟨M, hM⟩ : ∃ M, Lib.countByte S.data.toList 59 = M := ⟨_, rfl⟩
    have hct := fun W => Tryd.strings_Count_one S 59 W
    rw [hM] at hct hcn
    have HCT := Lib.hid hct
    have hNs : N ≤ 1000000001 := by have := splitL_len 59 s; omega
    have hMN : (M : Int) + 1 = (N : Int) := by omega
    clear hct hM hSl
    by_cases h64 : 64 < N
    · have t2 : decide ((64 : Int) < (N : Int)) = true := by simp; omega
      have hE : parseRE s = 3 := by unfold parseRE; rw [if_neg h0, hN, if_pos h64]
      have HE := Lib.hid hE
      clear hE hS hN hcn
      refine callsIn_of_wp_marks Tryd.func65 rfl trivial ?_ rfl
      simp only [Tryd.ntmps65, List.size_toArray, List.length_cons, List.length_nil, Nat.reduceAdd, Nat.reduceSub, Array.replicate_succ, Array.replicate_zero, List.push_toArray, List.append_toArray, List.nil_append, List.cons_append]
      gi_wp2_with (refine ⟨trivial, ?_⟩; gi_at_call 72; refine (callsIn_wide.2 (HCT.out _)).mono ?_; rintro e w1 ⟨rfl, rfl⟩; dsimp only)
      refine ⟨.tuple #[.slice none 0 0, .int .i64 0, .int .i64 3], ?_, none, 0, 0, 0, by rw [HE.out], fun h => (by rw [HE.out] at h; cases h), ?_⟩
      · simp [results, Tryd.results65, go_sem]
      · exact (((Below.refl _ w).alloc (Nat.le_refl _) _).alloc (by simp) _).alloc (by simp; omega) _
    · have t2 : decide ((64 : Int) < (N : Int)) = false := by simp; omega
      obtain ⟨i0, hi, hz0, hz1, hz2⟩ := info_parts Tryd.infoRule
      obtain ⟨V0, hV0⟩ : ∃ V0, V0 = ((w.alloc (.cells #[.slice none 0 0] 79)).alloc (.cells #[.int .i64 0] 3)).alloc (.cells #[.int .i64 0] 55) := ⟨_, rfl⟩
      have z0 : V0.heap.size = w.heap.size + 3 := by rw [hV0]; simp
      obtain ⟨wm, hmk, hrow, hgr⟩ := run_makeSlice_owned (P := Tryd.prog) V0 (w.heap.size + 3) 79 89 i0 _ 2 Tryd.underlying79 hi hz0 hz1 .i64 .i64 N (by omega) (by rw [hz2]; omega) (by unfold maxLen; omega) (by omega)
      rw [z0] at hmk hrow
      obtain ⟨b0, hb0⟩ : ∃ b, w.heap.size = b := ⟨_, rfl⟩
      have q0 : V0.heap[b0]? = some (.cells #[.slice none 0 0] 79 (0, 0)) := by rw [hV0, ← hb0]; exact alloc_block (alloc_block (heap_alloc_last w _))
      have q1 : V0.heap[b0 + 1]? = some (.cells #[.int .i64 0] 3 (0, 0)) := by rw [hV0]; exact alloc_block (fresh_at _ (by simp [hb0]))
      have q2 : V0.heap[b0 + 2]? = some (.cells #[.int .i64 0] 55 (0, 0)) := by rw [hV0]; exact fresh_at _ (by simp [hb0])
      have bV : Below w.heap.size w V0 := by rw [hV0]; exact (((Below.refl _ w).alloc (Nat.le_refl _) _).alloc (by simp) _).alloc (by simp; omega) _
      have hmk' : (Instr.makeSlice 79 (.int .i64 0) (.int .i64 (N : Int))).run Tryd.prog V0 = .ok (.slice (some ⟨b0 + 3, 0, none⟩) 0 N) wm := by rw [← hb0]; exact hmk
      rw [hV0] at hmk'
      have HROW := Lib.hid hrow; have HGR := Lib.hid hgr; have Q0 := Lib.hid q0; have Q1 := Lib.hid q1; have Q2 := Lib.hid q2; have BV := Lib.hid bV; have Z0 := Lib.hid z0; have HN := Lib.hid hN; have H0 := Lib.hid h0; have HS := Lib.hid hS; have HB0 := Lib.hid hb0
      clear hrow hgr q0 q1 q2 bV z0 hV0 hmk hN h0 hS hcn
      refine callsIn_of_wp_marks Tryd.func65 rfl trivial ?_ rfl
      simp only [Tryd.ntmps65, List.size_toArray, List.length_cons, List.length_nil, Nat.reduceAdd, Nat.reduceSub, Array.replicate_succ, Array.replicate_zero, List.push_toArray, List.append_toArray, List.nil_append, List.cons_append]
      gi_wp2_with (first
        | (refine ⟨trivial, ?_⟩; gi_at_call 72; refine (callsIn_wide.2 (HCT.out _)).mono ?_; rintro e w1 ⟨rfl, rfl⟩; dsimp only)
        | (refine ⟨trivial, ?_⟩; gi_at_call 73; refine (splitSeq_in _ (by omega) _ _).mono ?_; rintro e w1 ⟨rfl, rfl⟩; dsimp only))
      obtain ⟨X, hX⟩ : ∃ X, wm.heap.size = X := ⟨_, rfl⟩
      obtain ⟨L, hL⟩ : ∃ L, (wm.alloc (.cells #[.slice (some ⟨b0 + 3, 0, none⟩) 0 N] 79)).heap.size = L := ⟨_, rfl⟩
      have hL1 : X < L := by rw [← hL, World.size_alloc, hX]; exact Nat.lt_succ_self _
      have hL2 : L ≤ X + 1 := by rw [← hL, World.size_alloc, hX]; exact Nat.le_refl _
      have hXB : b0 + 3 < X := by
        have := (HROW.out.lt (w.heap.size + 3) rfl).2
        rw [hX] at this; have := HB0.out; omega
      rw [hX, hL]
      obtain ⟨W7, hW7⟩ : ∃ W7, W7 = (((wm.alloc (.cells #[.slice (some ⟨b0 + 3, 0, none⟩) 0 N] 79)).alloc (.cells #[.string S] 9)).alloc (.cells #[.string ⟨#[59]⟩] 9)).alloc (.cells #[.int .i64 0] 3) := ⟨_, rfl⟩
      have z7 : W7.heap.size = L + 3 := by rw [hW7]; simp [hX]; omega
      have c7 : W7.heap[X]? = some (.cells #[.slice (some ⟨b0 + 3, 0, none⟩) 0 N] 79 (0, 0)) := by rw [hW7]; exact alloc_block (alloc_block (alloc_block (fresh_at _ hX.symm)))
      have c1 : W7.heap[L]? = some (.cells #[.string S] 9 (0, 0)) := by rw [hW7]; exact alloc_block (alloc_block (fresh_at _ hL.symm))
      have c2 : W7.heap[L + 1]? = some (.cells #[.string ⟨#[59]⟩] 9 (0, 0)) := by rw [hW7]; exact alloc_block (fresh_at _ (by rw [World.size_alloc, hL]))
      have c3 : W7.heap[L + 1 + 1]? = some (.cells #[.int .i64 0] 3 (0, 0)) := by rw [hW7]; exact fresh_at _ (by rw [World.size_alloc, World.size_alloc, hL])
      have b7 : Below wm.heap.size wm W7 := by rw [hW7]; exact ((((Below.refl _ wm).alloc (Nat.le_refl _) _).alloc (by simp) _).alloc (by simp; omega) _).alloc (by simp; omega) _
      have k7 : ∀ {b : Nat} {o : Obj}, V0.heap[b]? = some o → W7.heap[b]? = some o := fun ho => by
        have hlt := (Array.getElem?_eq_some_iff.1 ho).1
        have h1 := (HGR.out.block _ hlt (fun e => by cases e)).trans ho
        exact (b7.block _ (Array.getElem?_eq_some_iff.1 h1).1).trans h1
      have hlow : Below b0 w W7 := by
        rw [← HB0.out]
        exact (BV.out.trans ⟨HGR.out.os, HGR.out.tape, HGR.out.output, HGR.out.size, fun k hk => HGR.out.block k (by have := Z0.out; omega) (fun e => by cases e)⟩).trans (b7.mono (by rw [hX, HB0.out]; omega))
      have hp0 : PIn (m := 1000000000) b0 X L w [] W7 := ⟨k7 Q0.out, k7 Q1.out, k7 Q2.out, ⟨_, [], c7, own_kept (by rw [← HB0.out]; exact HROW.out) fun g hg => b7.block g (HROW.out.lt g (by rw [HB0.out]; exact hg)).2, fun g hg => .inl (by injection hg with hg; exact hg.symm), fun i hi => absurd hi (Nat.not_lt_zero _)⟩, fun p hp => (by cases hp), hlow⟩
      have hsq := seq_stops (n - 1) (by omega) L (L + 1) (L + 1 + 1) s 1000000000 hs (Nat.le_refl _) (by omega) (by omega) W7 (by rw [HS.out]; exact c1) c2 c3
      have HP0 := Lib.hid hp0; have HSQ := Lib.hid hsq; have HW7 := Lib.hid hW7; have Z7 := Lib.hid z7; have C2 := Lib.hid c2
      have hLs : L < W7.heap.size ∧ L + 3 = W7.heap.size := by omega
      rw [← hW7]
      clear hp0 hsq hW7 c7 c1 c2 c3 b7 k7 hlow hX hL z7 hmk'
      refine range_cell rfl h1 (gf := 91) (lb := #[.pointer (some ⟨L + 1, 0, none⟩), .pointer (some ⟨L, 0, none⟩), .pointer (some ⟨L + 1 + 1, 0, none⟩)]) rfl trivial (enters_of Tryd.func91 (by kernel_rfl) rfl)
        (Bn := L) (K := fun k => k = L ∨ k = L + 1 ∨ k = L + 1 + 1) hLs.1 (fun k hk => by omega) HSQ.out (fun _ => rfl) (PIn b0 X L w) (PEx b0 w)
        (fun s A B hs ht => hs.turn hXB (by omega) (by rw [hLs.2]; exact ht)) (fun s A B hs ht => hs.turn (X := X) hXB (by omega) (by rw [hLs.2]; exact ht)) HP0.out
        (fun x => { tmps := #[.string S, undef, .pointer (some ⟨b0, 0, none⟩), .pointer (some ⟨b0 + 1, 0, none⟩), .pointer (some ⟨b0 + 1 + 1, 0, none⟩), .int .i64 N, .pointer (some ⟨X, 0, none⟩), .string ⟨x.1.toArray⟩, undef, .string S, .bool false, .string S, .int .i64 M, .int .i64 N, .int .i64 N, .bool false, .int .i64 N, .slice (some ⟨b0 + 3, 0, none⟩) 0 N, .string S, .func (.func 91) #[] #[.pointer (some ⟨L + 1, 0, none⟩), .pointer (some ⟨L, 0, none⟩), .pointer (some ⟨L + 1 + 1, 0, none⟩)], .string ⟨x.1.toArray⟩, undef, undef, undef, undef, undef, undef, undef, undef, undef, undef, undef, undef, undef], defers := [] }) ?assign ?body ?done ?stop
      case assign =>
        intro l x W K hK
        gi_wp2
        exact hK
      case body =>
        rintro l pre x W hP hWs hlt
        have hWs : L + 3 ≤ W.heap.size := by omega
        have hN64 : pre.length ≤ 64 := by rw [HN.out] at hlt; omega
        have hlw : Below w.heap.size w W := by rw [HB0.out]; exact hP.low
        obtain ⟨r, hr⟩ : ∃ r, ruleR x.1 = r := ⟨_, rfl⟩
        obtain ⟨m, hm⟩ : ∃ m, r.args.length = m := ⟨_, rfl⟩
        have hal : r.args.length ≤ 1000000 := by
          rw [← hr]
          show (wordsR x.1).tail.length ≤ _
          rw [List.length_tail]
          have := cutK_len 32 (min 5 (x.1.length + 1) - 1) x.1
          show (cutK 32 _ x.1).length - 1 ≤ _
          omega
        have haz : ∀ y ∈ r.args, y.length ≤ 1000000000000 := fun y hy => by
          rw [← hr] at hy
          have hy : y ∈ (wordsR x.1).tail := hy
          have := cutK_each 32 _ x.1 y (List.mem_of_mem_tail hy)
          have := x.2
          omega
        have hsp : Calls Tryd.prog 74 #[.string ⟨x.1.toArray⟩] W fun e w' => ∃ A c, e = .returned (.agg #[tv r.op, .slice A m c]) ∧ RdS W.heap.size w' (.slice A m c) r.args ∧ Below W.heap.size W w' := by
          refine (split_any14 x.1 x.2 W (hj.below hlw)).mono ?_
          rw [hr]
          rintro e w' ⟨A, n', c, rfl, h2, h3⟩
          have hn' : n' = m := by
            obtain ⟨_, _, e, _⟩ := h2
            injection e with _ e2 _
            rw [e2, hm]
          subst hn'
          exact ⟨A, c, rfl, h2, h3⟩
        have hir := fun W A c (h : RdT W (.slice A m c) r.args) => isRule_any r.op A c r.args hal haz W (by rw [hm]; exact h)
        rw [hm] at hir
        obtain ⟨G, hG⟩ : ∃ G, r.good = G := ⟨_, rfl⟩
        have hG2 : (⟨r.op, r.args⟩ : RU).good = G := hG
        rw [hG2] at hir
        obtain ⟨OP, hOP⟩ : ∃ OP : ByteArray, tv r.op = .string OP := ⟨_, rfl⟩
        rw [hOP] at hsp hir
        -- where the walk has come behind both calls
        have hkeep : ∀ W3, Below W.heap.size W W3 → PIn b0 X L w pre W3 := fun W3 hb => hP.keep hXB (by omega) hb
        have hst : ∀ W3, Below W.heap.size W W3 → ∃ VA vc, W3.cell? ⟨X, 0, none⟩ = some (.slice VA pre.length vc) ∧ W3.frozen? ⟨X, 0, none⟩ = false := fun W3 hb => by
          obtain ⟨v, xs, y1, y2, _⟩ := (hkeep W3 hb).list
          obtain ⟨VA, vc, rfl⟩ := own_formR y2
          exact ⟨VA, vc, by rw [cell_here y1]; rfl, frozen_here y1 0⟩
        have HSP := Lib.hid hsp; have HIR := Lib.hid hir; have HKP := Lib.hid hkeep; have HST := Lib.hid hst; have HOP := Lib.hid hOP; have HR := Lib.hid hr; have HG := Lib.hid hG; have HP := Lib.hid hP; have HM := Lib.hid hm
        clear hsp hir hkeep hst hOP hr hG hG2 hP hm hlw hal haz
        cases G with
        | true =>
          gi_wp2_with (first
            | (refine ⟨trivial, fun _ => (by omega), ?_⟩; gi_at_call 74; refine (CallsIn.inRound l (callsIn_wide.2 HSP.out)).mono ?_; rintro e1 W1 ⟨A2, c2, rfl, hrd, hb1⟩; have hir := HIR.out (W1.alloc (.cells #[.string OP, .slice A2 m c2] 89)) A2 c2 (hrd.rdt.below ((Below.refl _ _).alloc (Nat.le_refl _) _)); dsimp only)
            | (refine ⟨trivial, fun _ => (by omega), ?_⟩; gi_at_call 75; refine (CallsIn.inRound l (callsIn_wide.2 hir)).mono ?_; rintro e3 W3 ⟨rfl, hb3⟩
               have bW3 : Below W.heap.size W W3 := (hb1.chain ((Below.refl _ _).alloc (Nat.le_refl _) _)).chain hb3
               have hP3 := HKP.out W3 bW3
               obtain ⟨v, xs, y1, y2, y3, y4⟩ := hP3.list
               obtain ⟨VA, vc, rfl⟩ := own_formR y2
               have hpr : PRow14 b0 X L pre W3 (.slice VA pre.length vc) xs := ⟨y1, y2, y3, y4⟩
               have q8 := blk_below (heap_alloc_last W1 (.cells #[.string OP, .slice A2 m c2] 89)) hb3
               have e1 : W3.cell? ⟨X, 0, none⟩ = some (.slice VA pre.length vc) := by rw [cell_here y1]; rfl
               have d0 : W3.cell? ⟨W1.heap.size, 0, none⟩ = some (.string OP) := by rw [cell_here q8]; rfl
               have d1 : W3.cell? ⟨W1.heap.size, 1, none⟩ = some (.slice A2 m c2) := by rw [cell_here q8]; rfl
               have hb4 : Below W3.heap.size W3 (W3.alloc (.cells #[.string OP, .slice A2 m c2] 89)) := (Below.refl _ _).alloc (Nat.le_refl _) _
               have HPR4 := Lib.hid (hpr.later hb4); have HP4 := Lib.hid (hP3.keep hXB (by omega) hb4); have HB4 := Lib.hid (bW3.chain hb4)
               have HRD := Lib.hid (((hrd.later ((Below.refl _ _).alloc (Nat.le_refl _) (.cells #[.string OP, .slice A2 m c2] 89))).later hb3).later hb4)
               have hz3 : L + 3 ≤ W3.heap.size := Nat.le_trans hWs bW3.size
               clear hpr y1 y2 y3 y4 hP3 q8 hb4 bW3 hb3 hrd hb1 hir
               dsimp only)
            | (gi_at_builtin
               refine wpListIn_append_own_at _ rfl (.tmp 29) (.tmp 31) 79 rfl (b0 + 3) 89 i0 _ 2 40 Tryd.underlying79 hi hz0 hz1 hz2 rfl (by decide) _ _ xs rfl HPR4.out.y2 ⟨W3.heap.size, 0, none⟩ 1 1 [.string OP, .slice A2 m c2] rfl rfl (new_cells W3 #[_, _] _) (by intro u hu; simp at hu; rcases hu with rfl | rfl <;> rfl) (by unfold maxLen; omega) (by omega) (by rw [World.size_alloc]; omega) ?_
               intro v5 w5 hown hgrow hnil hat
               obtain ⟨VA5, vc5, rfl⟩ := own_formR hown
               have hx5 := (hgrow.block X (by have := (Array.getElem?_eq_some_iff.1 HPR4.out.y1).1; exact this) (fun e => by rcases HPR4.out.y3 X e.symm with e | e <;> omega)).trans HPR4.out.y1
               have e5 : w5.cell? ⟨X, 0, none⟩ = some (.slice VA pre.length vc) := by rw [cell_here hx5]; rfl
               have f5 := frozen_here hx5 0
               have HOWN := Lib.hid hown; have HGROW := Lib.hid hgrow; have HAT := Lib.hid hat
               clear hown hgrow hnil hat hx5))
          have hfin := HP4.out.more (W5 := w5) (v5 := .slice VA5 (pre.length + 1) vc5) hXB (by omega) (by rw [World.size_alloc]; omega) x (.slice A2 m c2) HPR4.out.y1 HPR4.out.y2 HPR4.out.y3 HPR4.out.y4 (by rw [HR.out]; exact HRD.out.more hWs) (by rw [HR.out]; exact HG.out) (by rw [HR.out, HOP.out]; exact HOWN.out) HGROW.out HAT.out
          exact ⟨by rw [← hLs.2]; exact (keeps_below HB4.out).trans hfin.2.1, fun k hk => (hfin.2.2 k hk).trans (HB4.out.block k (by omega)), hfin.1⟩
        | false =>
          gi_wp2_with (first
            | (refine ⟨trivial, fun _ => (by omega), ?_⟩; gi_at_call 74; refine (CallsIn.inRound l (callsIn_wide.2 HSP.out)).mono ?_; rintro e1 W1 ⟨A2, c2, rfl, hrd, hb1⟩; have hir := HIR.out (W1.alloc (.cells #[.string OP, .slice A2 m c2] 89)) A2 c2 (hrd.rdt.below ((Below.refl _ _).alloc (Nat.le_refl _) _)); dsimp only)
            | (refine ⟨trivial, fun _ => (by omega), ?_⟩; gi_at_call 75; refine (CallsIn.inRound l (callsIn_wide.2 hir)).mono ?_; rintro e3 W3 ⟨rfl, hb3⟩
               have bW3 : Below W.heap.size W W3 := (hb1.chain ((Below.refl _ _).alloc (Nat.le_refl _) _)).chain hb3
               have hP3 := HKP.out W3 bW3
               obtain ⟨v, xs, y1, y2, y3, y4⟩ := hP3.list
               obtain ⟨VA, vc, rfl⟩ := own_formR y2
               have e1 : W3.cell? ⟨X, 0, none⟩ = some (.slice VA pre.length vc) := by rw [cell_here y1]; rfl
               have a0 : W3.cell? ⟨b0, 0, none⟩ = some (.slice none 0 0) := by rw [cell_here hP3.r0]; rfl
               have a1 : W3.cell? ⟨b0 + 1, 0, none⟩ = some (.int .i64 0) := by rw [cell_here hP3.r1]; rfl
               have a2 : W3.cell? ⟨b0 + 1 + 1, 0, none⟩ = some (.int .i64 0) := by rw [cell_here hP3.r2]; rfl
               have f0 := frozen_here hP3.r0 0
               have f1 := frozen_here hP3.r1 0
               have f2 : W3.frozen? ⟨b0 + 1 + 1, 0, none⟩ = false := frozen_here hP3.r2 0
               have HP3 := Lib.hid hP3; have BW3 := Lib.hid bW3
               clear y1 y2 y3 y4 hP3 bW3 hb3 hrd hb1 hir
               dsimp only))
          gi_region
          all_goals
            gi_wp2
            have hP3 := HP3.out
            obtain ⟨g0, g1, g2, gk⟩ := res_set (v0 := .slice none 0 0) (v1 := .int .i64 (IntKind.i64.wrap ((pre.length : Int) + 1))) (v2 := .int .i64 2) hP3.r0 hP3.r1 hP3.r2
            refine ⟨?_, ⟨⟨x, List.mem_append_right _ (List.mem_singleton.2 rfl), by rw [HR.out]; exact HG.out⟩, g0, ⟨_, g1⟩, g2, ?_⟩⟩
            · rw [← hLs.2]
              exact (keeps_below BW3.out).trans ⟨by show W3.heap.size ≤ (((W3.setCell _ _).setCell _ _).setCell _ _).heap.size; rw [set_size, set_size, set_size]; exact Nat.le_refl _, fun k o hk ho _ => (gk k (by omega)).trans ho⟩
            · exact (((hP3.low.setCell (p := ⟨b0, 0, none⟩) (Nat.le_refl _) _).setCell (p := ⟨b0 + 1, 0, none⟩) (Nat.le_succ _) _).setCell (p := ⟨b0 + 1 + 1, 0, none⟩) (by show b0 ≤ b0 + 1 + 1; omega) _).drew
      case done =>
        rintro D ys W hD hS hP hK
        obtain ⟨v, xs, y1, y2, y3, y4⟩ := hP.list
        obtain ⟨VA, vc, rfl⟩ := own_formR y2
        have e1 : W.cell? ⟨X, 0, none⟩ = some (.slice VA ys.length vc) := by rw [cell_here y1]; rfl
        have a0 : W.cell? ⟨b0, 0, none⟩ = some (.slice none 0 0) := by rw [cell_here hP.r0]; rfl
        have a1 : W.cell? ⟨b0 + 1, 0, none⟩ = some (.int .i64 0) := by rw [cell_here hP.r1]; rfl
        have a2 : W.cell? ⟨b0 + 1 + 1, 0, none⟩ = some (.int .i64 0) := by rw [cell_here hP.r2]; rfl
        have f0 := frozen_here hP.r0 0
        have f1 := frozen_here hP.r1 0
        have f2 : W.frozen? ⟨b0 + 1 + 1, 0, none⟩ = false := frozen_here hP.r2 0
        have HPR := Lib.hid (⟨y1, y2, y3, y4⟩ : PRow14 b0 X L ys W (.slice VA ys.length vc) xs); have HPP := Lib.hid hP; have HK := Lib.hid hK; have HSS := Lib.hid hS
        clear y1 y2 y3 y4 hP hS hK
        have hE : parseRE s = 0 := by
          unfold parseRE
          rw [if_neg H0.out, HN.out, if_neg h64, if_pos]
          rw [List.all_eq_true]
          intro p hp
          rw [← HSS.out] at hp
          obtain ⟨q, hq, rfl⟩ := List.mem_map.1 hp
          exact HPP.out.good q hq
        have hRL : parseRL s = (valsR ys).map ruleR := by unfold parseRL; rw [if_neg H0.out, HSS.out]
        have hlen : ys.length = (parseRL s).length := by rw [hRL, List.length_map, valsR_len]
        obtain ⟨g0, g1, g2, gk⟩ := res_set (v0 := .slice VA ys.length vc) (v1 := .int .i64 0) (v2 := .int .i64 0) HPP.out.r0 HPP.out.r1 HPP.out.r2
        obtain ⟨Wf, hWf⟩ : ∃ Wf, Wf = ((W.setCell ⟨b0, 0, none⟩ (.slice VA ys.length vc)).setCell ⟨b0 + 1, 0, none⟩ (.int .i64 0)).setCell ⟨b0 + 1 + 1, 0, none⟩ (.int .i64 0) := ⟨_, rfl⟩
        rw [← hWf] at g0 g1 g2 gk
        have hKf : Wf.heap[D]? = some (.deferred (some [])) := (gk D (by omega)).trans HK.out
        have keep : ∀ b o, Wf.heap[b]? = some o → b ≠ D → (Wf.putObj D (.deferred none)).heap[b]? = some o := fun b o ho hne => (World.putObj_heap_other hne).trans ho
        have x0 : (Wf.putObj D (.deferred none)).cell? ⟨b0, 0, none⟩ = some (.slice VA ys.length vc) := by rw [cell_here (keep _ _ g0 (by omega))]; rfl
        have x1 : (Wf.putObj D (.deferred none)).cell? ⟨b0 + 1, 0, none⟩ = some (.int .i64 0) := by rw [cell_here (keep _ _ g1 (by omega))]; rfl
        have x2 : (Wf.putObj D (.deferred none)).cell? ⟨b0 + 1 + 1, 0, none⟩ = some (.int .i64 0) := by rw [cell_here (keep _ _ g2 (by omega))]; rfl
        have hpr := HPR.out.other (W' := Wf.putObj D (.deferred none)) hXB (by omega) (fun k C t hc hk => by
          have hne : k ≠ D := fun e => by subst e; rw [HK.out] at hc; injection hc with hc; cases hc
          exact (World.putObj_heap_other hne).trans (gk k (.inr hk)))
        have hrdu := PIn.rdu (w := w) (X := X) hpr.y2 hpr.y4
        have hlow : Below w.heap.size w (Wf.putObj D (.deferred none)) := by
          rw [HB0.out, hWf]
          have h1 := ((HPP.out.low.setCell (p := ⟨b0, 0, none⟩) (Nat.le_refl _) (.slice VA ys.length vc)).setCell (p := ⟨b0 + 1, 0, none⟩) (Nat.le_succ _) (.int .i64 0)).setCell (p := ⟨b0 + 1 + 1, 0, none⟩) (by show b0 ≤ b0 + 1 + 1; omega) (.int .i64 0)
          exact h1.trans ⟨rfl, rfl, rfl, (grownBy_putObj' _ D _).size, fun k hk => World.putObj_heap_other (by omega)⟩
        have HE := Lib.hid hE; have HLW := Lib.hid hlow; have HRD := Lib.hid hrdu; have HKF := Lib.hid hKf; have HRL := Lib.hid hRL; have HLEN := Lib.hid hlen; have HWF := Lib.hid hWf
        clear hE hlow keep hpr hrdu hKf hRL hlen g0 g1 g2 gk hWf
        gi_wp2
        rw [← HWF.out]
        refine ⟨by simp, .inl ⟨_, _, rfl, run_takeDeferred HKF.out, ?_⟩⟩
        refine ⟨.tuple #[.slice VA ys.length vc, .int .i64 0, .int .i64 0], ?_, VA, ys.length, vc, 0, by rw [HE.out], fun _ => ⟨rfl, HLEN.out, by rw [HRL.out]; exact HRD.out⟩, HLW.out⟩
        simp [results, Tryd.results65, go_sem, x0, x1, x2]
      case stop =>
        rintro D pre W hD hS hP hK
        have hE : parseRE s = 2 := by
          unfold parseRE
          rw [if_neg H0.out, HN.out, if_neg h64, if_neg]
          intro hall
          obtain ⟨p, hp, hb⟩ := hP.bad
          obtain ⟨tl, htl⟩ := hS
          have hm : p.1 ∈ splitL 59 s := by rw [← htl]; exact List.mem_append_left _ (List.mem_map.2 ⟨p, hp, rfl⟩)
          have := List.all_eq_true.1 hall _ hm
          rw [hb] at this; cases this
        obtain ⟨k, hr1⟩ := hP.r1
        have keep : ∀ b o, W.heap[b]? = some o → b ≠ D → (W.putObj D (.deferred none)).heap[b]? = some o := fun b o ho hne => (World.putObj_heap_other hne).trans ho
        have x0 : (W.putObj D (.deferred none)).cell? ⟨b0, 0, none⟩ = some (.slice none 0 0) := by rw [cell_here (keep _ _ hP.r0 (by omega))]; rfl
        have x1 : (W.putObj D (.deferred none)).cell? ⟨b0 + 1, 0, none⟩ = some (.int .i64 k) := by rw [cell_here (keep _ _ hr1 (by omega))]; rfl
        have x2 : (W.putObj D (.deferred none)).cell? ⟨b0 + 1 + 1, 0, none⟩ = some (.int .i64 2) := by rw [cell_here (keep _ _ hP.r2 (by omega))]; rfl
        have hlow : Below w.heap.size w (W.putObj D (.deferred none)) := by
          rw [HB0.out]
          exact hP.low.trans ⟨rfl, rfl, rfl, (grownBy_putObj' W D _).size, fun k hk => World.putObj_heap_other (by omega)⟩
        have HE := Lib.hid hE; have HLW := Lib.hid hlow
        clear hE hlow hP keep hr1 hS
        gi_wp2
        refine ⟨by simp, .inl ⟨_, _, rfl, run_takeDeferred hK, ?_⟩⟩
        refine ⟨.tuple #[.slice none 0 0, .int .i64 k, .int .i64 2], ?_, none, 0, 0, k, by rw [HE.out], fun h => (by rw [HE.out] at h; cases h), HLW.out⟩
        simp [results, Tryd.results65, go_sem, x0, x1, x2]
theorem parse_any14 (s : List UInt8) (hs : s.length ≤ 1000000000) (w : World) (hj : Var0 w) :
    Calls Tryd.prog 65 #[.string ⟨s.toArray⟩] w (ParseSays w s) := (callsIn_wide (n := 4)).1 (parse_in14 4 (by omega) s hs w hj)
end Go.Proofs.YtiofgepfcacgjaaDoor
namespace Go.Proofs.YtiofgepfcacgjaaDoor
set_option linter.unusedVariables false

theorem cutK_split (c : UInt8) : ∀ (k : Nat) (s : List UInt8), cutK c k s = splitL c s ∨ ((cutK c k s).length = k + 1 ∧ k + 1 < (splitL c s).length)
  | 0, s => by
    by_cases h : atL c s < s.length
    · refine .inr ⟨rfl, ?_⟩
      rw [splitL_more h, List.length_cons]
      have : (splitL c (s.drop (atL c s + 1))).length ≠ 0 := fun e => by
        have h2 := splitL_at c (s.drop (atL c s + 1))
        rw [List.eq_nil_of_length_eq_zero e] at h2
        split at h2 <;> cases h2
      omega
    · refine .inl ?_
      rw [splitL_last (by omega)]; rfl
  | k + 1, s => by
    unfold cutK
    by_cases h : atL c s < s.length
    · rw [if_pos h, splitL_more h]
      rcases cutK_split c k (s.drop (atL c s + 1)) with e | ⟨e1, e2⟩
      · exact .inl (by rw [e])
      · exact .inr ⟨by rw [List.length_cons, e1], by rw [List.length_cons]; omega⟩
    · rw [if_neg h]
      exact .inl (splitL_last (by omega)).symm
theorem argsN_le (op : List UInt8) : argsN op ≤ 3 := by
  unfold argsN; split
  · omega
  · split <;> omega
theorem good_long {op : List UInt8} {l : List (List UInt8)} (h : 3 < l.length) : (RU.mk op l).good = false := by
  cases hg : (RU.mk op l).good with
  | false => rfl
  | true =>
    have := (good_parts hg).2
    have h3 := argsN_le op
    have h4 : l.length = argsN op := this
    omega
theorem ruleR_good (s : List UInt8) : (ruleR s).good = (wordsU s).good := by
  unfold ruleR wordsU wordsR
  rcases cutK_split 32 (min 5 (s.length + 1) - 1) s with e | ⟨e1, e2⟩
  · rw [e]
  · have h1 := splitL_len 32 s
    have h2 : min 5 (s.length + 1) - 1 = 4 := by omega
    rw [h2] at e1 e2 ⊢
    rw [good_long (by rw [List.length_tail]; omega), good_long (by rw [List.length_tail]; omega)]
theorem rulesE_parse (s : List UInt8) : rulesE s = parseRE s := by
  unfold rulesE parseRE
  have : (fun p => (ruleR p).good) = (fun p => (wordsU p).good) := funext ruleR_good
  rw [this]
end Go.Proofs.YtiofgepfcacgjaaDoor
