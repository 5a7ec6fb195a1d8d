/- Texts merged by program, in build order: ClaimsRMake, JsonRRead. -/
import Derived.Test.YtcbajbpdgmmaeaaDoorC07
import Derived.Test.YtcbajbpdgmmaeaaDoorC10
import Derived.Test.YtcbajbpdgmmaeaaDoorC12
import Derived.Test.YtcbajbpdgmmaeaaDoorC04
import Derived.Test.YtcbajbpdgmmaeaaDoorC03
import Derived.Test.YtcbajbpdgmmaeaaDoorC02
namespace Go.Proofs.YtcbajbpdgmmaeaaDoor
open Go.RowKit
set_option linter.unusedVariables false
set_option linter.unusedSimpArgs false

theorem textV_mk (w : World) (L N : Nat) (t : List UInt8) (ht : t.length ≤ 9223372036854775807) : VIs w L N (textV t) [.int .i64 4, .int .i64 0, .string ⟨t.toArray⟩, .slice none 0 0, .slice none 0 0] :=
  VIs.mk (l := []) (ks := []) ⟨by simp, by simp, ht, by simp⟩ (.inl rfl) (.inl rfl)
theorem numV_mk (w : World) (L N : Nat) (n : Int) : VIs w L N (numV n) [.int .i64 3, .int .i64 n, .string ⟨#[]⟩, .slice none 0 0, .slice none 0 0] :=
  VIs.mk (t := []) (l := []) (ks := []) ⟨by simp, by simp, by simp, by simp⟩ (.inl rfl) (.inl rfl)
/-- a value that leads to no memory -/
def Plain (v : V) : Prop := v.list = [] ∧ v.keys = []
theorem plain_textV (t : List UInt8) : Plain (textV t) := ⟨rfl, rfl⟩
theorem plain_numV (n : Int) : Plain (numV n) := ⟨rfl, rfl⟩
theorem Plain.any {v : V} (hp : Plain v) {w w' : World} {L N L' N' : Nat} {cs : List Value} (h : VIs w L N v cs) : VIs w' L' N' v cs := by
  obtain ⟨k, n, t, l, ks⟩ := v
  obtain ⟨h1, h2⟩ := hp
  have e1 : l = [] := h1
  have e2 : ks = [] := h2
  subst e1; subst e2
  obtain ⟨hr, A, c, A', c', rfl, _, _⟩ := h.out
  exact VIs.mk hr (.inl rfl) (.inl rfl)
/-- Put, of a key that an object of some plain values lacks -/
theorem refPut_more (l : List V) (ks : List (List UInt8)) (key : List UInt8) (x : V) (w : World) (L N : Nat) (A A' : Option Addr) (n a n' a' : Nat) (x0 x1 x2 x3 x4 : Value) (hn : n = l.length) (hn' : n' = l.length) (h0 : 0 < l.length) (hl : l.length ≤ 1000) (hk : ks.length = l.length) (hkz : key.length ≤ 9223372036854775807) (hne : key ∉ ks)
    (hpl : ∀ v ∈ l, Plain v) (hxp : Plain x) (hv : VIs w L N (.mk 6 0 [] l ks) [.int .i64 6, .int .i64 0, .string ⟨#[]⟩, .slice A n a, .slice A' n' a']) (hN : N ≤ w.heap.size) (hx : VIs w 0 0 x [x0, x1, x2, x3, x4]) :
    Calls Tryd.prog 17 #[.agg #[.int .i64 6, .int .i64 0, .string ⟨#[]⟩, .slice A n a, .slice A' n' a'], .string ⟨key.toArray⟩, .agg #[x0, x1, x2, x3, x4]] w fun e w' => (∃ B b B' b', e = .returned (.agg #[.int .i64 6, .int .i64 0, .string ⟨#[]⟩, .slice B (l.length + 1) b, .slice B' (l.length + 1) b']) ∧
      VIs w' w.heap.size w'.heap.size (.mk 6 0 [] (l ++ [x]) (ks ++ [key])) [.int .i64 6, .int .i64 0, .string ⟨#[]⟩, .slice B (l.length + 1) b, .slice B' (l.length + 1) b']) ∧ Below w.heap.size w w' := by
  subst hn; subst hn'
  obtain ⟨hroom, A1, c1, A2, c2, e, q1, q2⟩ := hv.out
  injection e with _ e; injection e with _ e; injection e with _ e; injection e with e4 e; injection e with e5 _
  injection e4 with e4 _ e6; injection e5 with e5 _ e7
  subst e4; subst e5; subst e6; subst e7
  have hlne : l ≠ [] := fun h => by rw [h] at h0; simp at h0
  have hkne : ks ≠ [] := fun h => by rw [h] at hk; simp at hk; omega
  rcases q1 with q1 | ⟨b', o', rfl, q1⟩
  · exact absurd q1 hkne
  rcases q2 with q2 | ⟨b, o, rfl, q2⟩
  · exact absurd q2 hlne
  have h := refPut_new 6 0 [] l ks key x w L N w.heap.size w.heap.size _ _ a a' x0 x1 x2 x3 x4 (by omega) (by omega) hroom.2.2.2 hkz hne hN (Nat.le_refl _) (Nat.le_refl _) (.inr ⟨b, o, b', o', rfl, rfl, q2, q1⟩) (fun i hi cs h => (hpl _ (List.getElem_mem hi)).any h) (hxp.any hx)
  rw [hk] at h
  exact h.mono fun e w' ⟨B, c, B', c', h1, h2, h3⟩ => ⟨⟨B, c, B', c', h1, h2⟩, h3⟩
/-- the pairs that the object is made of at first -/
def claimP (iss sub aud : List UInt8) : PL := [(wIss, iss), (wSub, sub), (wAud, aud)]
theorem claimP_obj (iss sub aud : List UInt8) : objS [] (claimP iss sub aud) = claimP iss sub aud := by
  have h1 : ¬ wIss = wSub := by decide
  have h2 : ¬ wIss = wAud := by decide
  have h3 : ¬ wSub = wAud := by decide
  simp [claimP, objS, h1, h2, h3]
theorem claimP_val (iss sub aud : List UInt8) : objV (claimP iss sub aud) = .mk 6 0 [] [textV iss, textV sub, textV aud] [wIss, wSub, wAud] := rfl
/-- a block that holds the cells of pairs reads as the pairs -/
theorem prs_ofC {w : World} {g : Nat} {l : PL} {cs : Array Value} {t : TypeId} {fr : Nat × Nat} (h : w.heap[g]? = some (.cells cs t fr)) (hc : cs.toList = pcells l) : Prs w w.heap.size (some ⟨g, 0, none⟩) l := fun k hk => by
  refine ⟨_, rfl, (Array.getElem?_eq_some_iff.1 h).1, ?_, ?_⟩
  · rw [Addr.add_lit, cell_here h, ← Array.getElem?_toList, hc, Nat.zero_add]; exact pcells_key l k hk
  · rw [Addr.add_lit, cell_here h, ← Array.getElem?_toList, hc, Nat.zero_add]; exact pcells_val l k hk
set_option maxRecDepth 100000 in
set_option maxHeartbeats 8000000 in
theorem refMake_any (iss sub aud nonce : List UInt8) (iat exp : Int) (h1 : iss.length ≤ 9223372036854775807) (h2 : sub.length ≤ 9223372036854775807) (h3 : aud.length ≤ 9223372036854775807) (h4 : nonce.length ≤ 9223372036854775807) (w : World) :
    Calls Tryd.prog 12 #[.string ⟨iss.toArray⟩, .string ⟨sub.toArray⟩, .string ⟨aud.toArray⟩, .string ⟨nonce.toArray⟩, .int .i64 iat, .int .i64 exp] w fun e w' =>
      (∃ B b B' b', e = .returned (.agg #[.int .i64 6, .int .i64 0, .string ⟨#[]⟩, .slice B (claimL iss sub aud nonce iat exp).length b, .slice B' (claimL iss sub aud nonce iat exp).length b']) ∧
        VIs w' w.heap.size w'.heap.size (claimV iss sub aud nonce iat exp) [.int .i64 6, .int .i64 0, .string ⟨#[]⟩, .slice B (claimL iss sub aud nonce iat exp).length b, .slice B' (claimL iss sub aud nonce iat exp).length b']) ∧ Below w.heap.size w w' := by
  obtain ⟨R, hR⟩ : ∃ R, w.heap.size = R := ⟨_, rfl⟩
  obtain ⟨W1, hW1⟩ : ∃ W1, W1 = w.alloc (.cells #[.int .i64 0, .int .i64 0, .string ⟨#[]⟩, .slice none 0 0, .slice none 0 0] 28) := ⟨_, rfl⟩
  have b1 : Below R w W1 := by rw [hW1, ← hR]; exact (Below.refl _ _).alloc (Nat.le_refl _) _
  have k1 : W1.heap[R]? = some (.cells #[.int .i64 0, .int .i64 0, .string ⟨#[]⟩, .slice none 0 0, .slice none 0 0] 28 (0, 0)) := by rw [hW1, ← hR]; exact heap_alloc_last w _
  have z1 : W1.heap.size = R + 1 := by rw [hW1]; simp [hR]
  obtain ⟨I, hI⟩ : ∃ D : ByteArray, (⟨iss.toArray⟩ : ByteArray) = D := ⟨_, rfl⟩
  obtain ⟨S, hS⟩ : ∃ D : ByteArray, (⟨sub.toArray⟩ : ByteArray) = D := ⟨_, rfl⟩
  obtain ⟨A, hA⟩ : ∃ D : ByteArray, (⟨aud.toArray⟩ : ByteArray) = D := ⟨_, rfl⟩
  obtain ⟨W2, hW2⟩ : ∃ W2, W2 = W1.alloc (.cells #[.string ⟨#[105, 115, 115]⟩, .string I, .string ⟨#[115, 117, 98]⟩, .string S, .string ⟨#[97, 117, 100]⟩, .string A] 44) := ⟨_, rfl⟩
  have b2 : Below W1.heap.size W1 W2 := by rw [hW2]; exact (Below.refl _ _).alloc (Nat.le_refl _) _
  have k2 : W2.heap[W1.heap.size]? = some (.cells #[.string ⟨#[105, 115, 115]⟩, .string I, .string ⟨#[115, 117, 98]⟩, .string S, .string ⟨#[97, 117, 100]⟩, .string A] 44 (0, 0)) := by rw [hW2]; exact heap_alloc_last W1 _
  have hobj : Calls Tryd.prog 21 #[.slice (some ⟨W1.heap.size, 0, none⟩) 3 3] W2 fun e w' => (∃ B b B' b' L N, e = .returned (.agg #[.int .i64 6, .int .i64 0, .string ⟨#[]⟩, .slice B 3 b, .slice B' 3 b']) ∧
      VIs w' L N (.mk 6 0 [] [textV iss, textV sub, textV aud] [wIss, wSub, wAud]) [.int .i64 6, .int .i64 0, .string ⟨#[]⟩, .slice B 3 b, .slice B' 3 b'] ∧ N ≤ w'.heap.size) ∧ Below W2.heap.size W2 w' := by
    have h := refObject_any refPut_new (some ⟨W1.heap.size, 0, none⟩) 3 (claimP iss sub aud) (by simp [claimP]) (by
      intro p hp
      simp only [claimP, List.mem_cons, List.not_mem_nil, or_false] at hp
      unfold maxLen
      rcases hp with rfl | rfl | rfl
      · exact ⟨show wIss.length ≤ _ by decide, by show iss.length ≤ _; omega⟩
      · exact ⟨show wSub.length ≤ _ by decide, by show sub.length ≤ _; omega⟩
      · exact ⟨show wAud.length ≤ _ by decide, by show aud.length ≤ _; omega⟩) W2 (prs_ofC k2 (by rw [← hI, ← hS, ← hA]; rfl))
    rw [claimP_obj, claimP_val] at h
    refine h.mono fun e w' ⟨⟨B, b, B', b', L, N, q1, q2, q3⟩, q4⟩ => ⟨⟨B, b, B', b', L, N, q1, q2, q3⟩, q4⟩
  rw [z1] at hobj
  obtain ⟨l3, hl3⟩ : ∃ l, [textV iss, textV sub, textV aud] = l := ⟨_, rfl⟩
  obtain ⟨k3, hk3⟩ : ∃ l, [wIss, wSub, wAud] = l := ⟨_, rfl⟩
  rw [hl3, hk3] at hobj
  have z3 : l3.length = 3 := by rw [← hl3]; rfl
  have y3 : k3.length = 3 := by rw [← hk3]; rfl
  have pl3 : ∀ v ∈ l3, Plain v := by
    intro v hv; rw [← hl3] at hv
    simp only [List.mem_cons, List.not_mem_nil, or_false] at hv
    rcases hv with rfl | rfl | rfl <;> exact plain_textV _
  have pl4 : ∀ v ∈ l3 ++ [numV iat], Plain v := by
    intro v hv
    rcases List.mem_append.1 hv with h | h
    · exact pl3 v h
    · obtain rfl := List.mem_singleton.1 h; exact plain_numV _
  have pl5 : ∀ v ∈ (l3 ++ [numV iat]) ++ [numV exp], Plain v := by
    intro v hv
    rcases List.mem_append.1 hv with h | h
    · exact pl4 v h
    · obtain rfl := List.mem_singleton.1 h; exact plain_numV _
  have n4 : wIat ∉ k3 := by rw [← hk3]; decide
  have n5 : wExp ∉ k3 ++ [wIat] := by rw [← hk3]; decide
  have n6 : wNonce ∉ (k3 ++ [wIat]) ++ [wExp] := by rw [← hk3]; decide
  have hp1 : ∀ (W : World) (L N : Nat) (X Y : Option Addr) (x y : Nat), VIs W L N (.mk 6 0 [] l3 k3) [.int .i64 6, .int .i64 0, .string ⟨#[]⟩, .slice X 3 x, .slice Y 3 y] → N ≤ W.heap.size → Calls Tryd.prog 17 #[.agg #[.int .i64 6, .int .i64 0, .string ⟨#[]⟩, .slice X 3 x, .slice Y 3 y], .string ⟨#[105, 97, 116]⟩, .agg #[.int .i64 3, .int .i64 iat, .string ⟨#[]⟩, .slice none 0 0, .slice none 0 0]] W fun e w' =>
      (∃ B b B' b', e = .returned (.agg #[.int .i64 6, .int .i64 0, .string ⟨#[]⟩, .slice B 4 b, .slice B' 4 b']) ∧ VIs w' W.heap.size w'.heap.size (.mk 6 0 [] (l3 ++ [numV iat]) (k3 ++ [wIat])) [.int .i64 6, .int .i64 0, .string ⟨#[]⟩, .slice B 4 b, .slice B' 4 b']) ∧ Below W.heap.size W w' := fun W L N X Y x y hv hN => by
    have h := refPut_more l3 k3 wIat (numV iat) W L N X Y 3 x 3 y _ _ _ _ _ z3.symm z3.symm (by omega) (by omega) (by omega) (by decide) n4 pl3 (plain_numV _) hv hN (numV_mk W 0 0 iat)
    rw [z3] at h; exact h
  have hp2 : ∀ (W : World) (L N : Nat) (X Y : Option Addr) (x y : Nat), VIs W L N (.mk 6 0 [] (l3 ++ [numV iat]) (k3 ++ [wIat])) [.int .i64 6, .int .i64 0, .string ⟨#[]⟩, .slice X 4 x, .slice Y 4 y] → N ≤ W.heap.size → Calls Tryd.prog 17 #[.agg #[.int .i64 6, .int .i64 0, .string ⟨#[]⟩, .slice X 4 x, .slice Y 4 y], .string ⟨#[101, 120, 112]⟩, .agg #[.int .i64 3, .int .i64 exp, .string ⟨#[]⟩, .slice none 0 0, .slice none 0 0]] W fun e w' =>
      (∃ B b B' b', e = .returned (.agg #[.int .i64 6, .int .i64 0, .string ⟨#[]⟩, .slice B 5 b, .slice B' 5 b']) ∧ VIs w' W.heap.size w'.heap.size (.mk 6 0 [] ((l3 ++ [numV iat]) ++ [numV exp]) ((k3 ++ [wIat]) ++ [wExp])) [.int .i64 6, .int .i64 0, .string ⟨#[]⟩, .slice B 5 b, .slice B' 5 b']) ∧ Below W.heap.size W w' := fun W L N X Y x y hv hN => by
    have e4 : (l3 ++ [numV iat]).length = 4 := by rw [List.length_append, z3]; rfl
    have h := refPut_more (l3 ++ [numV iat]) (k3 ++ [wIat]) wExp (numV exp) W L N X Y 4 x 4 y _ _ _ _ _ e4.symm e4.symm (by omega) (by omega) (by rw [List.length_append, y3, e4]; rfl) (by decide) n5 pl4 (plain_numV _) hv hN (numV_mk W 0 0 exp)
    rw [e4] at h; exact h
  obtain ⟨NO, hNO⟩ : ∃ D : ByteArray, (⟨nonce.toArray⟩ : ByteArray) = D := ⟨_, rfl⟩
  have hp3 : ∀ (W : World) (L N : Nat) (X Y : Option Addr) (x y : Nat), VIs W L N (.mk 6 0 [] ((l3 ++ [numV iat]) ++ [numV exp]) ((k3 ++ [wIat]) ++ [wExp])) [.int .i64 6, .int .i64 0, .string ⟨#[]⟩, .slice X 5 x, .slice Y 5 y] → N ≤ W.heap.size → Calls Tryd.prog 17 #[.agg #[.int .i64 6, .int .i64 0, .string ⟨#[]⟩, .slice X 5 x, .slice Y 5 y], .string ⟨#[110, 111, 110, 99, 101]⟩, .agg #[.int .i64 4, .int .i64 0, .string NO, .slice none 0 0, .slice none 0 0]] W fun e w' =>
      (∃ B b B' b', e = .returned (.agg #[.int .i64 6, .int .i64 0, .string ⟨#[]⟩, .slice B 6 b, .slice B' 6 b']) ∧ VIs w' W.heap.size w'.heap.size (.mk 6 0 [] (((l3 ++ [numV iat]) ++ [numV exp]) ++ [textV nonce]) (((k3 ++ [wIat]) ++ [wExp]) ++ [wNonce])) [.int .i64 6, .int .i64 0, .string ⟨#[]⟩, .slice B 6 b, .slice B' 6 b']) ∧ Below W.heap.size W w' := fun W L N X Y x y hv hN => by
    have e5 : ((l3 ++ [numV iat]) ++ [numV exp]).length = 5 := by rw [List.length_append, List.length_append, z3]; rfl
    have hx := textV_mk W 0 0 nonce h4
    rw [hNO] at hx
    have h := refPut_more ((l3 ++ [numV iat]) ++ [numV exp]) ((k3 ++ [wIat]) ++ [wExp]) wNonce (textV nonce) W L N X Y 5 x 5 y _ _ _ _ _ e5.symm e5.symm (by omega) (by omega) (by rw [List.length_append, List.length_append, y3, e5]; rfl) (by decide) n6 pl5 (plain_textV _) hv hN hx
    rw [e5] at h; exact h
  have hin : ∀ (n : Int) (W : World), Calls Tryd.prog 22 #[.int .i64 n] W fun e w' => e = .returned (.agg #[.int .i64 3, .int .i64 n, .string ⟨#[]⟩, .slice none 0 0, .slice none 0 0]) ∧ Below W.heap.size W w' := refInt_any
  have hfin5 : nonce = [] → claimV iss sub aud nonce iat exp = .mk 6 0 [] ((l3 ++ [numV iat]) ++ [numV exp]) ((k3 ++ [wIat]) ++ [wExp]) ∧ (claimL iss sub aud nonce iat exp).length = 5 := fun h => by
    subst h; rw [← hl3, ← hk3]; exact ⟨rfl, rfl⟩
  have hfin6 : nonce ≠ [] → claimV iss sub aud nonce iat exp = .mk 6 0 [] (((l3 ++ [numV iat]) ++ [numV exp]) ++ [textV nonce]) (((k3 ++ [wIat]) ++ [wExp]) ++ [wNonce]) ∧ (claimL iss sub aud nonce iat exp).length = 6 := fun h => by
    unfold claimV claimL claimK; rw [if_neg h, if_neg h, ← hl3, ← hk3]; exact ⟨rfl, rfl⟩
  rw [hI, hS, hA, hNO]
  obtain ⟨CV, hCV⟩ : ∃ c, claimV iss sub aud nonce iat exp = c := ⟨_, rfl⟩
  obtain ⟨CL, hCL⟩ : ∃ c, (claimL iss sub aud nonce iat exp).length = c := ⟨_, rfl⟩
  rw [hCV, hCL] at hfin5 hfin6 ⊢
  have hnon : nonce = [] ↔ NO.size = 0 := by rw [← hNO]; show _ ↔ nonce.toArray.size = 0; simp
  have HO := Lib.hid hobj; have HI1 := Lib.hid (hin iat); have HI2 := Lib.hid (hin exp); have HP1 := Lib.hid hp1; have HP2 := Lib.hid hp2; have HP3 := Lib.hid hp3; have F5 := Lib.hid hfin5; have F6 := Lib.hid hfin6; have HR := Lib.hid hR; have HW1 := Lib.hid hW1; have HW2 := Lib.hid hW2; have B1 := Lib.hid b1; have B2 := Lib.hid b2; have K1 := Lib.hid k1; have Z1 := Lib.hid z1; have HNO := Lib.hid hNO; have HNON := Lib.hid hnon
  clear pl3 pl4 pl5 hobj hin hp1 hp2 hp3 hfin5 hfin6 hR hW1 hW2 b1 b2 k1 z1 k2 hI hS hA hNO hCV hCL hl3 hk3 z3 y3 n4 n5 n6 h1 h2 h3 h4 hnon
  go_enter Tryd.func12, Tryd.ntmps12
  go_wp2_with fail
  rw [← HW1.out, ← HW2.out, HR.out]
  refine HO.out.mono ?_
  rintro e w3 ⟨⟨X3, x3, Y3, y3, L3, N3, rfl, v3, hN3⟩, hb3⟩
  obtain ⟨w4, hw4⟩ : ∃ w4, w4 = w3.alloc (.cells #[.int .i64 6, .int .i64 0, .string ⟨#[]⟩, .slice X3 3 x3, .slice Y3 3 y3] 28) := ⟨_, rfl⟩
  have g4 : Below w3.heap.size w3 w4 := by rw [hw4]; exact (Below.refl _ _).alloc (Nat.le_refl _) _
  have q4 : w4.heap[w3.heap.size]? = some (.cells #[.int .i64 6, .int .i64 0, .string ⟨#[]⟩, .slice X3 3 x3, .slice Y3 3 y3] 28 (0, 0)) := by rw [hw4]; exact heap_alloc_last w3 _
  have v4 := v3.below (g4.mono hN3)
  have hN4 : N3 ≤ w4.heap.size := Nat.le_trans hN3 g4.size
  have r4 : Below R w w4 := B1.out.trans ((B2.out.chain (hb3.chain g4)).mono (by have := Z1.out; omega))
  have s4 : W1.heap.size ≤ w3.heap.size := Nat.le_trans B2.out.size hb3.size
  have m4 : w4.heap[R]? = some (.cells #[.int .i64 0, .int .i64 0, .string ⟨#[]⟩, .slice none 0 0, .slice none 0 0] 28 (0, 0)) := ((B2.out.chain (hb3.chain g4)).block R (by have := Z1.out; omega)).trans K1.out
  obtain ⟨⟨e0, e1, e2, e3, e4⟩, -⟩ := box_of q4
  have HW4 := Lib.hid hw4; have Q4 := Lib.hid q4; have V4 := Lib.hid v4; have R4 := Lib.hid r4; have M4 := Lib.hid m4
  clear hw4 g4 q4 v4 v3 hb3 r4 m4
  dsimp only
  go_upto_region 2 with fail
  rw [← HW4.out]
  go_region_with (first
    | (go_at_call 22; (with_reducible refine (HI1.out _).mono ?_); rintro e5 w5 ⟨rfl, hb5⟩; have hb5' := (below_drew2 _ _ hb5); have v5 := V4.out.below (hb5'.mono hN4); have hN5 := Nat.le_trans hN4 hb5'.size; obtain ⟨⟨e0, e1, e2, e3, e4⟩, -⟩ := box_of (blk_below Q4.out hb5'))
    | (go_at_call 17; (with_reducible refine (HP1.out _ _ _ _ _ _ _ v5 hN5).mono ?_); rintro e6 w6 ⟨⟨X6, x6, Y6, y6, rfl, v6⟩, hb6⟩)
    | (go_at_call 22; (with_reducible refine (HI2.out _).mono ?_); rintro e7 w7 ⟨rfl, hb7⟩; have v7 := v6.below hb7)
    | (go_at_call 17; (with_reducible refine (HP2.out _ _ _ _ _ _ _ v7 hb7.size).mono ?_); rintro e8 w8 ⟨⟨X8, x8, Y8, y8, rfl, v8⟩, hb8⟩; have hb8' := ((hb5'.chain hb6).chain hb7).chain hb8; obtain ⟨⟨j0, j1, j2, j3, j4⟩, f0, f1, f2, f3, f4⟩ := box_of (blk_below Q4.out hb8')))
  all_goals
    obtain ⟨wg, hwg⟩ : ∃ wg, wg = set5 w8 w3.heap.size 0 (.int .i64 6) (.int .i64 0) (.string ⟨#[]⟩) (.slice X8 5 x8) (.slice Y8 5 y8) := ⟨_, rfl⟩
    have qg : wg.heap[w3.heap.size]? = some (.cells #[.int .i64 6, .int .i64 0, .string ⟨#[]⟩, .slice X8 5 x8, .slice Y8 5 y8] 28 (0, 0)) := by
      have := set5_here (o := 0) (c0 := .int .i64 6) (c1 := .int .i64 0) (c2 := .string ⟨#[]⟩) (c3 := .slice X8 5 x8) (c4 := .slice Y8 5 y8) (blk_below Q4.out hb8')
      rw [hwg]; simpa using this
    have hz4 : w4.heap.size = w3.heap.size + 1 := by rw [HW4.out]; simp
    have hz7 : w4.heap.size ≤ w7.heap.size := ((hb5'.chain hb6).chain hb7).size
    have sg : wg.heap.size = w8.heap.size := by rw [hwg, set5_size]
    have hb8s : w7.heap.size ≤ w8.heap.size := hb8.size
    have vg : VIs wg w7.heap.size wg.heap.size (.mk 6 0 [] ((l3 ++ [numV iat]) ++ [numV exp]) ((k3 ++ [wIat]) ++ [wExp])) [.int .i64 6, .int .i64 0, .string ⟨#[]⟩, .slice X8 5 x8, .slice Y8 5 y8] := by
      rw [sg]
      exact v8.keep2 fun q q1 q2 => World.cell?_of_block (w := w8) (by rw [hwg]; exact set5_there (by omega))
    have rg : Below R w wg := by rw [hwg]; exact (R4.out.trans (hb8'.mono (by have := R4.out.size; have := HR.out; have := Z1.out; omega))).trans (set5_below (by have := Z1.out; omega))
    have mg : wg.heap[R]? = some (.cells #[.int .i64 0, .int .i64 0, .string ⟨#[]⟩, .slice none 0 0, .slice none 0 0] 28 (0, 0)) := by
      rw [hwg]; exact (set5_there (by have := Z1.out; omega)).trans (blk_below M4.out hb8')
    have hRg : R + 1 ≤ w7.heap.size ∧ R ≠ w3.heap.size := by have := R4.out.size; have := HR.out; have := Z1.out; exact ⟨by omega, by omega⟩
    obtain ⟨⟨p0, p1, p2, p3, p4⟩, -⟩ := box_of qg
    have HWG := Lib.hid hwg; have QG := Lib.hid qg; have VG := Lib.hid vg; have RG := Lib.hid rg; have MG := Lib.hid mg; have SG := Lib.hid sg
    clear hwg qg vg rg mg sg e0 e1 e2 e3 e4 f0 f1 f2 f3 f4 j0 j1 j2 j3 j4 hb5 hb5' hb6 hb7 hb8 hb8' v5 v6 v7 v8
    change Exit.then _ _ _ _ (set5 w8 w3.heap.size 0 (.int .i64 6) (.int .i64 0) (.string ⟨#[]⟩) (.slice X8 5 x8) (.slice Y8 5 y8))
    rw [← HWG.out]
    by_cases hno : nonce = []
    · obtain rfl : NO = ⟨#[]⟩ := by rw [← HNO.out, hno]
      obtain ⟨hcv, rfl⟩ := F5.out hno
      have HCV := Lib.hid hcv; clear hcv
      obtain ⟨⟨m0, m1, m2, m3, m4⟩, n0, n1, n2, n3, n4⟩ := box_of MG.out
      go_wp2
      obtain ⟨wf, hwf⟩ : ∃ wf, wf = set5 wg R 0 (.int .i64 6) (.int .i64 0) (.string ⟨#[]⟩) (.slice X8 5 x8) (.slice Y8 5 y8) := ⟨_, rfl⟩
      change bodyPost _ _ _ _ _ (set5 wg R 0 (.int .i64 6) (.int .i64 0) (.string ⟨#[]⟩) (.slice X8 5 x8) (.slice Y8 5 y8))
      rw [← hwf]
      have hx : wf.heap[R]? = some (.cells #[.int .i64 6, .int .i64 0, .string ⟨#[]⟩, .slice X8 5 x8, .slice Y8 5 y8] 28 (0, 0)) := by
        have := set5_here (o := 0) (c0 := .int .i64 6) (c1 := .int .i64 0) (c2 := .string ⟨#[]⟩) (c3 := .slice X8 5 x8) (c4 := .slice Y8 5 y8) MG.out
        rw [hwf]; simpa using this
      have hsf : wf.heap.size = wg.heap.size := by rw [hwf, set5_size]
      have hvf : VIs wf w.heap.size wf.heap.size (.mk 6 0 [] ((l3 ++ [numV iat]) ++ [numV exp]) ((k3 ++ [wIat]) ++ [wExp])) [.int .i64 6, .int .i64 0, .string ⟨#[]⟩, .slice X8 5 x8, .slice Y8 5 y8] := by
        rw [hsf, HR.out]
        exact (VG.out.keep2 fun q q1 q2 => World.cell?_of_block (w := wg) (by rw [hwf]; exact set5_there (by have := hRg.1; omega))).more (by have := hRg.1; omega) (Nat.le_refl _)
      have hbf : Below w.heap.size w wf := by rw [hwf, HR.out]; exact RG.out.trans (set5_below (Nat.le_refl _))
      obtain ⟨⟨t0, t1, t2, t3, t4⟩, -⟩ := box_of hx
      have HVF := Lib.hid hvf; have HBF := Lib.hid hbf
      clear hvf hbf hx hwf hsf m0 m1 m2 m3 m4 n0 n1 n2 n3 n4 p0 p1 p2 p3 p4
      refine bodyPost_ret (v := .agg #[.int .i64 6, .int .i64 0, .string ⟨#[]⟩, .slice X8 5 x8, .slice Y8 5 y8]) (by simp [results, Tryd.results12, go_sem, t0, t1, t2, t3, t4]) rfl ?_
      exact ⟨⟨_, _, _, _, rfl, by rw [HCV.out]; exact HVF.out⟩, HBF.out⟩
    · have hn1 : (NO.toList == []) = false := by
        rw [← HNO.out, bt_list]; simp [hno]
      obtain ⟨hcv, rfl⟩ := F6.out hno
      have HCV := Lib.hid hcv; clear hcv
      go_upto_region 4 with fail
      go_region_with (first
        | (go_at_call 23; (with_reducible refine (refWordV_any _ _).mono ?_); rintro e9 w9 ⟨rfl, hb9⟩; have hb9' := (below_drew2 _ _ hb9); have v9 := VG.out.below hb9'; obtain ⟨⟨p0, p1, p2, p3, p4⟩, -⟩ := box_of (blk_below QG.out hb9'))
        | (go_at_call 17; (with_reducible refine (HP3.out _ _ _ _ _ _ _ v9 hb9'.size).mono ?_); rintro ea wa ⟨⟨Xa, xa, Ya, ya, rfl, va⟩, hba⟩; have hba' := hb9'.chain hba; obtain ⟨⟨j0, j1, j2, j3, j4⟩, f0, f1, f2, f3, f4⟩ := box_of (blk_below QG.out hba')))
      all_goals
        obtain ⟨wh, hwh⟩ : ∃ wh, wh = set5 wa w3.heap.size 0 (.int .i64 6) (.int .i64 0) (.string ⟨#[]⟩) (.slice Xa 6 xa) (.slice Ya 6 ya) := ⟨_, rfl⟩
        have qh : wh.heap[w3.heap.size]? = some (.cells #[.int .i64 6, .int .i64 0, .string ⟨#[]⟩, .slice Xa 6 xa, .slice Ya 6 ya] 28 (0, 0)) := by
          have := set5_here (o := 0) (c0 := .int .i64 6) (c1 := .int .i64 0) (c2 := .string ⟨#[]⟩) (c3 := .slice Xa 6 xa) (c4 := .slice Ya 6 ya) (blk_below QG.out hba')
          rw [hwh]; simpa using this
        have hzg : w3.heap.size < w7.heap.size := by have := hz4; omega
        have hz9 : w7.heap.size ≤ w9.heap.size := by have h1 := hb9'.size; have h2 := SG.out; have h3 := hb8s; omega
        have sh : wh.heap.size = wa.heap.size := by rw [hwh, set5_size]
        have vh : VIs wh w9.heap.size wh.heap.size (.mk 6 0 [] (((l3 ++ [numV iat]) ++ [numV exp]) ++ [textV nonce]) (((k3 ++ [wIat]) ++ [wExp]) ++ [wNonce])) [.int .i64 6, .int .i64 0, .string ⟨#[]⟩, .slice Xa 6 xa, .slice Ya 6 ya] := by
          rw [sh]
          exact va.keep2 fun q q1 q2 => World.cell?_of_block (w := wa) (by rw [hwh]; exact set5_there (by omega))
        have rh : Below R w wh := by rw [hwh]; exact (RG.out.trans (hba'.mono (by have := RG.out.size; have := HR.out; omega))).trans (set5_below (by have := Z1.out; omega))
        have mh : wh.heap[R]? = some (.cells #[.int .i64 0, .int .i64 0, .string ⟨#[]⟩, .slice none 0 0, .slice none 0 0] 28 (0, 0)) := by
          rw [hwh]; exact (set5_there hRg.2).trans (blk_below MG.out hba')
        obtain ⟨⟨p0, p1, p2, p3, p4⟩, -⟩ := box_of qh
        obtain ⟨⟨m0, m1, m2, m3, m4⟩, n0, n1, n2, n3, n4⟩ := box_of mh
        have HWH := Lib.hid hwh; have QH := Lib.hid qh; have VH := Lib.hid vh; have RH := Lib.hid rh; have MH := Lib.hid mh
        clear hwh qh vh rh mh sh f0 f1 f2 f3 f4 j0 j1 j2 j3 j4 hb9 hb9' hba hba' v9 va
        change Exit.then _ _ _ _ (set5 wa w3.heap.size 0 (.int .i64 6) (.int .i64 0) (.string ⟨#[]⟩) (.slice Xa 6 xa) (.slice Ya 6 ya))
        rw [← HWH.out]
        go_wp2
        obtain ⟨wf, hwf⟩ : ∃ wf, wf = set5 wh R 0 (.int .i64 6) (.int .i64 0) (.string ⟨#[]⟩) (.slice Xa 6 xa) (.slice Ya 6 ya) := ⟨_, rfl⟩
        change bodyPost _ _ _ _ _ (set5 wh R 0 (.int .i64 6) (.int .i64 0) (.string ⟨#[]⟩) (.slice Xa 6 xa) (.slice Ya 6 ya))
        rw [← hwf]
        have hx : wf.heap[R]? = some (.cells #[.int .i64 6, .int .i64 0, .string ⟨#[]⟩, .slice Xa 6 xa, .slice Ya 6 ya] 28 (0, 0)) := by
          have := set5_here (o := 0) (c0 := .int .i64 6) (c1 := .int .i64 0) (c2 := .string ⟨#[]⟩) (c3 := .slice Xa 6 xa) (c4 := .slice Ya 6 ya) MH.out
          rw [hwf]; simpa using this
        have hsf : wf.heap.size = wh.heap.size := by rw [hwf, set5_size]
        have hvf : VIs wf w.heap.size wf.heap.size (.mk 6 0 [] (((l3 ++ [numV iat]) ++ [numV exp]) ++ [textV nonce]) (((k3 ++ [wIat]) ++ [wExp]) ++ [wNonce])) [.int .i64 6, .int .i64 0, .string ⟨#[]⟩, .slice Xa 6 xa, .slice Ya 6 ya] := by
          rw [hsf, HR.out]
          exact (VH.out.keep2 fun q q1 q2 => World.cell?_of_block (w := wh) (by rw [hwf]; exact set5_there (by have := hRg.1; omega))).more (by have := hRg.1; omega) (Nat.le_refl _)
        have hbf : Below w.heap.size w wf := by rw [hwf, HR.out]; exact RH.out.trans (set5_below (Nat.le_refl _))
        obtain ⟨⟨t0, t1, t2, t3, t4⟩, -⟩ := box_of hx
        have HVF := Lib.hid hvf; have HBF := Lib.hid hbf
        clear hvf hbf hx hwf hsf m0 m1 m2 m3 m4 n0 n1 n2 n3 n4 p0 p1 p2 p3 p4
        refine bodyPost_ret (v := .agg #[.int .i64 6, .int .i64 0, .string ⟨#[]⟩, .slice Xa 6 xa, .slice Ya 6 ya]) (by simp [results, Tryd.results12, go_sem, t0, t1, t2, t3, t4]) rfl ?_
        exact ⟨⟨_, _, _, _, rfl, by rw [HCV.out]; exact HVF.out⟩, HBF.out⟩
end Go.Proofs.YtcbajbpdgmmaeaaDoor
namespace Go.Proofs.YtcbajbpdgmmaeaaDoor
set_option linter.unusedVariables false
set_option linter.unusedSimpArgs false

theorem wordT_le : ∀ (m : Nat) (l acc t : List UInt8) (k n : Nat), l.length ≤ m → wordT l acc k = some (t, n) → t.length + k + 1 ≤ n + acc.length ∧ n ≤ k + l.length ∧ k < n
  | 0, l, acc, t, k, n, hl, h => by
    have : l = [] := List.length_eq_zero_iff.1 (by omega)
    subst this
    unfold wordT at h; cases h
  | m + 1, [], acc, t, k, n, hl, h => by unfold wordT at h; cases h
  | m + 1, c :: r, acc, t, k, n, hl, h => by
    rw [List.length_cons] at hl ⊢
    unfold wordT at h
    by_cases h34 : c = 34
    · rw [if_pos h34] at h
      injection h with h; injection h with h1 h2
      subst h1; subst h2
      omega
    · rw [if_neg h34] at h
      by_cases h92 : c = 92
      · rw [if_pos h92] at h
        match r, hl, h with
        | [], hl, h => cases h
        | e :: r', hl, h =>
          dsimp only at h
          by_cases he : e = 34 ∨ e = 92
          · rw [if_pos he] at h
            have := wordT_le m r' _ t _ n (by simp at hl; omega) h
            rw [List.length_append, List.length_singleton] at this
            rw [List.length_cons]
            omega
          · rw [if_neg he] at h
            match r', hl, h with
            | x :: y :: h' :: l' :: r'', hl, h =>
              dsimp only at h
              split at h
              · have := wordT_le m r'' _ t _ n (by simp at hl; omega) h
                rw [List.length_append, List.length_singleton] at this
                simp only [List.length_cons]
                omega
              · cases h
            | [], _, h => cases h
            | [_], _, h => cases h
            | [_, _], _, h => cases h
            | [_, _, _], _, h => cases h
      · rw [if_neg h92] at h
        have := wordT_le m r _ t _ n (by omega) h
        rw [List.length_append, List.length_singleton] at this
        omega
theorem numT_le : ∀ (l : List UInt8) (m : Nat) (v : Int) (n : Nat), n ≤ (numT l m v n).2 ∧ (numT l m v n).2 ≤ n + l.length
  | [], m, v, n => by cases m <;> exact ⟨Nat.le_refl _, Nat.le_refl _⟩
  | c :: r, 0, v, n => ⟨Nat.le_refl _, by show n ≤ n + _; omega⟩
  | c :: r, m + 1, v, n => by
    rw [numT]
    by_cases h : isDigit c
    · rw [if_pos h]
      have := numT_le r m (v * 10 + (c.toNat - 48 : Int)) (n + 1)
      rw [List.length_cons]; omega
    · rw [if_neg h]
      exact ⟨Nat.le_refl _, by show n ≤ n + _; omega⟩
theorem begins_len {s t : List UInt8} (h : beginsB s t = true) : t.length ≤ s.length := by
  unfold beginsB at h
  have := congrArg List.length (eq_of_beq h)
  rw [List.length_take] at this
  omega
mutual
/-- how much a value holds -/
def V.wt : V → Nat
  | .mk _ _ t l ks => 1 + t.length + V.wts l + kwts ks
def V.wts : List V → Nat
  | [] => 0
  | v :: r => v.wt + V.wts r
def kwts : List (List UInt8) → Nat
  | [] => 0
  | k :: r => 1 + k.length + kwts r
end
theorem wt_mk (k n : Int) (t : List UInt8) (l : List V) (ks : List (List UInt8)) : (V.mk k n t l ks).wt = 1 + t.length + V.wts l + kwts ks := by conv => lhs; unfold V.wt
theorem wts_cons (v : V) (r : List V) : V.wts (v :: r) = v.wt + V.wts r := by conv => lhs; unfold V.wts
theorem wts_nil : V.wts [] = 0 := by unfold V.wts; rfl
theorem kwts_cons (k : List UInt8) (r : List (List UInt8)) : kwts (k :: r) = 1 + k.length + kwts r := by conv => lhs; unfold kwts
theorem kwts_nil : kwts [] = 0 := by unfold kwts; rfl
theorem wts_snoc (l : List V) (v : V) : V.wts (l ++ [v]) = V.wts l + v.wt := by
  induction l with
  | nil => rw [List.nil_append, wts_cons, wts_nil]; omega
  | cons u r ih => rw [List.cons_append, wts_cons, wts_cons, ih]; omega
theorem kwts_snoc (l : List (List UInt8)) (k : List UInt8) : kwts (l ++ [k]) = kwts l + (1 + k.length) := by
  induction l with
  | nil => rw [List.nil_append, kwts_cons, kwts_nil]; omega
  | cons u r ih => rw [List.cons_append, kwts_cons, kwts_cons, ih]; omega
theorem wt_pos (v : V) : 1 ≤ v.wt := by obtain ⟨k, n, t, l, ks⟩ := v; rw [wt_mk]; omega
theorem wts_mem {l : List V} {v : V} (h : v ∈ l) : v.wt ≤ V.wts l := by
  induction l with
  | nil => cases h
  | cons u r ih =>
    rw [wts_cons]
    rcases List.mem_cons.1 h with rfl | h
    · omega
    · have := ih h; omega
def ReadV (f : Nat) : Prop := ∀ s : List UInt8, (valueT f s).2 ≤ s.length ∧ ((valueT f s).2 ≠ 0 → (valueT f s).1.wt ≤ (valueT f s).2)
def ReadL (f : Nat) : Prop := ∀ (obj : Bool) (s : List UInt8) (n : Nat) (ks : List (List UInt8)) (l : List V), (loopT f obj s n ks l).2 ≤ n + s.length ∧
  ((loopT f obj s n ks l).2 ≠ 0 → n < (loopT f obj s n ks l).2 ∧ (loopT f obj s n ks l).1.wt + n ≤ (loopT f obj s n ks l).2 + V.wts l + kwts ks)
theorem wt_plain (k n : Int) (t : List UInt8) : (V.mk k n t [] []).wt = 1 + t.length := by rw [wt_mk, wts_nil, kwts_nil]; rfl
/-- the key ahead of an item -/
def keyT (obj : Bool) (s : List UInt8) (ks : List (List UInt8)) : Option (List (List UInt8) × Nat) :=
  if obj then (if beginsB s [34] then (match wordT (s.drop 1) [] 1 with
      | some (t, k) => if beginsB (s.drop k) [58] then some (ks ++ [t], k + 1) else none
      | none => none) else none) else some (ks, 0)
theorem loopT_succ (f : Nat) (obj : Bool) (s : List UInt8) (n : Nat) (ks : List (List UInt8)) (l : List V) : loopT (f + 1) obj s n ks l = (match keyT obj s ks with
    | none => (.mk (if obj then 6 else 5) 0 [] l ks, 0)
    | some (ks', j) =>
      match valueT f (s.drop j) with
      | (x, k) =>
        if k = 0 then (.mk (if obj then 6 else 5) 0 [] l ks', 0)
        else if beginsB (s.drop (j + k)) [if obj then 125 else 93] then (.mk (if obj then 6 else 5) 0 [] (l ++ [x]) ks', n + j + k + 1)
        else if beginsB (s.drop (j + k)) [44] then loopT f obj (s.drop (j + k + 1)) (n + j + k + 1) ks' (l ++ [x])
        else (.mk (if obj then 6 else 5) 0 [] (l ++ [x]) ks', 0)) := by
  conv => lhs; unfold loopT
  rfl
theorem readL (f : Nat) (hv : ReadV f) (hl : ReadL f) : ReadL (f + 1) := by
  intro obj s n ks l
  rw [loopT_succ]
  obtain ⟨K, hK⟩ : ∃ K, keyT obj s ks = K := ⟨_, rfl⟩
  rw [hK]
  unfold keyT at hK
  cases K with
  | none => exact ⟨Nat.zero_le _, fun h => absurd rfl h⟩
  | some y =>
    obtain ⟨ks', j⟩ := y
    have hj : j ≤ s.length ∧ kwts ks' ≤ kwts ks + j := by
      cases obj with
      | false =>
        rw [if_neg (by decide)] at hK
        injection hK with hK; injection hK with h1 h2
        subst h1; subst h2; exact ⟨Nat.zero_le _, Nat.le_refl _⟩
      | true =>
        rw [if_pos rfl] at hK
        by_cases hb : beginsB s [34] = true
        · rw [if_pos hb] at hK
          have h1 := begins_len hb
          cases hw : wordT (s.drop 1) [] 1 with
          | none => rw [hw] at hK; cases hK
          | some z =>
            obtain ⟨t, k⟩ := z
            rw [hw] at hK
            dsimp only at hK
            by_cases hc : beginsB (s.drop k) [58] = true
            · rw [if_pos hc] at hK
              injection hK with hK; injection hK with h3 h4
              subst h3; subst h4
              have h2 := wordT_le _ _ _ _ _ _ (Nat.le_refl _) hw
              have h5 := begins_len hc
              simp only [List.length_drop, List.length_nil, List.length_singleton, List.length_cons] at h1 h2 h5
              rw [kwts_snoc]
              omega
            · rw [if_neg hc] at hK; cases hK
        · rw [if_neg hb] at hK; cases hK
    dsimp only
    have h1 := hv (s.drop j)
    cases hvv : valueT f (s.drop j) with
    | mk x k =>
    rw [hvv] at h1
    dsimp only at h1 ⊢
    rw [List.length_drop] at h1
    by_cases hk : k = 0
    · rw [if_pos hk]; exact ⟨Nat.zero_le _, fun h => absurd rfl h⟩
    · rw [if_neg hk]
      have hw := h1.2 hk
      by_cases he : beginsB (s.drop (j + k)) [if obj then 125 else 93] = true
      · rw [if_pos he]
        have h5 := begins_len he
        rw [List.length_drop, List.length_singleton] at h5
        dsimp only
        rw [wt_mk, wts_snoc, List.length_nil]
        refine ⟨by omega, fun _ => by omega⟩
      · rw [if_neg he]
        by_cases hc : beginsB (s.drop (j + k)) [44] = true
        · rw [if_pos hc]
          have h5 := begins_len hc
          rw [List.length_drop, List.length_singleton] at h5
          have h2 := hl obj (s.drop (j + k + 1)) (n + j + k + 1) ks' (l ++ [x])
          rw [List.length_drop, wts_snoc] at h2
          refine ⟨by omega, fun h => ?_⟩
          have := h2.2 h
          omega
        · rw [if_neg hc]; exact ⟨Nat.zero_le _, fun h => absurd rfl h⟩
theorem readVs (f : Nat) (hl : ReadL f) : ReadV (f + 1) := by
  intro s
  unfold valueT
  by_cases h1 : beginsB s nullT = true
  · rw [if_pos h1]
    have := begins_len h1
    exact ⟨this, fun _ => by rw [wt_plain]; decide⟩
  rw [if_neg h1]
  by_cases h2 : beginsB s trueT = true
  · rw [if_pos h2]
    have := begins_len h2
    exact ⟨this, fun _ => by rw [wt_plain]; decide⟩
  rw [if_neg h2]
  by_cases h3 : beginsB s falseT = true
  · rw [if_pos h3]
    have := begins_len h3
    exact ⟨this, fun _ => by rw [wt_plain]; decide⟩
  rw [if_neg h3]
  by_cases h4 : beginsB s [34] = true
  · rw [if_pos h4]
    have h5 := begins_len h4
    cases hw : wordT (s.drop 1) [] 1 with
    | none => exact ⟨Nat.zero_le _, fun h => absurd rfl h⟩
    | some z =>
      obtain ⟨t, n⟩ := z
      have h6 := wordT_le _ _ _ _ _ _ (Nat.le_refl _) hw
      rw [List.length_drop, List.length_nil] at h6
      rw [List.length_singleton] at h5
      dsimp only
      rw [wt_plain]
      exact ⟨by omega, fun _ => by omega⟩
  rw [if_neg h4]
  by_cases h5 : beginsB s [91] = true
  · rw [if_pos h5]
    have h6 := begins_len h5
    rw [List.length_singleton] at h6
    by_cases h7 : beginsB (s.drop 1) [93] = true
    · rw [if_pos h7]
      have h8 := begins_len h7
      rw [List.length_drop, List.length_singleton] at h8
      exact ⟨by show 2 ≤ _; omega, fun _ => by rw [wt_plain]; decide⟩
    · rw [if_neg h7]
      have h9 := hl false (s.drop 1) 1 [] []
      rw [List.length_drop, wts_nil, kwts_nil] at h9
      exact ⟨by omega, fun h => by have := h9.2 h; omega⟩
  rw [if_neg h5]
  by_cases h5b : beginsB s [123] = true
  · rw [if_pos h5b]
    have h6 := begins_len h5b
    rw [List.length_singleton] at h6
    by_cases h7 : beginsB (s.drop 1) [125] = true
    · rw [if_pos h7]
      have h8 := begins_len h7
      rw [List.length_drop, List.length_singleton] at h8
      exact ⟨by show 2 ≤ _; omega, fun _ => by rw [wt_plain]; decide⟩
    · rw [if_neg h7]
      have h9 := hl true (s.drop 1) 1 [] []
      rw [List.length_drop, wts_nil, kwts_nil] at h9
      exact ⟨by omega, fun h => by have := h9.2 h; omega⟩
  rw [if_neg h5b]
  by_cases h6 : beginsB s [45] = true
  · rw [if_pos h6]
    have h7 := begins_len h6
    rw [List.length_singleton] at h7
    have h8 := numT_le (s.drop 1) 17 0 1
    rw [List.length_drop] at h8
    cases hn : numT (s.drop 1) 17 0 1 with
    | mk v n =>
    rw [hn] at h8
    dsimp only at h8 ⊢
    rw [wt_plain]
    exact ⟨by omega, fun h => by simp; omega⟩
  · rw [if_neg h6]
    have h8 := numT_le s 18 0 0
    cases hn : numT s 18 0 0 with
    | mk v n =>
    rw [hn] at h8
    dsimp only at h8 ⊢
    rw [wt_plain]
    exact ⟨by omega, fun h => by simp; omega⟩
theorem read_all : ∀ f, ReadV f ∧ ReadL f
  | 0 => ⟨fun s => by unfold valueT; exact ⟨Nat.zero_le _, fun h => absurd rfl h⟩, fun obj s n ks l => by unfold loopT; exact ⟨Nat.zero_le _, fun h => absurd rfl h⟩⟩
  | f + 1 => ⟨readVs f (read_all f).2, readL f (read_all f).1 (read_all f).2⟩
theorem quoteT_wt (t : List UInt8) : (quoteT t).length ≤ 6 * t.length + 1 := by
  induction t with
  | nil => unfold quoteT; simp
  | cons c r ih =>
    unfold quoteT
    have h : (quoteC c).length ≤ 6 := by
      unfold quoteC; split
      · simp
      · split
        · simp
        · simp
    rw [List.length_append, List.length_cons]; omega
theorem quoteJ_wt (t : List UInt8) : (quoteJ t).length ≤ 6 * t.length + 2 := by
  have := quoteT_wt t
  unfold quoteJ; rw [List.length_cons]; omega
theorem itemsMore_wt (l : List V) (h : ∀ v ∈ l, v.show.length + 1 ≤ 24 * v.wt) : (V.itemsMore l).length ≤ 24 * V.wts l := by
  induction l with
  | nil => rw [itemsMore_nil]; simp
  | cons v r ih =>
    rw [itemsMore_cons, wts_cons, List.length_cons, List.length_append]
    have h1 := h v (by simp)
    have h2 := ih (fun u hu => h u (by simp [hu]))
    omega
theorem pairsMore_wt (l : List V) : ∀ (ks : List (List UInt8)), ks.length = l.length → (∀ v ∈ l, v.show.length + 1 ≤ 24 * v.wt) → (V.pairsMore l ks).length ≤ 24 * (V.wts l + kwts ks) := by
  induction l with
  | nil => intro ks _ _; rw [pairsMore_nil]; simp
  | cons v r ih =>
    intro ks hk h
    match ks, hk with
    | k :: ks, hk =>
      rw [pairsMore_cons, wts_cons, kwts_cons]
      have h1 := h v (by simp)
      have h2 := ih ks (by simpa using hk) (fun u hu => h u (by simp [hu]))
      have h3 := quoteJ_wt k
      simp only [List.headD_cons, List.tail_cons, List.length_cons, List.length_append]
      omega
theorem show_wt : ∀ (m : Nat) (v : V), v.size ≤ m → v.good = true → v.show.length + 1 ≤ 24 * v.wt
  | 0, v, hm, _ => absurd (by obtain ⟨k, n, t, l, ks⟩ := v; rw [size_mk]; omega : 0 < v.size) (by omega)
  | m + 1, v, hm, hg => by
    obtain ⟨k, n, t, l, ks⟩ := v
    have hh := good_head hg
    have ih : ∀ v ∈ l, v.show.length + 1 ≤ 24 * v.wt := fun v hv => by
      obtain ⟨i, hi, rfl⟩ := List.mem_iff_getElem.1 hv
      exact show_wt m l[i] (by have := size_get (k := k) (n := n) (t := t) (ks := ks) i hi; omega) (good_item hg i hi)
    have hk := hh.kind
    rw [wt_mk]
    have hkk : k = 1 ∨ k = 2 ∨ k = 3 ∨ k = 4 ∨ k = 5 ∨ k = 6 := by omega
    rcases hkk with rfl | rfl | rfl | rfl | rfl | rfl
    · have e : (V.mk 1 n t l ks).show = nullT := by unfold V.show; rfl
      rw [e]; show 4 + 1 ≤ _; omega
    · have e : (V.mk 2 n t l ks).show = trueT ∨ (V.mk 2 n t l ks).show = falseT := by
        unfold V.show
        by_cases h : n = 1
        · left; simp [h]
        · right; simp [h]
      rcases e with e | e <;> rw [e]
      · show 4 + 1 ≤ _; omega
      · show 5 + 1 ≤ _; omega
    · have e : (V.mk 3 n t l ks).show = decI n := by unfold V.show; rfl
      have := decI_len n (hh.num rfl)
      have h2 : (decI n).length ≤ 17 := by
        unfold decI; split
        · rw [List.length_cons]; omega
        · omega
      rw [e]; omega
    · have e : (V.mk 4 n t l ks).show = quoteJ t := by unfold V.show; rfl
      have := quoteJ_wt t
      rw [e]; omega
    · rw [show_list]
      rw [List.length_cons, List.length_append, List.length_singleton]
      have h1 : (V.items l).length ≤ 24 * V.wts l := by
        cases l with
        | nil => rw [items_nil]; simp
        | cons v r =>
          have h2 := itemsMore_wt (v :: r) ih
          rw [itemsMore_cons, List.length_cons] at h2
          rw [items_cons]; omega
      omega
    · rw [show_object]
      rw [List.length_cons, List.length_append, List.length_singleton]
      have hkl := hh.keys rfl
      have h1 : (V.pairs l ks).length ≤ 24 * (V.wts l + kwts ks) := by
        cases l with
        | nil => rw [pairs_nil]; simp
        | cons v r =>
          have h2 := pairsMore_wt (v :: r) ks hkl ih
          rw [pairsMore_cons, List.length_cons] at h2
          rw [pairs_cons]; omega
      omega
end Go.Proofs.YtcbajbpdgmmaeaaDoor
