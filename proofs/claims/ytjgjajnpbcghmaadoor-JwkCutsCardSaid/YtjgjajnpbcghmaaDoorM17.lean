/- Texts merged by program, in build order: JwkParse, RefB64, JwkRef, LawJwk, LawJwkReads, LaidJson. -/
import Derived.Test.YtjgjajnpbcghmaaDoorM07
import Derived.Test.YtjgjajnpbcghmaaDoorM09
import Derived.Test.YtjgjajnpbcghmaaDoorM11
import Derived.Test.YtjgjajnpbcghmaaDoorM16
import Derived.Test.YtjgjajnpbcghmaaDoorM06
import Derived.Test.YtjgjajnpbcghmaaDoorM04
import Derived.Test.YtjgjajnpbcghmaaDoorM03
import Derived.Test.YtjgjajnpbcghmaaDoorM08
import Derived.Lib.LaidTab
import Derived.LaidMore
import Derived.LaidSub
import Derived.OpenShut
import Derived.ProofKit
import Derived.Stop.Joined
import Derived.Stop.LaidErr
namespace Go.Proofs.YtjgjajnpbcghmaaDoor
open Go.RowKit
set_option linter.unusedVariables false
set_option linter.unusedSimpArgs false

theorem Tryd.infoKeyJ : (Tryd.prog.info? 25).map (fun i => (i.zero, i.size, i.bytes)) = some (some (.agg #[.string ⟨#[]⟩, .string ⟨#[]⟩]), 2, 32) := by kernel_rfl
/-- what Parse answers -/
def SetSays (r : PL × Int) (w : World) (e : Ending) (w' : World) : Prop :=
  (∃ A c, e = .returned (.tuple #[.slice A r.1.length c, .int .i64 r.2]) ∧ r.1.length ≤ c ∧ Prs w' w'.heap.size A r.1) ∧ Below w.heap.size w w'
theorem row_reads {w : World} {B : Nat} {e : TypeId} {v : Value} {l : PL} (h : w.ownsRow B e 2 v l.length (pcells l)) : ∃ A c, v = .slice A l.length c ∧ l.length ≤ c ∧ Prs w w.heap.size A l := by
  rcases h.2 with ⟨rfl, h0⟩ | ⟨g, cap, cur, rfl, hB, hg, hc, _⟩
  · obtain rfl : l = [] := List.length_eq_zero_iff.1 h0
    exact ⟨none, 0, rfl, Nat.le_refl _, Prs.nil _ _ _⟩
  · obtain ⟨A, c, e, hp⟩ := own_reads h
    cases e
    exact ⟨_, _, rfl, hc, hp⟩
set_option maxRecDepth 100000 in
set_option maxHeartbeats 8000000 in
theorem parseKeys_any (s : List UInt8) (hs : s.length ≤ 9223372036854775807) (w : World) (hk : KitIn w.heap.size w) :
    Calls Tryd.prog 8 #[.string ⟨s.toArray⟩] w fun e w' => SetSays (setR s) w e w' := by
  obtain ⟨i0, hi, hz0, hz1, hz2⟩ := info_parts Tryd.infoKeyJ
  obtain ⟨R, hR⟩ : ∃ R, w.heap.size = R := ⟨_, rfl⟩
  have hpa := parse_any s hs w hk
  obtain ⟨S, hS⟩ : ∃ S : ByteArray, (⟨s.toArray⟩ : ByteArray) = S := ⟨_, rfl⟩
  by_cases hp : (parseV s).2 = 0
  · obtain ⟨hf, hsh, hsl⟩ := parseV_good hp
    have hcas : setR s = if setT (jwksOf (parseV s).1) = s then (jwksOf (parseV s).1, 0) else ([], 2) := by unfold setR; rw [if_pos hp]
    obtain ⟨v, hv⟩ : ∃ v, (parseV s).1 = v := ⟨_, rfl⟩
    rw [hp, hv] at hpa
    rw [hv] at hf hsh hcas
    have hvl : v.show.length ≤ 4096 := by rw [hsh]; exact hsl
    rw [hcas]
    have hkl := keysOf_len hf
    have hkb := keysOf_le hf
    obtain ⟨hil, hie⟩ := listD_fits (key := wKeys) hf
    have hko : jwksOf v = ((fieldV wKeys v).getD V.zero).list.map jwkOf := rfl
    have hfd := fun (W : World) (L N : Nat) (cs : List Value) (h : VIs W L N v cs) (hN : N ≤ W.heap.size) => field_any v wKeys W L N cs (fits_slim 8 v hf) (Nat.le_trans (fits_depth hf) (by decide)) h hN
    obtain ⟨u, hu⟩ : ∃ u, (fieldV wKeys v).getD V.zero = u := ⟨_, rfl⟩
    obtain ⟨fo, hfo⟩ : ∃ b, (fieldV wKeys v).isSome = b := ⟨_, rfl⟩
    rw [hu] at hil hie hko
    rw [hu, hfo] at hfd
    have hkey := fun (x : V) (hx : x ∈ u.list) (W : World) (L N : Nat) (cs : List Value) (h : VIs W L N x cs) (hN : N ≤ W.heap.size) => jwkOf_any x W L N cs (hie x hx).1 (Nat.le_trans (hie x hx).2 hvl) h hN
    have hprt := fun (A : Option Addr) (c : Nat) (l : PL) (hl : l = jwksOf v) (hc : l.length ≤ c) (W : World) (h : Prs W W.heap.size A l) (ht : TabIn W.heap.size W) => printKeys_any A c l hc (by rw [hl]; unfold maxLen; omega) (fun p hp => by
      have := hkb p (by rw [← hl]; exact List.mem_of_mem_take hp); omega) W h ht
    obtain ⟨q, hq⟩ : ∃ q, u.list = q := ⟨_, rfl⟩
    obtain ⟨n, hn⟩ : ∃ n, q.length = n := ⟨_, rfl⟩
    have hform := fun (W : World) (L N : Nat) (cs : List Value) (h : VIs W L N u cs) => by
      have := h.form
      rw [hq, hn] at this
      exact this
    have hitem : ∀ (W : World) (L N : Nat) (a b t : Value) (A : Option Addr) (c : Nat) (y : Value), VIs W L N u [a, b, t, .slice A n c, y] → ∀ (i : Nat), i < n → ∃ p o x, A = some ⟨p, o, none⟩ ∧ p < N ∧ q[i]? = some x ∧ x ∈ u.list ∧ ∃ xs, Five W p (o + i * 5) xs ∧ VIs W L N x xs := fun W L N a b t A c y h i hi => by
      obtain ⟨uk, un, ut, ul, us⟩ := u
      obtain rfl : ul = q := hq
      obtain ⟨-, A1, c1, A2, c2, e, -, h2⟩ := h.out
      injection e with e1 e; injection e with e2 e; injection e with e3 e; injection e with e4 e
      injection e4 with e4 e5 e6
      subst e4
      obtain ⟨p, o, rfl, _, hpN, xs, h5, hx⟩ := VIs.item h2 i (by omega)
      exact ⟨p, o, ul[i]'(by omega), rfl, hpN, List.getElem?_eq_getElem _, List.getElem_mem _, xs, h5, hx⟩
    have htk : (q.take n).map jwkOf = jwksOf v := by rw [hko, hq, ← hn, List.take_length]
    have hn64 : n ≤ 64 := by rw [← hn, ← hq]; exact hil
    rw [hS] at hpa ⊢
    obtain ⟨KO, hKO⟩ : ∃ K, jwksOf v = K := ⟨_, rfl⟩
    rw [hKO] at hprt htk ⊢
    have HPA := Lib.hid hpa
    have HFD : Hid (∀ (W : World) (L N : Nat) (cs : List Value), VIs W L N v cs → N ≤ W.heap.size → Calls Tryd.prog 14 #[.agg cs.toArray, .string ⟨#[107, 101, 121, 115]⟩] W fun e w' => (∃ ds, e = .returned (.tuple #[.agg ds.toArray, .bool fo]) ∧ VIs w' W.heap.size w'.heap.size u ds ∧ Thaw w' W.heap.size ds u.list.length) ∧ Below W.heap.size W w') := Lib.hid hfd
    have HKEY := Lib.hid hkey; have HPRT := Lib.hid hprt; have HFORM := Lib.hid hform; have HITEM := Lib.hid hitem; have HTK := Lib.hid htk; have HR := Lib.hid hR; have HK := Lib.hid hk; have HN := Lib.hid hn; have HS := Lib.hid hS; have HVF := Lib.hid (fun W L N cs (h : VIs W L N v cs) => h.form)
    clear hpa hfd hkey hprt hform hitem htk hR hk hcas hko hil hie hkl hkb hf hsh hvl hv hu hfo hq hn hKO hp hS hsl
    go_enter Tryd.func8, Tryd.ntmps8
    go_wp2_with fail
    refine HPA.out.mono ?_
    rintro e w1 ⟨⟨cs, rfl, hv1⟩, hb1⟩
    obtain ⟨a1, a2, a3, a4, rfl⟩ := HVF.out _ _ _ _ hv1
    obtain ⟨vk, hvk⟩ : ∃ z, v.kind = z := ⟨_, rfl⟩
    obtain ⟨vn, hvn⟩ : ∃ z, v.num = z := ⟨_, rfl⟩
    obtain ⟨vt, hvt⟩ : ∃ z : ByteArray, (⟨v.text.toArray⟩ : ByteArray) = z := ⟨_, rfl⟩
    obtain ⟨vl, hvl⟩ : ∃ z, v.list.length = z := ⟨_, rfl⟩
    obtain ⟨vs, hvs⟩ : ∃ z, v.keys.length = z := ⟨_, rfl⟩
    rw [hvk, hvn, hvt, hvl, hvs] at hv1 ⊢
    clear hvk hvn hvt hvl hvs HVF
    have g1 := (Below.refl w1.heap.size w1).alloc (Nat.le_refl _) (.cells #[.int .i64 vk, .int .i64 vn, .string vt, .slice a1 vl a2, .slice a3 vs a4] 34)
    have hv2 := hv1.below g1
    have g0 := hb1.trans (g1.mono hb1.size)
    have G0 := Lib.hid g0; have G1 := Lib.hid g1; have HV2 := Lib.hid hv2
    clear g1 g0 hv2 hv1 hb1
    dsimp only
    go_wp2_with fail
    refine (HFD.out _ _ _ _ HV2.out (by simp)).mono ?_
    rintro e w2 ⟨⟨ds, rfl, hu2, -⟩, hb2⟩
    obtain ⟨b1, b2, b3, b4, rfl⟩ := HFORM.out _ _ _ _ hu2
    obtain ⟨uk, huk⟩ : ∃ z, u.kind = z := ⟨_, rfl⟩
    obtain ⟨un, hun⟩ : ∃ z, u.num = z := ⟨_, rfl⟩
    obtain ⟨ut, hut⟩ : ∃ z : ByteArray, (⟨u.text.toArray⟩ : ByteArray) = z := ⟨_, rfl⟩
    obtain ⟨us, hus⟩ : ∃ z, u.keys.length = z := ⟨_, rfl⟩
    rw [huk, hun, hut, hus] at hu2 ⊢
    clear huk hun hut hus HFORM
    have h12 := G0.out.trans (hb2.mono G0.out.size)
    obtain ⟨w3, hw3⟩ : ∃ w3, w3 = w2.alloc (.cells #[.int .i64 uk, .int .i64 un, .string ut, .slice b1 n b2, .slice b3 us b4] 34) := ⟨_, rfl⟩
    have g3 : Below w2.heap.size w2 w3 := by rw [hw3]; exact (Below.refl _ _).alloc (Nat.le_refl _) _
    have z3 : w3.heap.size = w2.heap.size + 1 := by rw [hw3]; simp
    have hu3 := hu2.below g3
    have k3 : w3.heap[w2.heap.size]? = some (.cells #[.int .i64 uk, .int .i64 un, .string ut, .slice b1 n b2, .slice b3 us b4] 34 (0, 0)) := by rw [hw3]; exact heap_alloc_last w2 _
    have l3 : w3.cell? ⟨w2.heap.size, 3, none⟩ = some (.slice b1 n b2) := cell_here k3
    have h13 := h12.trans (g3.mono (Nat.le_trans G0.out.size hb2.size))
    have HU3 := Lib.hid hu3; have H13 := Lib.hid h13; have HW3 := Lib.hid hw3; have Z3 := Lib.hid z3
    clear hu3 h13 h12 hw3 g3 k3 hb2 hu2 z3
    dsimp only
    have hn0 : (0 : Int) ≤ n := by omega
    go_wp2_with (rw [← HW3.out])
    go_loopw [8, 27] (fun sv i wr => ∃ k : Nat, k ≤ n ∧ i = .int .i64 k ∧ wr.ownsRow w3.heap.size 25 2 sv ((q.take k).map jwkOf).length (pcells ((q.take k).map jwkOf)) ∧ Below w3.heap.size w3 wr) (fun _ i _ => n - (intOf i).toNat)
    case atStart => exact ⟨0, Nat.zero_le _, rfl, World.ownsRow_nil _ _ _ _, Below.refl _ _⟩
    case round =>
      obtain ⟨k, hkn, rfl, hown, hbw⟩ := hrel
      obtain ⟨LA, lc, rfl⟩ := own_form hown
      have hsz := hbw.size
      by_cases hlt : k < n
      · obtain ⟨p, o, x, rfl, hpN, hqk, hxu, xs, hx5, hxv⟩ := HITEM.out _ _ _ _ _ _ _ _ _ HU3.out k hlt
        obtain ⟨d1, d2, d3, d4, rfl⟩ := hxv.form
        have hz3 := Z3.out
        obtain ⟨c0, c1, c2, c3, c4, ec, m0, m1, m2, m3, m4⟩ := hx5.keep (N := w3.heap.size) (w' := wr) (by omega) fun z hz => hbw.cell hz
        injection ec with ec0 ec; injection ec with ec1 ec; injection ec with ec2 ec; injection ec with ec3 ec; injection ec with ec4 ec
        subst ec0; subst ec1; subst ec2; subst ec3; subst ec4
        have hxr := hxv.below (hbw.mono (by omega : w2.heap.size ≤ w3.heap.size))
        have hkx := HKEY.out x hxu
        have hqt : (q.take (k + 1)).map jwkOf = (q.take k).map jwkOf ++ [jwkOf x] := by rw [List.take_add_one, hqk, List.map_append]; rfl
        have hlk : ((q.take k).map jwkOf).length = k := by
          have := (List.getElem?_eq_some_iff.1 hqk).1
          rw [List.length_map, List.length_take]; omega
        obtain ⟨xk, hxk⟩ : ∃ z, x.kind = z := ⟨_, rfl⟩
        obtain ⟨xn, hxn⟩ : ∃ z, x.num = z := ⟨_, rfl⟩
        obtain ⟨xt, hxt⟩ : ∃ z : ByteArray, (⟨x.text.toArray⟩ : ByteArray) = z := ⟨_, rfl⟩
        obtain ⟨xl, hxl⟩ : ∃ z, x.list.length = z := ⟨_, rfl⟩
        obtain ⟨xs, hxs⟩ : ∃ z, x.keys.length = z := ⟨_, rfl⟩
        rw [hxk, hxn, hxt, hxl, hxs] at hxr
        rw [hxk] at m0
        rw [hxn] at m1
        rw [hxt] at m2
        rw [hxl] at m3
        rw [hxs] at m4
        obtain ⟨T, hT⟩ : ∃ T, (q.take k).map jwkOf = T := ⟨_, rfl⟩
        rw [hT] at hown hqt hlk ⊢
        obtain ⟨KX, hKX⟩ : ∃ K, jwkOf x = K := ⟨_, rfl⟩
        rw [hKX] at hkx hqt
        obtain ⟨ka, kb⟩ := KX
        dsimp only at hkx
        obtain ⟨KA, hKA⟩ : ∃ K : ByteArray, (⟨ka.toArray⟩ : ByteArray) = K := ⟨_, rfl⟩
        obtain ⟨KB, hKB⟩ : ∃ K : ByteArray, (⟨kb.toArray⟩ : ByteArray) = K := ⟨_, rfl⟩
        rw [hKA, hKB] at hkx
        have hpc : pcells T ++ [Value.string KA, .string KB] = pcells (T ++ [(ka, kb)]) := by rw [pcells_snoc, hKA, hKB]
        have gX := (Below.refl wr.heap.size wr).alloc (Nat.le_refl _) (.cells #[.int .i64 xk, .int .i64 xn, .string xt, .slice d1 xl d2, .slice d3 xs d4] 34)
        have hxr2 := hxr.below (gX.mono (by omega))
        have hcall := hkx _ _ _ _ hxr2 (by simp; omega)
        have HCALL := Lib.hid hcall; have HQT := Lib.hid hqt; have HLK := Lib.hid hlk; have HOWN := Lib.hid hown; have HPC := Lib.hid hpc; have GX := Lib.hid gX
        have hk0 : (0 : Int) ≤ k := by omega
        have hk1 : (k : Int) < n := by omega
        clear hkx hqt hlk hown hpc gX hcall hxr hxr2 hxv hx5 hqk hxu hxk hxn hxt hxl hxs hT hKX hKA hKB
        go_wp2_with fail
        refine HCALL.out.mono ?_
        rintro e w4 ⟨rfl, hb4⟩
        have g4 := GX.out.chain hb4
        have G4 := Lib.hid g4; clear g4 hb4 m0 m1 m2 m3 m4
        dsimp only
        go_wp2_with (at_builtin; refine wpList_append_opt rfl (.tmp 31) (.tmp 34) 22 rfl w3.heap.size 25 i0 _ 2 32 Tryd.underlying22 hi hz0 hz1 hz2 rfl (by decide) _ T.length (pcells T) rfl (own_below HOWN.out (G4.out.alloc G4.out.size _)) (some ⟨w4.heap.size, 0, none⟩) 1 1 [.string KA, .string KB] rfl rfl (.inr ⟨_, rfl, new_cells _ #[_, _] _⟩) (by intro u hu; simp at hu; rcases hu with rfl | rfl <;> rfl) (by rw [HLK.out]; unfold maxLen; omega) (by rw [HLK.out]; omega) (by have := G4.out.size; simp; omega) ?_; intro v5 w5 hown5 hgrow5 hat5)
        rw [HPC.out] at hown5
        have hb5 : Below w3.heap.size w3 w5 := ((hbw.trans (G4.out.mono (by omega))).alloc (by have := G4.out.size; omega) _).grown hgrow5 (by have := G4.out.size; simp; omega) (fun j hj => (HOWN.out.lt j hj).1)
        have hlk := HLK.out
        have hown6 : w5.ownsRow w3.heap.size 25 2 v5 ((q.take (k + 1)).map jwkOf).length (pcells ((q.take (k + 1)).map jwkOf)) := by
          rw [HQT.out, List.length_append, List.length_singleton]; exact hown5
        exact ⟨⟨k + 1, by omega, by go_num, hown6, hb5⟩, by simp [intOf]; omega⟩
      · obtain rfl : k = n := by omega
        rw [HTK.out] at hown ⊢
        obtain ⟨A, c, e, hc, hp⟩ := row_reads hown
        cases e
        have hw := H13.out.trans (hbw.mono H13.out.size)
        have hcall := HPRT.out LA lc KO rfl hc wr hp ((HK.out.toTab.below hw).more hw.size)
        obtain ⟨t, ht⟩ : ∃ t, KO.length = t := ⟨_, rfl⟩
        obtain ⟨P, hP⟩ : ∃ P : ByteArray, (⟨(setT KO).toArray⟩ : ByteArray) = P := ⟨_, rfl⟩
        rw [ht, hP] at hcall
        rw [ht]
        by_cases heq : setT KO = s
        · have hPS : P = S := by rw [← hP, heq, HS.out]
          subst hPS
          have HCALL := Lib.hid hcall; have HW := Lib.hid hw; have HPP := Lib.hid hp; have HC := Lib.hid hc; have HT := Lib.hid ht
          clear hcall hw hp hown hbw hc ht hP
          go_wp2_with fail
          refine HCALL.out.mono ?_
          rintro e w4 ⟨rfl, hb4⟩
          have HB4 := Lib.hid hb4; clear hb4
          dsimp only
          go_wp2
          go_ret2
          exact ⟨⟨LA, lc, by rw [HT.out]; rfl, HC.out, (HPP.out.below HB4.out).more HB4.out.size⟩, HW.out.chain HB4.out⟩
        · have hPN : P ≠ S := fun e => heq (str_inj (by rw [hP, e, HS.out]))
          have hPS : (!P.toList == S.toList) = true := by rw [← hP, ← HS.out, ba_list, ba_list]; simpa using heq
          have HCALL := Lib.hid hcall; have HW := Lib.hid hw
          clear hcall hw hp hown hbw hc ht hP
          go_wp2_with fail
          refine HCALL.out.mono ?_
          rintro e w4 ⟨rfl, hb4⟩
          have HB4 := Lib.hid hb4; clear hb4
          dsimp only
          go_wp2
          go_ret2
          exact ⟨⟨none, 0, rfl, Nat.le_refl _, Prs.nil _ _ _⟩, HW.out.chain HB4.out⟩
  · rw [setR_bad hp]
    obtain ⟨v, hv⟩ : ∃ v, (parseV s).1 = v := ⟨_, rfl⟩
    obtain ⟨er, her⟩ : ∃ z, (parseV s).2 = z := ⟨_, rfl⟩
    rw [hv, her] at hpa
    rw [her] at hp ⊢
    rw [hS] at hpa ⊢
    have hne : (er != 0) = true := by simpa using hp
    have HPA := Lib.hid hpa; have HVF := Lib.hid (fun W L N cs (h : VIs W L N v cs) => h.form)
    clear hpa hS hk hR hv her
    go_enter Tryd.func8, Tryd.ntmps8
    go_wp2_with fail
    refine HPA.out.mono ?_
    rintro e w1 ⟨⟨cs, rfl, hv1⟩, hb1⟩
    obtain ⟨a1, a2, a3, a4, rfl⟩ := HVF.out _ _ _ _ hv1
    have HB1 := Lib.hid hb1; clear hb1 hv1 HVF
    dsimp only
    go_wp2_with fail
    go_ret2
    exact ⟨⟨none, 0, rfl, Nat.le_refl _, Prs.nil _ _ _⟩, HB1.out.alloc HB1.out.size _⟩
end Go.Proofs.YtjgjajnpbcghmaaDoor
namespace Go.Proofs.YtjgjajnpbcghmaaDoor
open Go.RowKit

def ltrI (n : Int) : Int := ((ltr n.toNat).toNat : Int)
theorem ltrI_of {n : Int} {m : Nat} (h : n = m) : ltrI n = ((ltr m).toNat : Int) := by subst h; rfl
theorem sixtyI_any (n : Int) (h0 : 0 ≤ n) (h1 : n < 64) (w : World) :
    Calls Tryd.prog 32 #[.int .i64 n] w fun e w' => e = .returned (.int .u8 (ltrI n)) ∧ w = w' := sixty_any n h0 h1 w
def RefAt (l : List UInt8) (k : Nat) (acc : List UInt8) : Prop := enc l = acc ++ enc (l.drop k)

theorem refAt_end {l acc : List UInt8} {k : Nat} (h : RefAt l k acc) (hk : l.length ≤ k) : acc = enc l := by
  unfold RefAt at h; rw [h, List.drop_eq_nil_of_le hk]; simp [enc]
theorem refAt_3 {l acc : List UInt8} {k : Nat} (h : RefAt l k acc) (hk : k + 2 < l.length) : RefAt l (k + 3) (acc ++ chunk (l[k].toNat * 65536 + l[k + 1].toNat * 256 + l[k + 2].toNat)) := by
  unfold RefAt at h ⊢
  rw [h, List.drop_eq_getElem_cons (show k < l.length by omega), List.drop_eq_getElem_cons (show k + 1 < l.length by omega), List.drop_eq_getElem_cons (show k + 2 < l.length by omega), enc, List.append_assoc]
theorem refAt_2 {l acc : List UInt8} {k : Nat} (h : RefAt l k acc) (hk : k + 2 = l.length) : RefAt l (k + 3) (acc ++ (chunk (l[k].toNat * 65536 + l[k + 1].toNat * 256)).take 3) := by
  unfold RefAt at h ⊢
  rw [h, List.drop_eq_getElem_cons (show k < l.length by omega), List.drop_eq_getElem_cons (show k + 1 < l.length by omega), List.drop_eq_nil_of_le (show l.length ≤ k + 1 + 1 by omega), List.drop_eq_nil_of_le (show l.length ≤ k + 3 by omega)]
  simp [enc]
theorem refAt_1 {l acc : List UInt8} {k : Nat} (h : RefAt l k acc) (hk : k + 1 = l.length) : RefAt l (k + 3) (acc ++ (chunk (l[k].toNat * 65536)).take 2) := by
  unfold RefAt at h ⊢
  rw [h, List.drop_eq_getElem_cons (show k < l.length by omega), List.drop_eq_nil_of_le (show l.length ≤ k + 1 by omega), List.drop_eq_nil_of_le (show l.length ≤ k + 3 by omega)]
  simp [enc]

theorem four_ltr (l : List UInt8) (V : Nat) (v : Int) (h : v = V) : cells l ++ [Value.int .u8 (ltrI (v / 262144)), .int .u8 (ltrI (v / 4096 % 64)), .int .u8 (ltrI (v / 64 % 64)), .int .u8 (ltrI (v % 64))] = cells (l ++ chunk V) := by
  subst h
  rw [cells_app, ltrI_of (m := V / 262144) (by omega), ltrI_of (m := V / 4096 % 64) (by omega), ltrI_of (m := V / 64 % 64) (by omega), ltrI_of (m := V % 64) (by omega)]; rfl
theorem three_ltr (l : List UInt8) (V : Nat) (v : Int) (h : v = V) : cells l ++ [Value.int .u8 (ltrI (v / 262144)), .int .u8 (ltrI (v / 4096 % 64)), .int .u8 (ltrI (v / 64 % 64))] = cells (l ++ (chunk V).take 3) := by
  subst h
  rw [cells_app, ltrI_of (m := V / 262144) (by omega), ltrI_of (m := V / 4096 % 64) (by omega), ltrI_of (m := V / 64 % 64) (by omega)]; rfl
theorem two_ltr (l : List UInt8) (V : Nat) (v : Int) (h : v = V) : cells l ++ [Value.int .u8 (ltrI (v / 262144)), .int .u8 (ltrI (v / 4096 % 64))] = cells (l ++ (chunk V).take 2) := by
  subst h
  rw [cells_app, ltrI_of (m := V / 262144) (by omega), ltrI_of (m := V / 4096 % 64) (by omega)]; rfl

set_option maxHeartbeats 1000000 in
set_option maxRecDepth 100000 in
theorem refB64_any (s : ByteArray) (hs : s.size ≤ 46912496117759) (w : World) :
    Calls Tryd.prog 17 #[.string s] w fun e w' => e = .returned (.string ⟨(enc s.data.toList).toArray⟩) ∧ Below w.heap.size w w' := by
  obtain ⟨i0, hi, hz0, hz1, hz2⟩ := info_parts Tryd.infoByte
  go_enter Tryd.func17, Tryd.ntmps17
  go_wp2
  go_loopw [3, 4] (fun v i wr => ∃ (k : Nat) (acc : List UInt8), k ≤ s.size + 2 ∧ i = .int .i64 k ∧ Buf wr w.heap.size v acc ∧ acc.length ≤ 2 * k ∧ RefAt s.data.toList k acc ∧ Below w.heap.size w wr) (fun _ i _ => s.size - (intOf i).toNat)
  case atStart => exact ⟨0, [], Nat.zero_le _, rfl, World.ownsRow_nil _ _ _ _, Nat.zero_le _, rfl, Below.refl _ _⟩
  case round =>
    obtain ⟨k, acc, hk, rfl, hown, hal, hat, hb⟩ := hrel
    have HA := Lib.hid hat; clear hat
    have hbs := hb.size
    by_cases hlt : k < s.size
    · by_cases h3 : k + 2 < s.size
      · have ha := s[k].toNat_lt
        have hb' := s[k + 1].toNat_lt
        have hc := s[k + 2].toNat_lt
        go_wp2
        refine wp_loop_rounds 4 ?_
        rw [rounds_succ]
        go_wp2
        rw [rounds_succ]
        go_wp2
        rw [rounds_succ]
        go_wp2
        rw [rounds_succ]
        go_wp2_with (first
          | (go_at_call 32; refine (sixtyI_any _ (by omega) (by omega) _).mono ?_; rintro e w' ⟨rfl, rfl⟩)
          | (at_builtin; refine wpList_append_own _ rfl (.tmp 52) (.tmp 56) 39 rfl w.heap.size 5 i0 _ 1 1 Tryd.underlying39 hi hz0 hz1 hz2 rfl (by decide) _ _ _ rfl (World.ownsRow.alloc hown _) ⟨_, 0, none⟩ 4 4 [.int .u8 _, .int .u8 _, .int .u8 _, .int .u8 _] rfl rfl (new_cells_take _ #[_, _, _, _] _ 4) (four_cells _ _ _ _) (by unfold maxLen; omega) (by omega) (by simp; omega) ?_))
        intro v' w1 hown' hg' _
        have hb1 : Below w.heap.size w w1 := (hb.alloc hbs _).grown hg' (by simp; omega) (fun j hj => (hown.lt j hj).1)
        go_wp2
        go_roundw
        case rel => exact ⟨k + 3, _, by omega, by go_num, Buf.cut hown' (by simp [chunk]) (four_ltr _ (s[k].toNat * 65536 + s[k + 1].toNat * 256 + s[k + 2].toNat) _ (by omega)), by simp [chunk]; omega, refAt_3 HA.out h3, hb1⟩
        case measure => simp [intOf]; omega
      · by_cases h2 : k + 1 < s.size
        · have ha := s[k].toNat_lt
          have hb' := s[k + 1].toNat_lt
          go_wp2
          refine wp_loop_rounds 4 ?_
          rw [rounds_succ]
          go_wp2
          rw [rounds_succ]
          go_wp2
          rw [rounds_succ]
          go_wp2
          rw [rounds_succ]
          go_wp2_with (first
            | (go_at_call 32; refine (sixtyI_any _ (by omega) (by omega) _).mono ?_; rintro e w' ⟨rfl, rfl⟩)
            | (at_builtin; refine wpList_append_own _ rfl (.tmp 52) (.tmp 56) 39 rfl w.heap.size 5 i0 _ 1 1 Tryd.underlying39 hi hz0 hz1 hz2 rfl (by decide) _ _ _ rfl (World.ownsRow.alloc hown _) ⟨_, 0, none⟩ 3 4 [.int .u8 _, .int .u8 _, .int .u8 _] rfl rfl (new_cells_take _ #[_, _, _, _] _ 3) (three_cells _ _ _) (by unfold maxLen; omega) (by omega) (by simp; omega) ?_))
          intro v' w1 hown' hg' _
          have hb1 : Below w.heap.size w w1 := (hb.alloc hbs _).grown hg' (by simp; omega) (fun j hj => (hown.lt j hj).1)
          go_wp2
          go_roundw
          case rel => exact ⟨k + 3, _, by omega, by go_num, Buf.cut hown' (by simp [chunk]) (three_ltr _ (s[k].toNat * 65536 + s[k + 1].toNat * 256) _ (by omega)), by simp [chunk]; omega, refAt_2 HA.out (by show _ = s.size; omega), hb1⟩
          case measure => simp [intOf]; omega
        · have ha := s[k].toNat_lt
          go_wp2
          refine wp_loop_rounds 4 ?_
          rw [rounds_succ]
          go_wp2
          rw [rounds_succ]
          go_wp2
          rw [rounds_succ]
          go_wp2
          rw [rounds_succ]
          go_wp2_with (first
            | (go_at_call 32; refine (sixtyI_any _ (by omega) (by omega) _).mono ?_; rintro e w' ⟨rfl, rfl⟩)
            | (at_builtin; refine wpList_append_own _ rfl (.tmp 52) (.tmp 56) 39 rfl w.heap.size 5 i0 _ 1 1 Tryd.underlying39 hi hz0 hz1 hz2 rfl (by decide) _ _ _ rfl (World.ownsRow.alloc hown _) ⟨_, 0, none⟩ 2 4 [.int .u8 _, .int .u8 _] rfl rfl (new_cells_take _ #[_, _, _, _] _ 2) (two_cells _ _) (by unfold maxLen; omega) (by omega) (by simp; omega) ?_))
          intro v' w1 hown' hg' _
          have hb1 : Below w.heap.size w w1 := (hb.alloc hbs _).grown hg' (by simp; omega) (fun j hj => (hown.lt j hj).1)
          go_wp2
          go_roundw
          case rel => exact ⟨k + 3, _, by omega, by go_num, Buf.cut hown' (by simp [chunk]) (two_ltr _ (s[k].toNat * 65536) _ (by omega)), by simp [chunk]; omega, refAt_1 HA.out (by show _ = s.size; omega), hb1⟩
          case measure => simp [intOf]; omega
    · have hcv := hown.text
      go_wp2
      go_ret
      exact ⟨ret_str (refAt_end HA.out (by show s.size ≤ k; omega)), hb⟩
end Go.Proofs.YtjgjajnpbcghmaaDoor
namespace Go.Proofs.YtjgjajnpbcghmaaDoor
open Go.RowKit
set_option linter.unusedVariables false
set_option linter.unusedSimpArgs false

theorem barr_size (l : List UInt8) : (⟨l.toArray⟩ : ByteArray).size = l.length := by show l.toArray.size = _; simp
theorem barr_app (a b : List UInt8) : (⟨(a ++ b).toArray⟩ : ByteArray) = ⟨a.toArray⟩ ++ ⟨b.toArray⟩ := by apply ByteArray.ext; simp
set_option maxRecDepth 100000 in
set_option maxHeartbeats 8000000 in
theorem refKeys_any (A : Option Addr) (c : Nat) (l : PL) (hl : l.length ≤ 9223372036854775807) (hz : ∀ p ∈ l.take 64, p.1.length ≤ 1000000000 ∧ p.2.length ≤ 1000000000) (w : World) (hp : Prs w w.heap.size A l) :
    Calls Tryd.prog 9 #[.slice A l.length c] w fun e w' => e = .returned (.string ⟨(setT l).toArray⟩) ∧ Below w.heap.size w w' := by
  obtain ⟨n, hn⟩ : ∃ n, l.length = n := ⟨_, rfl⟩
  have hit : ∀ k, k ≤ n → k ≤ 64 → (itemsT (l.take k)).length ≤ 600000000000 := fun k h1 h2 => by
    have h3 := itemsT_le (M := 9000000000) (l := l.take k) fun p hp => by
      have h4 := jkT_le p
      have h5 := hz p (by
        have e : l.take k = (l.take 64).take k := by rw [List.take_take, Nat.min_eq_left h2]
        rw [e] at hp; exact List.mem_of_mem_take hp)
      omega
    have h6 : (l.take k).length ≤ 64 := by rw [List.length_take]; omega
    have h7 := Nat.mul_le_mul_right (9000000000 + 1) h6
    omega
  have hpt : ∀ (k : Nat) (hk : k < n) (W : World), Below w.heap.size w W → ∃ a p, A = some a ∧ l[k]? = some p ∧ W.cell? (a.add (k * 2)) = some (.string ⟨p.1.toArray⟩) ∧ W.cell? ⟨(a.add (k * 2)).block, (a.add (k * 2)).off + 1, none⟩ = some (.string ⟨p.2.toArray⟩) ∧ a.block < w.heap.size := fun k hk W hb => by
    obtain ⟨a, ha, hab, q1, q2⟩ := (hp.below hb) k (by omega)
    exact ⟨a, l[k]'(by omega), ha, List.getElem?_eq_getElem _, q1, q2, hab⟩
  have hzk : ∀ (k : Nat) (p : List UInt8 × List UInt8), l[k]? = some p → k < 64 → p.1.length ≤ 1000000000 ∧ p.2.length ≤ 1000000000 := fun k p hk h => hz p (List.mem_of_getElem? (i := k) (by rw [List.getElem?_take_of_lt h]; exact hk))
  have hsn : ∀ (k : Nat) (p : List UInt8 × List UInt8), l[k]? = some p → itemsT (l.take (k + 1)) = itemsT (l.take k) ++ (if 0 < k then [44] else []) ++ jkT p := fun k p hk => by
    have hkl := (List.getElem?_eq_some_iff.1 hk).1
    rw [List.take_add_one, hk]
    by_cases h0 : 0 < k
    · rw [if_pos h0]; exact itemsT_snoc _ _ (by rw [List.length_take]; omega)
    · obtain rfl : k = 0 := by omega
      rw [if_neg h0]
      show itemsT [p] = itemsT [] ++ [] ++ jkT p
      rw [itemsT_one, itemsT_nil]; rfl
  have hdone : ∀ k, k = min n 64 → setFront ++ itemsT (l.take k) ++ [93, 125] = setT l := fun k hk => by
    rw [setT_is, hk]
    congr 3
    rw [← hn]
    rcases Nat.le_total l.length 64 with h | h
    · rw [Nat.min_eq_left h, List.take_length, List.take_of_length_le h]
    · rw [Nat.min_eq_right h]
  rw [hn] at hl ⊢
  have HIT := Lib.hid hit; have HPT := Lib.hid hpt; have HZK := Lib.hid hzk; have HSN := Lib.hid hsn; have HD := Lib.hid hdone
  clear hit hpt hzk hsn hdone hp hz hn
  go_enter Tryd.func9, Tryd.ntmps9
  go_wp2_with fail
  go_loopw [3, 4] (fun out i wr => ∃ k : Nat, k ≤ n ∧ k ≤ 64 ∧ i = .int .i64 k ∧ out = .string ⟨(itemsT (l.take k)).toArray⟩ ∧ Below w.heap.size w wr) (fun _ i _ => 64 - (intOf i).toNat)
  case atStart => exact ⟨0, Nat.zero_le _, by decide, rfl, by rw [List.take_zero, itemsT_nil], Below.refl _ _⟩
  case round =>
    obtain ⟨k, hkn, hk64, rfl, rfl, hbw⟩ := hrel
    have hk0 : (0 : Int) ≤ k := by omega
    have hsz := hbw.size
    obtain ⟨O, hO⟩ : ∃ O : ByteArray, (⟨(itemsT (l.take k)).toArray⟩ : ByteArray) = O := ⟨_, rfl⟩
    have zO : O.size ≤ 600000000000 := by rw [← hO, barr_size]; exact HIT.out k hkn hk64
    by_cases hlt : k < n ∧ k < 64
    · obtain ⟨hln, hl64⟩ := hlt
      obtain ⟨a, p, rfl, hlk, c0, c1, hab⟩ := HPT.out k hln wr hbw
      obtain ⟨z1, z2⟩ := HZK.out k p hlk hl64
      have hs2 := HSN.out k p hlk
      have t1 : decide ((k : Int) < (n : Int)) = true := by simp; omega
      have t2 : decide ((k : Int) < 64) = true := by simp; omega
      obtain ⟨ID, hID⟩ : ∃ D : ByteArray, (⟨p.1.toArray⟩ : ByteArray) = D := ⟨_, rfl⟩
      obtain ⟨SEC, hSEC⟩ : ∃ D : ByteArray, (⟨p.2.toArray⟩ : ByteArray) = D := ⟨_, rfl⟩
      have zID : ID.size ≤ 1000000000 := by rw [← hID, barr_size]; exact z1
      have zSEC : SEC.size ≤ 1000000000 := by rw [← hSEC, barr_size]; exact z2
      have hq := fun W => refQuoteJ_any ID (by omega) W
      have he := fun W => refB64_any SEC (by omega) W
      have eID : ID.data.toList = p.1 := by rw [← hID]
      have eSEC : SEC.data.toList = p.2 := by rw [← hSEC]
      rw [eID] at hq
      rw [eSEC] at he
      obtain ⟨Q, hQ⟩ : ∃ D : ByteArray, (⟨(quoteJ p.1).toArray⟩ : ByteArray) = D := ⟨_, rfl⟩
      obtain ⟨E, hE⟩ : ∃ D : ByteArray, (⟨(enc p.2).toArray⟩ : ByteArray) = D := ⟨_, rfl⟩
      have zQ : Q.size ≤ 6000000002 := by
        rw [← hQ, barr_size]; have := quoteT_le7 p.1; rw [quoteJ, List.length_cons]; omega
      have zE : E.size ≤ 2000000000 := by rw [← hE, barr_size]; have := enc_len p.2; omega
      rw [hQ] at hq
      rw [hE] at he
      rw [hID] at c0
      rw [hSEC] at c1
      rw [hO]
      have ST : ∀ W, Below wr.heap.size wr W → (W.cell? (a.add (k * 2)) = some (.string ID) ∧ W.cell? ⟨(a.add (k * 2)).block, (a.add (k * 2)).off + 1, none⟩ = some (.string SEC)) ∧ Below wr.heap.size wr W := fun W hb =>
        ⟨⟨(hb.cell (by rw [add_block]; omega)).trans c0, (hb.cell (by show (a.add (k * 2)).block < _; rw [add_block]; omega)).trans c1⟩, hb⟩
      have STH := Lib.hid ST; have HQ := Lib.hid hq; have HE := Lib.hid he; have HS2 := Lib.hid hs2; have HO := Lib.hid hO; have HBW := Lib.hid hbw; have HQQ := Lib.hid hQ; have HEE := Lib.hid hE
      obtain ⟨O2, hO2⟩ : ∃ D : ByteArray, D = if 0 < k then O ++ ⟨#[44]⟩ else O := ⟨_, rfl⟩
      have zO2 : O2.size ≤ 600000000001 := by
        rw [hO2]; split
        · rw [ByteArray.size_append]; show O.size + 1 ≤ _; omega
        · omega
      have n1 : ∀ W, (Op.stringOp .add O2 ⟨#[123, 34, 107, 116, 121, 34, 58, 34, 111, 99, 116, 34, 44, 34, 97, 108, 103, 34, 58, 34, 72, 83, 50, 53, 54, 34, 44, 34, 107, 105, 100, 34, 58]⟩).run Tryd.prog W = .ok (.string (O2 ++ ⟨#[123, 34, 107, 116, 121, 34, 58, 34, 111, 99, 116, 34, 44, 34, 97, 108, 103, 34, 58, 34, 72, 83, 50, 53, 54, 34, 44, 34, 107, 105, 100, 34, 58]⟩)) W := fun W => run_string_add_sum W _ _ (by show O2.size + 33 ≤ _; omega)
      obtain ⟨P1, hP1⟩ : ∃ D : ByteArray, O2 ++ ⟨#[123, 34, 107, 116, 121, 34, 58, 34, 111, 99, 116, 34, 44, 34, 97, 108, 103, 34, 58, 34, 72, 83, 50, 53, 54, 34, 44, 34, 107, 105, 100, 34, 58]⟩ = D := ⟨_, rfl⟩
      have y1 : P1.size = O2.size + 33 := by rw [← hP1, ByteArray.size_append]; rfl
      rw [hP1] at n1
      have n2 : ∀ W, (Op.stringOp .add P1 Q).run Tryd.prog W = .ok (.string (P1 ++ Q)) W := fun W => run_string_add_sum W _ _ (by omega)
      obtain ⟨P2, hP2⟩ : ∃ D : ByteArray, P1 ++ Q = D := ⟨_, rfl⟩
      have y2 : P2.size = P1.size + Q.size := by rw [← hP2, ByteArray.size_append]
      rw [hP2] at n2
      have n3 : ∀ W, (Op.stringOp .add P2 ⟨#[44, 34, 107, 34, 58, 34]⟩).run Tryd.prog W = .ok (.string (P2 ++ ⟨#[44, 34, 107, 34, 58, 34]⟩)) W := fun W => run_string_add_sum W _ _ (by show P2.size + 6 ≤ _; omega)
      obtain ⟨P3, hP3⟩ : ∃ D : ByteArray, P2 ++ ⟨#[44, 34, 107, 34, 58, 34]⟩ = D := ⟨_, rfl⟩
      have y3 : P3.size = P2.size + 6 := by rw [← hP3, ByteArray.size_append]; rfl
      rw [hP3] at n3
      have n4 : ∀ W, (Op.stringOp .add P3 E).run Tryd.prog W = .ok (.string (P3 ++ E)) W := fun W => run_string_add_sum W _ _ (by omega)
      obtain ⟨P4, hP4⟩ : ∃ D : ByteArray, P3 ++ E = D := ⟨_, rfl⟩
      have y4 : P4.size = P3.size + E.size := by rw [← hP4, ByteArray.size_append]
      rw [hP4] at n4
      have n5 : ∀ W, (Op.stringOp .add P4 ⟨#[34, 125]⟩).run Tryd.prog W = .ok (.string (P4 ++ ⟨#[34, 125]⟩)) W := fun W => run_string_add_sum W _ _ (by show P4.size + 2 ≤ _; omega)
      have hfin : P4 ++ ⟨#[34, 125]⟩ = ⟨(itemsT (l.take (k + 1))).toArray⟩ := by
        rw [← hP4, ← hP3, ← hP2, ← hP1, hO2, hs2, ← HQQ.out, ← HEE.out, ← hO]
        by_cases h0 : 0 < k
        · rw [if_pos h0, if_pos h0]; apply ByteArray.ext; simp [jkT, keyFront, keyMid]
        · rw [if_neg h0, if_neg h0]; apply ByteArray.ext; simp [jkT, keyFront, keyMid]
      rw [hfin] at n5
      have n0 : ∀ W, (Op.stringOp .add O ⟨#[44]⟩).run Tryd.prog W = .ok (.string (O ++ ⟨#[44]⟩)) W := fun W => run_string_add_sum W _ _ (by show O.size + 1 ≤ _; omega)
      obtain ⟨FIN, hFIN⟩ : ∃ D : ByteArray, (⟨(itemsT (l.take (k + 1))).toArray⟩ : ByteArray) = D := ⟨_, rfl⟩
      rw [hFIN] at n5
      have HF := Lib.hid hFIN
      have hkn1 : (k : Int) < n := by omega
      clear ST hq he hs2 hO hbw hQ hE hP1 hP2 hP3 hP4 hfin hFIN y1 y2 y3 y4 zO2 zE zQ zID zSEC zO eID eSEC hID hSEC z1 z2 hlk
      by_cases h0 : 0 < k
      · rw [if_pos h0] at hO2
        have t3 : decide ((0 : Int) < (k : Int)) = true := by simp; omega
        rw [← hO2] at n0
        clear hO2
        go_wp2_with fail
        go_region_held3 (fun W => (W.cell? (a.add (k * 2)) = some (.string ID) ∧ W.cell? ⟨(a.add (k * 2)).block, (a.add (k * 2)).off + 1, none⟩ = some (.string SEC)) ∧ Below wr.heap.size wr W)
          (exact STH.out _ (by repeat (first | (with_reducible exact Below.refl _ _) | (with_reducible apply Below.drew) | (with_reducible apply belowDrewN) | (with_reducible refine Below.chain ?_ hbb) | (with_reducible refine Below.chain ?_ hba))))
          (first | (go_at_call 16; (with_reducible refine (HQ.out _).mono ?_); rintro e wa ⟨rfl, hba⟩) | (go_at_call 17; (with_reducible refine (HE.out _).mono ?_); rintro e wb ⟨rfl, hbb⟩))
        all_goals
          have hbz : Below wr.heap.size wr wb := (by repeat (first | (with_reducible exact Below.refl _ _) | (with_reducible apply Below.drew) | (with_reducible apply belowDrewN) | (with_reducible refine Below.chain ?_ hbb) | (with_reducible refine Below.chain ?_ hba)))
          have HBZ := Lib.hid hbz
          clear hbz hbb hba n0 n1 n2 n3 n4 n5 c0 c1
          go_wp2
          go_roundw
          case rel => exact ⟨k + 1, by omega, by omega, by go_num, by rw [HF.out], HBW.out.chain HBZ.out⟩
          case measure => simp [intOf]; omega
      · rw [if_neg h0] at hO2
        have t3 : decide ((0 : Int) < (k : Int)) = false := by simp; omega
        subst hO2
        clear n0
        go_wp2_with fail
        go_region_held3 (fun W => (W.cell? (a.add (k * 2)) = some (.string ID) ∧ W.cell? ⟨(a.add (k * 2)).block, (a.add (k * 2)).off + 1, none⟩ = some (.string SEC)) ∧ Below wr.heap.size wr W)
          (exact STH.out _ (by repeat (first | (with_reducible exact Below.refl _ _) | (with_reducible apply Below.drew) | (with_reducible apply belowDrewN) | (with_reducible refine Below.chain ?_ hbb) | (with_reducible refine Below.chain ?_ hba))))
          (first | (go_at_call 16; (with_reducible refine (HQ.out _).mono ?_); rintro e wa ⟨rfl, hba⟩) | (go_at_call 17; (with_reducible refine (HE.out _).mono ?_); rintro e wb ⟨rfl, hbb⟩))
        all_goals
          have hbz : Below wr.heap.size wr wb := (by repeat (first | (with_reducible exact Below.refl _ _) | (with_reducible apply Below.drew) | (with_reducible apply belowDrewN) | (with_reducible refine Below.chain ?_ hbb) | (with_reducible refine Below.chain ?_ hba)))
          have HBZ := Lib.hid hbz
          clear hbz hbb hba n1 n2 n3 n4 n5 c0 c1
          go_wp2
          go_roundw
          case rel => exact ⟨k + 1, by omega, by omega, by go_num, by rw [HF.out], HBW.out.chain HBZ.out⟩
          case measure => simp [intOf]; omega
    · have hkm : k = min n 64 := by omega
      have hd := HD.out k hkm
      have n1 : ∀ W, (Op.stringOp .add ⟨#[123, 34, 107, 101, 121, 115, 34, 58, 91]⟩ O).run Tryd.prog W = .ok (.string (⟨#[123, 34, 107, 101, 121, 115, 34, 58, 91]⟩ ++ O)) W := fun W => run_string_add_sum W _ _ (by show 9 + O.size ≤ _; omega)
      obtain ⟨P1, hP1⟩ : ∃ D : ByteArray, (⟨#[123, 34, 107, 101, 121, 115, 34, 58, 91]⟩ : ByteArray) ++ O = D := ⟨_, rfl⟩
      have y1 : P1.size = 9 + O.size := by rw [← hP1, ByteArray.size_append]; rfl
      rw [hP1] at n1
      have n2 : ∀ W, (Op.stringOp .add P1 ⟨#[93, 125]⟩).run Tryd.prog W = .ok (.string (P1 ++ ⟨#[93, 125]⟩)) W := fun W => run_string_add_sum W _ _ (by show P1.size + 2 ≤ _; omega)
      have hfin : P1 ++ ⟨#[93, 125]⟩ = ⟨(setT l).toArray⟩ := by rw [← hP1, ← hd, ← hO]; apply ByteArray.ext; simp [setFront]
      rw [hfin] at n2
      rw [hO]
      have HBW := Lib.hid hbw
      by_cases hln : k < n
      · have t1 : decide ((k : Int) < (n : Int)) = true := by simp; omega
        have t2 : decide ((k : Int) < 64) = false := by simp; omega
        clear hd hP1 y1 hfin hO hkm hbw hlt zO
        go_wp2
        go_ret
        exact ⟨rfl, HBW.out⟩
      · have t1 : decide ((k : Int) < (n : Int)) = false := by simp; omega
        clear hd hP1 y1 hfin hO hkm hbw hlt zO
        go_wp2
        go_ret
        exact ⟨rfl, HBW.out⟩
end Go.Proofs.YtjgjajnpbcghmaaDoor
namespace Go.Proofs.YtjgjajnpbcghmaaDoor
open Go.RowKit
set_option linter.unusedVariables false
set_option linter.unusedSimpArgs false

def ansK : PL := [([97], [98])]
theorem ansK_len : (setT ansK).length ≤ 4096 := by
  have h := setT_le (M := 60) (l := ansK) fun p hp => by
    have h1 := jkT_le p
    have h2 : p = ([97], [98]) := by simpa [ansK] using hp
    subst h2
    simp at h1; omega
  omega
theorem ansK_back : setR (setT ansK) = (ansK, 0) := setR_back ansK ansK_len
theorem setT_nil : setT [] = [123, 34, 107, 101, 121, 115, 34, 58, 91, 93, 125] := by
  rw [setT_is]
  show setFront ++ itemsT [] ++ [93, 125] = _
  rw [itemsT_nil]; rfl
set_option maxRecDepth 100000 in
set_option maxHeartbeats 4000000 in
theorem answers7_any (w : World) (hk : KitIn w.heap.size w) : Calls Tryd.prog 6 #[] w fun e w' => e = .returned (.bool true) ∧ Below w.heap.size w w' := by
  obtain ⟨R, hR⟩ : ∃ R, w.heap.size = R := ⟨_, rfl⟩
  obtain ⟨W1, hW1⟩ : ∃ W1, W1 = w.alloc (.cells #[.string ⟨#[97]⟩, .string ⟨#[98]⟩] 25) := ⟨_, rfl⟩
  have b1 : Below w.heap.size w W1 := by rw [hW1]; exact (Below.refl _ _).alloc (Nat.le_refl _) _
  have k1 : W1.heap[R]? = some (.cells #[.string ⟨#[97]⟩, .string ⟨#[98]⟩] 25 (0, 0)) := by rw [hW1, ← hR]; exact heap_alloc_last w _
  have hkb := fun W (hb : Below w.heap.size w W) => (hk.below hb).more hb.size
  have hp1 : Calls Tryd.prog 7 #[.slice (some ⟨R, 0, none⟩) 1 1] W1 fun e w' => e = .returned (.string ⟨(setT ansK).toArray⟩) ∧ Below W1.heap.size W1 w' :=
    printKeys_any (some ⟨R, 0, none⟩) 1 ansK (by decide) (by decide) (by intro p hp; simp [ansK] at hp; subst hp; simp) W1 (prs_of k1 rfl) (hkb W1 b1).toTab
  have hps : ∀ W, Below w.heap.size w W → Calls Tryd.prog 8 #[.string ⟨(setT ansK).toArray⟩] W fun e w' => (∃ a c, e = .returned (.tuple #[.slice (some a) 1 c, .int .i64 0]) ∧ w'.cell? ⟨a.block, a.off + 1, none⟩ = some (.string ⟨#[98]⟩) ∧ a.block < w'.heap.size) ∧ Below W.heap.size W w' := fun W hb => by
    have h := parseKeys_any (setT ansK) (by have := ansK_len; omega) W (hkb W hb)
    rw [ansK_back] at h
    refine h.mono fun e w' ⟨⟨A, c, he, h1, h2⟩, hb2⟩ => ⟨?_, hb2⟩
    obtain ⟨a, rfl, hab, -, h4⟩ := h2 0 (by decide)
    exact ⟨a, c, he, by have h5 : w'.cell? ⟨(a.add (0 * 2)).block, (a.add (0 * 2)).off + 1, none⟩ = some (.string ⟨#[98]⟩) := h4; simpa [Addr.add] using h5, hab⟩
  have hpn : ∀ W, Below w.heap.size w W → Calls Tryd.prog 7 #[.slice none 0 0] W fun e w' => e = .returned (.string ⟨#[123, 34, 107, 101, 121, 115, 34, 58, 91, 93, 125]⟩) ∧ Below W.heap.size W w' := fun W hb => by
    have h := printKeys_any none 0 [] (Nat.le_refl _) (by decide) (by simp) W (Prs.nil _ _ _) (hkb W hb).toTab
    rw [setT_nil] at h
    exact h
  obtain ⟨T, hT⟩ : ∃ T : ByteArray, (⟨(setT ansK).toArray⟩ : ByteArray) = T := ⟨_, rfl⟩
  rw [hT] at hp1 hps
  have HP1 := Lib.hid hp1; have HPS := Lib.hid hps; have HPN := Lib.hid hpn; have HB1 := Lib.hid b1; have HW := Lib.hid hW1; have HRR := Lib.hid hR
  clear hp1 hps hpn b1 hW1 hR k1 hT hkb hk
  go_enter Tryd.func6, Tryd.ntmps6
  go_wp2_with fail
  rw [← HW.out, HRR.out]
  (try go_wp2_with fail)
  refine HP1.out.mono ?_
  rintro e2 w2 ⟨rfl, hb2⟩
  have HB2 := Lib.hid (HB1.out.trans (hb2.mono HB1.out.size)); clear hb2
  dsimp only
  go_wp2_with fail
  refine (HPS.out _ HB2.out).mono ?_
  rintro e3 w3 ⟨⟨a, c, rfl, h3, hab⟩, hb3⟩
  have HB3 := Lib.hid (HB2.out.chain hb3); clear hb3
  dsimp only
  go_wp2_with fail
  refine (HPN.out _ HB3.out).mono ?_
  rintro e4 w4 ⟨rfl, hb4⟩
  have HB4 := Lib.hid (HB3.out.chain hb4); clear hb4
  dsimp only
  go_wp2
  go_ret
  exact ⟨rfl, HB4.out⟩
end Go.Proofs.YtjgjajnpbcghmaaDoor
namespace Go.Proofs.YtjgjajnpbcghmaaDoor
open Go.RowKit
set_option linter.unusedVariables false
set_option linter.unusedSimpArgs false

theorem setR_no (s : List UInt8) : (setR s).2 ≠ 0 → (setR s).1 = [] := fun h => by
  rcases setR_cases s with ⟨h0, _⟩ | ⟨_, h1, _⟩
  · exact absurd h0 h
  · exact h1
/-- what is read is a set of no more keys than may be, with short texts -/
theorem setR_small {s : List UInt8} (h : (setR s).2 = 0) : (setR s).1.length ≤ 64 ∧ ∀ p ∈ (setR s).1, p.1.length ≤ 4096 ∧ p.2.length ≤ 4096 := by
  by_cases hp : (parseV s).2 = 0
  · obtain ⟨hf, hsh, hl⟩ := parseV_good hp
    have hlen := keysOf_len hf
    have hle := keysOf_le hf
    rw [hsh] at hle
    by_cases h2 : setT (jwksOf (parseV s).1) = s
    · rw [setR_set hp h2]
      exact ⟨hlen, fun p hpm => by have := hle p hpm; omega⟩
    · rw [setR_not hp h2] at h; cases h
  · rw [setR_bad hp] at h; exact absurd h hp
set_option maxRecDepth 100000 in
set_option maxHeartbeats 4000000 in
theorem jwkReads_law (S : ByteArray) (hS : S.size ≤ maxLen) (w : World) (hk : KitIn w.heap.size w) :
    Calls Tryd.prog 4 #[.string S] w fun e w' => e = .returned (.bool true) ∧ Below w.heap.size w w' := by
  unfold maxLen at hS
  obtain ⟨s, hs⟩ : ∃ s, S.data.toList = s := ⟨_, rfl⟩
  have hsl : s.length = S.size := by rw [← hs]; rfl
  have hSe : (⟨s.toArray⟩ : ByteArray) = S := by rw [← hs]
  have hkb := fun W (hb : Below w.heap.size w W) => (hk.below hb).more hb.size
  have hans := fun W (hb : Below w.heap.size w W) => answers7_any W (hkb W hb)
  have hpa := parseKeys_any s (by omega) w hk
  rw [hSe] at hpa
  have hrp := fun W => refParse_any s (by omega) W
  rw [hSe] at hrp
  unfold SetSays at hpa
  have hcas := setR_cases s
  have hno := setR_no s
  have hsm := @setR_small s
  obtain ⟨X, h⟩ : ∃ X, setR s = X := ⟨_, rfl⟩
  rw [h] at hpa hcas hno hsm
  obtain ⟨L, E⟩ := X
  simp only at hpa hcas hno hsm
  by_cases hE : E = 0
  · subst hE
    obtain ⟨hlen, hsz⟩ := hsm rfl
    have hT : setT L = s := by
      rcases hcas with ⟨_, h1⟩ | ⟨h1, _⟩
      · exact h1
      · exact absurd rfl h1
    have hrk := fun (A : Option Addr) (c : Nat) (W : World) (hp : Prs W W.heap.size A L) => refKeys_any A c L (by omega) (fun p hp => by have := hsz p (List.mem_of_mem_take hp); omega) W hp
    rw [hT, hSe] at hrk
    obtain ⟨n, hn⟩ : ∃ n, L.length = n := ⟨_, rfl⟩
    rw [hn] at hpa hrk
    have HPA := Lib.hid hpa; have HA := Lib.hid hans; have HRK := Lib.hid hrk
    clear hpa hans hrk hrp hcas hno hsm hkb hk hT hsl hSe hs h hn hsz hlen
    go_enter Tryd.func4, Tryd.ntmps4
    go_wp2_with fail
    refine HPA.out.mono ?_
    rintro e1 w1 ⟨⟨A, c, rfl, hc, hp⟩, hb1⟩
    have HB1 := Lib.hid hb1; have HP := Lib.hid hp; clear hb1 hp
    dsimp only
    go_wp2_with fail
    refine (HA.out _ HB1.out).mono ?_
    rintro e2 w2 ⟨rfl, hb2⟩
    have HB2 := Lib.hid hb2; clear hb2
    dsimp only
    go_wp2_with fail
    refine (HRK.out A c _ ((HP.out.below HB2.out).more HB2.out.size)).mono ?_
    rintro e3 w3 ⟨rfl, hb3⟩
    have HB3 := Lib.hid hb3; clear hb3
    dsimp only
    go_wp2
    go_ret
    exact ⟨rfl, (HB1.out.chain HB2.out).chain HB3.out⟩
  · obtain rfl : L = [] := hno hE
    have hcs : E = (parseV s).2 ∨ ((parseV s).2 = 0 ∧ E = 2) := by
      rcases hcas with ⟨h1, _⟩ | ⟨_, _, h1⟩
      · exact absurd h1 hE
      · exact h1
    obtain ⟨Y, h2⟩ : ∃ Y, parseV s = Y := ⟨_, rfl⟩
    rw [h2] at hrp hcs
    obtain ⟨V, F⟩ := Y
    simp only at hrp hcs
    have HPA := Lib.hid hpa; have HA := Lib.hid hans; have HRP := Lib.hid hrp; have HCS := Lib.hid hcs
    have hE0 : (E == 0) = false := by simpa using hE
    clear hpa hans hrp hcas hno hsm hkb hk hsl hSe hs h h2 hcs
    go_enter Tryd.func4, Tryd.ntmps4
    go_wp2_with fail
    refine HPA.out.mono ?_
    rintro e1 w1 ⟨⟨A, c, rfl, hc, hp⟩, hb1⟩
    have HB1 := Lib.hid hb1; clear hb1 hp
    dsimp only
    go_wp2_with fail
    refine (HRP.out _).mono ?_
    rintro e2 w2 ⟨⟨k, n, t, A1, a1, b1, A2, a2, b2, rfl, -⟩, hb2⟩
    have HB2 := Lib.hid (HB1.out.chain hb2); clear hb2
    have HB3 := Lib.hid (HB2.out.alloc HB2.out.size (.cells #[.int .i64 k, .int .i64 n, .string t, .slice A1 a1 b1, .slice A2 a2 b2] 34))
    dsimp only
    go_wp2_with fail
    refine (HA.out _ HB3.out).mono ?_
    rintro e3 w3 ⟨rfl, hb3⟩
    have HB4 := Lib.hid (HB3.out.chain hb3); clear hb3
    dsimp only
    rcases HCS.out with rfl | ⟨rfl, rfl⟩
    · go_wp2
      go_ret
      exact ⟨rfl, HB4.out⟩
    · go_wp2
      go_ret
      exact ⟨rfl, HB4.out⟩
end Go.Proofs.YtjgjajnpbcghmaaDoor
namespace Go.Proofs.YtjgjajnpbcghmaaDoor
open Go.ChangeShapes Go.WideShapes Go.ChangeAt Go.RowKit

/-- what the rows list -/
def listed : List (String × DataW Unit) := [("math/bits.deBruijn32tab", Rows.laid_math_bits_deBruijn32tab), ("math/bits.deBruijn64tab", Rows.laid_math_bits_deBruijn64tab), ("internal/strconv.uint64pow10", Rows.laid_internal_strconv_uint64pow10), ("strconv.ErrRange", Rows.laid_strconv_ErrRange), ("strconv.ErrSyntax", Rows.laid_strconv_ErrSyntax)]
theorem listed_plain : (listed.all fun x => x.2.handleName?.isNone) = true := by kernel_rfl
theorem pow_data : (Rows.laid_internal_strconv_uint64pow10 : DataW Unit) = Lib.tabData .u64 Lib.pow10Tab := by kernel_rfl
theorem gSyn : Tryd.prog.globalNamed "strconv.ErrSyntax" = some 2 := by kernel_rfl
theorem gRng : Tryd.prog.globalNamed "strconv.ErrRange" = some 3 := by kernel_rfl
theorem tPow : (Tryd.prog.globals[0]?).map (·.type) = some 114 := by kernel_rfl
theorem tSyn : (Tryd.prog.globals[2]?).map (·.type) = some 80 := by kernel_rfl
theorem tRng : (Tryd.prog.globals[3]?).map (·.type) = some 80 := by kernel_rfl
theorem cellsU64 : Tryd.prog.cellsOf 96 = 1 := by kernel_rfl
theorem cellsPow : Tryd.prog.cellsOf 114 = 20 := by kernel_rfl
/-- what reads as a value of an interface is one cell that holds one -/
theorem iface_cell {H : Type} {enc : TypeId × Value → H} {P : Program} {w : World} {base : Nat} {sp : Nat → Bool} {fuel : Nat} {ti : TypeId} {ms : Array (String × TypeId)} {cs : List Value} {nm : String} {d : DataW H} {p : List MemPlace}
    (hi : P.underlying ti = some (.interface ms)) (h : DataW.trod enc P w base sp false fuel ti cs = some (.iface nm d, p)) : ∃ u v, cs = [.iface u v] := by
  cases fuel with
  | zero => simp [DataW.trod] at h
  | succ fuel =>
    unfold DataW.trod at h
    rw [hi] at h
    match cs, h with
    | [.iface u v], _ => exact ⟨u, v, rfl⟩
    | [.nilIface], h => simp at h
theorem sent_cell {n nm : String} {g : Nat} {d : DataW Unit} {ti : TypeId} {ms : Array (String × TypeId)} {r : List (String × DataW Unit)} {W : World} (h : laidMet Tryd.prog ((n, .iface nm d) :: r) W) (hg : Tryd.prog.globalNamed n = some g)
    (hty : (Tryd.prog.globals[g]?).map (·.type) = some ti) (hi : Tryd.prog.underlying ti = some (.interface ms)) : ∃ u v, W.cell? ⟨g, 0, none⟩ = some (.iface u v) := by
  obtain ⟨ps, ⟨g', t', cs, fuel, p, q, hg', ht', hvar, hd, _, _⟩, _⟩ := h
  obtain rfl := Option.some.inj (hg.symm.trans hg')
  obtain rfl := Option.some.inj (hty.symm.trans ht')
  obtain ⟨u, v, e⟩ := iface_cell hi hd
  refine ⟨u, v, ?_⟩
  have := World.var?_cell hg hvar 0
  rw [this, ← Array.getElem?_toList, e]; rfl
theorem lt_of_cell {W : World} {g o : Nat} {v : Value} (h : W.cell? ⟨g, o, none⟩ = some v) : g < W.heap.size := by
  refine Nat.lt_of_not_le fun hle => ?_
  have : W.cell? ⟨g, o, none⟩ = none := by simp [World.cell?, Array.getElem?_eq_none hle]
  rw [this] at h; cases h
theorem kitIn_of_laid {W : World} (h : laidMetH Tryd.prog listed W) : KitIn W.heap.size W := by
  rw [MakeChecks.laidMetH_plain _ _ _ listed_plain] at h
  have h3 := h.tail.tail
  have h4 := h3.tail
  have h5 := h4.tail
  have h3' : laidMet Tryd.prog (("internal/strconv.uint64pow10", Lib.tabData .u64 Lib.pow10Tab) :: [("strconv.ErrRange", Rows.laid_strconv_ErrRange), ("strconv.ErrSyntax", Rows.laid_strconv_ErrSyntax)]) W := by rw [← pow_data]; exact h3
  have hT := Lib.tabIs_of_head gPow tPow Tryd.underlying114 Tryd.underlying96 cellsU64 cellsPow h3'
  obtain ⟨u, v, e4⟩ := sent_cell h4 gRng tRng Tryd.underlying80
  obtain ⟨u', v', e5⟩ := sent_cell h5 gSyn tSyn Tryd.underlying80
  exact ⟨hT, ⟨_, e5, .inr ⟨_, _, rfl⟩⟩, ⟨_, e4, .inr ⟨_, _, rfl⟩⟩, lt_of_cell (hT.cell gPow 0 (by decide)), lt_of_cell e5, lt_of_cell e4⟩
theorem door_met (os : Os) (args : Array Value) : laidMetH Tryd.prog listed ((World.doorLaid Tryd.prog 400 os).forCall (fun _ _ => 0) ⟨#[], args, []⟩).memory :=
  laidMetH_of_parts3 (fuel := 8) (laidMet_of_run' 8 (by kernel_rfl) (by kernel_rfl)) (by kernel_rfl) (by kernel_rfl)
end Go.Proofs.YtjgjajnpbcghmaaDoor
