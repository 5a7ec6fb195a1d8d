/- Texts merged by program, in build order: FormMore, AskPure. -/
import Derived.Test.YtlcpehmdhnakpaaDoorG03
import Derived.Test.YtlcpehmdhnakpaaDoorG10
import Derived.Test.YtlcpehmdhnakpaaDoorG05
set_option linter.unusedVariables false
set_option linter.unusedSimpArgs false
namespace Go.Proofs.YtlcpehmdhnakpaaDoor
set_option linter.unusedVariables false
set_option linter.unusedSimpArgs false

theorem twice_nodup (l : PL) (h : (l.map (·.1)).Nodup) : twiceB l = false := twiceB_no fun i j hi hj h1 h2 e => by
  have h3 := List.pairwise_iff_getElem.1 h j i (by simpa using hj) (by simpa using hi) h2
  apply h3
  simp [e]
/-- how long a form is, pair by pair -/
theorem buildL_sum : ∀ l : PL, (buildL l).length ≤ (l.map fun p => 3 * (p.1.length + p.2.length) + 2).sum
  | [] => by simp [buildL]
  | [p] => by
    have := buildL_len [p] (p.1.length + p.2.length) (fun q hq => by rw [List.mem_singleton.1 hq]; exact Nat.le_refl _)
    simpa using this
  | p :: q :: r => by
    have h1 := buildL_sum (q :: r)
    have h2 := buildL_len [p] (p.1.length + p.2.length) (fun q hq => by rw [List.mem_singleton.1 hq]; exact Nat.le_refl _)
    have h3 : buildL (p :: q :: r) = oneL p ++ 38 :: buildL (q :: r) := rfl
    have h4 : (oneL p).length + 1 ≤ 3 * (p.1.length + p.2.length) + 2 := by
      have h5 : ∀ s : List UInt8, (quoteL s).length ≤ 3 * s.length := fun s => quoteL_le s
      unfold oneL
      have := h5 p.1
      have := h5 p.2
      simp only [List.length_append, List.length_cons]
      omega
    rw [h3]
    simp only [List.map_cons, List.sum_cons, List.length_append, List.length_cons] at h1 ⊢
    omega
end Go.Proofs.YtlcpehmdhnakpaaDoor
namespace Go.Proofs.YtlcpehmdhnakpaaDoor
set_option linter.unusedVariables false
set_option linter.unusedSimpArgs false

/-- a query with a key twice is told to the browser -/
theorem ask_twice (x : CfgP) (l : PL) (h : twiceB l = true) : askP x (buildL l) = (noAsk, eReq, false) := by
  unfold askP
  by_cases h0 : parseE (buildL l) ≠ 0
  · rw [if_pos (Or.inl h0)]
  · have hE : parseE (buildL l) = 0 := Decidable.byContradiction fun h => h0 h
    have hf := formL_buildL l
    have hp : parseP (buildL l) = l := by
      by_cases h1 : 4096 < (buildL l).length
      · rw [(parse_large h1).1] at hE; cases hE
      · by_cases h2 : 64 < l.length
        · rw [(parse_many (by omega) hf h2).1] at hE; cases hE
        · exact (parse_some (by omega) hf (by omega)).2
    rw [if_pos (Or.inr (by rw [hp]; exact h))]
theorem twice_more (l : PL) (k : Nat) (hk : k < l.length) : twiceB (l ++ [l[k]]) = true := by
  refine twiceB_yes (l := l ++ [l[k]]) (i := l.length) (j := k) (by simp) hk ?_
  rw [List.getElem_append_right (Nat.le_refl _), List.getElem_append_left hk]
  simp
/-- the pairs of a query that is right; CH: the challenge -/
def baseQ (CH : List UInt8) : PL := [(kCid, [97]), (kRed, urlR), (kTyp, sCode), (kMet, sS256), (kCha, CH), (kSco, [97, 32, 111, 112, 101, 110, 105, 100])]
def rotQ (CH : List UInt8) (k : Nat) : PL := (baseQ CH).drop k ++ (baseQ CH).take k
def fullQ (CH : List UInt8) (k : Nat) (st no : List UInt8) : PL := rotQ CH k ++ [(kSta, st), (kNon, no)]
def lackQ (CH : List UInt8) (k d : Nat) : PL := (rotQ CH k).take d ++ (rotQ CH k).drop (d + 1)
/-- what Check says of pairs that are a form, none twice -/
def wrongQ (x : CfgP) (l : PL) : List UInt8 := match findCl x.gClients (gP l kCid) with
  | none => eCli
  | some r => if redirP r (gP l kRed) = false then eReq else wrongP l
theorem askP_of (x : CfgP) (l : PL) (hl : (buildL l).length ≤ 4096) (h64 : l.length ≤ 64) (ht : twiceB l = false) : (askP x (buildL l)).2.1 = wrongQ x l ∧ (wrongQ x l = [] → askP x (buildL l) = (askAll l, [], false)) := by
  obtain ⟨hE, hP⟩ := parse_some hl (formL_buildL l) h64
  have h0 : ¬ (parseE (buildL l) ≠ 0 ∨ twiceB (parseP (buildL l)) = true) := by rw [hE, hP, ht]; simp
  unfold askP wrongQ
  rw [if_neg h0, hP]
  cases findCl x.gClients (gP l kCid) with
  | none => exact ⟨rfl, fun h => by cases h⟩
  | some r =>
    dsimp only
    by_cases h1 : redirP r (gP l kRed) = false
    · rw [if_pos h1, if_pos h1]; exact ⟨rfl, fun h => by cases h⟩
    · rw [if_neg h1, if_neg h1]
      by_cases h2 : wrongP l = []
      · rw [if_pos h2]; exact ⟨h2.symm, fun _ => rfl⟩
      · rw [if_neg h2]; exact ⟨rfl, fun h => absurd h h2⟩
theorem full_keys (CH st no : List UInt8) (k : Nat) (hk : k < 6) : ((fullQ CH k st no).map (·.1)).Nodup := by
  match k, hk with
  | 0, _ => exact (by decide : ([kCid, kRed, kTyp, kMet, kCha, kSco, kSta, kNon] : List (List UInt8)).Nodup)
  | 1, _ => exact (by decide : ([kRed, kTyp, kMet, kCha, kSco, kCid, kSta, kNon] : List (List UInt8)).Nodup)
  | 2, _ => exact (by decide : ([kTyp, kMet, kCha, kSco, kCid, kRed, kSta, kNon] : List (List UInt8)).Nodup)
  | 3, _ => exact (by decide : ([kMet, kCha, kSco, kCid, kRed, kTyp, kSta, kNon] : List (List UInt8)).Nodup)
  | 4, _ => exact (by decide : ([kCha, kSco, kCid, kRed, kTyp, kMet, kSta, kNon] : List (List UInt8)).Nodup)
  | 5, _ => exact (by decide : ([kSco, kCid, kRed, kTyp, kMet, kCha, kSta, kNon] : List (List UInt8)).Nodup)
theorem full_get (CH st no : List UInt8) (k : Nat) (hk : k < 6) : gP (fullQ CH k st no) kCid = [97] ∧ gP (fullQ CH k st no) kRed = urlR ∧ gP (fullQ CH k st no) kTyp = sCode ∧ gP (fullQ CH k st no) kMet = sS256 ∧ gP (fullQ CH k st no) kCha = CH ∧ gP (fullQ CH k st no) kSco = [97, 32, 111, 112, 101, 110, 105, 100] ∧ gP (fullQ CH k st no) kSta = st ∧ gP (fullQ CH k st no) kNon = no := by
  match k, hk with
  | 0, _ => exact ⟨rfl, rfl, rfl, rfl, rfl, rfl, rfl, rfl⟩
  | 1, _ => exact ⟨rfl, rfl, rfl, rfl, rfl, rfl, rfl, rfl⟩
  | 2, _ => exact ⟨rfl, rfl, rfl, rfl, rfl, rfl, rfl, rfl⟩
  | 3, _ => exact ⟨rfl, rfl, rfl, rfl, rfl, rfl, rfl, rfl⟩
  | 4, _ => exact ⟨rfl, rfl, rfl, rfl, rfl, rfl, rfl, rfl⟩
  | 5, _ => exact ⟨rfl, rfl, rfl, rfl, rfl, rfl, rfl, rfl⟩
theorem full_len (CH st no : List UInt8) (hc : CH.length ≤ 100) (hs : st.length ≤ 256) (hn : no.length ≤ 256) (k : Nat) (hk : k < 6) : (buildL (fullQ CH k st no)).length ≤ 4096 ∧ (fullQ CH k st no).length = 8 := by
  have h := buildL_sum (fullQ CH k st no)
  match k, hk with
  | 0, _ | 1, _ | 2, _ | 3, _ | 4, _ | 5, _ =>
    refine ⟨Nat.le_trans h ?_, rfl⟩
    simp [fullQ, rotQ, baseQ, kCid, kRed, kTyp, kMet, kCha, kSco, kSta, kNon, urlR, sCode, sS256]
    omega
/-- a query that is right is taken -/
theorem ask_full (CH st no : List UInt8) (hc : CH.length ≤ 100) (hg : goodB CH = true) (hs : st.length ≤ 256) (hn : no.length ≤ 256) (k : Nat) (hk : k < 6) : askP cfgR (buildL (fullQ CH k st no)) = (⟨[97], urlR, st, no, [97, 32, 111, 112, 101, 110, 105, 100], CH⟩, [], false) := by
  obtain ⟨hl, h8⟩ := full_len CH st no hc hs hn k hk
  obtain ⟨g1, g2, g3, g4, g5, g6, g7, g8⟩ := full_get CH st no k hk
  have hw : wrongQ cfgR (fullQ CH k st no) = [] := by
    unfold wrongQ wrongP
    rw [g1, g2, g3, g4, g5, g6, g7, g8, show findCl cfgR.gClients [97] = some ⟨[97], [], [urlR]⟩ from rfl]
    dsimp only
    rw [if_neg (by decide), if_neg (by simp), if_neg (by simp [hg]), if_neg (by decide), if_neg (by simp; omega)]
  rw [(askP_of cfgR _ hl (by omega) (twice_nodup _ (full_keys CH st no k hk))).2 hw]
  unfold askAll
  rw [g1, g2, g5, g6, g7, g8]
/-- without any one pair it is not taken -/
theorem wrongQ_lack (l : PL) (h : gP l kCid = [] ∨ gP l kRed = [] ∨ gP l kTyp = [] ∨ gP l kMet = [] ∨ gP l kCha = [] ∨ gP l kSco = []) : wrongQ cfgR l ≠ [] := by
  intro hw
  unfold wrongQ at hw
  cases hf : findCl cfgR.gClients (gP l kCid) with
  | none => rw [hf] at hw; cases hw
  | some r =>
    rw [hf] at hw
    have hr : r = ⟨[97], [], [urlR]⟩ := by
      have := find_mem hf
      simpa [cfgR] using this
    have h1 := find_id hf
    subst hr
    dsimp only at hw h1
    by_cases h2 : redirP ⟨[97], [], [urlR]⟩ (gP l kRed) = false
    · rw [if_pos h2] at hw; cases hw
    rw [if_neg h2] at hw
    have h3 : gP l kRed ≠ [] := fun e => h2 (by rw [e]; decide)
    unfold wrongP at hw
    by_cases h4 : gP l kTyp ≠ sCode
    · rw [if_pos h4] at hw; cases hw
    rw [if_neg h4] at hw
    by_cases h5 : gP l kMet ≠ sS256 ∨ goodB (gP l kCha) = false
    · rw [if_pos h5] at hw; cases hw
    rw [if_neg h5] at hw
    by_cases h6 : openB (gP l kSco) = false
    · rw [if_pos h6] at hw; cases hw
    have h7 : gP l kTyp = sCode := Decidable.byContradiction fun e => h4 e
    have h8 : gP l kMet = sS256 := Decidable.byContradiction fun e => h5 (.inl e)
    have h9 : gP l kCha ≠ [] := fun e => h5 (.inr (by rw [e]; decide))
    have h10 : gP l kSco ≠ [] := fun e => h6 (by rw [e]; decide)
    rcases h with h | h | h | h | h | h
    · rw [h] at h1; cases h1
    · exact h3 h
    · rw [h] at h7; cases h7
    · rw [h] at h8; cases h8
    · exact h9 h
    · exact h10 h
theorem lack_lacks (CH : List UInt8) (k d : Nat) (hk : k < 6) (hd : d < 6) : gP (lackQ CH k d) kCid = [] ∨ gP (lackQ CH k d) kRed = [] ∨ gP (lackQ CH k d) kTyp = [] ∨ gP (lackQ CH k d) kMet = [] ∨ gP (lackQ CH k d) kCha = [] ∨ gP (lackQ CH k d) kSco = [] := by
  match k, d, hk, hd with
  | 0, 0, _, _ => exact .inl rfl
  | 0, 1, _, _ => exact .inr (.inl rfl)
  | 0, 2, _, _ => exact .inr (.inr (.inl rfl))
  | 0, 3, _, _ => exact .inr (.inr (.inr (.inl rfl)))
  | 0, 4, _, _ => exact .inr (.inr (.inr (.inr (.inl rfl))))
  | 0, 5, _, _ => exact .inr (.inr (.inr (.inr (.inr rfl))))
  | 1, 0, _, _ => exact .inr (.inl rfl)
  | 1, 1, _, _ => exact .inr (.inr (.inl rfl))
  | 1, 2, _, _ => exact .inr (.inr (.inr (.inl rfl)))
  | 1, 3, _, _ => exact .inr (.inr (.inr (.inr (.inl rfl))))
  | 1, 4, _, _ => exact .inr (.inr (.inr (.inr (.inr rfl))))
  | 1, 5, _, _ => exact .inl rfl
  | 2, 0, _, _ => exact .inr (.inr (.inl rfl))
  | 2, 1, _, _ => exact .inr (.inr (.inr (.inl rfl)))
  | 2, 2, _, _ => exact .inr (.inr (.inr (.inr (.inl rfl))))
  | 2, 3, _, _ => exact .inr (.inr (.inr (.inr (.inr rfl))))
  | 2, 4, _, _ => exact .inl rfl
  | 2, 5, _, _ => exact .inr (.inl rfl)
  | 3, 0, _, _ => exact .inr (.inr (.inr (.inl rfl)))
  | 3, 1, _, _ => exact .inr (.inr (.inr (.inr (.inl rfl))))
  | 3, 2, _, _ => exact .inr (.inr (.inr (.inr (.inr rfl))))
  | 3, 3, _, _ => exact .inl rfl
  | 3, 4, _, _ => exact .inr (.inl rfl)
  | 3, 5, _, _ => exact .inr (.inr (.inl rfl))
  | 4, 0, _, _ => exact .inr (.inr (.inr (.inr (.inl rfl))))
  | 4, 1, _, _ => exact .inr (.inr (.inr (.inr (.inr rfl))))
  | 4, 2, _, _ => exact .inl rfl
  | 4, 3, _, _ => exact .inr (.inl rfl)
  | 4, 4, _, _ => exact .inr (.inr (.inl rfl))
  | 4, 5, _, _ => exact .inr (.inr (.inr (.inl rfl)))
  | 5, 0, _, _ => exact .inr (.inr (.inr (.inr (.inr rfl))))
  | 5, 1, _, _ => exact .inl rfl
  | 5, 2, _, _ => exact .inr (.inl rfl)
  | 5, 3, _, _ => exact .inr (.inr (.inl rfl))
  | 5, 4, _, _ => exact .inr (.inr (.inr (.inl rfl)))
  | 5, 5, _, _ => exact .inr (.inr (.inr (.inr (.inl rfl))))
theorem rot_mem (CH : List UInt8) (k : Nat) : ∀ p ∈ rotQ CH k, p ∈ baseQ CH := fun p hp => by
  rcases List.mem_append.1 hp with h | h
  · exact List.mem_of_mem_drop h
  · exact List.mem_of_mem_take h
theorem lack_sub (CH : List UInt8) (k d : Nat) : (lackQ CH k d).Sublist (rotQ CH k) := by
  unfold lackQ
  rw [← List.eraseIdx_eq_take_drop_succ]
  exact List.eraseIdx_sublist _ _
theorem base_short (CH : List UInt8) (hc : CH.length ≤ 100) : ∀ p ∈ baseQ CH, p.1.length + p.2.length ≤ 160 := fun p hp => by
  simp only [baseQ, List.mem_cons, List.not_mem_nil, or_false] at hp
  rcases hp with rfl | rfl | rfl | rfl | rfl | rfl <;> simp [kCid, kRed, kTyp, kMet, kCha, kSco, urlR, sCode, sS256]
  omega
theorem ask_lack (CH : List UInt8) (hc : CH.length ≤ 100) (k d : Nat) (hk : k < 6) (hd : d < 6) : (askP cfgR (buildL (lackQ CH k d))).2.1 ≠ [] := by
  have hlen : (lackQ CH k d).length ≤ 6 := by
    have := (lack_sub CH k d).length_le
    have h6 : (rotQ CH k).length = 6 := by unfold rotQ; rw [List.length_append, List.length_drop, List.length_take]; have : (baseQ CH).length = 6 := rfl; omega
    omega
  have hb := buildL_len (lackQ CH k d) 160 (fun p hp => base_short CH hc p (rot_mem CH k p ((lack_sub CH k d).subset hp)))
  have h2 : (lackQ CH k d).length * (3 * 160 + 2) ≤ 6 * (3 * 160 + 2) := Nat.mul_le_mul_right _ hlen
  have hn : ((lackQ CH k d).map (·.1)).Nodup := by
    have h3 : ((rotQ CH k).map (·.1)).Nodup := by
      have h4 := full_keys CH [] [] k hk
      unfold fullQ at h4
      rw [List.map_append] at h4
      exact (List.sublist_append_left _ _).nodup h4
    exact ((lack_sub CH k d).map _).nodup h3
  rw [(askP_of cfgR _ (by omega) (by omega) (twice_nodup _ hn)).1]
  exact wrongQ_lack _ (lack_lacks CH k d hk hd)
end Go.Proofs.YtlcpehmdhnakpaaDoor
