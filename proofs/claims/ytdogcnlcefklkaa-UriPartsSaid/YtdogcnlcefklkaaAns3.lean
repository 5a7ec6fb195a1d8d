/- The law's own 'answers' of layer 3. -/
import Derived.Test.YtdogcnlcefklkaaUriWith
namespace Go.Proofs.Ytdogcnlcefklkaa
open Go.RowKit

def ansText : List UInt8 := [104, 116, 116, 112, 115, 58, 47, 47, 97, 46, 98, 58, 49, 47, 99, 63, 100]
theorem ans_parse : uriE ansText = 0 ∧ uriV ansText = (httpsL, [97, 46, 98, 58, 49], [47, 99], [100]) := by decide +kernel
theorem ans_with : withL [104, 116, 116, 112, 58, 47, 47, 97, 63, 98] [([107], [])] = [104, 116, 116, 112, 58, 47, 47, 97, 63, 98, 38, 107, 61] := by decide +kernel
/-- a new slice of one pair reads as it -/
theorem one_reads3 (w : World) (x : List UInt8 × List UInt8) : Prs (w.alloc (.cells #[.string ⟨x.1.toArray⟩, .string ⟨x.2.toArray⟩] 32)) (w.heap.size + 1) (some ⟨w.heap.size, 0, none⟩) [x] := fun k hk => by
  have hk0 : k = 0 := by simpa using hk
  subst hk0
  exact ⟨_, rfl, by simp, by simp [Addr.add], by simp [Addr.add]⟩

set_option maxRecDepth 100000 in
set_option maxHeartbeats 1000000 in
theorem answers3_any (w : World) (hv : VarIn w) : Calls Try.prog 12 #[] w fun e w' => e = .returned (.bool true) ∧ Below w.heap.size w w' := by
  have hp := parse_any (str ansText) (by decide)
  have he : uriSays (str ansText).data.toList = .returned (.tuple #[.agg #[.string ⟨#[104, 116, 116, 112, 115]⟩, .string ⟨#[97, 46, 98, 58, 49]⟩, .string ⟨#[47, 99]⟩, .string ⟨#[100]⟩], .int .i64 0]) := by
    unfold uriSays; rw [str_list, ans_parse.1, ans_parse.2]; rfl
  rw [he] at hp
  have hwt := fun (A : Option Addr) (B : Nat) (w : World) (hB : B ≤ w.heap.size) (h : Prs w B A [([107], [])]) => with_any [104, 116, 116, 112, 58, 47, 47, 97, 63, 98] (by decide) A 1 B 10 [([107], [])] (by decide) (by decide) (by decide) w hB h
  rw [ans_with] at hwt
  go_enter Try.func12, Try.ntmps12
  go_wp2_with fail
  refine (hp _ hv).mono ?_
  rintro e w1 ⟨rfl, hb1⟩
  go_wp2_with fail
  refine (hwt (some ⟨w1.heap.size + 1, 0, none⟩) (w1.heap.size + 2) _ (by simp) ?_).mono ?_
  · have h := one_reads3 (w1.alloc (.cells #[.string ⟨#[104, 116, 116, 112, 115]⟩, .string ⟨#[97, 46, 98, 58, 49]⟩, .string ⟨#[47, 99]⟩, .string ⟨#[100]⟩] 23)) ([107], [])
    simpa using h
  rintro e w2 ⟨rfl, hb2⟩
  go_wp2
  go_ret
  exact ⟨rfl, hb1.chain (((Below.refl _ _).alloc (Nat.le_refl _) _).chain (((Below.refl _ _).alloc (Nat.le_refl _) _).chain hb2))⟩
end Go.Proofs.Ytdogcnlcefklkaa
