/- Texts as lists. -/
import Derived.Test.YtdogcnlcefklkaaParts
namespace Go.Proofs.Ytdogcnlcefklkaa

abbrev str (l : List UInt8) : ByteArray := ⟨l.toArray⟩
theorem str_list (l : List UInt8) : (str l).data.toList = l := rfl
theorem str_size (l : List UInt8) : (str l).size = l.length := rfl
theorem atL_drop (c : UInt8) (l : List UInt8) : (l.drop (atL c l + 1)).length ≤ l.length := by simp
theorem atL_take (c : UInt8) (l : List UInt8) : (l.take (atL c l)).length ≤ l.length := by simp; omega
end Go.Proofs.Ytdogcnlcefklkaa
