/- What a claim over a string shares: a string that came in is a list of bytes. -/
import Derived.Test.YtndcmapifihgeaaGreatDoorFrame
import Derived.ChangeMaps5
namespace Go.Proofs.YtndcmapifihgeaaGreatDoor
theorem str_list (s : ByteArray) : ∃ l : List UInt8, s = ⟨l.toArray⟩ := ⟨s.data.toList, rfl⟩
end Go.Proofs.YtndcmapifihgeaaGreatDoor
