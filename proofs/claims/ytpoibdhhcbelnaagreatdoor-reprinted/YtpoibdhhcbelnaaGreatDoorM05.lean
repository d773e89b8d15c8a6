/- The bytes of a string. -/
import Derived.WalkKit
namespace Go.Proofs.YtpoibdhhcbelnaaGreatDoor
def bytesOf (s : ByteArray) : List UInt8 := s.data.toList
theorem bytes_len (s : ByteArray) : (bytesOf s).length = s.size := by simp [bytesOf]
theorem bytes_str (l : List UInt8) : bytesOf ⟨l.toArray⟩ = l := rfl
theorem bytes_add (a b : ByteArray) : bytesOf (a ++ b) = bytesOf a ++ bytesOf b := by unfold bytesOf; simp
theorem bytes_ext {a b : ByteArray} (h : bytesOf a = bytesOf b) : a = b := by
  cases a; cases b; unfold bytesOf at h; simp at h; rw [h]
end Go.Proofs.YtpoibdhhcbelnaaGreatDoor
