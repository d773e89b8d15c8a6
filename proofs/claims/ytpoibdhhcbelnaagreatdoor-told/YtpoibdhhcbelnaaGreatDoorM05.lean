/- The bytes of a string. -/
import Derived.WalkKit
namespace Go.Proofs.YtpoibdhhcbelnaaGreatDoor
def bytesOf (s:ByteArray):List UInt8:=s.data.toList
theorem bytes_len (s:ByteArray):(bytesOf s).length=s.size:=by simp [bytesOf]
theorem bytes_add (a b:ByteArray):bytesOf (a++b)=bytesOf a++bytesOf b:=by unfold bytesOf;simp
end Go.Proofs.YtpoibdhhcbelnaaGreatDoor
