/- Turning a new slice of one or two bytes into a text. -/
import Derived.Test.YthjfkngfgomkbaaGreatDoorChecked
import Derived.WalkKit
import Derived.WalkLawsBesides
import Derived.Laws.BytesString
namespace Go.Proofs.YthjfkngfgomkbaaGreatDoor
open Go.RowKit

theorem conv1 (W : World) (n : Int) : (convert 30 9 (.slice (some ⟨W.heap.size, 0, none⟩) 1 1)).run Tryz.prog (W.alloc (.cells #[.int .u8 n] 5)) = .ok (.string ⟨#[UInt8.ofNat n.toNat]⟩) (W.alloc (.cells #[.int .u8 n] 5)) := by
  rw [run_convert_bytes_string _ 30 9 5 _ _ _ Tryz.underlying30 Tryz.underlying5 Tryz.underlying9]
  rw [run_bytesToString _ _ 1 1 [n] (by go_simp)]
  rfl
theorem conv2 (W : World) (n m : Int) : (convert 30 9 (.slice (some ⟨W.heap.size, 0, none⟩) 2 2)).run Tryz.prog (W.alloc (.cells #[.int .u8 n, .int .u8 m] 5)) = .ok (.string ⟨#[UInt8.ofNat n.toNat, UInt8.ofNat m.toNat]⟩) (W.alloc (.cells #[.int .u8 n, .int .u8 m] 5)) := by
  rw [run_convert_bytes_string _ 30 9 5 _ _ _ Tryz.underlying30 Tryz.underlying5 Tryz.underlying9]
  rw [run_bytesToString _ _ 2 2 [n, m] (by go_simp)]
  rfl
end Go.Proofs.YthjfkngfgomkbaaGreatDoor
