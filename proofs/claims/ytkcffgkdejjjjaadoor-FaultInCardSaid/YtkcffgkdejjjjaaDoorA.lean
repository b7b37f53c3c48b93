import Derived.Test.YtkcffgkdejjjjaaDoorRows
import Derived.WalkKit
import Derived.WalkSpells
import Derived.WalkLawsBesides
import Derived.Outline
namespace Go.Proofs.YtkcffgkdejjjjaaDoor
open Go.RowKit

set_option maxHeartbeats 400000 in
theorem in_nil (s : ByteArray) (w : World) :
    Calls Tryd.prog 14 #[.string s, .nilIface] w fun e w' => e = .returned .nilIface ∧ w = w' := by
  go_enter Tryd.func14, Tryd.ntmps14
  go_wp2
  go_ret
  exact ⟨rfl, rfl⟩

set_option maxHeartbeats 400000 in
theorem in_some (s : ByteArray) (t : TypeId) (v : Value) (w : World) :
    Calls Tryd.prog 14 #[.string s, .iface t v] w fun e w' => e = .returned (.iface 54 (.pointer (some ⟨w.heap.size, 0, none⟩))) ∧ w' = w.alloc (.cells #[.string s, .iface t v] 56) := by
  go_enter Tryd.func14, Tryd.ntmps14
  go_wp2
  go_ret
  exact ⟨rfl, rfl⟩
end Go.Proofs.YtkcffgkdejjjjaaDoor
