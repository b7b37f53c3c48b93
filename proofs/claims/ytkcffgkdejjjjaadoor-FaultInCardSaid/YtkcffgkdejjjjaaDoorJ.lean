import Derived.Test.YtkcffgkdejjjjaaDoorI
import Derived.Test.YtkcffgkdejjjjaaDoorG
import Derived.Test.YtkcffgkdejjjjaaDoorShelf
import Derived.Defers
import Derived.Recover
namespace Go.Proofs.YtkcffgkdejjjjaaDoor
open Go.RowKit

/-- the words of the code's own method Error are T, in every world that has kept what w0 holds -/
def Says (w0 : World) (code : Int) (T : List UInt8) : Prop :=
  ∀ W, Below w0.heap.size w0 W → Calls Tryd.prog 23 #[.int .i64 code] W fun e w' => e = .returned (.string ⟨T.toArray⟩) ∧ Below W.heap.size W w'

theorem Tryd.error22 (c : Int) (w : World) : (Go.method 237 22 (.int .i64 c) "Error").run Tryd.prog w = .ok (23, .int .i64 c) w := by kernel_rfl
theorem Tryd.error54 (a : Addr) (w : World) : (Go.method 237 54 (.pointer (some a)) "Error").run Tryd.prog w = .ok (68, .pointer (some a)) w := by kernel_rfl

theorem recover_idle (w : World) :
    CallsD Tryd.prog 26 #[] .returning w fun e u' w' => e = .returned (.tuple #[]) ∧ u' = .returning ∧ w' = w := by
  refine callsD_of_wpS Tryd.func26 rfl fun c₀ cs hu => ?_
  apply wpS_region
  simp [wpOpsS, go_sem, recoverD, hu, Tryd.ntmps26, bodyPostS, results, Tryd.results26]
  cases c₀
  simp_all

set_option maxRecDepth 100000 in
set_option maxHeartbeats 1000000 in
theorem words_any (w0 : World) (code : Int) (T : List UInt8) (hT : Says w0 code T) (w : World) (hw : Below w0.heap.size w0 w) :
    Calls Tryd.prog 18 #[.iface 22 (.int .i64 code)] w fun en w' => en = .returned (.string ⟨T.toArray⟩) ∧ Below w.heap.size w w' := by
  have m := Tryd.error22
  have C := hT w hw
  clear hT
  have HW := Lib.hid hw
  clear hw
  go_enter_defers Tryd.func18, Tryd.ntmps18
  go_wp2_with (go_at_call 23; refine C.mono ?_; rintro e w1 ⟨rfl, hb⟩)
  refine leaves_cons (f := 26) (args := #[]) (by simp) (by simp [go_sem]) ?_
  refine (recover_idle _).mono ?_
  rintro e u' w'' ⟨rfl, rfl, rfl⟩
  exact ⟨_, results_tmp rfl _ _ _, rfl, hb⟩
end Go.Proofs.YtkcffgkdejjjjaaDoor
