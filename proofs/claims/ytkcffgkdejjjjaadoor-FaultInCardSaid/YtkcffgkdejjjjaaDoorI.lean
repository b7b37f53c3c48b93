import Derived.Test.YtkcffgkdejjjjaaDoorE
import Derived.Test.YtkcffgkdejjjjaaDoorF
import Derived.Test.YtkcffgkdejjjjaaDoorH
import Derived.Lib.Hide
namespace Go.Proofs.YtkcffgkdejjjjaaDoor
open Go.RowKit

theorem Chain.iface {w : World} {B : Nat} {code : Int} {l : List ByteArray} {e : Value} (h : Chain w B code l e) : ∃ t v, e = .iface t v := by
  cases l with
  | nil => exact ⟨_, _, h⟩
  | cons s r => obtain ⟨a, i, rfl, _⟩ := h; exact ⟨_, _, rfl⟩

def Et (w : World) : Prop := w.cell? ⟨0, 0, none⟩ = some (.iface 78 (.agg #[.pointer (some ⟨4, 27, none⟩)]))
theorem Et.pos {w : World} (h : Et w) : 0 < w.heap.size := by
  rcases Nat.eq_zero_or_pos w.heap.size with h0 | h0
  · unfold Et at h; simp [World.cell?, h0] at h
  · exact h0
theorem Et.below {w w' : World} (h : Et w) (hb : Below w.heap.size w w') : Et w' := (hb.cell (p := ⟨0, 0, none⟩) h.pos).trans h

set_option maxRecDepth 100000 in
set_option maxHeartbeats 1000000 in
theorem code_any (code : Int) (path : List ByteArray) (e : Value) (w : World) (hlen : path.length ≤ 1000) (he : Chain w w.heap.size code path e) (hg : Et w) :
    Calls Tryd.prog 12 #[e] w fun en w' => en = .returned (.int .i64 code) ∧ Below w.heap.size w w' := by
  have F := follow_any code path e w hlen he
  obtain ⟨t, v, rfl⟩ := he.iface
  have HE := Lib.hid he
  have HG := Lib.hid hg
  clear he hg
  go_enter Tryd.func12, Tryd.ntmps12
  go_wp2_with (go_at_call 16; refine F.mono ?_)
  rintro en w1 ⟨v1, rfl, hown, hb⟩
  clear hown F
  have hsz := hb.size
  have hg1 : Et (w1.alloc (.cells #[.int .i64 0] 22)) := (HG.out.below hb).below ((Below.refl _ _).alloc (Nat.le_refl _) _)
  have A := as_hit code ⟨w1.heap.size, 0, none⟩ (.int .i64 0) (w1.alloc (.cells #[.int .i64 0] 22)) hg1 (by simp) (by simp)
  clear hg1
  go_wp2_with (first | (go_at_call 21; refine (isCode_yes _ _).mono ?_; rintro e w' ⟨rfl, rfl⟩) | (go_at_call 22; refine A.mono ?_; rintro e w' ⟨rfl, rfl⟩))
  go_ret
  refine ⟨rfl, ?_⟩
  exact hb.trans ((((((Below.refl _ _).alloc (by omega) _).alloc (by simp; omega) _).alloc (by simp; omega) _).alloc (by simp; omega) _).alloc (by simp; omega) _)

set_option maxHeartbeats 400000 in
theorem code_nil (w : World) : Calls Tryd.prog 12 #[.nilIface] w fun en w' => en = .returned (.int .i64 0) ∧ w = w' := by
  go_enter Tryd.func12, Tryd.ntmps12
  go_wp2
  go_ret
  exact ⟨rfl, rfl⟩

set_option maxHeartbeats 400000 in
theorem isF_nil (c : Int) (w : World) : Calls Tryd.prog 10 #[.nilIface, .int .i64 c] w fun en w' => en = .returned (.bool false) ∧ w = w' := by
  go_enter Tryd.func10, Tryd.ntmps10
  go_wp2
  go_ret
  exact ⟨rfl, rfl⟩

theorem is_int (a b : Int) (w : World) : Calls Tryd.prog 20 #[.iface 22 (.int .i64 a), .iface 22 (.int .i64 b)] w fun e w' => e = .returned (.bool (a == b)) ∧ w = w' := by
  by_cases h : (a == b) = true
  · rw [h]; exact is_same a b w h
  · have h' : (a == b) = false := by simpa using h
    rw [h']; exact is_other a b w h'

def isB (a b : Int) : Bool := a == b

set_option maxRecDepth 100000 in
set_option maxHeartbeats 1000000 in
theorem isF_any (code other : Int) (path : List ByteArray) (e : Value) (w : World) (hlen : path.length ≤ 1000) (he : Chain w w.heap.size code path e) (hg : Et w) :
    Calls Tryd.prog 10 #[e, .int .i64 other] w fun en w' => en = .returned (.bool (isB code other)) ∧ Below w.heap.size w w' := by
  have C := code_any code path e w hlen he hg
  obtain ⟨t, v, rfl⟩ := he.iface
  clear he hg
  have I := fun w => is_int code other w
  rw [show (code == other) = isB code other from rfl] at I
  go_enter Tryd.func10, Tryd.ntmps10
  go_wp2_with (first | (go_at_call 12; refine C.mono ?_; rintro e w' ⟨rfl, hb⟩) | (go_at_call 20; refine (I _).mono ?_; rintro e w' ⟨rfl, rfl⟩))
  go_ret
  exact ⟨rfl, hb⟩

set_option maxRecDepth 100000 in
set_option maxHeartbeats 1000000 in
theorem pathF_any (code : Int) (path : List ByteArray) (e : Value) (w : World) (hlen : path.length ≤ 1000) (he : Chain w w.heap.size code path e) :
    Calls Tryd.prog 9 #[e] w fun en w' => ∃ v, en = .returned v ∧ w'.ownsRow w.heap.size 9 1 v path.length (path.map Value.string) ∧ Below w.heap.size w w' := by
  have F := follow_any code path e w hlen he
  obtain ⟨t, v, rfl⟩ := he.iface
  have HE := Lib.hid he
  clear he
  go_enter Tryd.func9, Tryd.ntmps9
  go_wp2_with (go_at_call 16; refine F.mono ?_; rintro en w1 ⟨v1, rfl, hown, hb⟩)
  go_ret
  exact ⟨_, rfl, hown, hb⟩

set_option maxRecDepth 100000 in
set_option maxHeartbeats 1000000 in
theorem pathF_nil (w : World) :
    Calls Tryd.prog 9 #[.nilIface] w fun en w' => en = .returned (.slice none 0 0) ∧ w = w' := by
  go_enter Tryd.func9, Tryd.ntmps9
  go_wp2_with (go_at_call 16; refine (follow_nil _).mono ?_; rintro en w' ⟨rfl, rfl⟩)
  go_ret
  exact ⟨rfl, rfl⟩
end Go.Proofs.YtkcffgkdejjjjaaDoor
