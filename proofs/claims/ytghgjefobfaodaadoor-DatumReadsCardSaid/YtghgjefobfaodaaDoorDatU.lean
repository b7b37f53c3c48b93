import Derived.Test.YtghgjefobfaodaaDoorDatT
import Derived.Defers
import Derived.Recover
namespace Go.Proofs.YtghgjefobfaodaaDoor
open Go.RowKit

set_option maxRecDepth 100000 in
set_option maxHeartbeats 2000000 in
theorem caught_idle (x y z : Addr) (w : World) :
    CallsD Tryd.prog 36 #[.pointer (some x), .pointer (some y), .pointer (some z)] .returning w fun e u' w' => e = .returned (.tuple #[]) ∧ u' = .returning ∧ w' = w := by
  refine callsD_of_wpS Tryd.func36 rfl fun c₀ cs hu => ?_
  apply wpS_seq
  apply wpS_region
  simp [wpOpsS, go_sem, recoverD, hu, Tryd.ntmps36, Exit.thenS]
  refine wpS_of_wp ?_
  go_wp2
  cases c₀
  simp_all [bodyPostS, results, Tryd.results36]

theorem caught_heap {w1 : World} {x y z : Nat} {xs ys zs x' y' z' : Value} {X Y Z : TypeId} (k1 : w1.heap[x]? = some (.cells #[xs] X (0, 0))) (k2 : w1.heap[y]? = some (.cells #[ys] Y (0, 0))) (k3 : w1.heap[z]? = some (.cells #[zs] Z (0, 0))) (h1 : x < y) (h2 : y < z) :
    let W := (((w1.setCell ⟨x, 0, none⟩ x').setCell ⟨y, 0, none⟩ y').setCell ⟨z, 0, none⟩ z').drew
    W.heap[x]? = some (.cells #[x'] X (0, 0)) ∧ W.heap[y]? = some (.cells #[y'] Y (0, 0)) ∧ W.heap[z]? = some (.cells #[z'] Z (0, 0)) ∧ Below x w1 W := by
  have n1 : ¬ x = y := by omega
  have n2 : ¬ x = z := by omega
  have n3 : ¬ y = z := by omega
  have m1 : ¬ y = x := by omega
  have m2 : ¬ z = x := by omega
  have m3 : ¬ z = y := by omega
  refine ⟨?_, ?_, ?_, ((((Below.refl _ _).setCell (p := ⟨x, 0, none⟩) (Nat.le_refl _) _).setCell (p := ⟨y, 0, none⟩) (by show x ≤ y; omega) _).setCell (p := ⟨z, 0, none⟩) (by show x ≤ z; omega) _).drew⟩
  · show ((((w1.setCell ⟨x, 0, none⟩ x').setCell ⟨y, 0, none⟩ y').setCell ⟨z, 0, none⟩ z')).heap[x]? = _
    simp [World.setCell, Array.getElem?_modify, k1, m1, m2]
  · show ((((w1.setCell ⟨x, 0, none⟩ x').setCell ⟨y, 0, none⟩ y').setCell ⟨z, 0, none⟩ z')).heap[y]? = _
    simp [World.setCell, Array.getElem?_modify, k2, n1, m3]
  · show ((((w1.setCell ⟨x, 0, none⟩ x').setCell ⟨y, 0, none⟩ y').setCell ⟨z, 0, none⟩ z')).heap[z]? = _
    simp [World.setCell, Array.getElem?_modify, k3, n2, n3]

set_option maxRecDepth 100000 in
set_option maxHeartbeats 4000000 in
theorem caught (bx b_y bz : Nat) (xs ys zs : Value) (a c : Int) (w : World) (hx : w.heap[bx]? = some (.cells #[xs] 23 (0, 0))) (hy : w.heap[b_y]? = some (.cells #[ys] 3 (0, 0))) (hz : w.heap[bz]? = some (.cells #[zs] 24 (0, 0))) (h1 : bx < b_y) (h2 : b_y < bz) :
    CallsD Tryd.prog 36 #[.pointer (some ⟨bx, 0, none⟩), .pointer (some ⟨b_y, 0, none⟩), .pointer (some ⟨bz, 0, none⟩)] (.panicking [{ v := .iface 65 (.agg #[.int .i64 a, .int .i64 c]), recovered := false }]) w fun e u' w' =>
      e = .returned (.tuple #[]) ∧ u' = .panicking [{ v := .iface 65 (.agg #[.int .i64 a, .int .i64 c]), recovered := true }] ∧
      w'.heap[bx]? = some (.cells #[.slice none 0 0] 23 (0, 0)) ∧ w'.heap[b_y]? = some (.cells #[.int .i64 a] 3 (0, 0)) ∧ w'.heap[bz]? = some (.cells #[.int .i64 c] 24 (0, 0)) ∧ Below bx w w' := by
  refine callsD_of_wpS Tryd.func36 rfl fun c₀ cs hu => ?_
  apply wpS_seq
  apply wpS_region
  simp [wpOpsS, go_sem, recoverD, hu, Tryd.ntmps36, Exit.thenS]
  refine wpS_of_wp ?_
  have ta : ∀ (v : Value) (w : World), (Instr.typeAssert (.iface 65 v) 20 65 true).run Tryd.prog w = .ok (.tuple #[v, .bool true]) w := fun _ _ => by kernel_rfl
  have l1 := heap_of_lt hx
  have l2 := heap_of_lt hy
  have l3 := heap_of_lt hz
  obtain ⟨w1, hw1⟩ : ∃ w1, w1 = w.alloc (.cells #[.int .i64 a, .int .i64 c] 65) := ⟨_, rfl⟩
  have hb1 : Below w.heap.size w w1 := by rw [hw1]; exact (Below.refl _ _).alloc (Nat.le_refl _) _
  have g0 : w1.cell? ⟨w.heap.size, 0, none⟩ = some (.int .i64 a) := by rw [hw1]; simp [go_sem]
  have g1 : w1.cell? ⟨w.heap.size, 1, none⟩ = some (.int .i64 c) := by rw [hw1]; simp [go_sem]
  have k1 := (hb1.block _ l1).trans hx
  have k2 := (hb1.block _ l2).trans hy
  have k3 := (hb1.block _ l3).trans hz
  have c1 : w1.cell? ⟨bx, 0, none⟩ = some xs := by rw [Lib.cell_of_heap k1]; rfl
  have c2 : w1.cell? ⟨b_y, 0, none⟩ = some ys := by rw [Lib.cell_of_heap k2]; rfl
  have c3 : w1.cell? ⟨bz, 0, none⟩ = some zs := by rw [Lib.cell_of_heap k3]; rfl
  have f1 : w1.frozen? ⟨bx, 0, none⟩ = false := Lib.frozen_of_heap k1 0
  have f2 : w1.frozen? ⟨b_y, 0, none⟩ = false := Lib.frozen_of_heap k2 0
  have f3 : w1.frozen? ⟨bz, 0, none⟩ = false := Lib.frozen_of_heap k3 0
  have n1 : ¬ bx = w.heap.size := by omega
  have n2 : ¬ b_y = w.heap.size := by omega
  have n3 : ¬ bz = w.heap.size := by omega
  have n4 : ¬ bx = b_y := by omega
  have n5 : ¬ bx = bz := by omega
  have n6 : ¬ b_y = bz := by omega
  have HB1 := Lib.hid hb1
  have K1 := Lib.hid k1
  have K2 := Lib.hid k2
  have K3 := Lib.hid k3
  clear hb1 k1 k2 k3 hx hy hz
  go_wp2
  rw [← hw1]
  clear hw1
  go_region
  all_goals
    obtain ⟨r1, r2, r3, r4⟩ := caught_heap (x' := .slice none 0 0) (y' := .int .i64 a) (z' := .int .i64 c) K1.out K2.out K3.out h1 h2
    exact ⟨rfl, _, rfl, _, by simp [results, Tryd.results36, go_sem], rfl, rfl, r1, r2, r3, (HB1.out.mono (by omega)).trans r4⟩
end Go.Proofs.YtghgjefobfaodaaDoor
