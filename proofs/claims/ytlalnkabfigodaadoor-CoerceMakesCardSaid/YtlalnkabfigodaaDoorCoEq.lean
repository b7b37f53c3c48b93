import Derived.Test.YtlalnkabfigodaaDoorCoA
import Derived.Laws.StructEq
import Derived.ChangeKeysEq
namespace Go.Proofs.YtlalnkabfigodaaDoor
open Go.RowKit

/-- are six numbers the same? -/
def six6 (a0 a1 a2 a3 a4 a5 b0 b1 b2 b3 b4 b5 : Int) : Bool := a0 == b0 && (a1 == b1 && (a2 == b2 && (a3 == b3 && (a4 == b4 && a5 == b5))))
theorem six6_iff {a0 a1 a2 a3 a4 a5 b0 b1 b2 b3 b4 b5 : Int} : six6 a0 a1 a2 a3 a4 a5 b0 b1 b2 b3 b4 b5 = true ↔ a0 = b0 ∧ a1 = b1 ∧ a2 = b2 ∧ a3 = b3 ∧ a4 = b4 ∧ a5 = b5 := by
 simp [six6]
theorem sixInfo : ∃ i, Tryd.prog.info? 3 = some i := ⟨_, rfl⟩
theorem sixCells : Tryd.prog.cellsOf 3 = 1 := by kernel_rfl
set_option maxRecDepth 100000 in
theorem arr6_in (w : World) (a0 a1 a2 a3 a4 a5 b0 b1 b2 b3 b4 b5 : Int) : (Op.equalIn 10000 22 (.agg #[.int .i64 a0, .int .i64 a1, .int .i64 a2, .int .i64 a3, .int .i64 a4, .int .i64 a5]) (.agg #[.int .i64 b0, .int .i64 b1, .int .i64 b2, .int .i64 b3, .int .i64 b4, .int .i64 b5])).run Tryd.prog w = .ok (six6 a0 a1 a2 a3 a4 a5 b0 b1 b2 b3 b4 b5) w := by
 obtain ⟨i, hi⟩ := sixInfo
 rw [run_equalIn_array w 9999 _ _ Tryd.underlying22 hi, sixCells]
 have hp : ∀ (xs : Array Value) (j : Nat) (k : IntKind) (n : Int), xs[j]? = some (.int k n) → (part 3 xs (j * 1)).run Tryd.prog w = .ok (.int k n) w := fun xs j k n h => by
  rw [Nat.mul_one]
  simp [part, h, go_sem]
 have he : ∀ (a b : Int), (Op.equalIn 9999 3 (.int .i64 a) (.int .i64 b)).run Tryd.prog w = .ok (a == b) w := fun a b => run_equalIn_int w 9998 _ _ _ a b Tryd.underlying3
 show (Op.eqItems 9999 3 1 _ _ [0, 1, 2, 3, 4, 5]).run Tryd.prog w = _
 have st : ∀ (xs ys : Array Value) (j : Nat) (a b : Int) (r : List Nat), xs[j]? = some (.int .i64 a) → ys[j]? = some (.int .i64 b) → (Op.eqItems 9999 3 1 xs ys (j :: r)).run Tryd.prog w = if (a == b) = true then (Op.eqItems 9999 3 1 xs ys r).run Tryd.prog w else .ok false w := fun xs ys j a b r h1 h2 => by
  simp only [Op.eqItems, Sem.run_bind, hp xs j .i64 a h1, hp ys j .i64 b h2, he, Result.andThen_ok]
  cases (a == b)
  ·
   simp
  ·
   simp
 rw [st _ _ 0 a0 b0 _ rfl rfl]
 rw [st _ _ 1 a1 b1 _ rfl rfl]
 rw [st _ _ 2 a2 b2 _ rfl rfl]
 rw [st _ _ 3 a3 b3 _ rfl rfl]
 rw [st _ _ 4 a4 b4 _ rfl rfl]
 rw [st _ _ 5 a5 b5 _ rfl rfl]
 unfold six6
 generalize (a0 == b0) = x0
 generalize (a1 == b1) = x1
 generalize (a2 == b2) = x2
 generalize (a3 == b3) = x3
 generalize (a4 == b4) = x4
 generalize (a5 == b5) = x5
 cases x0 <;> cases x1 <;> cases x2 <;> cases x3 <;> cases x4 <;> cases x5 <;> simp [Op.eqItems]
end Go.Proofs.YtlalnkabfigodaaDoor
