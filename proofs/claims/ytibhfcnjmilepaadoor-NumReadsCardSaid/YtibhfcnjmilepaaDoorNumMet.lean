import Derived.Test.YtibhfcnjmilepaaDoorNumAT
import Derived.ProofKit
import Derived.Lib.LaidTab
import Derived.LaidHandle
namespace Go.Proofs.YtibhfcnjmilepaaDoor
open Go.RowKit

theorem gPow : Tryd.prog.globalNamed "internal/strconv.uint64pow10" = some 0 := by kernel_rfl
theorem gPowType : (Tryd.prog.globals[0]?).map (·.type) = some 95 := by kernel_rfl
theorem cellsPow : Tryd.prog.cellsOf 95 = 20 := by kernel_rfl
theorem cells64 : Tryd.prog.cellsOf 65 = 1 := by kernel_rfl
theorem laidMet_rest {P : Program} {W : World} {x : String × DataW Unit} {rest : List (String × DataW Unit)} (h : laidMet P (x :: rest) W) : laidMet P rest W := by
  obtain ⟨ps, hl, hn, hb⟩ := h
  obtain ⟨n, d⟩ := x
  obtain ⟨g', t', cs, fuel, p, q, hg', ht', hvar, hd, hr, rfl⟩ := hl
  exact ⟨q, hr, (List.nodup_append.1 hn).2.1, fun b off hm => hb b off (List.mem_append.2 (.inr hm))⟩
/-- what the law's road asks of the listed variables -/
theorem tab_of_laid {W : World} (h : laidMet Tryd.prog [("math/bits.deBruijn32tab", Rows.laid_math_bits_deBruijn32tab), ("math/bits.deBruijn64tab", Rows.laid_math_bits_deBruijn64tab), ("internal/strconv.uint64pow10", Rows.laid_internal_strconv_uint64pow10)] W) : TabW W :=
  Lib.tabIs_of_head (rest := []) gPow gPowType Tryd.underlying95 Tryd.underlying65 cells64 cellsPow (laidMet_rest (laidMet_rest h))
theorem rowOwn : ownKnob Tryd.prog.godebug = none := by kernel_rfl
theorem rowLaidOut : laidOutB Tryd.prog = true := by kernel_rfl
/-- numbers as cells -/
def litOf : DataW Unit → Value
  | .lit (.int k z) => .int k z
  | _ => .int .u8 0
def rowOf : DataW Unit → List Value
  | .agg l => l.map litOf
  | _ => []
/-- a world for the witness: the settled one, the three listed variables holding what their initialisers lay -/
noncomputable def laidWorld (os : Os) : World :=
  let w0 := World.holding Tryd.prog os ⟨#[], #[], []⟩
  { w0 with heap := (((w0.heap.modify 1 fun
      | .cells _ t frozen => .cells (rowOf Rows.laid_math_bits_deBruijn32tab).toArray t frozen
      | o => o).modify 2 fun
      | .cells _ t frozen => .cells (rowOf Rows.laid_math_bits_deBruijn64tab).toArray t frozen
      | o => o).modify 0 fun
      | .cells _ t frozen => .cells (rowOf Rows.laid_internal_strconv_uint64pow10).toArray t frozen
      | o => o) }
end Go.Proofs.YtibhfcnjmilepaaDoor
