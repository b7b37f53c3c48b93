import Derived.Test.YtlalnkabfigodaaDoorCoLs
import Derived.Test.YtlalnkabfigodaaDoorCoG
import Derived.Test.YtlalnkabfigodaaDoorTyTw
namespace Go.Proofs.YtlalnkabfigodaaDoor
open Go.RowKit

theorem lit_sz {c : Co} (h : lit7 c = true) : szC c < 150 ∧ Thin c := by
 refine ⟨?_, lit7_thin h⟩
 unfold lit7 at h
 rw [Bool.and_eq_true] at h
 exact light_szC h.2
theorem lists_small (i : Co) (l : Int) : szC (listsC i l) ≤ szC i + 1 ∧ htC (listsC i l) ≤ htC i + 1 := by
 refine ⟨?_, htC_lists i l⟩
 unfold listsC
 split
 ·
  show 1 + 0 + 0 ≤ _; omega
 ·
  rw [szC_eq]; show 1 + (szC i + 0) + 0 ≤ _; omega
theorem car_small {c : Co} (h : okC c) : szC (carC c) ≤ szC c ∧ htC (carC c) ≤ szC c ∧ Shape (carC c) := by
 have hp := szC_pos c
 by_cases h2 : 2 ≤ c.h.pair
 ·
  have hs := (shape_car h.shape h2).1
  have h3 := htC_size (carC c)
  have h4 : szC (carC c) < szC c := by
   unfold carC
   rw [if_neg (by omega)]
   exact szC_pair c 0 (by have := (plen1 h.shape h2).1; omega)
  exact ⟨by omega, by omega, hs⟩
 ·
  have e : carC c = co0 := by unfold carC; rw [if_pos (by omega)]
  rw [e]
  exact ⟨hp, hp, shape_co0⟩
theorem cdr_small {c : Co} (h : okC c) : szC (cdrC c) ≤ szC c ∧ htC (cdrC c) ≤ szC c ∧ Shape (cdrC c) := by
 have hp := szC_pos c
 by_cases h2 : 2 ≤ c.h.pair
 ·
  have hs := (shape_cdr h.shape h2).1
  have h3 := htC_size (cdrC c)
  have hl := plen1 h.shape h2
  have h4 : szC (cdrC c) ≤ szC c := by
   unfold cdrC
   rw [if_neg (by omega)]
   split
   ·
    exact Nat.le_of_lt (szC_pair c 1 (by have := hl.2 (by assumption); omega))
   ·
    have := (lists_small (c.pairs.getD 0 co0) c.h.pl).1
    have := szC_pair c 0 (by omega)
    omega
  exact ⟨h4, by omega, hs⟩
 ·
  have e : cdrC c = co0 := by unfold cdrC; rw [if_pos (by omega)]
  rw [e]
  exact ⟨hp, hp, shape_co0⟩
theorem plen_all {c : Co} (h : okC c) : (2 ≤ c.h.pair → 1 ≤ c.pairs.length) ∧ (c.h.pair = 2 → 2 ≤ c.pairs.length) := ⟨fun h2 => (plen1 h.shape h2).1, fun h2 => (plen1 h.shape (by omega)).2 h2⟩

theorem But.then12 {g : Nat} {a b : World} (h : But g a b) (r : RawC) : But g a (Go.Proofs.YtlalnkabfigodaaDoor.set12 b g r) := ((((((((((((h.set 0 (.int .i64 r.h.f0)).set 1 (.int .i64 r.h.f1)).set 2 (.int .i64 r.h.f2)).set 3 (.int .i64 r.h.f3)).set 4 (.int .i64 r.h.f4)).set 5 (.int .i64 r.h.f5)).set 6 (.int .i64 r.h.pair)).set 7 (.int .i64 r.h.pl)).set 8 r.pv).set 9 (.int .i64 r.h.fn)).set 10 (.int .i64 r.h.fl)).set 11 r.fv)
end Go.Proofs.YtlalnkabfigodaaDoor
