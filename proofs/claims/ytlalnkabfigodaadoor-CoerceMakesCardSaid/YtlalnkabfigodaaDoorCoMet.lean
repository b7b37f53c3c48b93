import Derived.Test.YtlalnkabfigodaaDoorCoA
import Derived.ProofKit
import Derived.OpenShut
import Derived.Deep.Slices
import Derived.Deep.Fields
import Derived.Test.YtlalnkabfigodaaDoorCoTz
import Derived.Test.YtlalnkabfigodaaDoorRows
import Derived.Lib.LaidTab
import Derived.LaidHandle
-- joined
namespace Go.Proofs.YtlalnkabfigodaaDoor
open Go.ChangeShapes Go.WideShapes Go.ChangeAt Go.RowKit

theorem cocCellsOf : Tryd.prog.cellsOf 25 = 12 := by kernel_rfl
theorem cocIntCells : Tryd.prog.cellsOf 3 = 1 := by kernel_rfl
theorem cocSixCells : Tryd.prog.cellsOf 22 = 6 := by kernel_rfl
theorem cocListCells : Tryd.prog.cellsOf 23 = 1 := by kernel_rfl

set_option maxRecDepth 100000 in
/-- six numbers in a row -/
theorem six_cells {H : Type} {enc : TypeId × Value → H} {W : World} {sp : Nat → Bool} {hd : Bool} {n : Nat} {x0 x1 x2 x3 x4 x5 : Value} {y : DataW H × List MemPlace}
  (h : DataW.trod enc Tryd.prog W 0 sp hd n 22 [x0, x1, x2, x3, x4, x5] = some y) : ∃ a0 a1 a2 a3 a4 a5 : Int, [x0, x1, x2, x3, x4, x5] = [.int .i64 a0, .int .i64 a1, .int .i64 a2, .int .i64 a3, .int .i64 a4, .int .i64 a5] := by
 obtain ⟨xs, m, _, _, _, hl, hel⟩ := DataW.trod_array Tryd.underlying22 h
 have hl6 : xs.length = 6 := hl
 match xs, hl6 with
 | [y0, y1, y2, y3, y4, y5], _ =>
  have key : ∀ i (u : DataW H × List MemPlace) (v : Value), [y0, y1, y2, y3, y4, y5][i]? = some u → (([x0, x1, x2, x3, x4, x5] : List Value).drop (i * 1)).take 1 = [v] → i < 6 → ∃ a : Int, v = .int .i64 a := fun i u v hu hv hi => by
   have e := hel i hi
   rw [cocIntCells, hv, hu] at e
   obtain ⟨k, e1, _⟩ := DataW.trod_int Tryd.underlying3 e
   exact ⟨k, by simpa using e1⟩
  obtain ⟨a0, rfl⟩ := key 0 y0 x0 rfl rfl (by omega)
  obtain ⟨a1, rfl⟩ := key 1 y1 x1 rfl rfl (by omega)
  obtain ⟨a2, rfl⟩ := key 2 y2 x2 rfl rfl (by omega)
  obtain ⟨a3, rfl⟩ := key 3 y3 x3 rfl rfl (by omega)
  obtain ⟨a4, rfl⟩ := key 4 y4 x4 rfl rfl (by omega)
  obtain ⟨a5, rfl⟩ := key 5 y5 x5 rfl rfl (by omega)
  exact ⟨a0, a1, a2, a3, a4, a5, rfl⟩
set_option maxRecDepth 100000 in
/-- a coercion's twelve cells -/
theorem co_cells {H : Type} {enc : TypeId × Value → H} {W : World} {sp : Nat → Bool} {hd : Bool} {n : Nat} {cs : List Value} {x : DataW H × List MemPlace}
  (ih : ∀ m, m < n → ∀ (cs : List Value) (x : DataW H × List MemPlace), DataW.trod enc Tryd.prog W 0 sp hd m 23 cs = some x → ∃ v l, cs = [v] ∧ CoS W (Lc NC W) v l)
  (h : DataW.trod enc Tryd.prog W 0 sp hd n 25 cs = some x) : ∃ (d : Co) (pv fv : Value), cs = [.int .i64 d.h.f0, .int .i64 d.h.f1, .int .i64 d.h.f2, .int .i64 d.h.f3, .int .i64 d.h.f4, .int .i64 d.h.f5, .int .i64 d.h.pair, .int .i64 d.h.pl, pv, .int .i64 d.h.fn, .int .i64 d.h.fl, fv] ∧ CoS W (Lc NC W) pv d.pairs ∧ CoS W (Lc NC W) fv d.funs := by
 obtain ⟨xs, n', rfl, _, hlen, hxl, hfld⟩ := DataW.trod_struct Tryd.underlying25 h
 rw [cocCellsOf] at hlen
 match cs, hlen with
 | [x0, x1, x2, x3, x4, x5, x6, x7, x8, x9, x10, x11], _ =>
  have hxl7 : xs.length = 7 := hxl
  match xs, hxl7 with
  | [y0, y1, y2, y3, y4, y5, y6], _ =>
   have f0 : DataW.trod enc Tryd.prog W 0 sp hd n' 22 (([x0, x1, x2, x3, x4, x5, x6, x7, x8, x9, x10, x11].drop 0).take (Tryd.prog.cellsOf 22)) = some y0 := hfld 0 _ rfl
   have f1 : DataW.trod enc Tryd.prog W 0 sp hd n' 3 (([x0, x1, x2, x3, x4, x5, x6, x7, x8, x9, x10, x11].drop 6).take (Tryd.prog.cellsOf 3)) = some y1 := hfld 1 _ rfl
   have f2 : DataW.trod enc Tryd.prog W 0 sp hd n' 3 (([x0, x1, x2, x3, x4, x5, x6, x7, x8, x9, x10, x11].drop 7).take (Tryd.prog.cellsOf 3)) = some y2 := hfld 2 _ rfl
   have f3 : DataW.trod enc Tryd.prog W 0 sp hd n' 23 (([x0, x1, x2, x3, x4, x5, x6, x7, x8, x9, x10, x11].drop 8).take (Tryd.prog.cellsOf 23)) = some y3 := hfld 3 _ rfl
   have f4 : DataW.trod enc Tryd.prog W 0 sp hd n' 3 (([x0, x1, x2, x3, x4, x5, x6, x7, x8, x9, x10, x11].drop 9).take (Tryd.prog.cellsOf 3)) = some y4 := hfld 4 _ rfl
   have f5 : DataW.trod enc Tryd.prog W 0 sp hd n' 3 (([x0, x1, x2, x3, x4, x5, x6, x7, x8, x9, x10, x11].drop 10).take (Tryd.prog.cellsOf 3)) = some y5 := hfld 5 _ rfl
   have f6 : DataW.trod enc Tryd.prog W 0 sp hd n' 23 (([x0, x1, x2, x3, x4, x5, x6, x7, x8, x9, x10, x11].drop 11).take (Tryd.prog.cellsOf 23)) = some y6 := hfld 6 _ rfl
   rw [cocSixCells] at f0
   rw [cocIntCells] at f1 f2 f4 f5
   rw [cocListCells] at f3 f6
   obtain ⟨a0, a1, a2, a3, a4, a5, e0⟩ := six_cells (x0 := x0) (x1 := x1) (x2 := x2) (x3 := x3) (x4 := x4) (x5 := x5) f0
   obtain ⟨k1, e1, _⟩ := DataW.trod_int Tryd.underlying3 f1
   obtain ⟨k2, e2, _⟩ := DataW.trod_int Tryd.underlying3 f2
   obtain ⟨v3, l3, e3, hv3⟩ := ih n' (Nat.lt_succ_self _) _ _ f3
   obtain ⟨k4, e4, _⟩ := DataW.trod_int Tryd.underlying3 f4
   obtain ⟨k5, e5, _⟩ := DataW.trod_int Tryd.underlying3 f5
   obtain ⟨v6, l6, e6, hv6⟩ := ih n' (Nat.lt_succ_self _) _ _ f6
   simp only [List.cons.injEq, and_true] at e0
   obtain ⟨rfl, rfl, rfl, rfl, rfl, rfl⟩ := e0
   obtain rfl : x6 = .int .i64 k1 := by simpa using e1
   obtain rfl : x7 = .int .i64 k2 := by simpa using e2
   obtain rfl : x8 = v3 := by simpa using e3
   obtain rfl : x9 = .int .i64 k4 := by simpa using e4
   obtain rfl : x10 = .int .i64 k5 := by simpa using e5
   obtain rfl : x11 = v6 := by simpa using e6
   exact ⟨.mk ⟨a0, a1, a2, a3, a4, a5, k1, k2, k4, k5⟩ l3 l6, x8, x11, rfl, hv3, hv6⟩

set_option maxRecDepth 100000 in
theorem cos_fuel {H : Type} {enc : TypeId × Value → H} {W : World} {sp : Nat → Bool} {hd : Bool} : ∀ (n : Nat) (cs : List Value) (x : DataW H × List MemPlace),
  DataW.trod enc Tryd.prog W 0 sp hd n 23 cs = some x → ∃ v l, cs = [v] ∧ CoS W (Lc NC W) v l := by
 intro n
 induction n using Nat.strongRecOn with
 | ind n ih =>
  intro cs x h
  rcases DataW.trod_slice Tryd.underlying23 h with ⟨rfl, _⟩ | ⟨a, len, cap, elems, rest, m, rfl, rfl, _, _, hlc, hcm, hel, hi, _⟩
  ·
   exact ⟨_, [], rfl, .mkNil _ _⟩
  ·
   by_cases h0 : len = 0
   ·
    subst h0; exact ⟨_, [], rfl, .mkNil _ _⟩
   have key : ∀ i, i < len → ∃ (d : Co) (pv fv : Value), (∀ k, k < 12 → W.cell? (a.add (i * 12 + k)) = (coCells ⟨d.h, pv, fv⟩)[k]?) ∧ CoS W (Lc NC W) pv d.pairs ∧ CoS W (Lc NC W) fv d.funs := by
    intro i hil
    have hb := hi i hil
    have hil' : i < elems.length := by omega
    rw [List.getElem?_eq_getElem hil'] at hb
    obtain ⟨cs', hc, ht⟩ := Option.bind_eq_some_iff.1 hb
    rw [cocCellsOf] at hc
    obtain ⟨_, _, hat⟩ := World.cells?_some hc
    obtain ⟨d, pv, fv, rfl, hpv, hfv⟩ := co_cells (fun m' hm' => ih m' (by omega)) ht
    refine ⟨d, pv, fv, fun k hk => ?_, hpv, hfv⟩
    have g := hat k (by omega)
    rw [Go.Deep.add_add] at g
    exact g
   obtain ⟨b, off, spot⟩ := a
   obtain ⟨t0, pv0, fv0, hc0, _⟩ := key 0 (by omega)
   have hc00 := hc0 0 (by omega)
   have hspot : spot = none := by simpa [Addr.add] using World.cell?_spot (hc00.trans (show (coCells ⟨t0.h, pv0, fv0⟩)[0]? = some (.int .i64 t0.h.f0) from rfl))
   subst hspot
   have e : ∀ j, (⟨b, off, none⟩ : Addr).add j = ⟨b, off + j, none⟩ := fun j => by unfold Addr.add; split <;> simp_all
   have key2 : ∀ i : Fin len, ∃ r : Co × Value × Value, CellsC W b (off + i.1 * 12) ⟨r.1.h, r.2.1, r.2.2⟩ ∧ CoS W (Lc NC W) r.2.1 r.1.pairs ∧ CoS W (Lc NC W) r.2.2 r.1.funs := by
    intro i
    obtain ⟨d, pv, fv, h1, h7, h8⟩ := key i.1 i.2
    refine ⟨⟨d, pv, fv⟩, fun k hk => ?_, h7, h8⟩
    have g := h1 k hk
    rw [e] at g
    rw [Nat.add_assoc]; exact g
   let f : Fin len → Co × Value × Value := fun i => Classical.choose (key2 i)
   have hf : ∀ i, _ := fun i => Classical.choose_spec (key2 i)
   have hd1 : ∀ j (hj : j < len), (List.ofFn fun i => (f i).1).getD j co0 = (f ⟨j, hj⟩).1 := fun j hj => by simp [List.getD_eq_getElem?_getD, hj]
   have hd2 : ∀ j (hj : j < len), (List.ofFn fun i => (⟨(f i).1.h, (f i).2.1, (f i).2.2⟩ : RawC)).getD j rawc0 = ⟨(f ⟨j, hj⟩).1.h, (f ⟨j, hj⟩).2.1, (f ⟨j, hj⟩).2.2⟩ := fun j hj => by simp [List.getD_eq_getElem?_getD, hj]
   refine ⟨_, List.ofFn fun i => (f i).1, rfl, .mkSome b off cap len (List.ofFn fun i => ⟨(f i).1.h, (f i).2.1, (f i).2.2⟩) _ ⟨?_, fun h => h.elim⟩ (by simp) (by simp) ⟨by omega, hlc⟩ ?_ ?_ ?_ ?_⟩
   ·
    rw [e] at hc00; exact World.block_lt_of_cell? W _ (hc00.trans (show (coCells ⟨t0.h, pv0, fv0⟩)[0]? = some (.int .i64 t0.h.f0) from rfl))
   ·
    intro j hj
    rw [List.length_ofFn] at hj
    rw [hd2 j hj]
    exact (hf ⟨j, hj⟩).1
   ·
    intro j hj
    rw [List.length_ofFn] at hj
    rw [hd2 j hj, hd1 j hj]
   ·
    intro j hj
    rw [List.length_ofFn] at hj
    rw [hd2 j hj, hd1 j hj]
    exact (hf ⟨j, hj⟩).2.1
   ·
    intro j hj
    rw [List.length_ofFn] at hj
    rw [hd2 j hj, hd1 j hj]
    exact (hf ⟨j, hj⟩).2.2

set_option maxRecDepth 100000 in
/-- an argument that is a coercion -/
theorem co_of_arg {H : Type} {enc : TypeId × Value → H} {W : World} {base : Nat} {v : Value} {d : DataW H} {p : List MemPlace} (hv : Value.okWide Tryd.prog W .any base 25 v)
  (h : DataW.Trod enc Tryd.prog W 0 (fun _ => true) true 25 v d p) : ∃ c : Co, CoV W v c := by
 obtain ⟨fuel, hf⟩ := h
 obtain ⟨t, pv, fv, hc, h1, h2⟩ := co_cells (fun m _ cs x h => cos_fuel m cs x h) hf
 obtain ⟨cs, rfl, _⟩ := okWide_struct Tryd.underlying25 hv
 obtain rfl : cs = #[.int .i64 t.h.f0, .int .i64 t.h.f1, .int .i64 t.h.f2, .int .i64 t.h.f3, .int .i64 t.h.f4, .int .i64 t.h.f5, .int .i64 t.h.pair, .int .i64 t.h.pl, pv, .int .i64 t.h.fn, .int .i64 t.h.fl, fv] := by
  apply Array.toList_inj.1
  simpa [Value.cells] using hc
 exact ⟨t, ⟨t.h, pv, fv⟩, rfl, rfl, h1, h2⟩
end Go.Proofs.YtlalnkabfigodaaDoor
namespace Go.Proofs.YtlalnkabfigodaaDoor
open Go.ChangeShapes Go.WideShapes Go.ChangeAt Go.RowKit

theorem cotCellsOf : Tryd.prog.cellsOf 48 = 24 := by kernel_rfl
theorem okWide_two {W : World} {base : Nat} {v : Value} (h : Value.okWide Tryd.prog W .any base 48 v) : ∃ cs : Array Value, v = .agg cs ∧ cs.size = Tryd.prog.cellsOf 48 := by
 simp only [Value.okWide, Tryd.underlying48] at h
 obtain ⟨cs, h1, h2, _⟩ := h
 exact ⟨cs, h1, h2⟩
set_option maxRecDepth 100000 in
/-- an argument that is two coercions -/
theorem two_of_arg {H : Type} {enc : TypeId × Value → H} {W : World} {base : Nat} {v : Value} {d : DataW H} {p : List MemPlace} (hv : Value.okWide Tryd.prog W .any base 48 v)
  (h : DataW.Trod enc Tryd.prog W 0 (fun _ => true) true 48 v d p) : ∃ (c e : Co) (pv fv qv gv : Value), v = .agg #[.int .i64 c.h.f0, .int .i64 c.h.f1, .int .i64 c.h.f2, .int .i64 c.h.f3, .int .i64 c.h.f4, .int .i64 c.h.f5, .int .i64 c.h.pair, .int .i64 c.h.pl, pv, .int .i64 c.h.fn, .int .i64 c.h.fl, fv, .int .i64 e.h.f0, .int .i64 e.h.f1, .int .i64 e.h.f2, .int .i64 e.h.f3, .int .i64 e.h.f4, .int .i64 e.h.f5, .int .i64 e.h.pair, .int .i64 e.h.pl, qv, .int .i64 e.h.fn, .int .i64 e.h.fl, gv] ∧ CoV W (.agg #[.int .i64 c.h.f0, .int .i64 c.h.f1, .int .i64 c.h.f2, .int .i64 c.h.f3, .int .i64 c.h.f4, .int .i64 c.h.f5, .int .i64 c.h.pair, .int .i64 c.h.pl, pv, .int .i64 c.h.fn, .int .i64 c.h.fl, fv]) c ∧ CoV W (.agg #[.int .i64 e.h.f0, .int .i64 e.h.f1, .int .i64 e.h.f2, .int .i64 e.h.f3, .int .i64 e.h.f4, .int .i64 e.h.f5, .int .i64 e.h.pair, .int .i64 e.h.pl, qv, .int .i64 e.h.fn, .int .i64 e.h.fl, gv]) e := by
 obtain ⟨fuel, hf⟩ := h
 obtain ⟨xs, m, _, _, hlen, hl, hel⟩ := DataW.trod_array Tryd.underlying48 hf
 obtain ⟨cs, rfl, hsz⟩ := okWide_two hv
 rw [cotCellsOf] at hsz
 have hl2 : xs.length = 2 := hl
 match xs, hl2 with
 | [y0, y1], _ =>
  have h0 := hel 0 (by omega)
  have h1 := hel 1 (by omega)
  rw [cocCellsOf] at h0 h1
  obtain ⟨c, pv, fv, e0, hc1, hc2⟩ := co_cells (fun m _ cs x h => cos_fuel m cs x h) (show _ = some y0 from h0)
  obtain ⟨e, qv, gv, e1, hd1, hd2⟩ := co_cells (fun m _ cs x h => cos_fuel m cs x h) (show _ = some y1 from h1)
  have hcells : (Value.agg cs).cells.toList = cs.toList ∨ True := .inr trivial
  clear hcells
  refine ⟨c, e, pv, fv, qv, gv, ?_, ⟨⟨c.h, pv, fv⟩, rfl, rfl, hc1, hc2⟩, ⟨⟨e.h, qv, gv⟩, rfl, rfl, hd1, hd2⟩⟩
  congr 1
  apply Array.toList_inj.1
  have hcl : cs.toList.length = 24 := by simpa using hsz
  simp only [Value.cells, Nat.zero_mul, List.drop_zero, Nat.one_mul] at e0 e1
  rw [← List.take_append_drop 12 cs.toList, e0]
  have e2 : (cs.toList.drop 12).take 12 = cs.toList.drop 12 := List.take_of_length_le (by rw [List.length_drop]; omega)
  rw [e2] at e1
  rw [e1]
  rfl
end Go.Proofs.YtlalnkabfigodaaDoor
namespace Go.Proofs.YtlalnkabfigodaaDoor
open Go.ChangeShapes Go.WideShapes Go.ChangeAt Go.RowKit

theorem tyCellsOf : Tryd.prog.cellsOf 47 = 6 := by kernel_rfl
theorem tyIntCells : Tryd.prog.cellsOf 3 = 1 := by kernel_rfl
theorem tyBoolCells : Tryd.prog.cellsOf 4 = 1 := by kernel_rfl
theorem tyListCells : Tryd.prog.cellsOf 45 = 1 := by kernel_rfl
theorem int_rng {n : Int} (h : (Lit.int .i64 n).wf = true) : -9223372036854775808 ≤ n ∧ n ≤ 9223372036854775807 := by
 simp [Lit.wf, IntKind.min, IntKind.max, IntKind.bits, IntKind.signed] at h
 omega

set_option maxRecDepth 100000 in
/-- a type's six cells -/
theorem ty_cells {H : Type} {enc : TypeId × Value → H} {W : World} {sp : Nat → Bool} {hd : Bool} {n : Nat} {cs : List Value} {x : DataW H × List MemPlace}
  (ih : ∀ m, m < n → ∀ (cs : List Value) (x : DataW H × List MemPlace), DataW.trod enc Tryd.prog W 0 sp hd m 45 cs = some x → ∃ v l, cs = [v] ∧ TyS W (· < W.heap.size) v l)
  (h : DataW.trod enc Tryd.prog W 0 sp hd n 47 cs = some x) : ∃ (d : Ty) (pv fv : Value), cs = [.bool d.all, .int .i64 d.flat, .int .i64 d.pair, pv, .int .i64 d.fn, fv] ∧ TyS W (· < W.heap.size) pv d.pairs ∧ TyS W (· < W.heap.size) fv d.funs := by
 obtain ⟨xs, n', rfl, _, hlen, hxl, hfld⟩ := DataW.trod_struct Tryd.underlying47 h
 rw [tyCellsOf] at hlen
 match cs, hlen with
 | [x0, x1, x2, x3, x4, x5], _ =>
  have hxl6 : xs.length = 6 := hxl
  match xs, hxl6 with
  | [y0, y1, y2, y3, y4, y5], _ =>
   have f0 : DataW.trod enc Tryd.prog W 0 sp hd n' 4 (([x0, x1, x2, x3, x4, x5].drop 0).take (Tryd.prog.cellsOf 4)) = some y0 := hfld 0 _ rfl
   have f1 : DataW.trod enc Tryd.prog W 0 sp hd n' 3 (([x0, x1, x2, x3, x4, x5].drop 1).take (Tryd.prog.cellsOf 3)) = some y1 := hfld 1 _ rfl
   have f2 : DataW.trod enc Tryd.prog W 0 sp hd n' 3 (([x0, x1, x2, x3, x4, x5].drop 2).take (Tryd.prog.cellsOf 3)) = some y2 := hfld 2 _ rfl
   have f3 : DataW.trod enc Tryd.prog W 0 sp hd n' 45 (([x0, x1, x2, x3, x4, x5].drop 3).take (Tryd.prog.cellsOf 45)) = some y3 := hfld 3 _ rfl
   have f4 : DataW.trod enc Tryd.prog W 0 sp hd n' 3 (([x0, x1, x2, x3, x4, x5].drop 4).take (Tryd.prog.cellsOf 3)) = some y4 := hfld 4 _ rfl
   have f5 : DataW.trod enc Tryd.prog W 0 sp hd n' 45 (([x0, x1, x2, x3, x4, x5].drop 5).take (Tryd.prog.cellsOf 45)) = some y5 := hfld 5 _ rfl
   rw [tyBoolCells] at f0
   rw [tyIntCells] at f1 f2 f4
   rw [tyListCells] at f3 f5
   obtain ⟨b, e0, _⟩ := DataW.trod_bool Tryd.underlying4 f0
   obtain ⟨k1, e1, _, _⟩ := DataW.trod_int Tryd.underlying3 f1
   obtain ⟨k2, e2, _, _⟩ := DataW.trod_int Tryd.underlying3 f2
   obtain ⟨v3, l3, e3, hv3⟩ := ih n' (Nat.lt_succ_self _) _ _ f3
   obtain ⟨k4, e4, _, _⟩ := DataW.trod_int Tryd.underlying3 f4
   obtain ⟨v5, l5, e5, hv5⟩ := ih n' (Nat.lt_succ_self _) _ _ f5
   obtain rfl : x0 = .bool b := by simpa using e0
   obtain rfl : x1 = .int .i64 k1 := by simpa using e1
   obtain rfl : x2 = .int .i64 k2 := by simpa using e2
   obtain rfl : x3 = v3 := by simpa using e3
   obtain rfl : x4 = .int .i64 k4 := by simpa using e4
   obtain rfl : x5 = v5 := by simpa using e5
   exact ⟨.mk b k1 k2 l3 k4 l5, x3, x5, rfl, hv3, hv5⟩

set_option maxRecDepth 100000 in
theorem tys_fuel {H : Type} {enc : TypeId × Value → H} {W : World} {sp : Nat → Bool} {hd : Bool} : ∀ (n : Nat) (cs : List Value) (x : DataW H × List MemPlace),
  DataW.trod enc Tryd.prog W 0 sp hd n 45 cs = some x → ∃ v l, cs = [v] ∧ TyS W (· < W.heap.size) v l := by
 intro n
 induction n using Nat.strongRecOn with
 | ind n ih =>
  intro cs x h
  rcases DataW.trod_slice Tryd.underlying45 h with ⟨rfl, _⟩ | ⟨a, len, cap, elems, rest, m, rfl, rfl, _, _, hlc, hcm, hel, hi, _⟩
  ·
   exact ⟨_, [], rfl, .mkNil _ _⟩
  ·
   by_cases h0 : len = 0
   ·
    subst h0; exact ⟨_, [], rfl, .mkNil _ _⟩
   have key : ∀ i, i < len → ∃ (d : Ty) (pv fv : Value), (W.cell? (a.add (i * 6)) = some (.bool d.all) ∧ W.cell? (a.add (i * 6 + 1)) = some (.int .i64 d.flat) ∧ W.cell? (a.add (i * 6 + 2)) = some (.int .i64 d.pair) ∧ W.cell? (a.add (i * 6 + 3)) = some pv ∧ W.cell? (a.add (i * 6 + 4)) = some (.int .i64 d.fn) ∧ W.cell? (a.add (i * 6 + 5)) = some fv) ∧
     TyS W (· < W.heap.size) pv d.pairs ∧ TyS W (· < W.heap.size) fv d.funs := by
    intro i hil
    have hb := hi i hil
    have hil' : i < elems.length := by omega
    rw [List.getElem?_eq_getElem hil'] at hb
    obtain ⟨cs', hc, ht⟩ := Option.bind_eq_some_iff.1 hb
    rw [tyCellsOf] at hc
    obtain ⟨_, _, hat⟩ := World.cells?_some hc
    obtain ⟨d, pv, fv, rfl, hpv, hfv⟩ := ty_cells (fun m' hm' => ih m' (by omega)) ht
    have g0 := hat 0 (by omega)
    have g1 := hat 1 (by omega)
    have g2 := hat 2 (by omega)
    have g3 := hat 3 (by omega)
    have g4 := hat 4 (by omega)
    have g5 := hat 5 (by omega)
    rw [Go.Deep.add_add] at g0 g1 g2 g3 g4 g5
    exact ⟨d, pv, fv, ⟨g0, g1, g2, g3, g4, g5⟩, hpv, hfv⟩
   obtain ⟨b, off, spot⟩ := a
   obtain ⟨t0, _, _, hc0, _⟩ := key 0 (by omega)
   have hspot : spot = none := by simpa [Addr.add] using World.cell?_spot hc0.1
   subst hspot
   have e : ∀ j, (⟨b, off, none⟩ : Addr).add j = ⟨b, off + j, none⟩ := fun j => by unfold Addr.add; split <;> simp_all
   have key2 : ∀ i : Fin len, ∃ r : Ty × Value × Value, Cells6 W b (off + i.1 * 6) ⟨r.1.all, r.1.flat, r.1.pair, r.2.1, r.1.fn, r.2.2⟩ ∧ TyS W (· < W.heap.size) r.2.1 r.1.pairs ∧ TyS W (· < W.heap.size) r.2.2 r.1.funs := by
    intro i
    obtain ⟨d, pv, fv, ⟨h1, h2, h3, h4, h5, h6⟩, h7, h8⟩ := key i.1 i.2
    rw [e] at h1 h2 h3 h4 h5 h6
    exact ⟨⟨d, pv, fv⟩, ⟨h1, h2, h3, h4, h5, h6⟩, h7, h8⟩
   let f : Fin len → Ty × Value × Value := fun i => Classical.choose (key2 i)
   have hf : ∀ i, _ := fun i => Classical.choose_spec (key2 i)
   have hd1 : ∀ j (hj : j < len), (List.ofFn fun i => (f i).1).getD j ty0 = (f ⟨j, hj⟩).1 := fun j hj => by simp [List.getD_eq_getElem?_getD, hj]
   have hd2 : ∀ j (hj : j < len), (List.ofFn fun i => (⟨(f i).1.all, (f i).1.flat, (f i).1.pair, (f i).2.1, (f i).1.fn, (f i).2.2⟩ : RawT)).getD j raw0 = ⟨(f ⟨j, hj⟩).1.all, (f ⟨j, hj⟩).1.flat, (f ⟨j, hj⟩).1.pair, (f ⟨j, hj⟩).2.1, (f ⟨j, hj⟩).1.fn, (f ⟨j, hj⟩).2.2⟩ := fun j hj => by simp [List.getD_eq_getElem?_getD, hj]
   refine ⟨_, List.ofFn fun i => (f i).1, rfl, .mkSome b off cap len (List.ofFn fun i => ⟨(f i).1.all, (f i).1.flat, (f i).1.pair, (f i).2.1, (f i).1.fn, (f i).2.2⟩) _ ?_ (by simp) (by simp) ⟨by omega, hlc⟩ ?_ ?_ ?_ ?_⟩
   ·
    have := hc0.1; rw [e] at this; exact World.block_lt_of_cell? W _ this
   ·
    intro j hj
    rw [List.length_ofFn] at hj
    rw [hd2 j hj]
    exact (hf ⟨j, hj⟩).1
   ·
    intro j hj
    rw [List.length_ofFn] at hj
    rw [hd2 j hj, hd1 j hj]
    exact ⟨rfl, rfl, rfl, rfl⟩
   ·
    intro j hj
    rw [List.length_ofFn] at hj
    rw [hd2 j hj, hd1 j hj]
    exact (hf ⟨j, hj⟩).2.1
   ·
    intro j hj
    rw [List.length_ofFn] at hj
    rw [hd2 j hj, hd1 j hj]
    exact (hf ⟨j, hj⟩).2.2

set_option maxRecDepth 100000 in
/-- an argument that is a type -/
theorem ty_of_arg {H : Type} {enc : TypeId × Value → H} {W : World} {base : Nat} {v : Value} {d : DataW H} {p : List MemPlace} (hv : Value.okWide Tryd.prog W .any base 47 v)
  (h : DataW.Trod enc Tryd.prog W 0 (fun _ => true) true 47 v d p) : ∃ t : Ty, TyV W v t := by
 obtain ⟨fuel, hf⟩ := h
 obtain ⟨t, pv, fv, hc, h1, h2⟩ := ty_cells (fun m _ cs x h => tys_fuel m cs x h) hf
 obtain ⟨cs, rfl, _⟩ := okWide_struct Tryd.underlying47 hv
 obtain rfl : cs = #[.bool t.all, .int .i64 t.flat, .int .i64 t.pair, pv, .int .i64 t.fn, fv] := by
  apply Array.toList_inj.1
  simpa [Value.cells] using hc
 exact ⟨t, ⟨⟨t.all, t.flat, t.pair, pv, t.fn, fv⟩, rfl, rfl, rfl, rfl, rfl, h1, h2⟩⟩
set_option maxRecDepth 100000 in
/-- an argument that is a number -/
theorem int_of_arg {H : Type} {enc : TypeId × Value → H} {W : World} {base : Nat} {v : Value} {d : DataW H} {p : List MemPlace} (_hv : Value.okWide Tryd.prog W .any base 3 v)
  (h : DataW.Trod enc Tryd.prog W 0 (fun _ => true) true 3 v d p) : ∃ n : Int, v = .int .i64 n ∧ (-9223372036854775808 ≤ n ∧ n ≤ 9223372036854775807) := by
 obtain ⟨fuel, hf⟩ := h
 obtain ⟨n, hc, _, hw⟩ := DataW.trod_int Tryd.underlying3 hf
 obtain ⟨n', rfl⟩ := okWide_int Tryd.underlying3 _hv
 simp only [Value.cells, List.cons.injEq, Value.int.injEq, true_and, and_true] at hc
 exact ⟨n', rfl, by rw [hc]; exact int_rng hw⟩

theorem gTz : Tryd.prog.globalNamed "math/bits.deBruijn64tab" = some 1 := by kernel_rfl
theorem gTzType : (Tryd.prog.globals[1]?).map (·.type) = some 91 := by kernel_rfl
theorem cellsTz : Tryd.prog.cellsOf 91 = 64 := by kernel_rfl
theorem cells8 : Tryd.prog.cellsOf 5 = 1 := by kernel_rfl
theorem laidMet_rest {P : Program} {W : World} {x : String × DataW Unit} {rest : List (String × DataW Unit)} (h : laidMet P (x :: rest) W) : laidMet P rest W := by
 obtain ⟨ps, hl, hn, hb⟩ := h
 obtain ⟨n, d⟩ := x
 obtain ⟨g', t', cs, fuel, p, q, hg', ht', hvar, hd, hr, rfl⟩ := hl
 exact ⟨q, hr, (List.nodup_append.1 hn).2.1, fun b off hm => hb b off (List.mem_append.2 (.inr hm))⟩
/-- what the law's road asks of the listed variables -/
theorem tz_of_laid {W : World} (h : laidMet Tryd.prog [("math/bits.deBruijn32tab", Rows.laid_math_bits_deBruijn32tab), ("math/bits.deBruijn64tab", Rows.laid_math_bits_deBruijn64tab)] W) : TzW W := by
 have h1 : Lib.TabIs Tryd.prog W "math/bits.deBruijn64tab" .u8 (Lib.deBruijn64tab.map fun n : Nat => (n : Int)) := Lib.tabIs_of_head (rest := []) gTz gTzType Tryd.underlying91 Tryd.underlying5 cells8 cellsTz (laidMet_rest h)
 intro j hj
 have h2 := h1.cell gTz j (by rw [List.length_map]; exact hj)
 rw [h2]
 congr 2
 simp [List.getD_eq_getElem?_getD, hj]
theorem rowOwn : ownKnob Tryd.prog.godebug = none := by kernel_rfl
theorem rowLaidOut : laidOutB Tryd.prog = true := by kernel_rfl
/-- numbers as cells -/
def litOf : DataW Unit → Value
 | .lit (.int k z) => .int k z
 | _ => .int .u8 0
def rowOf : DataW Unit → List Value
 | .agg l => l.map litOf
 | _ => []
/-- a world for the witness: the settled one, the listed variables holding what their initialisers lay -/
noncomputable def laidWorld (os : Os) : World :=
 let w0 := World.holding Tryd.prog os ⟨#[], #[], []⟩
 { w0 with heap := ((w0.heap.modify 0 fun
   | .cells _ t frozen => .cells (rowOf Rows.laid_math_bits_deBruijn32tab).toArray t frozen
   | o => o).modify 1 fun
   | .cells _ t frozen => .cells (rowOf Rows.laid_math_bits_deBruijn64tab).toArray t frozen
   | o => o) }
end Go.Proofs.YtlalnkabfigodaaDoor
