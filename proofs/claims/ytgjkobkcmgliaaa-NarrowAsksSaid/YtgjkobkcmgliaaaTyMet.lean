import Derived.Test.YtgjkobkcmgliaaaTyRt
import Derived.ProofKit
import Derived.OpenShut
import Derived.Deep.Slices
import Derived.Deep.Fields
import Derived.Test.YtgjkobkcmgliaaaRows
import Derived.Lib.LaidTab
import Derived.LaidHandle
namespace Go.Proofs.Ytgjkobkcmgliaaa
open Go.ChangeShapes Go.WideShapes Go.ChangeAt Go.RowKit

theorem tyCellsOf : Try.prog.cellsOf 49 = 6 := by kernel_rfl
theorem tyIntCells : Try.prog.cellsOf 3 = 1 := by kernel_rfl
theorem tyBoolCells : Try.prog.cellsOf 4 = 1 := by kernel_rfl
theorem tyListCells : Try.prog.cellsOf 46 = 1 := by kernel_rfl
theorem int_rng {n : Int} (h : (Lit.int .i64 n).wf = true) : -9223372036854775808 ≤ n ∧ n ≤ 9223372036854775807 := by
  simp [Lit.wf, IntKind.min, IntKind.max, IntKind.bits, IntKind.signed] at h
  omega

set_option maxRecDepth 100000 in
/-- a type's six cells -/
theorem ty_cells {H : Type} {enc : TypeId × Value → H} {W : World} {sp : Nat → Bool} {hd : Bool} {n : Nat} {cs : List Value} {x : DataW H × List MemPlace}
    (ih : ∀ m, m < n → ∀ (cs : List Value) (x : DataW H × List MemPlace), DataW.trod enc Try.prog W 0 sp hd m 46 cs = some x → ∃ v l, cs = [v] ∧ TyS W (· < W.heap.size) v l ∧ ∀ y ∈ l, RngT y)
    (h : DataW.trod enc Try.prog W 0 sp hd n 49 cs = some x) : ∃ (d : Ty) (pv fv : Value), cs = [.bool d.all, .int .i64 d.flat, .int .i64 d.pair, pv, .int .i64 d.fn, fv] ∧ TyS W (· < W.heap.size) pv d.pairs ∧ TyS W (· < W.heap.size) fv d.funs ∧ RngT d := by
  obtain ⟨xs, n', rfl, _, hlen, hxl, hfld⟩ := DataW.trod_struct Try.underlying49 h
  rw [tyCellsOf] at hlen
  match cs, hlen with
  | [x0, x1, x2, x3, x4, x5], _ =>
    have hxl6 : xs.length = 6 := hxl
    match xs, hxl6 with
    | [y0, y1, y2, y3, y4, y5], _ =>
      have f0 : DataW.trod enc Try.prog W 0 sp hd n' 4 (([x0, x1, x2, x3, x4, x5].drop 0).take (Try.prog.cellsOf 4)) = some y0 := hfld 0 _ rfl
      have f1 : DataW.trod enc Try.prog W 0 sp hd n' 3 (([x0, x1, x2, x3, x4, x5].drop 1).take (Try.prog.cellsOf 3)) = some y1 := hfld 1 _ rfl
      have f2 : DataW.trod enc Try.prog W 0 sp hd n' 3 (([x0, x1, x2, x3, x4, x5].drop 2).take (Try.prog.cellsOf 3)) = some y2 := hfld 2 _ rfl
      have f3 : DataW.trod enc Try.prog W 0 sp hd n' 46 (([x0, x1, x2, x3, x4, x5].drop 3).take (Try.prog.cellsOf 46)) = some y3 := hfld 3 _ rfl
      have f4 : DataW.trod enc Try.prog W 0 sp hd n' 3 (([x0, x1, x2, x3, x4, x5].drop 4).take (Try.prog.cellsOf 3)) = some y4 := hfld 4 _ rfl
      have f5 : DataW.trod enc Try.prog W 0 sp hd n' 46 (([x0, x1, x2, x3, x4, x5].drop 5).take (Try.prog.cellsOf 46)) = some y5 := hfld 5 _ rfl
      rw [tyBoolCells] at f0
      rw [tyIntCells] at f1 f2 f4
      rw [tyListCells] at f3 f5
      obtain ⟨b, e0, _⟩ := DataW.trod_bool Try.underlying4 f0
      obtain ⟨k1, e1, _, w1⟩ := DataW.trod_int Try.underlying3 f1
      obtain ⟨k2, e2, _, _⟩ := DataW.trod_int Try.underlying3 f2
      obtain ⟨v3, l3, e3, hv3, hl3⟩ := ih n' (Nat.lt_succ_self _) _ _ f3
      obtain ⟨k4, e4, _, _⟩ := DataW.trod_int Try.underlying3 f4
      obtain ⟨v5, l5, e5, hv5, hl5⟩ := ih n' (Nat.lt_succ_self _) _ _ f5
      obtain rfl : x0 = .bool b := by simpa using e0
      obtain rfl : x1 = .int .i64 k1 := by simpa using e1
      obtain rfl : x2 = .int .i64 k2 := by simpa using e2
      obtain rfl : x3 = v3 := by simpa using e3
      obtain rfl : x4 = .int .i64 k4 := by simpa using e4
      obtain rfl : x5 = v5 := by simpa using e5
      exact ⟨.mk b k1 k2 l3 k4 l5, x3, x5, rfl, hv3, hv5, .mk _ (int_rng w1) hl3 hl5⟩

set_option maxRecDepth 100000 in
theorem tys_fuel {H : Type} {enc : TypeId × Value → H} {W : World} {sp : Nat → Bool} {hd : Bool} : ∀ (n : Nat) (cs : List Value) (x : DataW H × List MemPlace),
    DataW.trod enc Try.prog W 0 sp hd n 46 cs = some x → ∃ v l, cs = [v] ∧ TyS W (· < W.heap.size) v l ∧ ∀ y ∈ l, RngT y := by
  intro n
  induction n using Nat.strongRecOn with
  | ind n ih =>
    intro cs x h
    rcases DataW.trod_slice Try.underlying46 h with ⟨rfl, _⟩ | ⟨a, len, cap, elems, rest, m, rfl, rfl, _, _, hlc, hcm, hel, hi, _⟩
    · exact ⟨_, [], rfl, .mkNil _ _, by simp⟩
    · by_cases h0 : len = 0
      · subst h0; exact ⟨_, [], rfl, .mkNil _ _, by simp⟩
      have key : ∀ i, i < len → ∃ (d : Ty) (pv fv : Value), (W.cell? (a.add (i * 6)) = some (.bool d.all) ∧ W.cell? (a.add (i * 6 + 1)) = some (.int .i64 d.flat) ∧ W.cell? (a.add (i * 6 + 2)) = some (.int .i64 d.pair) ∧ W.cell? (a.add (i * 6 + 3)) = some pv ∧ W.cell? (a.add (i * 6 + 4)) = some (.int .i64 d.fn) ∧ W.cell? (a.add (i * 6 + 5)) = some fv) ∧
          TyS W (· < W.heap.size) pv d.pairs ∧ TyS W (· < W.heap.size) fv d.funs ∧ RngT d := by
        intro i hil
        have hb := hi i hil
        have hil' : i < elems.length := by omega
        rw [List.getElem?_eq_getElem hil'] at hb
        obtain ⟨cs', hc, ht⟩ := Option.bind_eq_some_iff.1 hb
        rw [tyCellsOf] at hc
        obtain ⟨_, _, hat⟩ := World.cells?_some hc
        obtain ⟨d, pv, fv, rfl, hpv, hfv, hok⟩ := ty_cells (fun m' hm' => ih m' (by omega)) ht
        have g0 := hat 0 (by omega)
        have g1 := hat 1 (by omega)
        have g2 := hat 2 (by omega)
        have g3 := hat 3 (by omega)
        have g4 := hat 4 (by omega)
        have g5 := hat 5 (by omega)
        rw [Go.Deep.add_add] at g0 g1 g2 g3 g4 g5
        exact ⟨d, pv, fv, ⟨g0, g1, g2, g3, g4, g5⟩, hpv, hfv, hok⟩
      obtain ⟨b, off, spot⟩ := a
      obtain ⟨t0, _, _, hc0, _⟩ := key 0 (by omega)
      have hspot : spot = none := by simpa [Addr.add] using World.cell?_spot hc0.1
      subst hspot
      have e : ∀ j, (⟨b, off, none⟩ : Addr).add j = ⟨b, off + j, none⟩ := fun j => by unfold Addr.add; split <;> simp_all
      have key2 : ∀ i : Fin len, ∃ r : Ty × Value × Value, Cells6 W b (off + i.1 * 6) ⟨r.1.all, r.1.flat, r.1.pair, r.2.1, r.1.fn, r.2.2⟩ ∧ TyS W (· < W.heap.size) r.2.1 r.1.pairs ∧ TyS W (· < W.heap.size) r.2.2 r.1.funs ∧ RngT r.1 := by
        intro i
        obtain ⟨d, pv, fv, ⟨h1, h2, h3, h4, h5, h6⟩, h7, h8, h9⟩ := key i.1 i.2
        rw [e] at h1 h2 h3 h4 h5 h6
        exact ⟨⟨d, pv, fv⟩, ⟨h1, h2, h3, h4, h5, h6⟩, h7, h8, h9⟩
      let f : Fin len → Ty × Value × Value := fun i => Classical.choose (key2 i)
      have hf : ∀ i, _ := fun i => Classical.choose_spec (key2 i)
      have hd1 : ∀ j (hj : j < len), (List.ofFn fun i => (f i).1).getD j ty0 = (f ⟨j, hj⟩).1 := fun j hj => by simp [List.getD_eq_getElem?_getD, hj]
      have hd2 : ∀ j (hj : j < len), (List.ofFn fun i => (⟨(f i).1.all, (f i).1.flat, (f i).1.pair, (f i).2.1, (f i).1.fn, (f i).2.2⟩ : RawT)).getD j raw0 = ⟨(f ⟨j, hj⟩).1.all, (f ⟨j, hj⟩).1.flat, (f ⟨j, hj⟩).1.pair, (f ⟨j, hj⟩).2.1, (f ⟨j, hj⟩).1.fn, (f ⟨j, hj⟩).2.2⟩ := fun j hj => by simp [List.getD_eq_getElem?_getD, hj]
      refine ⟨_, List.ofFn fun i => (f i).1, rfl, .mkSome b off cap len (List.ofFn fun i => ⟨(f i).1.all, (f i).1.flat, (f i).1.pair, (f i).2.1, (f i).1.fn, (f i).2.2⟩) _ ?_ (by simp) (by simp) ⟨by omega, hlc⟩ ?_ ?_ ?_ ?_, fun y hy => ?_⟩
      · have := hc0.1; rw [e] at this; exact World.block_lt_of_cell? W _ this
      · intro j hj
        rw [List.length_ofFn] at hj
        rw [hd2 j hj]
        exact (hf ⟨j, hj⟩).1
      · intro j hj
        rw [List.length_ofFn] at hj
        rw [hd2 j hj, hd1 j hj]
        exact ⟨rfl, rfl, rfl, rfl⟩
      · intro j hj
        rw [List.length_ofFn] at hj
        rw [hd2 j hj, hd1 j hj]
        exact (hf ⟨j, hj⟩).2.1
      · intro j hj
        rw [List.length_ofFn] at hj
        rw [hd2 j hj, hd1 j hj]
        exact (hf ⟨j, hj⟩).2.2.1
      · obtain ⟨i, rfl⟩ := List.mem_ofFn.1 hy
        exact (hf i).2.2.2

set_option maxRecDepth 100000 in
/-- an argument that is a type -/
theorem ty_of_arg {H : Type} {enc : TypeId × Value → H} {W : World} {base : Nat} {v : Value} {d : DataW H} {p : List MemPlace} (hv : Value.okWide Try.prog W .any base 49 v)
    (h : DataW.Trod enc Try.prog W 0 (fun _ => true) true 49 v d p) : ∃ t : Ty, TyVN (fun _ => False) W v t ∧ RngT t := by
  obtain ⟨fuel, hf⟩ := h
  obtain ⟨t, pv, fv, hc, h1, h2, h3⟩ := ty_cells (fun m _ cs x h => tys_fuel m cs x h) hf
  obtain ⟨cs, rfl, _⟩ := okWide_struct Try.underlying49 hv
  obtain rfl : cs = #[.bool t.all, .int .i64 t.flat, .int .i64 t.pair, pv, .int .i64 t.fn, fv] := by
    apply Array.toList_inj.1
    simpa [Value.cells] using hc
  exact ⟨t, TyV.n ⟨⟨t.all, t.flat, t.pair, pv, t.fn, fv⟩, rfl, rfl, rfl, rfl, rfl, h1, h2⟩, h3⟩
set_option maxRecDepth 100000 in
/-- an argument that is a number -/
theorem int_of_arg {H : Type} {enc : TypeId × Value → H} {W : World} {base : Nat} {v : Value} {d : DataW H} {p : List MemPlace} (_hv : Value.okWide Try.prog W .any base 3 v)
    (h : DataW.Trod enc Try.prog W 0 (fun _ => true) true 3 v d p) : ∃ n : Int, v = .int .i64 n ∧ (-9223372036854775808 ≤ n ∧ n ≤ 9223372036854775807) := by
  obtain ⟨fuel, hf⟩ := h
  obtain ⟨n, hc, _, hw⟩ := DataW.trod_int Try.underlying3 hf
  obtain ⟨n', rfl⟩ := okWide_int Try.underlying3 _hv
  simp only [Value.cells, List.cons.injEq, Value.int.injEq, true_and, and_true] at hc
  exact ⟨n', rfl, by rw [hc]; exact int_rng hw⟩
end Go.Proofs.Ytgjkobkcmgliaaa
namespace Go.Proofs.Ytgjkobkcmgliaaa
open Go.RowKit

theorem rowOwn : ownKnob Try.prog.godebug = none := by kernel_rfl
theorem rowLaidOut : laidOutB Try.prog = true := by kernel_rfl
end Go.Proofs.Ytgjkobkcmgliaaa
