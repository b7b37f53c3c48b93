import Derived.Test.YtgjkobkcmgliaaaTyMet
import Derived.Test.YtgjkobkcmgliaaaNwTe
namespace Go.Proofs.Ytgjkobkcmgliaaa
open Go.ChangeShapes Go.WideShapes Go.ChangeAt Go.RowKit

theorem teCellsOf : Try.prog.cellsOf 24 = 5 := by kernel_rfl
theorem teListCells : Try.prog.cellsOf 22 = 1 := by kernel_rfl

set_option maxRecDepth 100000 in
/-- a test's five cells -/
theorem te_cells {H : Type} {enc : TypeId × Value → H} {W : World} {sp : Nat → Bool} {hd : Bool} {n : Nat} {cs : List Value} {x : DataW H × List MemPlace}
    (ih : ∀ m, m < n → ∀ (cs : List Value) (x : DataW H × List MemPlace), DataW.trod enc Try.prog W 0 sp hd m 22 cs = some x → ∃ v l, cs = [v] ∧ TeS W v l)
    (h : DataW.trod enc Try.prog W 0 sp hd n 24 cs = some x) : ∃ (d : Tst) (fv : Value), cs = [.int .i64 d.op, .int .i64 d.vr, .int .i64 d.tags, .bool d.yes, fv] ∧ TeS W fv d.of := by
  obtain ⟨xs, n', rfl, _, hlen, hxl, hfld⟩ := DataW.trod_struct Try.underlying24 h
  rw [teCellsOf] at hlen
  match cs, hlen with
  | [x0, x1, x2, x3, x4], _ =>
    have hxl5 : xs.length = 5 := hxl
    match xs, hxl5 with
    | [y0, y1, y2, y3, y4], _ =>
      have f0 : DataW.trod enc Try.prog W 0 sp hd n' 3 (([x0, x1, x2, x3, x4].drop 0).take (Try.prog.cellsOf 3)) = some y0 := hfld 0 _ rfl
      have f1 : DataW.trod enc Try.prog W 0 sp hd n' 3 (([x0, x1, x2, x3, x4].drop 1).take (Try.prog.cellsOf 3)) = some y1 := hfld 1 _ rfl
      have f2 : DataW.trod enc Try.prog W 0 sp hd n' 3 (([x0, x1, x2, x3, x4].drop 2).take (Try.prog.cellsOf 3)) = some y2 := hfld 2 _ rfl
      have f3 : DataW.trod enc Try.prog W 0 sp hd n' 4 (([x0, x1, x2, x3, x4].drop 3).take (Try.prog.cellsOf 4)) = some y3 := hfld 3 _ rfl
      have f4 : DataW.trod enc Try.prog W 0 sp hd n' 22 (([x0, x1, x2, x3, x4].drop 4).take (Try.prog.cellsOf 22)) = some y4 := hfld 4 _ rfl
      rw [tyBoolCells] at f3
      rw [tyIntCells] at f0 f1 f2
      rw [teListCells] at f4
      obtain ⟨k0, e0, _⟩ := DataW.trod_int Try.underlying3 f0
      obtain ⟨k1, e1, _⟩ := DataW.trod_int Try.underlying3 f1
      obtain ⟨k2, e2, _⟩ := DataW.trod_int Try.underlying3 f2
      obtain ⟨b, e3, _⟩ := DataW.trod_bool Try.underlying4 f3
      obtain ⟨v4, l4, e4, hv4⟩ := ih n' (Nat.lt_succ_self _) _ _ f4
      obtain rfl : x0 = .int .i64 k0 := by simpa using e0
      obtain rfl : x1 = .int .i64 k1 := by simpa using e1
      obtain rfl : x2 = .int .i64 k2 := by simpa using e2
      obtain rfl : x3 = .bool b := by simpa using e3
      obtain rfl : x4 = v4 := by simpa using e4
      exact ⟨.mk k0 k1 k2 b l4, x4, rfl, hv4⟩

set_option maxRecDepth 100000 in
theorem tes_fuel {H : Type} {enc : TypeId × Value → H} {W : World} {sp : Nat → Bool} {hd : Bool} : ∀ (n : Nat) (cs : List Value) (x : DataW H × List MemPlace),
    DataW.trod enc Try.prog W 0 sp hd n 22 cs = some x → ∃ v l, cs = [v] ∧ TeS W v l := by
  intro n
  induction n using Nat.strongRecOn with
  | ind n ih =>
    intro cs x h
    rcases DataW.trod_slice Try.underlying22 h with ⟨rfl, _⟩ | ⟨a, len, cap, elems, rest, m, rfl, rfl, _, _, hlc, hcm, hel, hi, _⟩
    · exact ⟨_, [], rfl, .mkNil _ _⟩
    · by_cases h0 : len = 0
      · subst h0; exact ⟨_, [], rfl, .mkNil _ _⟩
      have key : ∀ i, i < len → ∃ (d : Tst) (fv : Value), (W.cell? (a.add (i * 5)) = some (.int .i64 d.op) ∧ W.cell? (a.add (i * 5 + 1)) = some (.int .i64 d.vr) ∧ W.cell? (a.add (i * 5 + 2)) = some (.int .i64 d.tags) ∧ W.cell? (a.add (i * 5 + 3)) = some (.bool d.yes) ∧ W.cell? (a.add (i * 5 + 4)) = some fv) ∧ TeS W fv d.of := by
        intro i hil
        have hb := hi i hil
        have hil' : i < elems.length := by omega
        rw [List.getElem?_eq_getElem hil'] at hb
        obtain ⟨cs', hc, ht⟩ := Option.bind_eq_some_iff.1 hb
        rw [teCellsOf] at hc
        obtain ⟨_, _, hat⟩ := World.cells?_some hc
        obtain ⟨d, fv, rfl, hfv⟩ := te_cells (fun m' hm' => ih m' (by omega)) ht
        have g0 := hat 0 (by omega)
        have g1 := hat 1 (by omega)
        have g2 := hat 2 (by omega)
        have g3 := hat 3 (by omega)
        have g4 := hat 4 (by omega)
        rw [Go.Deep.add_add] at g0 g1 g2 g3 g4
        exact ⟨d, fv, ⟨g0, g1, g2, g3, g4⟩, hfv⟩
      obtain ⟨b, off, spot⟩ := a
      obtain ⟨t0, _, hc0, _⟩ := key 0 (by omega)
      have hspot : spot = none := by simpa [Addr.add] using World.cell?_spot hc0.1
      subst hspot
      have e : ∀ j, (⟨b, off, none⟩ : Addr).add j = ⟨b, off + j, none⟩ := fun j => by unfold Addr.add; split <;> simp_all
      have key2 : ∀ i : Fin len, ∃ r : Tst × Value, (W.cell? ⟨b, off + i.1 * 5, none⟩ = some (.int .i64 r.1.op) ∧ W.cell? ⟨b, off + i.1 * 5 + 1, none⟩ = some (.int .i64 r.1.vr) ∧ W.cell? ⟨b, off + i.1 * 5 + 2, none⟩ = some (.int .i64 r.1.tags) ∧ W.cell? ⟨b, off + i.1 * 5 + 3, none⟩ = some (.bool r.1.yes) ∧ W.cell? ⟨b, off + i.1 * 5 + 4, none⟩ = some r.2) ∧ TeS W r.2 r.1.of := by
        intro i
        obtain ⟨d, fv, ⟨h1, h2, h3, h4, h5⟩, h7⟩ := key i.1 i.2
        rw [e] at h1 h2 h3 h4 h5
        exact ⟨⟨d, fv⟩, ⟨h1, h2, h3, h4, h5⟩, h7⟩
      let f : Fin len → Tst × Value := fun i => Classical.choose (key2 i)
      have hf : ∀ i, _ := fun i => Classical.choose_spec (key2 i)
      have hd1 : ∀ j (hj : j < len), (List.ofFn fun i => (f i).1).getD j te0 = (f ⟨j, hj⟩).1 := fun j hj => by simp [List.getD_eq_getElem?_getD, hj]
      have hd2 : ∀ j (hj : j < len), (List.ofFn fun i => (f i).2).getD j (.bool false) = (f ⟨j, hj⟩).2 := fun j hj => by simp [List.getD_eq_getElem?_getD, hj]
      refine ⟨_, List.ofFn fun i => (f i).1, rfl, .mkSome b off cap len (List.ofFn fun i => (f i).2) _ ?_ (by simp) ⟨by omega, hlc⟩ ?_ ?_⟩
      · have := hc0.1; rw [e] at this; exact World.block_lt_of_cell? W _ this
      · intro j hj
        rw [List.length_ofFn] at hj
        rw [hd2 j hj, hd1 j hj]
        exact (hf ⟨j, hj⟩).1
      · intro j hj
        rw [List.length_ofFn] at hj
        rw [hd2 j hj, hd1 j hj]
        exact (hf ⟨j, hj⟩).2

set_option maxRecDepth 100000 in
/-- an argument that is a test -/
theorem test_of_arg {H : Type} {enc : TypeId × Value → H} {W : World} {base : Nat} {v : Value} {d : DataW H} {p : List MemPlace} (hv : Value.okWide Try.prog W .any base 24 v)
    (h : DataW.Trod enc Try.prog W 0 (fun _ => true) true 24 v d p) : ∃ t : Tst, TeV W v t := by
  obtain ⟨fuel, hf⟩ := h
  obtain ⟨t, fv, hc, h1⟩ := te_cells (fun m _ cs x h => tes_fuel m cs x h) hf
  obtain ⟨cs, rfl, _⟩ := okWide_struct Try.underlying24 hv
  obtain rfl : cs = #[.int .i64 t.op, .int .i64 t.vr, .int .i64 t.tags, .bool t.yes, fv] := by
    apply Array.toList_inj.1
    simpa [Value.cells] using hc
  exact ⟨t, fv, rfl, h1⟩
end Go.Proofs.Ytgjkobkcmgliaaa
