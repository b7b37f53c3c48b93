import Derived.Test.YtghgjefobfaodaaDoorDatF
import Derived.ProofKit
import Derived.OpenShut
import Derived.Deep.Slices
import Derived.Deep.Fields
namespace Go.Proofs.YtghgjefobfaodaaDoor
open Go.ChangeShapes Go.WideShapes Go.ChangeAt Go.RowKit

theorem datCellsOf : Tryd.prog.cellsOf 30 = 3 := by kernel_rfl
theorem datIntCells : Tryd.prog.cellsOf 3 = 1 := by kernel_rfl
theorem datStrCells : Tryd.prog.cellsOf 9 = 1 := by kernel_rfl
theorem datListCells : Tryd.prog.cellsOf 23 = 1 := by kernel_rfl

theorem okTs_of : ∀ l : List Dat, (∀ j, j < l.length → okT (l.getD j dat0)) → okTs l
  | [], _ => by simp [okTs]
  | d :: r, h => by
    simp only [okTs]
    refine ⟨by simpa using h 0 (by simp), okTs_of r fun j hj => ?_⟩
    simpa using h (j + 1) (by simpa using hj)

set_option maxRecDepth 100000 in
/-- a datum's three cells -/
theorem dat_cells {H : Type} {enc : TypeId × Value → H} {W : World} {sp : Nat → Bool} {hd : Bool} {n : Nat} {cs : List Value} {x : DataW H × List MemPlace}
    (ih : ∀ m, m < n → ∀ (cs : List Value) (x : DataW H × List MemPlace), DataW.trod enc Tryd.prog W 0 sp hd m 23 cs = some x → ∃ v l, cs = [v] ∧ SliceOf W (· < W.heap.size) v l ∧ okTs l)
    (h : DataW.trod enc Tryd.prog W 0 sp hd n 30 cs = some x) : ∃ (d : Dat) (sv : Value), cs = [.int .i64 d.kind, .string d.text, sv] ∧ SliceOf W (· < W.heap.size) sv d.list ∧ okT d := by
  obtain ⟨xs, n', rfl, _, hlen, hxl, hfld⟩ := DataW.trod_struct Tryd.underlying30 h
  rw [datCellsOf] at hlen
  match cs, hlen with
  | [x0, x1, x2], _ =>
    have hxl3 : xs.length = 3 := hxl
    match xs, hxl3 with
    | [y0, y1, y2], _ =>
      have f0 : DataW.trod enc Tryd.prog W 0 sp hd n' 3 (([x0, x1, x2].drop 0).take (Tryd.prog.cellsOf 3)) = some y0 := hfld 0 _ rfl
      have f1 : DataW.trod enc Tryd.prog W 0 sp hd n' 9 (([x0, x1, x2].drop 1).take (Tryd.prog.cellsOf 9)) = some y1 := hfld 1 _ rfl
      have f2 : DataW.trod enc Tryd.prog W 0 sp hd n' 23 (([x0, x1, x2].drop 2).take (Tryd.prog.cellsOf 23)) = some y2 := hfld 2 _ rfl
      rw [datIntCells] at f0
      rw [datStrCells] at f1
      rw [datListCells] at f2
      obtain ⟨k, e0, _⟩ := DataW.trod_int Tryd.underlying3 f0
      obtain ⟨s, e1, _, hs⟩ := DataW.trod_string Tryd.underlying9 f1
      obtain ⟨v, l, e2, hv, hl⟩ := ih n' (Nat.lt_succ_self _) _ _ f2
      obtain rfl : x0 = .int .i64 k := by simpa using e0
      obtain rfl : x1 = .string s := by simpa using e1
      obtain rfl : x2 = v := by simpa using e2
      exact ⟨.mk k s l, x2, rfl, hv, by rw [okT_eq]; exact ⟨hs, hl⟩⟩

set_option maxRecDepth 100000 in
theorem dats_fuel {H : Type} {enc : TypeId × Value → H} {W : World} {sp : Nat → Bool} {hd : Bool} : ∀ (n : Nat) (cs : List Value) (x : DataW H × List MemPlace),
    DataW.trod enc Tryd.prog W 0 sp hd n 23 cs = some x → ∃ v l, cs = [v] ∧ SliceOf W (· < W.heap.size) v l ∧ okTs l := by
  intro n
  induction n using Nat.strongRecOn with
  | ind n ih =>
    intro cs x h
    rcases DataW.trod_slice Tryd.underlying23 h with ⟨rfl, _⟩ | ⟨a, len, cap, elems, rest, m, rfl, rfl, _, _, hlc, hcm, hel, hi, _⟩
    · exact ⟨_, [], rfl, .mkNil _ _, by simp [okTs]⟩
    · by_cases h0 : len = 0
      · subst h0; exact ⟨_, [], rfl, .mkNil _ _, by simp [okTs]⟩
      have key : ∀ i, i < len → ∃ (d : Dat) (sv : Value), W.cell? (a.add (i * 3)) = some (.int .i64 d.kind) ∧ W.cell? (a.add (i * 3 + 1)) = some (.string d.text) ∧ W.cell? (a.add (i * 3 + 2)) = some sv ∧ SliceOf W (· < W.heap.size) sv d.list ∧ okT d := by
        intro i hil
        have hb := hi i hil
        have hil' : i < elems.length := by omega
        rw [List.getElem?_eq_getElem hil'] at hb
        obtain ⟨cs', hc, ht⟩ := Option.bind_eq_some_iff.1 hb
        rw [datCellsOf] at hc
        obtain ⟨_, _, hat⟩ := World.cells?_some hc
        obtain ⟨d, sv, rfl, hsv, hok⟩ := dat_cells (fun m' hm' => ih m' (by omega)) ht
        have g0 := hat 0 (by omega)
        have g1 := hat 1 (by omega)
        have g2 := hat 2 (by omega)
        rw [Go.Deep.add_add] at g0 g1 g2
        exact ⟨d, sv, g0, g1, g2, hsv, hok⟩
      obtain ⟨b, off, spot⟩ := a
      obtain ⟨t0, _, hc0, _⟩ := key 0 (by omega)
      have hspot : spot = none := by simpa [Addr.add] using World.cell?_spot hc0
      subst hspot
      have e : ∀ j, (⟨b, off, none⟩ : Addr).add j = ⟨b, off + j, none⟩ := fun j => by unfold Addr.add; split <;> simp_all
      have key2 : ∀ i : Fin len, ∃ r : Dat × Value, W.cell? ⟨b, off + i.1 * 3, none⟩ = some (.int .i64 r.1.kind) ∧ W.cell? ⟨b, off + i.1 * 3 + 1, none⟩ = some (.string r.1.text) ∧ W.cell? ⟨b, off + i.1 * 3 + 2, none⟩ = some r.2 ∧ SliceOf W (· < W.heap.size) r.2 r.1.list ∧ okT r.1 := by
        intro i
        obtain ⟨d, sv, h1, h2, h3, h4, h5⟩ := key i.1 i.2
        rw [e] at h1 h2 h3
        exact ⟨⟨d, sv⟩, h1, h2, h3, h4, h5⟩
      let f : Fin len → Dat × Value := fun i => Classical.choose (key2 i)
      have hf : ∀ i, _ := fun i => Classical.choose_spec (key2 i)
      have hd1 : ∀ j (hj : j < len), (List.ofFn fun i => (f i).1).getD j dat0 = (f ⟨j, hj⟩).1 := fun j hj => by simp [List.getD_eq_getElem?_getD, hj]
      have hd2 : ∀ j (hj : j < len), (List.ofFn fun i => (⟨(f i).1.kind, (f i).1.text, (f i).2⟩ : Raw)).getD j raw0 = ⟨(f ⟨j, hj⟩).1.kind, (f ⟨j, hj⟩).1.text, (f ⟨j, hj⟩).2⟩ := fun j hj => by simp [List.getD_eq_getElem?_getD, hj]
      refine ⟨_, List.ofFn fun i => (f i).1, rfl, .mkSome b off cap len (List.ofFn fun i => ⟨(f i).1.kind, (f i).1.text, (f i).2⟩) _ ?_ (by simp) (by simp) (by omega) ?_ ?_ ?_, okTs_of _ fun j hj => ?_⟩
      · rw [e] at hc0; exact World.block_lt_of_cell? W _ hc0
      · intro j hj
        rw [List.length_ofFn] at hj
        rw [hd2 j hj]
        exact ⟨(hf ⟨j, hj⟩).1, (hf ⟨j, hj⟩).2.1, (hf ⟨j, hj⟩).2.2.1⟩
      · intro j hj
        rw [List.length_ofFn] at hj
        rw [hd2 j hj, hd1 j hj]
        exact ⟨rfl, rfl⟩
      · intro j hj
        rw [List.length_ofFn] at hj
        rw [hd2 j hj, hd1 j hj]
        exact (hf ⟨j, hj⟩).2.2.2.1
      · rw [List.length_ofFn] at hj
        rw [hd1 j hj]
        exact (hf ⟨j, hj⟩).2.2.2.2
end Go.Proofs.YtghgjefobfaodaaDoor
