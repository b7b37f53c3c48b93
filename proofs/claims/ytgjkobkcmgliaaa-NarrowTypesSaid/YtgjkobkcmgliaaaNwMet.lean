import Derived.Test.YtgjkobkcmgliaaaTyMet
import Derived.Test.YtgjkobkcmgliaaaNwA
namespace Go.Proofs.Ytgjkobkcmgliaaa
open Go.ChangeShapes Go.WideShapes Go.ChangeAt Go.RowKit

theorem faCellsOf : Try.prog.cellsOf 61 = 2 := by kernel_rfl
theorem fcCellsOf : Try.prog.cellsOf 30 = 2 := by kernel_rfl
theorem faListCells : Try.prog.cellsOf 28 = 1 := by kernel_rfl

set_option maxRecDepth 100000 in
/-- a slice of facts, as it lies in memory -/
theorem fas_trod {H : Type} {enc : TypeId × Value → H} {W : World} {sp : Nat → Bool} {hd : Bool} {n : Nat} {cs : List Value} {x : DataW H × List MemPlace}
    (h : DataW.trod enc Try.prog W 0 sp hd n 28 cs = some x) : ∃ a k c l, cs = [.slice a k c] ∧ k = l.length ∧ FaB 0 W (.slice a k c) l := by
  rcases DataW.trod_slice Try.underlying28 h with ⟨rfl, _⟩ | ⟨a, len, cap, elems, rest, m, rfl, rfl, _, _, hlc, hcm, hel, hi, _⟩
  · exact ⟨_, 0, _, [], rfl, rfl, FaB.nil _ _ _ _⟩
  · by_cases h0 : len = 0
    · subst h0; exact ⟨_, 0, _, [], rfl, rfl, FaB.nil _ _ _ _⟩
    have key : ∀ i, i < len → ∃ f : Int × Int, W.cell? (a.add (i * 2)) = some (.int .i64 f.1) ∧ W.cell? (a.add (i * 2 + 1)) = some (.int .i64 f.2) := by
      intro i hil
      have hb := hi i hil
      have hil' : i < elems.length := by omega
      rw [List.getElem?_eq_getElem hil'] at hb
      obtain ⟨cs', hc, ht⟩ := Option.bind_eq_some_iff.1 hb
      rw [faCellsOf] at hc
      obtain ⟨_, hlen, hat⟩ := World.cells?_some hc
      obtain ⟨xs, n', _, _, _, hxl, hfld⟩ := DataW.trod_struct Try.underlying61 ht
      match cs', hlen with
      | [x0, x1], _ =>
        have hxl2 : xs.length = 2 := hxl
        match xs, hxl2 with
        | [y0, y1], _ =>
          have f0 : DataW.trod enc Try.prog W 0 sp hd n' 3 (([x0, x1].drop 0).take (Try.prog.cellsOf 3)) = some y0 := hfld 0 _ rfl
          have f1 : DataW.trod enc Try.prog W 0 sp hd n' 3 (([x0, x1].drop 1).take (Try.prog.cellsOf 3)) = some y1 := hfld 1 _ rfl
          rw [tyIntCells] at f0 f1
          obtain ⟨k, e0, _⟩ := DataW.trod_int Try.underlying3 f0
          obtain ⟨q, e1, _⟩ := DataW.trod_int Try.underlying3 f1
          obtain rfl : x0 = .int .i64 k := by simpa using e0
          obtain rfl : x1 = .int .i64 q := by simpa using e1
          have g0 := hat 0 (by omega)
          have g1 := hat 1 (by omega)
          rw [Go.Deep.add_add] at g0 g1
          exact ⟨⟨k, q⟩, g0, g1⟩
    obtain ⟨b, off, spot⟩ := a
    obtain ⟨t0, hc0, _⟩ := key 0 (by omega)
    have hspot : spot = none := by simpa [Addr.add] using World.cell?_spot hc0
    subst hspot
    have e : ∀ j, (⟨b, off, none⟩ : Addr).add j = ⟨b, off + j, none⟩ := fun j => by unfold Addr.add; split <;> simp_all
    have key2 : ∀ i : Fin len, ∃ f : Int × Int, W.cell? ⟨b, off + i.1 * 2, none⟩ = some (.int .i64 f.1) ∧ W.cell? ⟨b, off + i.1 * 2 + 1, none⟩ = some (.int .i64 f.2) := by
      intro i
      obtain ⟨f, h1, h2⟩ := key i.1 i.2
      rw [e] at h1 h2
      exact ⟨f, h1, h2⟩
    let f : Fin len → Int × Int := fun i => Classical.choose (key2 i)
    have hf : ∀ i, _ := fun i => Classical.choose_spec (key2 i)
    refine ⟨_, len, cap, List.ofFn f, rfl, by simp, .inr ⟨b, off, cap, by rw [List.length_ofFn], Nat.zero_le _, ?_, by rw [List.length_ofFn]; omega, by rw [List.length_ofFn]; omega, fun j hj => ?_⟩⟩
    · rw [e] at hc0; exact World.block_lt_of_cell? W _ hc0
    · rw [List.length_ofFn] at hj
      have : (List.ofFn f).getD j fa0 = f ⟨j, hj⟩ := by simp [List.getD_eq_getElem?_getD, hj]
      rw [this]
      exact hf ⟨j, hj⟩
set_option maxRecDepth 100000 in
/-- an argument that is facts -/
theorem facts_of_arg {H : Type} {enc : TypeId × Value → H} {W : World} {base : Nat} {v : Value} {d : DataW H} {p : List MemPlace} (hv : Value.okWide Try.prog W .any base 30 v)
    (h : DataW.Trod enc Try.prog W 0 (fun _ => true) true 30 v d p) : ∃ nv a n c l, v = .agg #[.bool nv, .slice a n c] ∧ n = l.length ∧ FaB 0 W (.slice a n c) l := by
  obtain ⟨fuel, hf⟩ := h
  obtain ⟨xs, n', rfl, _, hlen, hxl, hfld⟩ := DataW.trod_struct Try.underlying30 hf
  obtain ⟨cs, rfl, _⟩ := okWide_struct Try.underlying30 hv
  rw [fcCellsOf] at hlen
  obtain ⟨cs⟩ := cs
  match cs, hlen with
  | [x0, x1], _ =>
    have hxl2 : xs.length = 2 := hxl
    match xs, hxl2 with
    | [y0, y1], _ =>
      have f0 : DataW.trod enc Try.prog W 0 (fun _ => true) true n' 4 (([x0, x1].drop 0).take (Try.prog.cellsOf 4)) = some y0 := hfld 0 _ rfl
      have f1 : DataW.trod enc Try.prog W 0 (fun _ => true) true n' 28 (([x0, x1].drop 1).take (Try.prog.cellsOf 28)) = some y1 := hfld 1 _ rfl
      rw [tyBoolCells] at f0
      rw [faListCells] at f1
      obtain ⟨b, e0, _⟩ := DataW.trod_bool Try.underlying4 f0
      obtain ⟨a, k, c, l, e1, hk, hl⟩ := fas_trod f1
      obtain rfl : x0 = .bool b := by simpa using e0
      obtain rfl : x1 = .slice a k c := by simpa using e1
      exact ⟨b, a, k, c, l, rfl, hk, hl⟩
end Go.Proofs.Ytgjkobkcmgliaaa
