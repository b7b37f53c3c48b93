import Derived.Test.YtgjkobkcmgliaaaNwMx
import Derived.Test.YtgjkobkcmgliaaaNwVa
namespace Go.Proofs.Ytgjkobkcmgliaaa
open Go.ChangeShapes Go.WideShapes Go.ChangeAt Go.RowKit

theorem vaCellsOf : Try.prog.cellsOf 58 = 2 := by kernel_rfl

set_option maxRecDepth 100000 in
/-- an argument that is values -/
theorem values_of_arg {H : Type} {enc : TypeId × Value → H} {W : World} {base : Nat} {v : Value} {d : DataW H} {p : List MemPlace} (hv : Value.okWide Try.prog W .any base 56 v)
    (h : DataW.Trod enc Try.prog W 0 (fun _ => true) true 56 v d p) : ∃ a k c l, v = .slice a k c ∧ k = l.length ∧ VaS W (.slice a k c) l := by
  obtain ⟨fuel, hf⟩ := h
  obtain ⟨va, vn, vc, rfl⟩ := okWide_slice Try.underlying56 hv
  rcases DataW.trod_slice Try.underlying56 hf with ⟨e, _⟩ | ⟨a, len, cap, elems, rest, m, rfl, e, _, _, hlc, hcm, hel, hi, _⟩
  · obtain ⟨rfl, rfl, rfl⟩ : va = none ∧ vn = 0 ∧ vc = 0 := by simpa [Value.cells] using e
    exact ⟨_, _, _, [], rfl, rfl, .inl ⟨rfl, _, _, rfl⟩⟩
  · obtain ⟨rfl, rfl, rfl⟩ : va = some a ∧ vn = len ∧ vc = cap := by simpa [Value.cells] using e
    by_cases h0 : vn = 0
    · subst h0; exact ⟨_, 0, _, [], rfl, rfl, .inl ⟨rfl, _, _, rfl⟩⟩
    have key : ∀ i, i < vn → ∃ f : Int × Bool, W.cell? (a.add (i * 2)) = some (.int .i64 f.1) ∧ W.cell? (a.add (i * 2 + 1)) = some (.bool f.2) := by
      intro i hil
      have hb := hi i hil
      have hil' : i < elems.length := by omega
      rw [List.getElem?_eq_getElem hil'] at hb
      obtain ⟨cs', hc, ht⟩ := Option.bind_eq_some_iff.1 hb
      rw [vaCellsOf] at hc
      obtain ⟨_, hlen, hat⟩ := World.cells?_some hc
      obtain ⟨xs, n', _, _, _, hxl, hfld⟩ := DataW.trod_struct Try.underlying58 ht
      match cs', hlen with
      | [x0, x1], _ =>
        have hxl2 : xs.length = 2 := hxl
        match xs, hxl2 with
        | [y0, y1], _ =>
          have f0 : DataW.trod enc Try.prog W 0 (fun _ => true) true n' 3 (([x0, x1].drop 0).take (Try.prog.cellsOf 3)) = some y0 := hfld 0 _ rfl
          have f1 : DataW.trod enc Try.prog W 0 (fun _ => true) true n' 4 (([x0, x1].drop 1).take (Try.prog.cellsOf 4)) = some y1 := hfld 1 _ rfl
          rw [tyIntCells] at f0
          rw [tyBoolCells] at f1
          obtain ⟨k, e0, _⟩ := DataW.trod_int Try.underlying3 f0
          obtain ⟨q, e1, _⟩ := DataW.trod_bool Try.underlying4 f1
          obtain rfl : x0 = .int .i64 k := by simpa using e0
          obtain rfl : x1 = .bool q := by simpa using e1
          have g0 := hat 0 (by omega)
          have g1 := hat 1 (by omega)
          rw [Go.Deep.add_add] at g0 g1
          exact ⟨⟨k, q⟩, g0, g1⟩
    obtain ⟨b, off, spot⟩ := a
    obtain ⟨t0, hc0, _⟩ := key 0 (by omega)
    have hspot : spot = none := by simpa [Addr.add] using World.cell?_spot hc0
    subst hspot
    have e : ∀ j, (⟨b, off, none⟩ : Addr).add j = ⟨b, off + j, none⟩ := fun j => by unfold Addr.add; split <;> simp_all
    have key2 : ∀ i : Fin vn, ∃ f : Int × Bool, W.cell? ⟨b, off + i.1 * 2, none⟩ = some (.int .i64 f.1) ∧ W.cell? ⟨b, off + i.1 * 2 + 1, none⟩ = some (.bool f.2) := by
      intro i
      obtain ⟨f, h1, h2⟩ := key i.1 i.2
      rw [e] at h1 h2
      exact ⟨f, h1, h2⟩
    let f : Fin vn → Int × Bool := fun i => Classical.choose (key2 i)
    have hf : ∀ i, _ := fun i => Classical.choose_spec (key2 i)
    refine ⟨_, vn, vc, List.ofFn f, rfl, by simp, .inr ⟨b, off, vc, by rw [List.length_ofFn], ?_, by rw [List.length_ofFn]; omega, fun j hj => ?_⟩⟩
    · rw [e] at hc0; exact World.block_lt_of_cell? W _ hc0
    · rw [List.length_ofFn] at hj
      have : (List.ofFn f).getD j vl0 = f ⟨j, hj⟩ := by simp [List.getD_eq_getElem?_getD, hj]
      rw [this]
      exact hf ⟨j, hj⟩
end Go.Proofs.Ytgjkobkcmgliaaa
