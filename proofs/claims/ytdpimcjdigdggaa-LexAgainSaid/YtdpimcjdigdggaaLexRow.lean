import Derived.Test.YtdpimcjdigdggaaLexF
import Derived.ProofKit
import Derived.OpenShut
import Derived.Deep.Slices
import Derived.Deep.Fields
namespace Go.Proofs.Ytdpimcjdigdggaa
open Go.ChangeShapes Go.WideShapes Go.ChangeAt Go.RowKit
open Go.ChangeMaps (open_string shut_string)

theorem tokCellsOf : Try.prog.cellsOf 38 = 3 := by kernel_rfl
theorem intCellsOf : Try.prog.cellsOf 3 = 1 := by kernel_rfl
theorem strCellsOf : Try.prog.cellsOf 9 = 1 := by kernel_rfl
theorem rowOwn : ownKnob Try.prog.godebug = none := by kernel_rfl
theorem rowLaidOut : laidOutB Try.prog = true := by kernel_rfl

theorem cell_lt {w : World} {b o : Nat} {u : Value} (h : w.cell? ⟨b, o, none⟩ = some u) : b < w.heap.size := World.block_lt_of_cell? w _ h

/-- an argument that is a list of tokens, as it lies in memory -/
theorem toks_of_arg {H : Type} {enc : TypeId × Value → H} {W : World} {sp : Nat → Bool} {v : Value} {d : DataW H} {p : List MemPlace} (hv : ∃ a l c, v = .slice a l c)
    (h : DataW.Trod enc Try.prog W 0 sp true 22 v d p) : ∃ l, Toks W v l := by
  obtain ⟨a0, l0, c0, rfl⟩ := hv
  obtain ⟨fuel, hf⟩ := h
  rcases Go.Deep.open_slice Try.underlying22 hf with ⟨hcs, _⟩ | ⟨a, len, cap, m, n, D, Pl, hcs, hb, hl, hm, hmm, hx, hi⟩
  · simp [Value.cells] at hcs
    obtain ⟨rfl, rfl, rfl⟩ := hcs
    exact ⟨[], .inl ⟨rfl, _, _, rfl⟩⟩
  · simp [Value.cells] at hcs
    obtain ⟨rfl, rfl, rfl⟩ := hcs
    have hlm : l0 ≤ m := by rw [hmm]; split <;> omega
    have key : ∀ i, i < l0 → ∃ t : Tok, W.cell? (a.add (i * 3)) = some (.int .i64 t.kind) ∧ W.cell? (a.add (i * 3 + 1)) = some (.string t.text) ∧ W.cell? (a.add (i * 3 + 2)) = some (.int .i64 t.pos) := by
      intro i hil
      obtain ⟨cs', hc, ht⟩ := hi i (by omega)
      rw [tokCellsOf] at hc
      obtain ⟨_, hlen, hat⟩ := World.cells?_some hc
      obtain ⟨xs, n', _, _, _, hxl, hfld⟩ := DataW.trod_struct Try.underlying38 ht
      match cs', hlen with
      | [x0, x1, x2], _ =>
        have hxl3 : xs.length = 3 := hxl
        match xs, hxl3 with
        | [y0, y1, y2], _ =>
          have f0 : DataW.trod enc Try.prog W 0 sp true n' 3 (([x0, x1, x2].drop 0).take (Try.prog.cellsOf 3)) = some y0 := hfld 0 _ rfl
          have f1 : DataW.trod enc Try.prog W 0 sp true n' 9 (([x0, x1, x2].drop 1).take (Try.prog.cellsOf 9)) = some y1 := hfld 1 _ rfl
          have f2 : DataW.trod enc Try.prog W 0 sp true n' 3 (([x0, x1, x2].drop 2).take (Try.prog.cellsOf 3)) = some y2 := hfld 2 _ rfl
          rw [intCellsOf] at f0 f2
          rw [strCellsOf] at f1
          obtain ⟨k, e0, _⟩ := DataW.trod_int Try.underlying3 f0
          obtain ⟨s, e1, _⟩ := DataW.trod_string Try.underlying9 f1
          obtain ⟨q, e2, _⟩ := DataW.trod_int Try.underlying3 f2
          obtain rfl : x0 = .int .i64 k := by simpa using e0
          obtain rfl : x1 = .string s := by simpa using e1
          obtain rfl : x2 = .int .i64 q := by simpa using e2
          have g0 := hat 0 (by omega)
          have g1 := hat 1 (by omega)
          have g2 := hat 2 (by omega)
          rw [Go.Deep.add_add] at g0 g1 g2
          exact ⟨⟨k, s, q⟩, g0, g1, g2⟩
    by_cases h0 : l0 = 0
    · subst h0; exact ⟨[], .inl ⟨rfl, _, _, rfl⟩⟩
    · obtain ⟨b, off, spot⟩ := a
      obtain ⟨t0, hc0, _⟩ := key 0 (by omega)
      have hspot : spot = none := by simpa [Addr.add] using World.cell?_spot hc0
      subst hspot
      have e : ∀ j, (⟨b, off, none⟩ : Addr).add j = ⟨b, off + j, none⟩ := fun j => by unfold Addr.add; split <;> simp_all
      have key2 : ∀ i : Fin l0, ∃ t : Tok, W.cell? ⟨b, off + i.1 * 3, none⟩ = some (.int .i64 t.kind) ∧ W.cell? ⟨b, off + i.1 * 3 + 1, none⟩ = some (.string t.text) ∧ W.cell? ⟨b, off + i.1 * 3 + 2, none⟩ = some (.int .i64 t.pos) := by
        intro i
        obtain ⟨t, h1, h2, h3⟩ := key i.1 i.2
        rw [e] at h1 h2 h3
        exact ⟨t, h1, h2, h3⟩
      let f : Fin l0 → Tok := fun i => Classical.choose (key2 i)
      have hf : ∀ i, _ := fun i => Classical.choose_spec (key2 i)
      refine ⟨List.ofFn f, .inr ⟨b, off, c0, by rw [List.length_ofFn], ?_, by rw [List.length_ofFn]; omega, fun j hj => ?_⟩⟩
      · rw [e] at hc0; exact cell_lt hc0
      · rw [List.length_ofFn] at hj
        have : (List.ofFn f).getD j tok0 = f ⟨j, hj⟩ := by simp [List.getD_eq_getElem?_getD, hj]
        rw [this]
        exact hf ⟨j, hj⟩
end Go.Proofs.Ytdpimcjdigdggaa
