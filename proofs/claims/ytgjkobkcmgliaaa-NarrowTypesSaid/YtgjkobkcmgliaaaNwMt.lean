import Derived.Test.YtgjkobkcmgliaaaNwMet
namespace Go.Proofs.Ytgjkobkcmgliaaa
open Go.ChangeShapes Go.WideShapes Go.ChangeAt Go.RowKit

set_option maxRecDepth 100000 in
/-- an argument that is types -/
theorem types_of_arg {H : Type} {enc : TypeId × Value → H} {W : World} {base : Nat} {v : Value} {d : DataW H} {p : List MemPlace} (hv : Value.okWide Try.prog W .any base 46 v)
    (h : DataW.Trod enc Try.prog W 0 (fun _ => true) true 46 v d p) : ∃ a n c ts, v = .slice a n c ∧ n = ts.length ∧ n ≤ maxLen ∧ TyS W (Lo (fun _ => False) W) (.slice a n c) ts ∧ ∀ y ∈ ts, RngT y := by
  obtain ⟨fuel, hf⟩ := h
  obtain ⟨v', l, hc, hl, hr⟩ := tys_fuel _ _ _ hf
  obtain ⟨a, n, c, rfl⟩ := okWide_slice Try.underlying46 hv
  obtain rfl : v' = .slice a n c := by simpa [Value.cells] using hc.symm
  obtain ⟨a', c', e⟩ := hl.val
  cases e
  have hm : l.length ≤ maxLen := by
    rcases hl.inv with ⟨rfl, _⟩ | ⟨b, off, cap, rs, e, hb, hm, _⟩
    · exact Nat.zero_le _
    · exact hm
  exact ⟨a, _, c, l, rfl, rfl, hm, hl.mono (fun b h => ⟨h, fun h => h⟩) fun _ _ _ => rfl, hr⟩
end Go.Proofs.Ytgjkobkcmgliaaa
