import Derived.Test.YtgjkobkcmgliaaaNwHp
namespace Go.Proofs.Ytgjkobkcmgliaaa
open Go.RowKit

/-- values in memory: a tag, a truth each -/
def VaS (w : World) (v : Value) (l : List (Int × Bool)) : Prop := (l = [] ∧ ∃ a c, v = .slice a 0 c) ∨ ∃ b off c, v = .slice (some ⟨b, off, none⟩) l.length c ∧ b < w.heap.size ∧ l.length ≤ maxLen ∧
  ∀ j, j < l.length → w.cell? ⟨b, off + j * 2, none⟩ = some (.int .i64 (l.getD j vl0).1) ∧ w.cell? ⟨b, off + j * 2 + 1, none⟩ = some (.bool (l.getD j vl0).2)
section
variable {w w' : World} {v : Value} {l : List (Int × Bool)}
theorem VaS.below (h : VaS w v l) (hb : Below w.heap.size w w') : VaS w' v l := by
  rcases h with h | ⟨b, off, c, rfl, h1, h2, h3⟩
  · exact .inl h
  · exact .inr ⟨b, off, c, rfl, Nat.lt_of_lt_of_le h1 hb.size, h2, fun j hj => ⟨(hb.cell (p := ⟨b, _, none⟩) h1).trans (h3 j hj).1, (hb.cell (p := ⟨b, _, none⟩) h1).trans (h3 j hj).2⟩⟩
theorem VaS.len (h : VaS w v l) : l.length ≤ maxLen := by
  rcases h with ⟨rfl, _⟩ | ⟨_, _, _, _, _, h2, _⟩
  · exact Nat.zero_le _
  · exact h2
theorem VaS.elem {pa : Option Addr} {n c : Nat} (h : VaS w (.slice pa n c) l) {j : Nat} (hj : j < l.length) : ∃ b off, pa = some ⟨b, off, none⟩ ∧ b < w.heap.size ∧ w.cell? ⟨b, off + j * 2, none⟩ = some (.int .i64 (l.getD j vl0).1) ∧ w.cell? ⟨b, off + j * 2 + 1, none⟩ = some (.bool (l.getD j vl0).2) := by
  rcases h with ⟨rfl, _⟩ | ⟨b, off, c', e, h1, h2, h3⟩
  · simp at hj
  · cases e; exact ⟨b, off, rfl, h1, h3 j hj⟩
end
end Go.Proofs.Ytgjkobkcmgliaaa
