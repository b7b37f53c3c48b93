import Derived.Test.YtghgjefobfaodaaDoorLexE
namespace Go.Proofs.YtghgjefobfaodaaDoor
open Go.RowKit

/-- a token's cells, as they lie in memory -/
def tokCells (t : Tok) : List Value := [.int .i64 t.kind, .string t.text, .int .i64 t.pos]
def toksCells (l : List Tok) : List Value := l.flatMap tokCells
theorem toksCells_len (l : List Tok) : (toksCells l).length = l.length * 3 := by
  induction l with
  | nil => rfl
  | cons t r ih =>
    have e : toksCells (t :: r) = [.int .i64 t.kind, .string t.text, .int .i64 t.pos] ++ toksCells r := rfl
    rw [e, List.length_append, ih, List.length_cons]; simp only [List.length_cons, List.length_nil]; omega
theorem toksCells_snoc (l : List Tok) (t : Tok) : toksCells (l ++ [t]) = toksCells l ++ tokCells t := by simp [toksCells]

def tok0 : Tok := ⟨0, ⟨#[]⟩, 0⟩
/-- a slice of tokens, as it lies in memory -/
def Toks (w : World) (v : Value) (l : List Tok) : Prop :=
  (l = [] ∧ ∃ a c, v = .slice a 0 c) ∨ ∃ b off cap, v = .slice (some ⟨b, off, none⟩) l.length cap ∧ b < w.heap.size ∧ l.length ≤ maxLen ∧
    ∀ j, j < l.length → w.cell? ⟨b, off + j * 3, none⟩ = some (.int .i64 (l.getD j tok0).kind) ∧ w.cell? ⟨b, off + j * 3 + 1, none⟩ = some (.string (l.getD j tok0).text) ∧ w.cell? ⟨b, off + j * 3 + 2, none⟩ = some (.int .i64 (l.getD j tok0).pos)
theorem Toks.below {w w' : World} {v : Value} {l : List Tok} (h : Toks w v l) (hb : Below w.heap.size w w') : Toks w' v l := by
  rcases h with h | ⟨b, off, cap, rfl, h1, h2, h3⟩
  · exact .inl h
  · exact .inr ⟨b, off, cap, rfl, Nat.lt_of_lt_of_le h1 hb.size, h2, fun j hj => ⟨(hb.cell (p := ⟨b, _, none⟩) h1).trans (h3 j hj).1, (hb.cell (p := ⟨b, _, none⟩) h1).trans (h3 j hj).2.1, (hb.cell (p := ⟨b, _, none⟩) h1).trans (h3 j hj).2.2⟩⟩
theorem toksCells_get (l : List Tok) (j : Nat) (hj : j < l.length) : (toksCells l)[3 * j]? = some (.int .i64 (l.getD j tok0).kind) ∧ (toksCells l)[3 * j + 1]? = some (.string (l.getD j tok0).text) ∧ (toksCells l)[3 * j + 2]? = some (.int .i64 (l.getD j tok0).pos) := by
  induction l generalizing j with
  | nil => simp at hj
  | cons t r ih =>
    cases j with
    | zero => simp [toksCells, tokCells]
    | succ j =>
      have := ih j (by simpa using hj)
      have e : toksCells (t :: r) = [.int .i64 t.kind, .string t.text, .int .i64 t.pos] ++ toksCells r := rfl
      rw [e, show 3 * (j + 1) = 3 * j + 3 by omega]
      refine ⟨?_, ?_, ?_⟩
      · rw [List.getElem?_append_right (by simp)]; simpa using this.1
      · rw [List.getElem?_append_right (by simp)]; simpa using this.2.1
      · rw [List.getElem?_append_right (by simp)]; simpa using this.2.2
theorem Toks.of_own {w : World} {B e : Nat} {v : Value} {l : List Tok} (h : w.ownsRow B e 3 v l.length (toksCells l)) (hm : l.length ≤ maxLen) : Toks w v l := by
  have hc := @World.ownsRow.cells _ _ _ _ _ _ _ h
  have hl := h.lt
  rcases h.2 with ⟨rfl, h0⟩ | ⟨g, cap, cur, rfl, hB, hg, hn, _⟩
  · exact .inl ⟨List.length_eq_zero_iff.1 h0, _, _, rfl⟩
  · refine .inr ⟨g, 0, cap, rfl, (hl g rfl).2, hm, fun j hj => ?_⟩
    obtain ⟨h1, h2, h3⟩ := toksCells_get l j hj
    rw [Nat.mul_comm 3 j] at h1 h2 h3
    have e : ∀ i, (⟨g, 0, none⟩ : Addr).add i = ⟨g, 0 + i, none⟩ := fun i => by unfold Addr.add; split <;> simp_all
    refine ⟨?_, ?_, ?_⟩
    · have := hc (g := g) rfl _ _ h1; rw [e] at this; exact this
    · have := hc (g := g) rfl _ _ h2; rw [e] at this; exact this
    · have := hc (g := g) rfl _ _ h3; rw [e] at this; exact this

/-- what Lex returns -/
def LexVal (w : World) (r : Res) (e : Ending) : Prop :=
  match r with
  | .ok l => ∃ sv, e = .returned (.tuple #[sv, .int .i64 0, .int .i64 0]) ∧ Toks w sv l
  | .err p c => e = .returned (.tuple #[.slice none 0 0, .int .i64 (p : Int), .int .i64 (c : Int)])

theorem dropCmt_suffix : ∀ l : List UInt8, ∃ n, dropCmt l = l.drop n
  | [] => ⟨0, rfl⟩
  | c :: r => by
    obtain ⟨n, hn⟩ := dropCmt_suffix r
    unfold dropCmt
    by_cases h : c = 10
    · exact ⟨1, by simp [h]⟩
    · exact ⟨n + 1, by simp [h, hn]⟩
theorem quotedL_suffix (start : List UInt8) : ∀ (n : Nat) (l acc : List UInt8), l.length ≤ n → ∀ k t r', quotedL start l acc = .tok k t r' → ∃ m, r' = l.drop m := by
  intro n
  induction n with
  | zero => intro l acc h k t r' he; obtain rfl := List.length_eq_zero_iff.1 (by omega : l.length = 0); simp [quotedL] at he
  | succ n ih =>
    intro l acc h k t r' he
    cases l with
    | nil => simp [quotedL] at he
    | cons c r =>
      simp only [List.length_cons] at h
      by_cases h1 : c = 34
      · subst h1
        rw [q_close] at he
        simp only [Stp.tok.injEq] at he
        exact ⟨1, he.2.2.symm⟩
      · by_cases h2 : c = 92
        · subst h2
          cases r with
          | nil => rw [q_end] at he; cases he
          | cons d r2 =>
            simp only [List.length_cons] at h
            cases hd : escB d
            · rw [q_noesc _ _ _ hd] at he; cases he
            · rw [q_esc _ _ _ hd] at he
              obtain ⟨m, hm⟩ := ih r2 _ (by omega) _ _ _ he
              exact ⟨m + 2, hm⟩
        · cases hb : (decide (c < 32) || decide (126 < c))
          · rw [q_plain _ _ _ h1 h2 hb] at he
            obtain ⟨m, hm⟩ := ih r _ (by omega) _ _ _ he
            exact ⟨m + 1, hm⟩
          · rw [q_bad _ _ _ h1 h2 hb] at he; cases he
theorem quotedL_code (start : List UInt8) : ∀ (n : Nat) (l acc : List UInt8), l.length ≤ n → ∀ p c, quotedL start l acc = .err p c → c = 2 ∨ c = 3 := by
  intro n
  induction n with
  | zero => intro l acc h p c he; obtain rfl := List.length_eq_zero_iff.1 (by omega : l.length = 0); simp [quotedL] at he; omega
  | succ n ih =>
    intro l acc h p e he
    cases l with
    | nil => simp [quotedL] at he; omega
    | cons c r =>
      simp only [List.length_cons] at h
      by_cases h1 : c = 34
      · subst h1; rw [q_close] at he; cases he
      · by_cases h2 : c = 92
        · subst h2
          cases r with
          | nil => rw [q_end] at he; cases he; exact .inr rfl
          | cons d r2 =>
            simp only [List.length_cons] at h
            cases hd : escB d
            · rw [q_noesc _ _ _ hd] at he; cases he; exact .inl rfl
            · rw [q_esc _ _ _ hd] at he
              exact ih r2 _ (by omega) _ _ he
        · cases hb : (decide (c < 32) || decide (126 < c))
          · rw [q_plain _ _ _ h1 h2 hb] at he
            exact ih r _ (by omega) _ _ he
          · rw [q_bad _ _ _ h1 h2 hb] at he; cases he; exact .inl rfl
/-- the ways of a step -/
theorem stepL_ways {P : Stp → Prop} {c : UInt8} {r : List UInt8} (h1 : ∀ k, P (.tok k [c] r)) (h2 : P (boolL c r)) (h3 : P (quotedL (c :: r) r [])) (h4 : P (wordL (c :: r))) : P (stepL (c :: r)) := by
  rw [stepL]
  by_cases e1 : c = 40
  · rw [if_pos e1]; exact h1 _
  rw [if_neg e1]
  by_cases e2 : c = 41
  · rw [if_pos e2]; exact h1 _
  rw [if_neg e2]
  by_cases e3 : c = 39
  · rw [if_pos e3]; exact h1 _
  rw [if_neg e3]
  by_cases e4 : c = 35
  · rw [if_pos e4]; exact h2
  rw [if_neg e4]
  by_cases e5 : c = 34
  · rw [if_pos e5]; exact h3
  rw [if_neg e5]; exact h4
theorem stepL_suffix (c : UInt8) (r : List UInt8) : ∀ k t r', stepL (c :: r) = .tok k t r' → ∃ m, r' = (c :: r).drop m := by
  refine stepL_ways (P := fun st => ∀ k t r', st = .tok k t r' → ∃ m, r' = (c :: r).drop m) ?_ ?_ ?_ ?_
  · intro _ k t r' h; simp only [Stp.tok.injEq] at h; exact ⟨1, h.2.2.symm⟩
  · intro k t r' h
    cases r with
    | nil => simp [boolL] at h
    | cons d r =>
      rw [boolL] at h
      by_cases hc : ((d == 116 || d == 102) && wordLen r == 0) = true
      · rw [if_pos hc] at h
        simp only [Stp.tok.injEq] at h; exact ⟨2, h.2.2.symm⟩
      · rw [if_neg hc] at h; cases h
  · intro k t r' h
    obtain ⟨m, hm⟩ := quotedL_suffix _ _ _ _ (Nat.le_refl _) _ _ _ h
    exact ⟨m + 1, hm⟩
  · intro k t r' h
    rw [wordL] at h
    by_cases h0 : wordLen (c :: r) = 0
    · rw [if_pos h0] at h; cases h
    · rw [if_neg h0] at h; simp only [Stp.tok.injEq] at h; exact ⟨_, h.2.2.symm⟩
theorem stepL_code (c : UInt8) (r : List UInt8) : ∀ p e, stepL (c :: r) = .err p e → e = 2 ∨ e = 3 := by
  refine stepL_ways (P := fun st => ∀ p e, st = .err p e → e = 2 ∨ e = 3) ?_ ?_ ?_ ?_
  · intro _ k t h; cases h
  · intro p e h
    cases r with
    | nil => simp [boolL] at h; omega
    | cons d r =>
      rw [boolL] at h
      by_cases hc : ((d == 116 || d == 102) && wordLen r == 0) = true
      · rw [if_pos hc] at h; cases h
      · rw [if_neg hc] at h; cases h; exact .inl rfl
  · intro p e h
    exact quotedL_code _ _ _ _ (Nat.le_refl _) _ _ h
  · intro p e h
    rw [wordL] at h
    by_cases h0 : wordLen (c :: r) = 0
    · rw [if_pos h0] at h; cases h; exact .inl rfl
    · rw [if_neg h0] at h; cases h
/-- a rest, by its length -/
theorem rest_at {all l r : List UInt8} {k m : Nat} (hl : l = all.drop k) (hr : r = l.drop m) : r = all.drop (all.length - r.length) := by
  subst hl hr
  simp only [List.drop_drop, List.length_drop]
  by_cases h : k + m ≤ all.length
  · congr 1; omega
  · rw [List.drop_eq_nil_of_le (by omega), List.drop_eq_nil_of_le (by omega)]
end Go.Proofs.YtghgjefobfaodaaDoor
