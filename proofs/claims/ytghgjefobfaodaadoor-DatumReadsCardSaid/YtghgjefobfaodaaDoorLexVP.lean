import Derived.Test.YtghgjefobfaodaaDoorLexU
namespace Go.Proofs.YtghgjefobfaodaaDoor
open Go.RowKit

theorem read_valid {c : UInt8} {r : List UInt8} {k : Nat} {t r' : List UInt8} (hb : blankB c = false) (h59 : c ≠ 59) (h : stepL (c :: r) = .tok k t r') (p : Int) : validT ⟨k, ⟨t.toArray⟩, p⟩ = true := by
  obtain ⟨s1, s2⟩ := stepL_self h
  unfold validT readsB
  simp only
  by_cases h6 : k = 6
  · subst h6
    obtain ⟨_, hg⟩ := s2 rfl
    have hq := quoted_esc (34 :: (escL t ++ [34])) t [] [] hg
    rw [List.nil_append] at hq
    have e : spellL ((6 : Nat) : Int) ⟨t.toArray⟩ = 34 :: (escL t ++ [34]) := spellL_six ⟨t.toArray⟩
    rw [e, lexN_tok (c := 34) _ (by decide) (by decide) ((stepL_quote _).trans hq), lexN_nil]
    simp only [Res.pre, List.append_nil]
    simp
  · obtain ⟨mm, h1, h2, h3⟩ := s1 h6
    have e : spellL (k : Int) ⟨t.toArray⟩ = c :: mm := by
      have := spellL_other (k := (k : Int)) ⟨t.toArray⟩ (by omega)
      rw [this]; exact h1
    rw [h1] at h3
    rw [e, lexN_tok _ hb h59 h3, lexN_nil]
    simp only [Res.pre, List.append_nil, h1]
    simp

/-- what is read: each token may be printed, stands in the text, and they rise -/
def Rises (lo hi : Int) : List Tok → Prop
  | [] => True
  | t :: r => lo ≤ t.pos ∧ t.pos < hi ∧ Rises (t.pos + 1) hi r
theorem Rises.mono {lo lo' hi : Int} {l : List Tok} (h : Rises lo hi l) (hl : lo' ≤ lo) : Rises lo' hi l := by
  cases l with
  | nil => trivial
  | cons t r => exact ⟨by have := h.1; omega, h.2.1, h.2.2⟩
theorem lex_read (N : Nat) : ∀ (n : Nat) (l : List UInt8), l.length ≤ n → l.length ≤ N → ∀ m, lexN N l = .ok m → m.all validT = true ∧ Rises ((N - l.length : Nat) : Int) N m := by
  intro n
  induction n with
  | zero => intro l h _ m he; obtain rfl := List.length_eq_zero_iff.1 (by omega : l.length = 0); rw [lexN_nil] at he; cases he; exact ⟨rfl, trivial⟩
  | succ n ih =>
    intro l h hN m he
    cases l with
    | nil => rw [lexN_nil] at he; cases he; exact ⟨rfl, trivial⟩
    | cons c r =>
      simp only [List.length_cons] at h hN
      cases hb : blankB c
      · by_cases h59 : c = 59
        · subst h59
          rw [lexN_cmt] at he
          have hd := dropCmt_le r
          obtain ⟨h1, h2⟩ := ih _ (by omega) (by omega) m he
          exact ⟨h1, h2.mono (by simp only [List.length_cons]; omega)⟩
        · cases hst : stepL (c :: r) with
          | err p e => rw [lexN_err _ hb h59 hst] at he; cases he
          | tok k t r' =>
            have hlt := stepL_lt hst
            simp only [List.length_cons] at hlt
            rw [lexN_tok _ hb h59 hst] at he
            cases hx : lexN N r' with
            | err p e => rw [hx] at he; cases he
            | ok x =>
              rw [hx] at he
              simp only [Res.pre, Res.ok.injEq] at he
              subst he
              obtain ⟨h1, h2⟩ := ih r' (by omega) (by omega) x hx
              simp only [List.cons_append, List.nil_append, List.all_cons, Bool.and_eq_true]
              refine ⟨⟨read_valid hb h59 hst _, h1⟩, ?_⟩
              refine ⟨Int.le_refl _, by simp only [List.length_cons]; omega, h2.mono ?_⟩
              simp only [List.length_cons]; omega
      · rw [lexN_blank _ _ _ hb] at he
        obtain ⟨h1, h2⟩ := ih _ (by omega) (by omega) m he
        exact ⟨h1, h2.mono (by simp only [List.length_cons]; omega)⟩

theorem quotedL_err (start : List UInt8) : ∀ (n : Nat) (l acc : List UInt8), l.length ≤ n → ∀ p c, quotedL start l acc = .err p c → p = start ∨ (p ≠ [] ∧ p.length ≤ l.length) := by
  intro n
  induction n with
  | zero => intro l acc h p c he; obtain rfl := List.length_eq_zero_iff.1 (by omega : l.length = 0); simp [quotedL] at he; exact .inl he.1.symm
  | succ n ih =>
    intro l acc h p e he
    cases l with
    | nil => simp [quotedL] at he; exact .inl he.1.symm
    | cons c r =>
      simp only [List.length_cons] at h ⊢
      by_cases h1 : c = 34
      · subst h1; rw [q_close] at he; cases he
      · by_cases h2 : c = 92
        · subst h2
          cases r with
          | nil => rw [q_end] at he; cases he; exact .inl rfl
          | cons d r2 =>
            simp only [List.length_cons] at h ⊢
            cases hd : escB d
            · rw [q_noesc _ _ _ hd] at he; cases he; exact .inr ⟨by simp, by simp⟩
            · rw [q_esc _ _ _ hd] at he
              rcases ih r2 _ (by omega) _ _ he with h | ⟨h, h'⟩
              · exact .inl h
              · exact .inr ⟨h, by omega⟩
        · cases hb : (decide (c < 32) || decide (126 < c))
          · rw [q_plain _ _ _ h1 h2 hb] at he
            rcases ih r _ (by omega) _ _ he with h | ⟨h, h'⟩
            · exact .inl h
            · exact .inr ⟨h, by omega⟩
          · rw [q_bad _ _ _ h1 h2 hb] at he; cases he; exact .inr ⟨by simp, by simp⟩
theorem stepL_err {c : UInt8} {r p : List UInt8} {e : Nat} (h : stepL (c :: r) = .err p e) : p ≠ [] ∧ p.length ≤ (c :: r).length := by
  revert h
  refine stepL_ways (P := fun st => st = .err p e → p ≠ [] ∧ p.length ≤ (c :: r).length) ?_ ?_ ?_ ?_
  · intro _ h; cases h
  · intro h
    cases r with
    | nil => simp only [boolL, Stp.err.injEq] at h; rw [← h.1]; exact ⟨by simp, by simp⟩
    | cons d r =>
      rw [boolL] at h
      by_cases hc : ((d == 116 || d == 102) && wordLen r == 0) = true
      · rw [if_pos hc] at h; cases h
      · rw [if_neg hc] at h; simp only [Stp.err.injEq] at h; rw [← h.1]; exact ⟨by simp, by simp⟩
  · intro h
    rcases quotedL_err _ _ _ _ (Nat.le_refl _) _ _ h with h | ⟨h, h'⟩
    · rw [h]; exact ⟨by simp, by simp⟩
    · exact ⟨h, by simp only [List.length_cons]; omega⟩
  · intro h
    rw [wordL] at h
    by_cases h0 : wordLen (c :: r) = 0
    · rw [if_pos h0] at h; simp only [Stp.err.injEq] at h; rw [← h.1]; exact ⟨by simp, by simp⟩
    · rw [if_neg h0] at h; cases h
theorem lex_err (N : Nat) : ∀ (n : Nat) (l : List UInt8), l.length ≤ n → l.length ≤ N → ∀ p c, lexN N l = .err p c → p < N := by
  intro n
  induction n with
  | zero => intro l h _ p c he; obtain rfl := List.length_eq_zero_iff.1 (by omega : l.length = 0); rw [lexN_nil] at he; cases he
  | succ n ih =>
    intro l h hN p e he
    cases l with
    | nil => rw [lexN_nil] at he; cases he
    | cons c r =>
      simp only [List.length_cons] at h hN
      cases hb : blankB c
      · by_cases h59 : c = 59
        · subst h59
          rw [lexN_cmt] at he
          have hd := dropCmt_le r
          exact ih _ (by omega) (by omega) _ _ he
        · cases hst : stepL (c :: r) with
          | err q e' =>
            rw [lexN_err _ hb h59 hst] at he
            simp only [Res.err.injEq] at he
            obtain ⟨hq, hql⟩ := stepL_err hst
            have : 0 < q.length := List.length_pos_iff.2 hq
            simp only [List.length_cons] at hql
            omega
          | tok k t r' =>
            have hlt := stepL_lt hst
            simp only [List.length_cons] at hlt
            rw [lexN_tok _ hb h59 hst] at he
            cases hx : lexN N r' with
            | err q e' =>
              rw [hx] at he
              simp only [Res.pre, Res.err.injEq] at he
              have := ih r' (by omega) (by omega) q e' hx
              omega
            | ok x => rw [hx] at he; cases he
      · rw [lexN_blank _ _ _ hb] at he
        exact ih _ (by omega) (by omega) _ _ he


end Go.Proofs.YtghgjefobfaodaaDoor
