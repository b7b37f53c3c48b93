import Derived.Test.YtghgjefobfaodaaDoorLexVP
import Derived.Test.YtghgjefobfaodaaDoorDatM
import Derived.Test.YtghgjefobfaodaaDoorDatQ
namespace Go.Proofs.YtghgjefobfaodaaDoor
open Go.RowKit

/-- what a step reads: its kind, and a number's form -/
theorem stepL_kind (c : UInt8) (r : List UInt8) : ∀ k t r', stepL (c :: r) = .tok k t r' → 1 ≤ k ∧ k ≤ 7 ∧ (k = 5 → isNum t = true) := by
  rw [stepL]
  by_cases e1 : c = 40
  · rw [if_pos e1]; intro k t r' h; cases h; exact ⟨by omega, by omega, fun h => by omega⟩
  rw [if_neg e1]
  by_cases e2 : c = 41
  · rw [if_pos e2]; intro k t r' h; cases h; exact ⟨by omega, by omega, fun h => by omega⟩
  rw [if_neg e2]
  by_cases e3 : c = 39
  · rw [if_pos e3]; intro k t r' h; cases h; exact ⟨by omega, by omega, fun h => by omega⟩
  rw [if_neg e3]
  by_cases e4 : c = 35
  · rw [if_pos e4]
    intro k t r' h
    cases r with
    | nil => simp [boolL] at h
    | cons d q =>
      rw [boolL] at h
      by_cases hc : ((d == 116 || d == 102) && wordLen q == 0) = true
      · rw [if_pos hc] at h; cases h; exact ⟨by omega, by omega, fun h => by omega⟩
      · rw [if_neg hc] at h; cases h
  rw [if_neg e4]
  by_cases e5 : c = 34
  · rw [if_pos e5]
    intro k t r' h
    have := quotedL_kind _ _ _ _ (Nat.le_refl _) _ _ _ h
    exact ⟨by omega, by omega, fun h => by omega⟩
  rw [if_neg e5]
  intro k t r' h
  rw [wordL] at h
  by_cases h0 : wordLen (c :: r) = 0
  · rw [if_pos h0] at h; cases h
  · rw [if_neg h0] at h
    cases hn : isNum ((c :: r).take (wordLen (c :: r))) with
    | true =>
      rw [hn] at h
      cases h
      exact ⟨by decide, by decide, fun _ => hn⟩
    | false =>
      rw [hn] at h
      cases h
      exact ⟨by decide, by decide, fun h => by simp at h⟩
/-- a valid token is one as Lex makes it -/
theorem valid_ok {t : Tok} (h : validT t = true) : okTok t := by
  obtain ⟨c, l, hs, hb, h59, k, hk, hst⟩ := valid_step h
  have := stepL_kind c (l ++ []) k _ _ (hst [] (.inl rfl))
  exact ⟨by omega, by omega, fun h5 => this.2.2 (by omega)⟩
theorem num_valid (t : ByteArray) (h : validT ⟨5, t, 0⟩ = true) : isNum t.data.toList = true := (valid_ok h).2.2 rfl
theorem rightR_eq (d : Dat) : rightR d = rightD 60 d := (right_same num_valid 60 d (by omega)).symm

/-- how much what is read holds -/
theorem quoted_len (start : List UInt8) : ∀ (n : Nat) (l acc : List UInt8), l.length ≤ n → ∀ k t r, quotedL start l acc = .tok k t r → t.length + r.length ≤ acc.length + l.length := by
  intro n
  induction n with
  | zero => intro l acc h k t r he; obtain rfl := List.length_eq_zero_iff.1 (by omega : l.length = 0); simp [quotedL] at he
  | succ n ih =>
    intro l acc h k t r he
    cases l with
    | nil => simp [quotedL] at he
    | cons c q =>
      simp only [List.length_cons] at h ⊢
      by_cases h1 : c = 34
      · subst h1; rw [q_close] at he; simp only [Stp.tok.injEq] at he; rw [← he.2.1, ← he.2.2]; omega
      · by_cases h2 : c = 92
        · subst h2
          cases q with
          | nil => rw [q_end] at he; cases he
          | cons d q2 =>
            simp only [List.length_cons] at h ⊢
            cases hd : escB d
            · rw [q_noesc _ _ _ hd] at he; cases he
            · rw [q_esc _ _ _ hd] at he
              have := ih q2 _ (by omega) _ _ _ he
              simp only [List.length_append, List.length_cons, List.length_nil] at this; omega
        · cases hb : (decide (c < 32) || decide (126 < c))
          · rw [q_plain _ _ _ h1 h2 hb] at he
            have := ih q _ (by omega) _ _ _ he
            simp only [List.length_append, List.length_cons, List.length_nil] at this; omega
          · rw [q_bad _ _ _ h1 h2 hb] at he; cases he
theorem stepL_len (c : UInt8) (r : List UInt8) : ∀ k t r', stepL (c :: r) = .tok k t r' → t.length + r'.length ≤ r.length + 1 := by
  refine stepL_ways (P := fun st => ∀ k t r', st = .tok k t r' → t.length + r'.length ≤ r.length + 1) ?_ ?_ ?_ ?_
  · intro k0 k t r' h; cases h; simp only [List.length_cons, List.length_nil]; omega
  · intro k t r' h
    cases r with
    | nil => simp [boolL] at h
    | cons d q =>
      rw [boolL] at h
      by_cases hc : ((d == 116 || d == 102) && wordLen q == 0) = true
      · rw [if_pos hc] at h; cases h; simp only [List.length_cons, List.length_nil]; omega
      · rw [if_neg hc] at h; cases h
  · intro k t r' h
    have := quoted_len _ _ _ _ (Nat.le_refl _) _ _ _ h
    simp only [List.length_nil] at this; omega
  · intro k t r' h
    rw [wordL] at h
    by_cases h0 : wordLen (c :: r) = 0
    · rw [if_pos h0] at h; cases h
    · rw [if_neg h0] at h
      simp only [Stp.tok.injEq] at h
      rw [← h.2.1, ← h.2.2, List.length_take, List.length_drop]
      have := wordLen_le (c :: r)
      simp only [List.length_cons] at this ⊢; omega
def tsum (l : List Tok) : Nat := (l.map fun t => t.text.size).sum
theorem lex_sum (N : Nat) : ∀ (n : Nat) (l : List UInt8), l.length ≤ n → ∀ m, lexN N l = .ok m → m.length ≤ l.length ∧ tsum m ≤ l.length := by
  intro n
  induction n with
  | zero => intro l h m he; obtain rfl := List.length_eq_zero_iff.1 (by omega : l.length = 0); rw [lexN_nil] at he; cases he; exact ⟨Nat.le_refl _, Nat.le_refl _⟩
  | succ n ih =>
    intro l h m he
    cases l with
    | nil => rw [lexN_nil] at he; cases he; exact ⟨Nat.le_refl _, Nat.le_refl _⟩
    | cons c r =>
      simp only [List.length_cons] at h ⊢
      cases hb : blankB c
      · by_cases h59 : c = 59
        · subst h59
          rw [lexN_cmt] at he
          have hd := dropCmt_le r
          have := ih _ (by omega) m he
          omega
        · cases hst : stepL (c :: r) with
          | err p e => rw [lexN_err _ hb h59 hst] at he; cases he
          | tok k t r' =>
            have hlt := stepL_lt hst
            have hsl := stepL_len c r k t r' hst
            simp only [List.length_cons] at hlt
            rw [lexN_tok _ hb h59 hst] at he
            cases hx : lexN N r' with
            | err p e => rw [hx] at he; cases he
            | ok x =>
              rw [hx] at he
              simp only [Res.pre, Res.ok.injEq] at he
              subst he
              have := ih r' (by omega) x hx
              have e : (⟨t.toArray⟩ : ByteArray).size = t.length := by simp [ByteArray.size]
              simp only [tsum, List.cons_append, List.nil_append, List.length_cons, List.map_cons, List.sum_cons, e] at this ⊢
              omega
      · rw [lexN_blank _ _ _ hb] at he
        have := ih r (by omega) m he
        omega
theorem tsum_mem {l : List Tok} {t : Tok} (h : t ∈ l) : t.text.size ≤ tsum l := by
  unfold tsum
  induction l with
  | nil => cases h
  | cons a r ih =>
    simp only [List.map_cons, List.sum_cons]
    rcases List.mem_cons.1 h with rfl | h'
    · omega
    · have := ih h'; omega
/-- what the lexer hands on -/
theorem lex_all {N : Nat} {l : List UInt8} {m : List Tok} (h : lexN N l = .ok m) (hl : l.length ≤ N) : (∀ t ∈ m, validT t = true ∧ okTok t ∧ t.text.size ≤ l.length) ∧ m.length ≤ l.length := by
  have h1 := (lex_read N _ l (Nat.le_refl _) hl m h).1
  have h2 := lex_sum N _ l (Nat.le_refl _) m h
  rw [List.all_eq_true] at h1
  exact ⟨fun t ht => ⟨h1 t ht, valid_ok (h1 t ht), by have := tsum_mem ht; omega⟩, h2.1⟩

/-- few enough: all of it is counted -/
theorem sumTo_all (n : Nat) : ∀ (l : List Dat) (a : Nat), sumTo n a l < 100000 → a + (l.map (sizeD n)).sum ≤ sumTo n a l ∧ ∀ x ∈ l, sizeD n x < 100000
  | [], a, h => ⟨by simp [sumTo], fun x hx => by cases hx⟩
  | d :: r, a, h => by
    have e : sumTo n a (d :: r) = sumTo n (if a < 100000 then min (a + sizeD n d) 100000 else a) r := rfl
    rw [e] at h ⊢
    have h2 := sumTo_all n r _ h
    by_cases ha : a < 100000
    · rw [if_pos ha] at h h2 ⊢
      have hm : min (a + sizeD n d) 100000 < 100000 := by omega
      refine ⟨?_, ?_⟩
      · simp only [List.map_cons, List.sum_cons]; omega
      · intro x hx
        rcases List.mem_cons.1 hx with rfl | hx
        · omega
        · exact h2.2 x hx
    · rw [if_neg ha] at h h2
      omega
theorem size_facts : ∀ (n : Nat) (d : Dat), sizeD n d < 100000 → wt d ≤ sizeD n d ∧ hgt d + 1 ≤ n
  | 0, d, h => by have : sizeD 0 d = 100000 := rfl; omega
  | n + 1, d, h => by
    rw [sizeD_succ] at h ⊢
    obtain ⟨h1, h2⟩ := sumTo_all n d.list _ h
    have h3 : ∀ l : List Dat, (∀ x ∈ l, sizeD n x < 100000) → wts l ≤ (l.map (sizeD n)).sum ∧ hgts l ≤ n := by
      intro l
      induction l with
      | nil => intro _; simp [wts, hgts]
      | cons x r ih =>
        intro hx
        have a1 := size_facts n x (hx x (by simp))
        have a2 := ih fun y hy => hx y (by simp [hy])
        simp only [wts, hgts, List.map_cons, List.sum_cons]
        omega
    have h4 := h3 d.list h2
    rw [wt_eq, hgt_mk]
    omega
theorem light_facts {d : Dat} (h : lightD d = true) : wt d < 3000 ∧ hgt d ≤ 100 := by
  unfold lightD at h
  have h := of_decide_eq_true h
  have := size_facts 100 d (by omega)
  omega
end Go.Proofs.YtghgjefobfaodaaDoor
