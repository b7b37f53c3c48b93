import Derived.Test.YtghgjefobfaodaaDoorLexO
namespace Go.Proofs.YtghgjefobfaodaaDoor

/-- a word at the head of a text ends where a byte comes that is none of a word -/
def endsW (r : List UInt8) : Prop := r = [] ∨ ∃ c r', r = c :: r' ∧ wordB c = false

theorem wordLen_app : ∀ (l r : List UInt8), endsW r → wordLen (l ++ r) = wordLen l
  | [], r, h => by
    rcases h with rfl | ⟨c, r', rfl, hc⟩
    · rfl
    · simp [wordLen, hc]
  | c :: l, r, h => by
    have ih := wordLen_app l r h
    simp only [List.cons_append, wordLen]
    split
    · rw [ih]
    · rfl
theorem wordLen_take (l : List UInt8) : wordLen (l.take (wordLen l)) = wordLen l := by
  induction l with
  | nil => rfl
  | cons c r ih =>
    have e : ∀ l, wordLen (c :: l) = if wordB c then wordLen l + 1 else 0 := fun _ => rfl
    rw [e]
    cases hw : wordB c
    · rfl
    · rw [if_pos rfl, List.take_succ_cons, e, hw, if_pos rfl, ih]
theorem endsW_space (r : List UInt8) : endsW (32 :: r) := .inr ⟨32, r, rfl, by decide⟩

/-- the bytes of a word, alone or before what ends it, are read as it -/
theorem wordL_of (l r : List UInt8) (h : wordLen l = l.length) (h0 : l ≠ []) (he : endsW r) : wordL (l ++ r) = .tok (if isNum l then 5 else 4) l r := by
  have hw : wordLen (l ++ r) = l.length := by rw [wordLen_app l r he, h]
  unfold wordL
  rw [hw, if_neg (by simp [h0])]
  rw [List.take_left, List.drop_left]

theorem boolL_of (d : UInt8) (r : List UInt8) (hd : d = 116 ∨ d = 102) (he : endsW r) : boolL 35 (d :: r) = .tok 7 [35, d] r := by
  rw [boolL, if_pos]
  have : wordLen r = 0 := by
    have := wordLen_app [] r he
    simpa [wordLen] using this
  simpa [this] using hd

/-- may a byte stand in a quoted text's value? -/
def goodB (c : UInt8) : Bool := c == 10 || !(c < 32 || 126 < c)
theorem quoted_esc (start : List UInt8) : ∀ (t acc r : List UInt8), t.all goodB = true → quotedL start (escL t ++ 34 :: r) acc = .tok 6 (acc ++ t) r
  | [], acc, r, _ => by simp [escL, q_close]
  | c :: t, acc, r, h => by
    simp only [List.all_cons, Bool.and_eq_true] at h
    have ih := quoted_esc start t (acc ++ [c]) r h.2
    have e : escL (c :: t) ++ 34 :: r = escC c ++ (escL t ++ 34 :: r) := by
      show (escC c ++ escL t) ++ _ = _
      rw [List.append_assoc]
    rw [e]
    have ea : acc ++ c :: t = (acc ++ [c]) ++ t := by simp
    rw [ea, ← ih]
    unfold escC
    by_cases h10 : c = 10
    · subst h10; exact q_esc start _ acc (d := 110) (by decide)
    · rw [if_neg h10]
      by_cases hq : c = 34 ∨ c = 92
      · rw [if_pos (by simpa using hq)]
        rcases hq with rfl | rfl
        · exact q_esc start _ acc (d := 34) (by decide)
        · exact q_esc start _ acc (d := 92) (by decide)
      · rw [if_neg (by simpa using hq)]
        have hg : (decide (c < 32) || decide (126 < c)) = false := by
          have := h.1
          unfold goodB at this
          simpa [h10] using this
        exact q_plain start _ acc (not_or.1 hq).1 (not_or.1 hq).2 hg
/-- what a quoted text says holds only such bytes -/
theorem quoted_good (start : List UInt8) : ∀ (n : Nat) (l acc : List UInt8), l.length ≤ n → acc.all goodB = true → ∀ k t r, quotedL start l acc = .tok k t r → t.all goodB = true := by
  intro n
  induction n with
  | zero => intro l acc h _ k t r' he; obtain rfl := List.length_eq_zero_iff.1 (by omega : l.length = 0); simp [quotedL] at he
  | succ n ih =>
    intro l acc h ha k t r' he
    cases l with
    | nil => simp [quotedL] at he
    | cons c r =>
      simp only [List.length_cons] at h
      by_cases h1 : c = 34
      · subst h1; rw [q_close] at he; simp only [Stp.tok.injEq] at he; rw [← he.2.1]; exact ha
      · by_cases h2 : c = 92
        · subst h2
          cases r with
          | nil => rw [q_end] at he; cases he
          | cons d r2 =>
            simp only [List.length_cons] at h
            cases hd : escB d
            · rw [q_noesc _ _ _ hd] at he; cases he
            · rw [q_esc _ _ _ hd] at he
              refine ih r2 _ (by omega) ?_ _ _ _ he
              rw [List.all_append, ha, Bool.true_and]
              have : d = 34 ∨ d = 92 ∨ d = 110 := by simpa [escB, or_assoc] using hd
              rcases this with rfl | rfl | rfl <;> decide
        · cases hb : (decide (c < 32) || decide (126 < c))
          · rw [q_plain _ _ _ h1 h2 hb] at he
            refine ih r _ (by omega) ?_ _ _ _ he
            rw [List.all_append, ha, Bool.true_and]
            simp only [List.all_cons, List.all_nil, Bool.and_true, goodB, hb, Bool.not_false, Bool.or_true]
          · rw [q_bad _ _ _ h1 h2 hb] at he; cases he

theorem quotedL_app (start start' x : List UInt8) : ∀ (n : Nat) (l acc : List UInt8), l.length ≤ n → ∀ k t r, quotedL start l acc = .tok k t r → quotedL start' (l ++ x) acc = .tok k t (r ++ x) := by
  intro n
  induction n with
  | zero => intro l acc h k t r' he; obtain rfl := List.length_eq_zero_iff.1 (by omega : l.length = 0); simp [quotedL] at he
  | succ n ih =>
    intro l acc h k t r' he
    cases l with
    | nil => simp [quotedL] at he
    | cons c r =>
      simp only [List.length_cons] at h
      by_cases h1 : c = 34
      · subst h1; rw [q_close] at he; simp only [Stp.tok.injEq] at he
        obtain ⟨rfl, rfl, rfl⟩ := he
        exact q_close _ _ _
      · by_cases h2 : c = 92
        · subst h2
          cases r with
          | nil => rw [q_end] at he; cases he
          | cons d r2 =>
            simp only [List.length_cons] at h
            cases hd : escB d
            · rw [q_noesc _ _ _ hd] at he; cases he
            · rw [q_esc _ _ _ hd] at he
              have := ih r2 _ (by omega) _ _ _ he
              show quotedL start' (92 :: d :: (r2 ++ x)) acc = _
              rw [q_esc _ _ _ hd]; exact this
        · cases hb : (decide (c < 32) || decide (126 < c))
          · rw [q_plain _ _ _ h1 h2 hb] at he
            have := ih r _ (by omega) _ _ _ he
            show quotedL start' (c :: (r ++ x)) acc = _
            rw [q_plain _ _ _ h1 h2 hb]; exact this
          · rw [q_bad _ _ _ h1 h2 hb] at he; cases he

/-- a step, if more comes behind -/
theorem stepL_app {c : UInt8} {r : List UInt8} {k : Nat} {t r' : List UInt8} (x : List UInt8) (hx : endsW x) (h : stepL (c :: r) = .tok k t r') : stepL (c :: (r ++ x)) = .tok k t (r' ++ x) := by
  rw [stepL] at h ⊢
  by_cases e1 : c = 40
  · rw [if_pos e1] at h ⊢; simp only [Stp.tok.injEq] at h; obtain ⟨rfl, rfl, rfl⟩ := h; rfl
  rw [if_neg e1] at h ⊢
  by_cases e2 : c = 41
  · rw [if_pos e2] at h ⊢; simp only [Stp.tok.injEq] at h; obtain ⟨rfl, rfl, rfl⟩ := h; rfl
  rw [if_neg e2] at h ⊢
  by_cases e3 : c = 39
  · rw [if_pos e3] at h ⊢; simp only [Stp.tok.injEq] at h; obtain ⟨rfl, rfl, rfl⟩ := h; rfl
  rw [if_neg e3] at h ⊢
  by_cases e4 : c = 35
  · rw [if_pos e4] at h ⊢
    cases r with
    | nil => simp [boolL] at h
    | cons d r =>
      rw [boolL] at h
      by_cases hc : ((d == 116 || d == 102) && wordLen r == 0) = true
      · rw [if_pos hc] at h
        simp only [Stp.tok.injEq] at h
        obtain ⟨rfl, rfl, rfl⟩ := h
        show boolL c (d :: (r ++ x)) = _
        rw [boolL, if_pos]
        rw [wordLen_app r x hx]; exact hc
      · rw [if_neg hc] at h; cases h
  rw [if_neg e4] at h ⊢
  by_cases e5 : c = 34
  · rw [if_pos e5] at h ⊢
    exact quotedL_app _ _ x _ _ _ (Nat.le_refl _) _ _ _ h
  rw [if_neg e5] at h ⊢
  unfold wordL at h ⊢
  have hw : wordLen (c :: (r ++ x)) = wordLen (c :: r) := wordLen_app (c :: r) x hx
  have hl := wordLen_le (c :: r)
  rw [hw]
  by_cases h0 : wordLen (c :: r) = 0
  · rw [if_pos h0] at h; cases h
  · rw [if_neg h0] at h ⊢
    simp only [Stp.tok.injEq] at h
    obtain ⟨rfl, rfl, rfl⟩ := h
    have ht : List.take (wordLen (c :: r)) (c :: (r ++ x)) = List.take (wordLen (c :: r)) (c :: r) := by
      show List.take _ ((c :: r) ++ x) = _
      rw [List.take_append_of_le_length hl]
    have hd : List.drop (wordLen (c :: r)) (c :: (r ++ x)) = List.drop (wordLen (c :: r)) (c :: r) ++ x := by
      show List.drop _ ((c :: r) ++ x) = _
      rw [List.drop_append_of_le_length hl]
    rw [ht, hd]

/-- a token that a step has read, alone, is read as it; what a token other than a quoted text says are its bytes -/
theorem stepL_self {c : UInt8} {r : List UInt8} {k : Nat} {t r' : List UInt8} (h : stepL (c :: r) = .tok k t r') :
    (k ≠ 6 → ∃ m, t = c :: m ∧ c :: r = t ++ r' ∧ stepL t = .tok k t []) ∧ (k = 6 → c = 34 ∧ t.all goodB = true) := by
  have h0 := h
  rw [stepL] at h
  by_cases e1 : c = 40
  · rw [if_pos e1] at h; simp only [Stp.tok.injEq] at h; obtain ⟨rfl, rfl, rfl⟩ := h
    exact ⟨fun _ => ⟨[], rfl, rfl, by rw [e1]; rfl⟩, fun h => absurd h (by decide)⟩
  rw [if_neg e1] at h
  by_cases e2 : c = 41
  · rw [if_pos e2] at h; simp only [Stp.tok.injEq] at h; obtain ⟨rfl, rfl, rfl⟩ := h
    exact ⟨fun _ => ⟨[], rfl, rfl, by rw [e2]; rfl⟩, fun h => absurd h (by decide)⟩
  rw [if_neg e2] at h
  by_cases e3 : c = 39
  · rw [if_pos e3] at h; simp only [Stp.tok.injEq] at h; obtain ⟨rfl, rfl, rfl⟩ := h
    exact ⟨fun _ => ⟨[], rfl, rfl, by rw [e3]; rfl⟩, fun h => absurd h (by decide)⟩
  rw [if_neg e3] at h
  by_cases e4 : c = 35
  · rw [if_pos e4] at h
    cases r with
    | nil => simp [boolL] at h
    | cons d r =>
      rw [boolL] at h
      by_cases hc : ((d == 116 || d == 102) && wordLen r == 0) = true
      · rw [if_pos hc] at h
        simp only [Stp.tok.injEq] at h
        obtain ⟨rfl, rfl, rfl⟩ := h
        refine ⟨fun _ => ⟨[d], rfl, rfl, ?_⟩, fun h => absurd h (by decide)⟩
        rw [e4]
        have hd : d = 116 ∨ d = 102 := by simp at hc; exact hc.1
        exact boolL_of d [] hd (.inl rfl)
      · rw [if_neg hc] at h; cases h
  rw [if_neg e4] at h
  by_cases e5 : c = 34
  · rw [if_pos e5] at h
    have hk := quotedL_kind _ _ _ _ (Nat.le_refl _) _ _ _ h
    exact ⟨fun hn => absurd hk hn, fun _ => ⟨e5, quoted_good _ _ _ _ (Nat.le_refl _) rfl _ _ _ h⟩⟩
  rw [if_neg e5] at h
  unfold wordL at h
  have hl := wordLen_le (c :: r)
  by_cases hz : wordLen (c :: r) = 0
  · rw [if_pos hz] at h; cases h
  · rw [if_neg hz] at h
    simp only [Stp.tok.injEq] at h
    obtain ⟨hk, ht, hr⟩ := h
    have hwt : wordLen t = t.length := by
      rw [← ht, wordLen_take, List.length_take]; omega
    obtain ⟨n, hn⟩ : ∃ n, wordLen (c :: r) = n + 1 := ⟨wordLen (c :: r) - 1, by omega⟩
    have htc : t = c :: r.take n := by rw [← ht, hn, List.take_succ_cons]
    have hst : stepL t = wordL t := by rw [htc, stepL, if_neg e1, if_neg e2, if_neg e3, if_neg e4, if_neg e5]
    refine ⟨fun _ => ⟨_, htc, by rw [← ht, ← hr, List.take_append_drop], ?_⟩, fun h6 => ?_⟩
    · have := wordL_of t [] hwt (by rw [htc]; simp) (.inl rfl)
      rw [List.append_nil] at this
      rw [hst, this, ← hk, ht]
    · rw [h6] at hk; split at hk <;> cases hk

theorem spellL_six (t : ByteArray) : spellL 6 t = 34 :: (escL t.data.toList ++ [34]) := by unfold spellL; rw [if_pos rfl]
theorem spellL_other {k : Int} (t : ByteArray) (h : k ≠ 6) : spellL k t = t.data.toList := by unfold spellL; rw [if_neg h]
theorem stepL_quote (r : List UInt8) : stepL (34 :: r) = quotedL (34 :: r) r [] := rfl

/-- a text that is read as one token: where that begins, and what is behind it -/
theorem lexN_one (N : Nat) : ∀ (n : Nat) (l : List UInt8) (u : Tok), l.length ≤ n → lexN N l = .ok [u] →
    ∃ m c r k t r', l.drop m = c :: r ∧ blankB c = false ∧ c ≠ 59 ∧ stepL (c :: r) = .tok k t r' ∧ u.kind = (k : Int) ∧ u.text = ⟨t.toArray⟩ := by
  intro n
  induction n with
  | zero => intro l u h he; obtain rfl := List.length_eq_zero_iff.1 (by omega : l.length = 0); rw [lexN_nil] at he; cases he
  | succ n ih =>
    intro l u h he
    cases l with
    | nil => rw [lexN_nil] at he; cases he
    | cons c r =>
      simp only [List.length_cons] at h
      cases hb : blankB c
      · by_cases h59 : c = 59
        · subst h59
          rw [lexN_cmt] at he
          have hd := dropCmt_le r
          obtain ⟨m0, hm0⟩ := dropCmt_suffix r
          obtain ⟨m, c', r2, k, t, r', h1, h2⟩ := ih _ u (by omega) he
          rw [hm0, List.drop_drop] at h1
          exact ⟨m0 + m + 1, c', r2, k, t, r', h1, h2⟩
        · cases hst : stepL (c :: r) with
          | err p e => rw [lexN_err _ hb h59 hst] at he; cases he
          | tok k t r' =>
            rw [lexN_tok _ hb h59 hst] at he
            cases hx : lexN N r' with
            | err p e => rw [hx] at he; cases he
            | ok x =>
              rw [hx] at he
              simp only [Res.pre, Res.ok.injEq, List.cons_append, List.nil_append, List.cons.injEq] at he
              exact ⟨0, c, r, k, t, r', rfl, hb, h59, hst, by rw [← he.1], by rw [← he.1]⟩
      · rw [lexN_blank _ _ _ hb] at he
        obtain ⟨m, c', r2, k, t, r', h1, h2⟩ := ih _ u (by omega) he
        exact ⟨m + 1, c', r2, k, t, r', h1, h2⟩

theorem ba_toList {a b : ByteArray} (h : a.toList == b.toList) : a.data.toList = b.data.toList := by
  have := eq_of_beq h
  rwa [Lib.toList_data, Lib.toList_data] at this

/-- a valid token's bytes, before what ends a word, are read as it -/
theorem valid_step {t : Tok} (hv : validT t = true) : ∃ c l, spellL t.kind t.text = c :: l ∧ blankB c = false ∧ c ≠ 59 ∧
    ∃ k : Nat, (k : Int) = t.kind ∧ ∀ r, endsW r → stepL (c :: (l ++ r)) = .tok k t.text.data.toList r := by
  obtain ⟨kd, tx, ps⟩ := t
  simp only at hv ⊢
  unfold validT readsB at hv
  simp only at hv
  cases hl : lexN (⟨(spellL kd tx).toArray⟩ : ByteArray).size (⟨(spellL kd tx).toArray⟩ : ByteArray).data.toList with
  | err p c => rw [hl] at hv; cases hv
  | ok x =>
    rw [hl] at hv
    match x, hv, hl with
    | [u], hv, hl =>
      simp only [Bool.and_eq_true, beq_iff_eq] at hv
      obtain ⟨hk, htx⟩ := hv
      have htx' := ba_toList (by simpa using htx : u.text.toList == tx.toList)
      have e : (⟨(spellL kd tx).toArray⟩ : ByteArray).data.toList = spellL kd tx := rfl
      rw [e] at hl
      obtain ⟨m, c, r, k, tt, r', hd, hb, h59, hst, hku, htu⟩ := lexN_one _ _ _ u (Nat.le_refl _) hl
      have htt : tx.data.toList = tt := by rw [← htx', htu]
      obtain ⟨s1, s2⟩ := stepL_self hst
      by_cases h6 : k = 6
      · obtain ⟨_, hg⟩ := s2 h6
        have hkd : kd = 6 := by rw [← hk, hku, h6]; rfl
        subst hkd
        refine ⟨34, escL tx.data.toList ++ [34], spellL_six tx, by decide, by decide, 6, rfl, fun r' _ => ?_⟩
        rw [stepL_quote]
        have := quoted_esc (34 :: (escL tx.data.toList ++ [34] ++ r')) tx.data.toList [] r' (by rw [htt]; exact hg)
        rw [List.nil_append] at this
        rw [← this]
        simp
      · obtain ⟨mm, h1, h2, h3⟩ := s1 h6
        have hkd : kd ≠ 6 := by rw [← hk, hku]; omega
        rw [spellL_other tx hkd, htt]
        refine ⟨c, mm, h1, hb, h59, k, by rw [← hku, hk], fun r2 he => ?_⟩
        rw [h1] at h3
        have := stepL_app r2 he h3
        rw [this, h1]; rfl
end Go.Proofs.YtghgjefobfaodaaDoor
