import Derived.Test.YtghgjefobfaodaaDoorDatN
namespace Go.Proofs.YtghgjefobfaodaaDoor
open Go.RowKit

/-- a token's kind and text -/
abbrev KT := Int × ByteArray
def ktOf (t : Tok) : KT := (t.kind, t.text)
mutual
/-- the tokens of a datum -/
def ktsD : Dat → List KT
  | .mk k t l => if k = 5 then (1, ⟨#[40]⟩) :: (ktssD l ++ [(2, ⟨#[41]⟩)]) else [(k + 3, t)]
def ktssD : List Dat → List KT
  | [] => []
  | d :: r => ktsD d ++ ktssD r
end
theorem ktsD_eq (d : Dat) : ktsD d = if d.kind = 5 then (1, ⟨#[40]⟩) :: (ktssD d.list ++ [(2, ⟨#[41]⟩)]) else [(d.kind + 3, d.text)] := by cases d; rfl

theorem ends_close (r : List UInt8) : endsW (41 :: r) := .inr ⟨41, r, rfl, by decide⟩
theorem ends_space (r : List UInt8) : endsW (32 :: r) := .inr ⟨32, r, rfl, by decide⟩
theorem ends_line (r : List UInt8) : endsW (10 :: r) := .inr ⟨10, r, rfl, by decide⟩
theorem textsD_ends (l : List Dat) (r : List UInt8) (h : endsW r) : endsW (textsD l ++ r) := by
  cases l with
  | nil => exact h
  | cons d q => exact ends_space _

/-- a datum's bytes are read as its tokens -/
theorem lex_datum (N : Nat) : ∀ (n : Nat) (d : Dat), rightD n d = true → ∀ r, endsW r → ∃ m, m.map ktOf = ktsD d ∧ lexN N (textD d ++ r) = (lexN N r).pre m := by
  have leafCase : ∀ d : Dat, ¬ d.kind = 5 → leafC d = true → ∀ r, endsW r → ∃ m, m.map ktOf = ktsD d ∧ lexN N (textD d ++ r) = (lexN N r).pre m := by
    intro d h5 hd r hr
    obtain ⟨_, _, hv, _⟩ := leafC_facts hd
    obtain ⟨c, l, hs, hb, h59, k, hk, hst⟩ := valid_step hv
    simp only at hs hk hst
    have et : textD d = c :: l := by rw [textD_eq, if_neg h5]; exact hs
    refine ⟨[⟨k, ⟨d.text.data.toList.toArray⟩, ((N - (c :: (l ++ r)).length : Nat) : Int)⟩], ?_, ?_⟩
    · rw [ktsD_eq, if_neg h5]
      simp only [List.map_cons, List.map_nil, ktOf, hk]
    · rw [et]
      exact lexN_tok N hb h59 (hst r hr)
  have listCase : ∀ (n : Nat), (∀ d, rightD n d = true → ∀ r, endsW r → ∃ m, m.map ktOf = ktsD d ∧ lexN N (textD d ++ r) = (lexN N r).pre m) →
      ∀ l : List Dat, l.all (rightD n) = true → ∀ r, endsW r → ∃ m, m.map ktOf = ktssD l ∧ lexN N (textsD l ++ r) = (lexN N r).pre m := by
    intro n ih l
    induction l with
    | nil => intro _ r _; exact ⟨[], rfl, by rw [Res.pre_nil]; rfl⟩
    | cons d q ihq =>
      intro h r hr
      simp only [List.all_cons, Bool.and_eq_true] at h
      obtain ⟨m2, e2, h2⟩ := ihq h.2 r hr
      obtain ⟨m1, e1, h1⟩ := ih d h.1 (textsD q ++ r) (textsD_ends q r hr)
      refine ⟨m1 ++ m2, by simp [ktssD, e1, e2], ?_⟩
      have e : textsD (d :: q) ++ r = 32 :: (textD d ++ (textsD q ++ r)) := by simp [textsD]
      rw [e, lexN_blank _ _ _ (by decide), h1, h2, Res.pre_pre]
  intro n
  induction n with
  | zero =>
    intro d hd
    by_cases h5 : d.kind = 5
    · have e : rightD 0 d = false := if_pos h5
      rw [e] at hd; cases hd
    · have e : rightD 0 d = leafC d := if_neg h5
      rw [e] at hd
      exact leafCase d h5 hd
  | succ n ih =>
    intro d hd
    by_cases h5 : d.kind = 5
    · have e : rightD (n + 1) d = (decide (d.text.size = 0) && d.list.all (rightD n)) := if_pos h5
      rw [e, Bool.and_eq_true] at hd
      intro r hr
      obtain ⟨m, em, hm⟩ := listCase n ih d.list hd.2 (41 :: r) (ends_close r)
      have hd1 : lexN N ((textsD d.list).drop 1 ++ 41 :: r) = lexN N (textsD d.list ++ 41 :: r) := by
        cases hl : d.list with
        | nil => rfl
        | cons x q =>
          have : textsD (x :: q) = 32 :: (textD x ++ textsD q) := by simp [textsD]
          rw [this]
          exact (lexN_blank N 32 _ (by decide)).symm
      have hcl : lexN N (41 :: r) = (lexN N r).pre [⟨2, ⟨#[41]⟩, ((N - (41 :: r).length : Nat) : Int)⟩] := lexN_tok N (by decide) (by decide) rfl
      have et : textD d ++ r = 40 :: ((textsD d.list).drop 1 ++ 41 :: r) := by rw [textD_eq, if_pos h5]; simp
      refine ⟨⟨1, ⟨#[40]⟩, ((N - (40 :: ((textsD d.list).drop 1 ++ 41 :: r)).length : Nat) : Int)⟩ :: (m ++ [⟨2, ⟨#[41]⟩, ((N - (41 :: r).length : Nat) : Int)⟩]), ?_, ?_⟩
      · rw [ktsD_eq, if_pos h5]
        simp only [List.map_cons, List.map_append, List.map_nil, em, ktOf]
      · rw [et, lexN_tok N (by decide) (by decide) (show stepL (40 :: ((textsD d.list).drop 1 ++ 41 :: r)) = .tok 1 [40] ((textsD d.list).drop 1 ++ 41 :: r) from rfl), hd1, hm, hcl, Res.pre_pre, Res.pre_pre]
        rfl
    · have e : rightD (n + 1) d = leafC d := if_neg h5
      rw [e] at hd
      exact leafCase d h5 hd

theorem dat_eta (d : Dat) : d = .mk d.kind d.text d.list := by cases d; rfl
/-- the tokens of a datum make it -/
theorem run_datum (N : Int) : ∀ (n : Nat) (d : Dat), rightD n d = true → ∀ (fs : List Fr) (base : List Dat) (m rest : List Tok), fs.length + n ≤ 60 → m.map ktOf = ktsD d →
    runD N fs base (m ++ rest) = runD N (pushD fs base d).1 (pushD fs base d).2 rest := by
  have leafCase : ∀ d : Dat, ¬ d.kind = 5 → leafC d = true → ∀ (fs : List Fr) (base : List Dat) (m rest : List Tok), m.map ktOf = ktsD d → runD N fs base (m ++ rest) = runD N (pushD fs base d).1 (pushD fs base d).2 rest := by
    intro d h5 hd fs base m rest hm
    obtain ⟨b1, b4, hv, hl⟩ := leafC_facts hd
    rw [ktsD_eq, if_neg h5] at hm
    obtain ⟨t, rfl⟩ : ∃ t, m = [t] := List.length_eq_one_iff.1 (by simpa using congrArg List.length hm)
    · simp only [List.map_cons, List.map_nil, List.cons.injEq, ktOf, Prod.mk.injEq, and_true] at hm
      obtain ⟨hk, ht⟩ := hm
      have hd' : d = .mk (t.kind - 3) t.text [] := by
        rw [dat_eta d, hl, ht, hk]
        congr 1
        omega
      by_cases k5 : t.kind = 5
      · have h2 : d.kind = 2 := by omega
        have hd2 := hd
        unfold leafC at hd2
        rw [h2] at hd2
        simp only [Bool.and_eq_true, bne_self_eq_false, Bool.false_or, decide_eq_true_eq, beq_iff_eq] at hd2
        have hnum := num_valid d.text (by have := hd2.1.2; exact this)
        have hpl : plainR t.text.data.toList = t.text.data.toList := by rw [ht, ← plain_same hnum]; exact hd2.2.1
        have hdg : ¬ 200 < digs t.text := by rw [ht]; omega
        rw [List.singleton_append, runD_num N fs base rest k5, if_neg hdg, hpl]
        rw [hd', k5]
        rfl
      · rw [List.singleton_append, runD_leaf N fs base rest (by omega) (by omega) (by omega) k5, ← hd']
  have listCase : ∀ (n : Nat), (∀ d, rightD n d = true → ∀ (fs : List Fr) (base : List Dat) (m rest : List Tok), fs.length + n ≤ 60 → m.map ktOf = ktsD d → runD N fs base (m ++ rest) = runD N (pushD fs base d).1 (pushD fs base d).2 rest) →
      ∀ (l : List Dat), l.all (rightD n) = true → ∀ (fs : List Fr) (base es : List Dat) (m rest : List Tok), fs.length + 1 + n ≤ 60 → m.map ktOf = ktssD l → runD N ((false, es) :: fs) base (m ++ rest) = runD N ((false, es ++ l) :: fs) base rest := by
    intro n ih l
    induction l with
    | nil =>
      intro _ fs base es m rest _ hm
      simp only [ktssD, List.map_eq_nil_iff] at hm
      subst hm
      simp
    | cons d q ihq =>
      intro h fs base es m rest hf hm
      simp only [List.all_cons, Bool.and_eq_true] at h
      simp only [ktssD] at hm
      obtain ⟨m1, m2, rfl, e1, e2⟩ := List.map_eq_append_iff.1 hm
      rw [List.append_assoc, ih d h.1 ((false, es) :: fs) base m1 (m2 ++ rest) (by simp; omega) e1]
      have : pushD ((false, es) :: fs) base d = ((false, es ++ [d]) :: fs, base) := rfl
      rw [this]
      simp only
      rw [ihq h.2 fs base (es ++ [d]) m2 rest hf e2]
      simp
  intro n
  induction n with
  | zero =>
    intro d hd
    by_cases h5 : d.kind = 5
    · have e : rightD 0 d = false := if_pos h5
      rw [e] at hd; cases hd
    · have e : rightD 0 d = leafC d := if_neg h5
      rw [e] at hd
      exact fun fs base m rest _ hm => leafCase d h5 hd fs base m rest hm
  | succ n ih =>
    intro d hd
    by_cases h5 : d.kind = 5
    · have e : rightD (n + 1) d = (decide (d.text.size = 0) && d.list.all (rightD n)) := if_pos h5
      rw [e, Bool.and_eq_true] at hd
      intro fs base m rest hf hm
      rw [ktsD_eq, if_pos h5] at hm
      match m, hm with
      | t :: m', hm =>
        simp only [List.map_cons, List.cons.injEq] at hm
        obtain ⟨ht, hm'⟩ := hm
        obtain ⟨m1, m2, rfl, e1, e2⟩ := List.map_eq_append_iff.1 hm'
        obtain ⟨u, rfl⟩ : ∃ u, m2 = [u] := List.length_eq_one_iff.1 (by simpa using congrArg List.length e2)
        · simp only [List.map_cons, List.map_nil, List.cons.injEq, and_true] at e2
          have k1 : t.kind = 1 := congrArg Prod.fst ht
          have k2 : u.kind = 2 := congrArg Prod.fst e2
          have htx : d.text = ⟨#[]⟩ := by
            have h0 := of_decide_eq_true hd.1
            have e : d.text.data.toList.length = d.text.size := Array.length_toList
            exact ba_ext (by rw [List.length_eq_zero_iff.1 (e.trans h0)])
          have hdd : d = listD d.list := by exact (dat_eta d).trans (by rw [h5, htx]; rfl)
          rw [List.cons_append, runD_open N fs base _ k1, if_neg (by omega), List.append_assoc, listCase n ih d.list hd.2 fs base [] m1 ([u] ++ rest) (by omega) e1]
          rw [List.nil_append, List.singleton_append, runD_close N fs base rest k2, ← hdd]
    · have e : rightD (n + 1) d = leafC d := if_neg h5
      rw [e] at hd
      exact fun fs base m rest _ hm => leafCase d h5 hd fs base m rest hm
end Go.Proofs.YtghgjefobfaodaaDoor
