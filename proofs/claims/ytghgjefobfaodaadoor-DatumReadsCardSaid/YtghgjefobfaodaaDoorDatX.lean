import Derived.Test.YtghgjefobfaodaaDoorDatW
import Derived.KernelRfl
namespace Go.Proofs.YtghgjefobfaodaaDoor
open Go.RowKit

/-- texts of data, each with a line's end -/
def linesD : List Dat → List UInt8
  | [] => []
  | d :: r => textD d ++ 10 :: linesD r
theorem linesD_snoc (l : List Dat) (k : Nat) (h : k < l.length) : linesD (l.take (k + 1)) = linesD (l.take k) ++ (textD (l.getD k dat0) ++ [10]) := by
  have happ : ∀ a b : List Dat, linesD (a ++ b) = linesD a ++ linesD b := by
    intro a b
    induction a with
    | nil => rfl
    | cons d r ih => simp [linesD, ih]
  rw [List.take_succ_eq_append_getElem h, happ]
  simp [linesD, List.getD_eq_getElem?_getD, h]
theorem linesD_len (l : List Dat) : (linesD l).length ≤ 5 * wts l := by
  induction l with
  | nil => simp [linesD]
  | cons d r ih =>
    have := (textD_len d).1
    have := wt_eq d
    simp only [linesD, wts, List.length_append, List.length_cons]; omega
theorem lex_lines (N : Nat) : ∀ l : List Dat, l.all (rightD 60) = true → ∃ m, m.map ktOf = ktssD l ∧ lexN N (linesD l) = .ok m
  | [], _ => ⟨[], rfl, lexN_nil N⟩
  | d :: r, h => by
    simp only [List.all_cons, Bool.and_eq_true] at h
    obtain ⟨m2, e2, h2⟩ := lex_lines N r h.2
    obtain ⟨m1, e1, h1⟩ := lex_datum N 60 d h.1 (10 :: linesD r) (ends_line _)
    refine ⟨m1 ++ m2, by simp [ktssD, e1, e2], ?_⟩
    show lexN N (textD d ++ 10 :: linesD r) = _
    rw [h1, lexN_blank _ _ _ (by decide), h2]
    rfl
theorem run_lines (N : Int) : ∀ (l : List Dat), l.all (rightD 60) = true → ∀ (base : List Dat) (m : List Tok), m.map ktOf = ktssD l → runD N [] base m = .ok (base ++ l)
  | [], _, base, m, hm => by
    simp only [ktssD, List.map_eq_nil_iff] at hm
    subst hm
    rw [runD_done]; simp
  | d :: r, h, base, m, hm => by
    simp only [List.all_cons, Bool.and_eq_true] at h
    simp only [ktssD] at hm
    obtain ⟨m1, m2, rfl, e1, e2⟩ := List.map_eq_append_iff.1 hm
    rw [run_datum N 60 d h.1 [] base m1 m2 (by simp) e1]
    have : pushD [] base d = ([], base ++ [d]) := rfl
    rw [this]
    simp only
    rw [run_lines N r h.2 (base ++ [d]) m2 e2]
    simp
/-- printed data are read back -/
theorem read_lines (N : Nat) (l : List Dat) (h : l.all (rightD 60) = true) : readN N (linesD l) = .ok l := by
  obtain ⟨m, e, hm⟩ := lex_lines N l h
  unfold readN
  rw [hm]
  simpa using run_lines N l h [] m e
theorem read_one (N : Nat) (d : Dat) (h : rightD 60 d = true) : readN N (textD d) = .ok [d] := by
  obtain ⟨m, e, hm⟩ := lex_datum N 60 d h [] (.inl rfl)
  rw [List.append_nil, lexN_nil] at hm
  unfold readN
  rw [hm]
  have e' : m.map ktOf = ktssD [d] := by rw [e]; simp [ktssD]
  simpa [Res.pre] using run_lines N [d] (by simp [h]) [] m e'

/-- a number's text is a number still -/
theorem strip_len : ∀ l : List UInt8, (stripR l).length ≤ l.length
  | [] => Nat.le_refl _
  | [c] => Nat.le_refl _
  | c :: d :: r => by
    have := strip_len (d :: r)
    simp only [stripR]
    split
    · simp only [List.length_cons] at this ⊢; omega
    · exact Nat.le_refl _
theorem strip_ne : ∀ l : List UInt8, l ≠ [] → stripR l ≠ []
  | [], h => h
  | [c], _ => by simp [stripR]
  | c :: d :: r, _ => by
    simp only [stripR]
    split
    · exact strip_ne (d :: r) (by simp)
    · simp
theorem strip_all (p : UInt8 → Bool) : ∀ l : List UInt8, l.all p = true → (stripR l).all p = true
  | [], h => h
  | [c], h => h
  | c :: d :: r, h => by
    simp only [stripR]
    split
    · exact strip_all p (d :: r) (by simp only [List.all_cons, Bool.and_eq_true] at h ⊢; exact h.2)
    · exact h
theorem strip_strip : ∀ l : List UInt8, stripR (stripR l) = stripR l
  | [] => rfl
  | [c] => rfl
  | c :: d :: r => by
    by_cases h : c = 48
    · have e : stripR (c :: d :: r) = stripR (d :: r) := by simp [stripR, h]
      rw [e]; exact strip_strip (d :: r)
    · have e : stripR (c :: d :: r) = c :: d :: r := by simp [stripR, h]
      rw [e]; exact e
theorem digB_45 : digB 45 = false := by decide
theorem head_not45 {l : List UInt8} (h : l.all digB = true) : ¬ l.head? = some 45 := by
  cases l with
  | nil => simp
  | cons c r =>
    simp only [List.all_cons, Bool.and_eq_true] at h
    intro hc
    simp only [List.head?_cons, Option.some.injEq] at hc
    rw [hc] at h
    exact absurd h.1 (by decide)
theorem plain_facts {l : List UInt8} (h : isNum l = true) : isNum (plainR l) = true ∧ plainR (plainR l) = plainR l ∧ (plainR l).length ≤ l.length := by
  unfold isNum at h
  by_cases h45 : l.head? = some 45
  · simp only [h45, if_true] at h
    simp only [Bool.and_eq_true, Bool.not_eq_true', List.isEmpty_eq_false_iff] at h
    have hs1 := strip_ne l.tail h.1
    have hs2 := strip_all digB l.tail h.2
    have hs3 := strip_len l.tail
    have hl : l.tail.length + 1 = l.length := by
      cases l with
      | nil => simp at h45
      | cons c r => rfl
    unfold plainR
    rw [if_pos h45]
    by_cases h48 : stripR l.tail = [48]
    · rw [if_pos h48, h48]
      exact ⟨by decide, by decide, by simp; omega⟩
    · rw [if_neg h48]
      refine ⟨?_, ?_, ?_⟩
      · unfold isNum
        simp only [List.head?_cons, if_true, List.tail_cons, hs2, Bool.and_true, Bool.not_eq_true', List.isEmpty_eq_false_iff]
        exact hs1
      · simp only [List.head?_cons, if_true, List.tail_cons, strip_strip, if_neg h48]
      · simp only [List.length_cons]; omega
  · simp only [h45, if_false] at h
    simp only [Bool.and_eq_true, Bool.not_eq_true', List.isEmpty_eq_false_iff] at h
    have hs1 := strip_ne l h.1
    have hs2 := strip_all digB l h.2
    have hs3 := strip_len l
    unfold plainR
    rw [if_neg h45]
    refine ⟨?_, ?_, hs3⟩
    · unfold isNum
      simp only [if_neg (head_not45 hs2), hs2, Bool.and_true, Bool.not_eq_true', List.isEmpty_eq_false_iff]
      exact hs1
    · rw [if_neg (head_not45 hs2), strip_strip]
theorem dig_word {c : UInt8} (h : digB c = true) : wordB c = true := by
  unfold wordB wordZ
  have : digZ c.toNat = true := h
  simp [this]
theorem wordLen_all : ∀ l : List UInt8, l.all wordB = true → wordLen l = l.length
  | [], _ => rfl
  | c :: r, h => by
    simp only [List.all_cons, Bool.and_eq_true] at h
    simp only [wordLen, h.1, if_true, wordLen_all r h.2, List.length_cons]
theorem num_word {l : List UInt8} (h : isNum l = true) : l.all wordB = true ∧ l ≠ [] := by
  unfold isNum at h
  cases l with
  | nil => simp at h
  | cons c r =>
    refine ⟨?_, by simp⟩
    by_cases hc : c = 45
    · subst hc
      simp only [List.head?_cons, if_true, List.tail_cons, Bool.and_eq_true] at h
      rw [List.all_cons, show wordB 45 = true by decide, Bool.true_and, List.all_eq_true]
      intro x hx
      exact dig_word (List.all_eq_true.1 h.2 x hx)
    · have : ¬ (c :: r).head? = some 45 := by simpa using hc
      simp only [this, if_false, Bool.and_eq_true] at h
      rw [List.all_eq_true]
      intro x hx
      exact dig_word (List.all_eq_true.1 h.2 x hx)
theorem num_reads {l : List UInt8} (h : isNum l = true) (p : Int) : validT ⟨5, ⟨l.toArray⟩, p⟩ = true := by
  obtain ⟨hw, hne⟩ := num_word h
  cases l with
  | nil => exact absurd rfl hne
  | cons c r =>
    have hc : wordB c = true := by simp only [List.all_cons, Bool.and_eq_true] at hw; exact hw.1
    have hwl := wordL_of (c :: r) [] (wordLen_all _ hw) hne (.inl rfl)
    rw [List.append_nil, h] at hwl
    have hst : stepL (c :: r) = .tok 5 (c :: r) [] := by
      rw [stepL]
      rw [if_neg (by rintro rfl; revert hc; decide), if_neg (by rintro rfl; revert hc; decide), if_neg (by rintro rfl; revert hc; decide), if_neg (by rintro rfl; revert hc; decide), if_neg (by rintro rfl; revert hc; decide)]
      simpa using hwl
    have hb : blankB c = false := by
      cases hb : blankB c with
      | false => rfl
      | true =>
        have : c = 32 ∨ c = 9 ∨ c = 10 ∨ c = 13 := by simp [blankB] at hb; grind
        rcases this with rfl | rfl | rfl | rfl <;> revert hc <;> decide
    exact read_valid hb (by rintro rfl; revert hc; decide) hst p

/-- what may stand at its place -/
def okFr (fs : List Fr) (base : List Dat) : Prop := base.all (rightD 60) = true ∧ fs.length ≤ 60 ∧ ∀ j, j < fs.length → (fs.getD j (false, [])).2.all (rightD (60 - (fs.length - j))) = true
theorem okFr_push : ∀ (fs : List Fr) (base : List Dat) (d : Dat), okFr fs base → rightD (60 - fs.length) d = true → okFr (pushD fs base d).1 (pushD fs base d).2
  | [], base, d, h, hd => ⟨by rw [pushD, List.all_append, h.1]; simpa using hd, by simp [pushD], fun j hj => by simp [pushD] at hj⟩
  | (false, es) :: fs, base, d, h, hd => by
    refine ⟨h.1, h.2.1, fun j hj => ?_⟩
    have := h.2.2 j hj
    cases j with
    | zero =>
      simp only [pushD, List.getD_cons_zero, List.length_cons] at this ⊢
      rw [List.all_append, this]
      simpa using hd
    | succ j => simpa [pushD] using this
  | (true, es) :: fs, base, d, h, hd => by
    have h0 := h.2.2 0 (by simp)
    have hl := h.2.1
    simp only [List.getD_cons_zero, List.length_cons, Nat.sub_zero] at h0 hd hl
    refine okFr_push fs base (listD (es ++ [d])) ⟨h.1, by omega, fun j hj => ?_⟩ ?_
    · have := h.2.2 (j + 1) (by simpa using hj)
      simp only [List.getD_cons_succ, List.length_cons] at this
      rwa [show fs.length + 1 - (j + 1) = fs.length - j by omega] at this
    · have e : 60 - fs.length = (60 - (fs.length + 1)) + 1 := by omega
      rw [e]
      have : rightD ((60 - (fs.length + 1)) + 1) (listD (es ++ [d])) = (decide ((⟨#[]⟩ : ByteArray).size = 0) && (es ++ [d]).all (rightD (60 - (fs.length + 1)))) := if_pos rfl
      have hd' : rightD (60 - (fs.length + 1)) d = true := hd
      rw [this, List.all_append, h0]
      simp only [List.all_cons, List.all_nil, hd']
      rfl
theorem right_leaf (n : Nat) {d : Dat} (h5 : d.kind ≠ 5) (h : leafC d = true) : rightD n d = true := by
  cases n with
  | zero => rw [← h]; exact if_neg h5
  | succ n => rw [← h]; exact if_neg h5
theorem quote_right (n : Nat) : rightD n quoteD = true := right_leaf n (by decide) (by kernel_rfl)
theorem tok_leaf {t : Tok} (hv : validT t = true) (h1 : t.kind ≠ 1) (h2 : t.kind ≠ 2) (h3 : t.kind ≠ 3) (h5 : t.kind ≠ 5) : leafC (.mk (t.kind - 3) t.text []) = true := by
  obtain ⟨b1, b7, _⟩ := valid_ok hv
  have e : leafC (.mk (t.kind - 3) t.text []) = (decide (1 ≤ t.kind - 3) && decide (t.kind - 3 ≤ 4) && true && validT ⟨t.kind - 3 + 3, t.text, 0⟩ && (t.kind - 3 != 2 || (plainC t.text.data.toList == t.text.data.toList && decide (digs t.text ≤ 200)))) := rfl
  have hv' : validT ⟨t.kind - 3 + 3, t.text, 0⟩ = true := by rw [show t.kind - 3 + 3 = t.kind by omega]; exact hv
  rw [e, hv', decide_eq_true (by omega : 1 ≤ t.kind - 3), decide_eq_true (by omega : t.kind - 3 ≤ 4)]
  have : (t.kind - 3 != 2) = true := by rw [bne_iff_ne]; omega
  rw [this]; rfl
theorem digs_plain {t : ByteArray} (h : isNum t.data.toList = true) (hd : ¬ 200 < digs t) : digs ⟨(plainR t.data.toList).toArray⟩ ≤ 200 := by
  unfold digs at hd ⊢
  have e1 : t.data.toList.length = t.size := Array.length_toList
  have e2 : (⟨(plainR t.data.toList).toArray⟩ : ByteArray).size = (plainR t.data.toList).length := by simp [ByteArray.size]
  have e3 : (⟨(plainR t.data.toList).toArray⟩ : ByteArray).data.toList = plainR t.data.toList := rfl
  rw [e2, e3]
  have hn := h
  unfold isNum at hn
  by_cases h45 : t.data.toList.head? = some 45
  · rw [if_pos h45] at hd
    have hs := strip_len t.data.toList.tail
    rw [List.length_tail] at hs
    unfold plainR
    rw [if_pos h45]
    by_cases h48 : stripR t.data.toList.tail = [48]
    · rw [if_pos h48, h48]; simp
    · rw [if_neg h48]
      simp only [List.head?_cons, if_true, List.length_cons]
      omega
  · rw [if_neg h45] at hd
    have hs := strip_len t.data.toList
    unfold plainR
    rw [if_neg h45]
    split <;> omega
theorem num_leaf {t : Tok} (hv : validT t = true) (h5 : t.kind = 5) (hd : ¬ 200 < digs t.text) : leafC (.mk 2 ⟨(plainR t.text.data.toList).toArray⟩ []) = true := by
  have hn := (valid_ok hv).2.2 h5
  obtain ⟨p1, p2, p3⟩ := plain_facts hn
  have e : leafC (.mk 2 ⟨(plainR t.text.data.toList).toArray⟩ []) = (true && true && true && validT ⟨5, ⟨(plainR t.text.data.toList).toArray⟩, 0⟩ && (false || (plainC (plainR t.text.data.toList) == plainR t.text.data.toList && decide (digs ⟨(plainR t.text.data.toList).toArray⟩ ≤ 200)))) := rfl
  rw [e, num_reads p1 0, plain_same p1, p2, decide_eq_true (digs_plain hn hd)]
  simp
theorem run_right (N : Int) : ∀ (ts : List Tok) (fs : List Fr) (base l : List Dat), (∀ t ∈ ts, validT t = true) → okFr fs base → runD N fs base ts = .ok l → l.all (rightD 60) = true
  | [], fs, base, l, _, h, he => by
    cases fs with
    | nil => rw [runD_done] at he; cases he; exact h.1
    | cons x q => rw [runD_nil] at he; cases he
  | t :: r, fs, base, l, hv, h, he => by
    have hvt := hv t (by simp)
    have hvr : ∀ u ∈ r, validT u = true := fun u hu => hv u (by simp [hu])
    by_cases k1 : t.kind = 1
    · rw [runD_open N fs base r k1] at he
      by_cases hl : 60 ≤ fs.length
      · rw [if_pos hl] at he; cases he
      · rw [if_neg hl] at he
        refine run_right N r _ base l hvr ⟨h.1, by simp; omega, fun j hj => ?_⟩ he
        cases j with
        | zero => rfl
        | succ j =>
          have := h.2.2 j (by simpa using hj)
          simp only [List.getD_cons_succ, List.length_cons]
          rwa [show fs.length + 1 - (j + 1) = fs.length - j by omega]
    by_cases k3 : t.kind = 3
    · rw [runD_quote N fs base r k3] at he
      by_cases hl : 60 ≤ fs.length
      · rw [if_pos hl] at he; cases he
      · rw [if_neg hl] at he
        refine run_right N r _ base l hvr ⟨h.1, by simp; omega, fun j hj => ?_⟩ he
        cases j with
        | zero => simp [quote_right]
        | succ j =>
          have := h.2.2 j (by simpa using hj)
          simp only [List.getD_cons_succ, List.length_cons]
          rwa [show fs.length + 1 - (j + 1) = fs.length - j by omega]
    by_cases k2 : t.kind = 2
    · match fs, h, he with
      | [], h, he => rw [runD_close_bad N [] base r k2 (.inl rfl)] at he; cases he
      | (true, es) :: q, h, he => rw [runD_close_bad N _ base r k2 (.inr ⟨_, _, rfl⟩)] at he; cases he
      | (false, es) :: q, h, he =>
        rw [runD_close N q base r k2] at he
        have h0 := h.2.2 0 (by simp)
        have hl := h.2.1
        simp only [List.getD_cons_zero, List.length_cons, Nat.sub_zero] at h0 hl
        refine run_right N r _ _ l hvr (okFr_push q base (listD es) ⟨h.1, by omega, fun j hj => ?_⟩ ?_) he
        · have := h.2.2 (j + 1) (by simpa using hj)
          simp only [List.getD_cons_succ, List.length_cons] at this
          rwa [show q.length + 1 - (j + 1) = q.length - j by omega] at this
        · have e : 60 - q.length = (60 - (q.length + 1)) + 1 := by omega
          rw [e]
          have : rightD ((60 - (q.length + 1)) + 1) (listD es) = (decide ((⟨#[]⟩ : ByteArray).size = 0) && es.all (rightD (60 - (q.length + 1)))) := if_pos rfl
          rw [this, h0]; rfl
    by_cases k5 : t.kind = 5
    · rw [runD_num N fs base r k5] at he
      by_cases hd : 200 < digs t.text
      · rw [if_pos hd] at he; cases he
      · rw [if_neg hd] at he
        exact run_right N r _ _ l hvr (okFr_push fs base _ h (right_leaf _ (d := .mk 2 ⟨(plainR t.text.data.toList).toArray⟩ []) (fun h => absurd (show (2 : Int) = 5 from h) (by decide)) (num_leaf hvt k5 hd))) he
    · rw [runD_leaf N fs base r k1 k2 k3 k5] at he
      obtain ⟨b1, b7, _⟩ := valid_ok hvt
      exact run_right N r _ _ l hvr (okFr_push fs base _ h (right_leaf _ (by show t.kind - 3 ≠ 5; omega) (tok_leaf hvt k1 k2 k3 k5))) he
/-- what is read may be -/
theorem read_right {N : Nat} {s : List UInt8} {l : List Dat} (h : readN N s = .ok l) (hs : s.length ≤ N) : l.all (rightD 60) = true := by
  unfold readN at h
  cases hx : lexN N s with
  | err p c => rw [hx] at h; cases h
  | ok ts =>
    rw [hx] at h
    exact run_right N ts [] [] l (fun t ht => ((lex_all hx hs).1 t ht).1) ⟨rfl, by simp, fun j hj => by simp at hj⟩ h
end Go.Proofs.YtghgjefobfaodaaDoor
