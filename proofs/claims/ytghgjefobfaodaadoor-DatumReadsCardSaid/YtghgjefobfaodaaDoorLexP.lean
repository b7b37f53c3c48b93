import Derived.Lib.Bytealg
import Derived.Lib.IndexBytes
import Derived.Lib.Hide
namespace Go.Proofs.YtghgjefobfaodaaDoor

theorem use2 {A B G : Prop} (h : A ∧ B) (k : A → B → G) : G := k h.1 h.2

/-- is a byte, as a number, a digit? -/
def digZ (c : Int) : Bool := decide (48 ≤ c) && decide (c ≤ 57)
/-- does a string hold a byte? -/
def hasZ (s : ByteArray) (c : Int) : Bool := s.data.toList.any fun d => (d.toNat : Int) == c
def wordTail : ByteArray := ⟨#[33, 63, 42, 43, 45, 47, 60, 61, 62, 58, 95, 46]⟩
/-- is a byte, as a number, one of a word? -/
def wordZ (c : Int) : Bool := digZ c || (decide (97 ≤ c) && decide (c ≤ 122)) || (decide (65 ≤ c) && decide (c ≤ 90)) || hasZ wordTail c
def wordB (c : UInt8) : Bool := wordZ c.toNat
def digB (c : UInt8) : Bool := digZ c.toNat

/-- how many bytes a word at the head of a text has; how many of them are digits -/
def wordLen : List UInt8 → Nat
  | [] => 0
  | c :: r => if wordB c then wordLen r + 1 else 0
def wordDigs : List UInt8 → Nat
  | [] => 0
  | c :: r => if wordB c then wordDigs r + (if digB c then 1 else 0) else 0

theorem wordLen_le : ∀ l, wordLen l ≤ l.length
  | [] => by simp [wordLen]
  | c :: r => by have := wordLen_le r; unfold wordLen; split <;> simp <;> omega
theorem wordDigs_le : ∀ l, wordDigs l ≤ wordLen l
  | [] => by simp [wordLen, wordDigs]
  | c :: r => by have := wordDigs_le r; unfold wordLen wordDigs; split <;> (try split) <;> omega

theorem indexByte_has (s : ByteArray) (c : UInt8) : decide (0 ≤ Lib.indexByte s.data.toList c) = hasZ s c.toNat := by
  unfold hasZ
  induction s.data.toList with
  | nil => rfl
  | cons d r ih =>
    simp only [List.any_cons, Lib.indexByte]
    have hc : ((d.toNat : Int) == (c.toNat : Int)) = (d == c) := by
      rw [Bool.eq_iff_iff]; simp [← UInt8.toNat_inj]; omega
    rw [hc]
    by_cases h : d = c
    · simp [h]
    · have hg := Lib.indexByte_ge r c
      have h' : (d == c) = false := by simpa using h
      rw [← ih]
      simp [h']
      split <;> grind

theorem byte_mem (s : ByteArray) (k : Nat) (h : k < s.size) : s[k] ∈ s.data.toList := by
  rw [Array.mem_toList_iff]
  exact Array.getElem_mem h
theorem take_any_snoc {p : UInt8 → Bool} (s : ByteArray) (k : Nat) (h : k < s.size) : (s.data.toList.take (k + 1)).any p = ((s.data.toList.take k).any p || p s[k]) := by
  rw [List.take_succ_eq_append_getElem (by simpa using h), List.any_append]
  simp; rfl
theorem drop_cons (s : ByteArray) (k : Nat) (h : k < s.size) : s.data.toList.drop k = s[k] :: s.data.toList.drop (k + 1) := by
  rw [List.drop_eq_getElem_cons (by simpa using h)]; rfl
theorem drop_none (s : ByteArray) (k : Nat) (h : ¬ k < s.size) : s.data.toList.drop k = [] := by
  rw [List.drop_eq_nil_iff]; simp; omega
theorem toNat_u8 (b : UInt8) : ((b.toNat : Int).toNat).toUInt8 = b := by simp

/-- where a byte stands first; -1 where it does not -/
def idxZ (s : ByteArray) (c : Int) : Int := Lib.indexByte s.data.toList c.toNat.toUInt8
theorem idx_has (s : ByteArray) (b : UInt8) : hasZ s b.toNat = decide (0 ≤ idxZ s b.toNat) := by
  unfold idxZ; rw [toNat_u8]; exact (indexByte_has s b).symm
theorem wordLen_at (s : ByteArray) (k : Nat) (h : k < s.size) : wordLen (s.data.toList.drop k) = if wordB s[k] then wordLen (s.data.toList.drop (k + 1)) + 1 else 0 := by
  rw [drop_cons s k h]; rfl
theorem wordDigs_at (s : ByteArray) (k : Nat) (h : k < s.size) : wordDigs (s.data.toList.drop k) = if wordB s[k] then wordDigs (s.data.toList.drop (k + 1)) + (if digB s[k] then 1 else 0) else 0 := by
  rw [drop_cons s k h]; rfl
theorem wordLen_end (s : ByteArray) (k : Nat) (h : s.size ≤ k) : wordLen (s.data.toList.drop k) = 0 ∧ wordDigs (s.data.toList.drop k) = 0 := by
  rw [drop_none s k (by omega)]; exact ⟨rfl, rfl⟩
theorem wordB_of (b : UInt8) : wordB b = (digZ b.toNat || (decide (97 ≤ (b.toNat : Int)) && decide ((b.toNat : Int) ≤ 122)) || (decide (65 ≤ (b.toNat : Int)) && decide ((b.toNat : Int) ≤ 90)) || decide (0 ≤ idxZ wordTail b.toNat)) := by
  unfold wordB wordZ; rw [idx_has]
theorem digB_of (b : UInt8) : digB b = (decide (48 ≤ (b.toNat : Int)) && decide ((b.toNat : Int) ≤ 57)) := rfl
theorem wd1 (b : UInt8) (h : 48 ≤ (b.toNat : Int)) (h' : (b.toNat : Int) ≤ 57) : wordB b = true ∧ digB b = true := by
  rw [wordB_of, digB_of]; unfold digZ; simp [h, h']
theorem wd2 (b : UInt8) (h : 97 ≤ (b.toNat : Int)) (h' : (b.toNat : Int) ≤ 122) : wordB b = true ∧ digB b = false := by
  rw [wordB_of, digB_of]; unfold digZ; simp [h, h']; omega
theorem wd3 (b : UInt8) (h : 65 ≤ (b.toNat : Int)) (h' : (b.toNat : Int) ≤ 90) : wordB b = true ∧ digB b = false := by
  rw [wordB_of, digB_of]; unfold digZ; simp [h, h']; omega
theorem wd4 (b : UInt8) (h : 0 ≤ idxZ wordTail b.toNat) (h' : ¬ (48 ≤ (b.toNat : Int) ∧ (b.toNat : Int) ≤ 57)) : wordB b = true ∧ digB b = false := by
  rw [wordB_of, digB_of]; unfold digZ; simp [h]; omega
theorem wd5 (b : UInt8) (h : idxZ wordTail b.toNat < 0) (h1 : ¬ (48 ≤ (b.toNat : Int) ∧ (b.toNat : Int) ≤ 57)) (h2 : ¬ (97 ≤ (b.toNat : Int) ∧ (b.toNat : Int) ≤ 122)) (h3 : ¬ (65 ≤ (b.toNat : Int) ∧ (b.toNat : Int) ≤ 90)) : wordB b = false ∧ digB b = false := by
  rw [wordB_of, digB_of]; unfold digZ
  rw [show decide (0 ≤ idxZ wordTail b.toNat) = false by simp; omega]
  grind

/-- a token: its kind, what it says, where it stands -/
structure Tok where
  kind : Int
  text : ByteArray
  pos : Int

/-- one token at the head of a text: what is behind it; or the place of an error, as what is left there -/
inductive Stp where
  | tok (kind : Nat) (text : List UInt8) (rest : List UInt8)
  | err (rest : List UInt8) (code : Nat)

def blankB (c : UInt8) : Bool := c == 32 || c == 9 || c == 10 || c == 13
def escB (d : UInt8) : Bool := d == 34 || d == 92 || d == 110
def unesc (d : UInt8) : UInt8 := if d = 110 then 10 else d

def quotedL (start : List UInt8) : List UInt8 → List UInt8 → Stp
  | [], _ => .err start 3
  | [c], acc => if c = 34 then .tok 6 acc [] else if c = 92 then .err start 3 else if c < 32 || 126 < c then .err [c] 2 else .err start 3
  | c :: d :: r, acc =>
    if c = 34 then .tok 6 acc (d :: r)
    else if c = 92 then (if escB d then quotedL start r (acc ++ [unesc d]) else .err (c :: d :: r) 2)
    else if c < 32 || 126 < c then .err (c :: d :: r) 2
    else quotedL start (d :: r) (acc ++ [c])

theorem q_close (start r acc : List UInt8) : quotedL start (34 :: r) acc = .tok 6 acc r := by cases r <;> simp [quotedL]
theorem q_bad (start r acc : List UInt8) {c : UInt8} (h : c ≠ 34) (h' : c ≠ 92) (hb : (c < 32 || 126 < c) = true) : quotedL start (c :: r) acc = .err (c :: r) 2 := by
  cases r <;> simp only [quotedL, h, h', hb, if_true, if_false]
theorem q_plain (start r acc : List UInt8) {c : UInt8} (h : c ≠ 34) (h' : c ≠ 92) (hb : (c < 32 || 126 < c) = false) : quotedL start (c :: r) acc = quotedL start r (acc ++ [c]) := by
  cases r <;> simp only [quotedL, h, h', hb, Bool.false_eq_true, if_false]
theorem q_end (start acc : List UInt8) : quotedL start [92] acc = .err start 3 := by simp [quotedL]
theorem q_esc (start r acc : List UInt8) {d : UInt8} (h : escB d = true) : quotedL start (92 :: d :: r) acc = quotedL start r (acc ++ [unesc d]) := by simp [quotedL, h]
theorem q_noesc (start r acc : List UInt8) {d : UInt8} (h : escB d = false) : quotedL start (92 :: d :: r) acc = .err (92 :: d :: r) 2 := by simp [quotedL, h]

def isNum (w : List UInt8) : Bool :=
  let v := if w.head? = some 45 then w.tail else w
  !v.isEmpty && v.all digB

def boolL (c : UInt8) : List UInt8 → Stp
  | [] => .err [c] 2
  | d :: r => if (d == 116 || d == 102) && wordLen r == 0 then .tok 7 [c, d] r else .err (c :: d :: r) 2
def wordL (l : List UInt8) : Stp := if wordLen l = 0 then .err l 2 else .tok (if isNum (l.take (wordLen l)) then 5 else 4) (l.take (wordLen l)) (l.drop (wordLen l))

def stepL : List UInt8 → Stp
  | [] => .err [] 2
  | c :: r =>
    if c = 40 then .tok 1 [c] r
    else if c = 41 then .tok 2 [c] r
    else if c = 39 then .tok 3 [c] r
    else if c = 35 then boolL c r
    else if c = 34 then quotedL (c :: r) r []
    else wordL (c :: r)

def dropCmt : List UInt8 → List UInt8
  | [] => []
  | c :: r => if c = 10 then r else dropCmt r

/-- what a text is read as: tokens, or an error's place and code -/
inductive Res where
  | ok (l : List Tok)
  | err (at_ : Nat) (code : Nat)

def Res.pre (acc : List Tok) : Res → Res
  | .ok l => .ok (acc ++ l)
  | .err p e => .err p e

def lexF (N : Nat) : Nat → List UInt8 → Res
  | _, [] => .ok []
  | 0, _ => .ok []
  | k + 1, c :: r =>
    if blankB c then lexF N k r
    else if c = 59 then lexF N k (dropCmt r)
    else match stepL (c :: r) with
      | .err p e => .err (N - p.length) e
      | .tok kd t r' => (lexF N k r').pre [⟨kd, ⟨t.toArray⟩, ((N - (c :: r).length : Nat) : Int)⟩]

def lexN (N : Nat) (l : List UInt8) : Res := lexF N l.length l

theorem idx_cmt : ∀ l : List UInt8, (Lib.indexByte l 10 < 0 ∧ dropCmt l = []) ∨ (0 ≤ Lib.indexByte l 10 ∧ ((dropCmt l).length : Int) + Lib.indexByte l 10 + 1 = l.length)
  | [] => by simp [Lib.indexByte, dropCmt]
  | c :: r => by
    by_cases h : c = 10
    · subst h; right; simp [Lib.indexByte, dropCmt]
    · have ih := idx_cmt r
      have hc : (c == 10) = false := by simpa using h
      simp only [Lib.indexByte, dropCmt, hc, h, if_false, Bool.false_eq_true, List.length_cons]
      have hg := Lib.indexByte_ge r 10
      rcases ih with ⟨h1, h2⟩ | ⟨h1, h2⟩
      · left
        rw [if_pos (by rw [beq_iff_eq]; omega)]
        exact ⟨by decide, h2⟩
      · right
        rw [if_neg (by rw [beq_iff_eq]; omega)]
        exact ⟨by omega, by push_cast; omega⟩
theorem cmt_idx (s : ByteArray) (a : Nat) (ha : a ≤ s.size) (l : List UInt8) (hl : (s.extract a s.size).data.toList = l) (hlen : l.length = s.size - a) :
    (idxZ (s.extract a s.size) 10 < 0 ∧ dropCmt l = []) ∨ (0 ≤ idxZ (s.extract a s.size) 10 ∧ ((dropCmt l).length : Int) + idxZ (s.extract a s.size) 10 + 1 + a = s.size) := by
  have h := idx_cmt l
  unfold idxZ
  rw [hl]
  show (Lib.indexByte l 10 < 0 ∧ _) ∨ (0 ≤ Lib.indexByte l 10 ∧ _ + Lib.indexByte l 10 + 1 + _ = _)
  rcases h with h | ⟨h1, h2⟩
  · exact .inl h
  · exact .inr ⟨h1, by omega⟩
theorem dropCmt_le : ∀ l, (dropCmt l).length ≤ l.length
  | [] => by simp [dropCmt]
  | c :: r => by have := dropCmt_le r; unfold dropCmt; split <;> simp <;> omega

theorem quotedL_lt {start : List UInt8} : ∀ (n : Nat) (l acc : List UInt8), l.length ≤ n → ∀ k t r', quotedL start l acc = .tok k t r' → r'.length < l.length := by
  intro n
  induction n with
  | zero => intro l acc h k t r' he; obtain rfl := List.length_eq_zero_iff.1 (by omega : l.length = 0); simp [quotedL] at he
  | succ n ih =>
    intro l acc h k t r' he
    cases l with
    | nil => simp [quotedL] at he
    | cons c r =>
      simp only [List.length_cons] at h ⊢
      by_cases h1 : c = 34
      · subst h1
        rw [q_close] at he
        simp only [Stp.tok.injEq] at he
        obtain ⟨_, _, rfl⟩ := he
        omega
      · by_cases h2 : c = 92
        · subst h2
          cases r with
          | nil => rw [q_end] at he; cases he
          | cons d r2 =>
            simp only [List.length_cons] at h ⊢
            cases hd : escB d
            · rw [q_noesc _ _ _ hd] at he; cases he
            · rw [q_esc _ _ _ hd] at he
              have := ih r2 _ (by omega) _ _ _ he; omega
        · cases hb : (decide (c < 32) || decide (126 < c))
          · rw [q_plain _ _ _ h1 h2 hb] at he
            have := ih r _ (by omega) _ _ _ he; omega
          · rw [q_bad _ _ _ h1 h2 hb] at he; cases he

theorem boolL_cases (l : List UInt8) :
    (∃ d r, l = d :: r ∧ (d = 116 ∨ d = 102) ∧ wordLen l = 1 ∧ l.take (wordLen l) = [d] ∧ boolL 35 l = .tok 7 [35, d] r) ∨
    (boolL 35 l = .err (35 :: l) 2 ∧ (l.take (wordLen l) == [116]) = false ∧ (l.take (wordLen l) == [102]) = false) := by
  cases l with
  | nil => right; simp [boolL]
  | cons d r =>
    by_cases hd : d = 116 ∨ d = 102
    · have hwd : wordB d = true := by rcases hd with rfl | rfl <;> decide
      have hl : wordLen (d :: r) = wordLen r + 1 := by simp [wordLen, hwd]
      by_cases hr : wordLen r = 0
      · left
        refine ⟨d, r, rfl, hd, by omega, by rw [hl, hr]; rfl, ?_⟩
        rw [boolL, if_pos]
        simpa [hr] using hd
      · right
        have hle := wordLen_le r
        rw [hl]
        refine ⟨?_, ?_, ?_⟩
        · rw [boolL, if_neg]
          simp [hr]
        all_goals
          rw [beq_eq_false_iff_ne]
          intro he
          have := congrArg List.length he
          rw [List.length_take] at this
          simp only [List.length_cons, List.length_nil] at this
          omega
    · right
      refine ⟨?_, ?_, ?_⟩
      · rw [boolL, if_neg]
        simp; intro h; exact absurd h hd
      all_goals
        rw [beq_eq_false_iff_ne]
        intro he
        cases hw : wordLen (d :: r) with
        | zero => rw [hw] at he; simp at he
        | succ k => rw [hw] at he; simp at he; exact hd (by simp [he.1])
theorem boolL_lt {c : UInt8} {l : List UInt8} {k : Nat} {t r' : List UInt8} (h : boolL c l = .tok k t r') : r'.length < l.length := by
  cases l with
  | nil => simp [boolL] at h
  | cons d r =>
    rw [boolL] at h
    by_cases hc : ((d == 116 || d == 102) && wordLen r == 0) = true
    · rw [if_pos hc] at h
      simp only [Stp.tok.injEq] at h; rw [← h.2.2]; simp
    · rw [if_neg hc] at h; cases h
theorem wordL_lt {l : List UInt8} {k : Nat} {t r' : List UInt8} (h : wordL l = .tok k t r') : r'.length < l.length := by
  rw [wordL] at h
  have := wordLen_le l
  by_cases h0 : wordLen l = 0
  · rw [if_pos h0] at h; cases h
  · rw [if_neg h0] at h; simp only [Stp.tok.injEq] at h; rw [← h.2.2, List.length_drop]; omega
theorem stepL_lt {l : List UInt8} {k : Nat} {t r' : List UInt8} (h : stepL l = .tok k t r') : r'.length < l.length := by
  cases l with
  | nil => simp [stepL] at h
  | cons c r =>
    rw [stepL] at h
    by_cases h1 : c = 40
    · rw [if_pos h1] at h; simp only [Stp.tok.injEq] at h; rw [← h.2.2]; simp
    rw [if_neg h1] at h
    by_cases h2 : c = 41
    · rw [if_pos h2] at h; simp only [Stp.tok.injEq] at h; rw [← h.2.2]; simp
    rw [if_neg h2] at h
    by_cases h3 : c = 39
    · rw [if_pos h3] at h; simp only [Stp.tok.injEq] at h; rw [← h.2.2]; simp
    rw [if_neg h3] at h
    by_cases h4 : c = 35
    · rw [if_pos h4] at h
      have := boolL_lt h
      simp only [List.length_cons]; omega
    rw [if_neg h4] at h
    by_cases h5 : c = 34
    · rw [if_pos h5] at h
      have := quotedL_lt _ _ _ (Nat.le_refl _) _ _ _ h
      simp only [List.length_cons]; omega
    rw [if_neg h5] at h
    exact wordL_lt h

theorem lexF_stable (N : Nat) : ∀ (k : Nat) (l : List UInt8) (j : Nat), l.length ≤ k → l.length ≤ j → lexF N k l = lexF N j l := by
  intro k
  induction k with
  | zero => intro l j h _; obtain rfl := List.length_eq_zero_iff.1 (by omega : l.length = 0); cases j <;> simp [lexF]
  | succ k ih =>
    intro l j h hj
    cases l with
    | nil => cases j <;> simp [lexF]
    | cons c r =>
      cases j with
      | zero => simp at hj
      | succ j =>
        simp only [List.length_cons] at h hj
        simp only [lexF]
        have hd := dropCmt_le r
        rw [ih r j (by omega) (by omega), ih (dropCmt r) j (by omega) (by omega)]
        split
        · rfl
        · split
          · rfl
          · split
            · rfl
            · have := stepL_lt ‹stepL (c :: r) = _›
              simp only [List.length_cons] at this
              rw [ih _ j (by omega) (by omega)]

theorem lexN_nil (N : Nat) : lexN N [] = .ok [] := rfl
theorem lexN_blank (N : Nat) (c : UInt8) (r : List UInt8) (h : blankB c = true) : lexN N (c :: r) = lexN N r := by
  unfold lexN; simp only [List.length_cons, lexF, h, if_true]
theorem blank_59 {c : UInt8} (h : c = 59) : blankB c = false := by subst h; decide
theorem lexN_cmt (N : Nat) (r : List UInt8) : lexN N (59 :: r) = lexN N (dropCmt r) := by
  unfold lexN
  simp only [List.length_cons, lexF, show blankB 59 = false from rfl, if_true, Bool.false_eq_true, if_false]
  exact lexF_stable N _ _ _ (dropCmt_le r) (Nat.le_refl _)
theorem lexN_err (N : Nat) {c : UInt8} {r p : List UInt8} {e : Nat} (hb : blankB c = false) (h59 : c ≠ 59) (h : stepL (c :: r) = .err p e) : lexN N (c :: r) = .err (N - p.length) e := by
  unfold lexN
  simp only [List.length_cons, lexF, hb, h59, h, Bool.false_eq_true, if_false]
theorem lexN_tok (N : Nat) {c : UInt8} {r t r' : List UInt8} {k : Nat} (hb : blankB c = false) (h59 : c ≠ 59) (h : stepL (c :: r) = .tok k t r') :
    lexN N (c :: r) = (lexN N r').pre [⟨k, ⟨t.toArray⟩, ((N - (c :: r).length : Nat) : Int)⟩] := by
  have hl := stepL_lt h
  simp only [List.length_cons] at hl
  unfold lexN
  simp only [List.length_cons, lexF, hb, h59, h, Bool.false_eq_true, if_false]
  rw [lexF_stable N r.length r' r'.length (by omega) (Nat.le_refl _)]
theorem Res.pre_pre (a b : List Tok) (x : Res) : (x.pre b).pre a = x.pre (a ++ b) := by cases x <;> simp [Res.pre]
theorem Res.pre_nil (x : Res) : x.pre [] = x := by cases x <;> simp [Res.pre]
end Go.Proofs.YtghgjefobfaodaaDoor
