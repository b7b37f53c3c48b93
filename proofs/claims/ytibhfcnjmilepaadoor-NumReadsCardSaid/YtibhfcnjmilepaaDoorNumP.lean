import Derived.Lib.Hide
import GoSem.Op.String
namespace Go.Proofs.YtibhfcnjmilepaaDoor

/-- what a row of decimal digits says -/
def valL (l : List UInt8) : Nat := l.foldl (fun n c => 10 * n + (c.toNat - 48)) 0
def isD (c : UInt8) : Bool := decide (48 ≤ c) && decide (c ≤ 57)
def allD (l : List UInt8) : Prop := ∀ c ∈ l, isD c = true
/-- a digit's byte -/
def dig (n : Nat) : UInt8 := UInt8.ofNat (48 + n)
/-- a number's digits -/
def decN (n : Nat) : List UInt8 := if n < 10 then [dig n] else decN (n / 10) ++ [dig (n % 10)]
def trimL : List UInt8 → List UInt8
  | [] => [48]
  | [c] => [c]
  | c :: d :: r => if c = 48 then trimL (d :: r) else c :: d :: r

theorem isD_nat (c : UInt8) : isD c = true ↔ 48 ≤ c.toNat ∧ c.toNat ≤ 57 := by
  simp [isD, UInt8.le_iff_toNat_le]
theorem dig_nat {n : Nat} (h : n < 10) : (dig n).toNat = 48 + n := by simp [dig]; omega
theorem dig_isD {n : Nat} (h : n < 10) : isD (dig n) = true := by rw [isD_nat, dig_nat h]; omega
theorem dig_of {c : UInt8} (h : isD c = true) : dig (c.toNat - 48) = c := by
  rw [isD_nat] at h
  apply UInt8.toNat_inj.1
  rw [dig_nat (by omega)]; omega

theorem val_foldl (l : List UInt8) : ∀ a, l.foldl (fun n c => 10 * n + (c.toNat - 48)) a = a * 10 ^ l.length + valL l := by
  unfold valL
  induction l with
  | nil => intro a; simp
  | cons c r ih =>
    intro a
    simp only [List.foldl_cons, List.length_cons]
    rw [ih, ih (10 * 0 + (c.toNat - 48)), Nat.pow_succ]
    generalize (List.foldl (fun n c => 10 * n + (c.toNat - 48)) 0 r) = x
    generalize 10 ^ r.length = p
    generalize c.toNat - 48 = d
    rw [Nat.add_mul, Nat.add_mul, Nat.mul_zero, Nat.zero_mul, Nat.zero_add, Nat.mul_comm 10 a, Nat.mul_assoc, Nat.mul_comm 10 p, Nat.add_assoc]
theorem val_nil : valL [] = 0 := rfl
theorem val_cons (c : UInt8) (l : List UInt8) : valL (c :: l) = (c.toNat - 48) * 10 ^ l.length + valL l := by
  have := val_foldl l (10 * 0 + (c.toNat - 48))
  unfold valL at this ⊢
  rw [List.foldl_cons, this]; simp
theorem val_snoc (c : UInt8) (l : List UInt8) : valL (l ++ [c]) = 10 * valL l + (c.toNat - 48) := by
  unfold valL; rw [List.foldl_append]; rfl
theorem val_app (l m : List UInt8) : valL (l ++ m) = valL l * 10 ^ m.length + valL m := by
  conv => lhs; unfold valL
  rw [List.foldl_append, val_foldl]; rfl
theorem val_lt : ∀ (l : List UInt8), allD l → valL l < 10 ^ l.length
  | [], _ => by simp [valL]
  | c :: r, h => by
    have h1 := val_lt r fun x hx => h x (by simp [hx])
    have h2 := (isD_nat c).1 (h c (by simp))
    rw [val_cons, List.length_cons, Nat.pow_succ]
    have : (c.toNat - 48) * 10 ^ r.length ≤ 9 * 10 ^ r.length := Nat.mul_le_mul_right _ (by omega)
    omega
theorem decN_small {n : Nat} (h : n < 10) : decN n = [dig n] := by rw [decN, if_pos h]
theorem decN_big {n : Nat} (h : 10 ≤ n) : decN n = decN (n / 10) ++ [dig (n % 10)] := by rw [decN, if_neg (by omega)]
theorem val_dec (n : Nat) : valL (decN n) = n := by
  induction n using Nat.strongRecOn with
  | ind n ih =>
    by_cases h : n < 10
    · rw [decN_small h, val_cons, dig_nat h]; simp [val_nil]
    · rw [decN_big (by omega), val_snoc, ih (n / 10) (by omega), dig_nat (by omega)]; omega
theorem dec_allD (n : Nat) : allD (decN n) := by
  induction n using Nat.strongRecOn with
  | ind n ih =>
    by_cases h : n < 10
    · rw [decN_small h]; intro c hc; simp at hc; subst hc; exact dig_isD h
    · rw [decN_big (by omega)]
      intro c hc
      rcases List.mem_append.1 hc with hc | hc
      · exact ih (n / 10) (by omega) c hc
      · simp at hc; subst hc; exact dig_isD (by omega)
theorem dec_ne (n : Nat) : decN n ≠ [] := by
  by_cases h : n < 10
  · rw [decN_small h]; simp
  · rw [decN_big (by omega)]; simp
/-- a row of digits that has no nought ahead, but one alone -/
def canon (l : List UInt8) : Prop := l ≠ [] ∧ (l.length = 1 ∨ l.head? ≠ some 48)
theorem canon_val : ∀ (n : Nat) (l : List UInt8), l.length = n → allD l → canon l → decN (valL l) = l := by
  intro n
  induction n with
  | zero => intro l hl _ hc; exact absurd (List.length_eq_zero_iff.1 hl) hc.1
  | succ n ih =>
    intro l hl hd hc
    obtain ⟨r, c, rfl⟩ : ∃ r c, l = r ++ [c] := ⟨l.dropLast, l.getLast hc.1, (List.dropLast_concat_getLast hc.1).symm⟩
    have hcd := hd c (by simp)
    have hcn := (isD_nat c).1 hcd
    rw [val_snoc]
    cases r with
    | nil =>
      rw [val_nil, decN_small (by omega)]
      simp only [Nat.mul_zero, Nat.zero_add, List.nil_append]
      rw [dig_of hcd]
    | cons d r =>
      have hh : d ≠ 48 := by
        rcases hc.2 with h | h
        · simp at h
        · simpa using h
      have hdn := (isD_nat d).1 (hd d (by simp))
      have hne : d.toNat ≠ 48 := fun h => hh (UInt8.toNat_inj.1 h)
      have hpos : 0 < valL (d :: r) := by
        rw [val_cons]
        have : 1 * 10 ^ r.length ≤ (d.toNat - 48) * 10 ^ r.length := Nat.mul_le_mul_right _ (by omega)
        have := Nat.pow_pos (n := r.length) (show 0 < 10 by omega)
        omega
      have := ih (d :: r) (by simp at hl ⊢; omega) (fun x hx => hd x (List.mem_append_left _ hx)) ⟨by simp, .inr (by simpa using hh)⟩
      rw [decN_big (by omega), show (10 * valL (d :: r) + (c.toNat - 48)) / 10 = valL (d :: r) by omega, this, show (10 * valL (d :: r) + (c.toNat - 48)) % 10 = c.toNat - 48 by omega, dig_of hcd]
theorem trim_facts : ∀ l : List UInt8, allD l → allD (trimL l) ∧ canon (trimL l) ∧ valL (trimL l) = valL l
  | [], _ => ⟨fun c hc => by simp [trimL] at hc; subst hc; decide, ⟨by simp [trimL], .inl (by simp [trimL])⟩, by decide⟩
  | [c], h => ⟨h, ⟨by simp [trimL], .inl (by simp [trimL])⟩, rfl⟩
  | c :: d :: r, h => by
    by_cases hc : c = 48
    · subst hc
      have := trim_facts (d :: r) fun x hx => h x (by simp at hx ⊢; right; exact hx)
      rw [trimL, if_pos rfl, val_cons]
      simpa using this
    · rw [trimL, if_neg hc]
      exact ⟨h, ⟨by simp, .inr (by simpa using hc)⟩, rfl⟩
theorem trim_dec {l : List UInt8} (h : allD l) : trimL l = decN (valL l) := by
  obtain ⟨h1, h2, h3⟩ := trim_facts l h
  rw [← h3, canon_val _ _ rfl h1 h2]
theorem dec_inj {n m : Nat} (h : decN n = decN m) : n = m := by rw [← val_dec n, h, val_dec]
theorem dec_canon (n : Nat) : canon (decN n) := by
  have := trim_facts (decN n) (dec_allD n)
  rw [trim_dec (dec_allD n), val_dec] at this
  exact this.2.1
/-- how many digits -/
theorem dec_len {n k : Nat} (hk : 0 < k) : (decN n).length ≤ k ↔ n < 10 ^ k := by
  constructor
  · intro h
    have h1 := val_lt _ (dec_allD n)
    rw [val_dec] at h1
    exact Nat.lt_of_lt_of_le h1 (Nat.pow_le_pow_right (by omega) h)
  · intro h
    induction k generalizing n with
    | zero => omega
    | succ k ih =>
      by_cases h10 : n < 10
      · rw [decN_small h10]; simp
      · rw [decN_big (by omega), List.length_append]
        by_cases k0 : k = 0
        · subst k0; simp at h; omega
        · have := ih (n := n / 10) (by omega) (by rw [Nat.pow_succ] at h; omega)
          simp; omega
theorem dec_pos (n : Nat) : 0 < (decN n).length := List.length_pos_iff.2 (dec_ne n)
theorem len_lt {n m : Nat} (h : (decN n).length < (decN m).length) : n < m := by
  have h1 := val_lt _ (dec_allD n)
  rw [val_dec] at h1
  have h2 : ¬ (decN m).length ≤ (decN n).length := by omega
  rw [dec_len (dec_pos n)] at h2
  omega
/-- the i-th digit from the lowest on -/
theorem val_digit : ∀ (l : List UInt8), allD l → ∀ i, i < l.length → valL l / 10 ^ i % 10 = (l.getD (l.length - 1 - i) 0).toNat - 48
  | [], _, i, h => by simp at h
  | c :: r, hd, i, h => by
    have h1 := val_lt r fun x hx => hd x (by simp [hx])
    have hc := (isD_nat c).1 (hd c (by simp))
    simp only [List.length_cons] at h ⊢
    rw [val_cons]
    by_cases hi : i = r.length
    · subst hi
      rw [show r.length + 1 - 1 - r.length = 0 by omega, List.getD_cons_zero, Nat.mul_comm, Nat.mul_add_div (Nat.pow_pos (by omega)), Nat.div_eq_of_lt h1]
      omega
    · have hlt : i < r.length := by omega
      obtain ⟨j, hj⟩ : ∃ j, r.length = i + 1 + j := ⟨r.length - i - 1, by omega⟩
      rw [show r.length + 1 - 1 - i = (r.length - 1 - i) + 1 by omega, List.getD_cons_succ, ← val_digit r (fun x hx => hd x (by simp [hx])) i hlt]
      have : (c.toNat - 48) * 10 ^ r.length = 10 ^ i * (10 * ((c.toNat - 48) * 10 ^ j)) := by
        rw [hj, Nat.pow_add, Nat.pow_add]
        rw [Nat.pow_one]
        ac_rfl
      rw [this, Nat.mul_add_div (Nat.pow_pos (by omega))]
      omega
theorem val_digit0 (l : List UInt8) (hd : allD l) (i : Nat) (h : l.length ≤ i) : valL l / 10 ^ i % 10 = 0 := by
  have h1 := val_lt l hd
  have h2 := Nat.pow_le_pow_right (n := 10) (by omega) h
  rw [Nat.div_eq_of_lt (by omega)]
/-- one digit of a sum -/
theorem sum_step {A B V M i n : Nat} (h : V + 10 ^ i * M = A % 10 ^ i + B % 10 ^ i) (hn : n = A / 10 ^ i % 10 + B / 10 ^ i % 10 + M) :
    (n % 10 * 10 ^ i + V) + 10 ^ (i + 1) * (n / 10) = A % 10 ^ (i + 1) + B % 10 ^ (i + 1) := by
  rw [Nat.mod_pow_succ, Nat.mod_pow_succ, Nat.pow_succ]
  generalize hp : 10 ^ i = p at *
  have e : n % 10 * p + p * 10 * (n / 10) = p * n := by
    have : p * n = p * (n % 10 + 10 * (n / 10)) := by rw [Nat.mod_add_div]
    rw [this, Nat.mul_add, Nat.mul_comm (n % 10), Nat.mul_assoc]
  have e2 : p * n = p * (A / p % 10) + p * (B / p % 10) + p * M := by rw [hn, Nat.mul_add, Nat.mul_add]
  omega
/-- one digit of a difference -/
theorem less_step {A B V M i : Nat} (hM : M ≤ 1) (h : V + B % 10 ^ i = A % 10 ^ i + 10 ^ i * M) (n : Int) (hn : n = (A / 10 ^ i % 10 : Nat) - (B / 10 ^ i % 10 : Nat) - M) :
    (0 ≤ n → (n.toNat * 10 ^ i + V) + B % 10 ^ (i + 1) = A % 10 ^ (i + 1) + 10 ^ (i + 1) * 0) ∧ (n < 0 → ((n + 10).toNat * 10 ^ i + V) + B % 10 ^ (i + 1) = A % 10 ^ (i + 1) + 10 ^ (i + 1) * 1) := by
  rw [Nat.mod_pow_succ, Nat.mod_pow_succ, Nat.pow_succ]
  generalize hp : 10 ^ i = p at *
  have ha : A / p % 10 < 10 := Nat.mod_lt _ (by omega)
  have hb : B / p % 10 < 10 := Nat.mod_lt _ (by omega)
  generalize A / p % 10 = a at *
  generalize B / p % 10 = b at *
  constructor
  · intro h0
    obtain ⟨t, ht⟩ : ∃ t, n.toNat = t := ⟨_, rfl⟩
    have : a = t + b + M := by omega
    rw [ht, this, Nat.mul_add, Nat.mul_add, Nat.mul_comm t]
    omega
  · intro h0
    obtain ⟨t, ht⟩ : ∃ t, (n + 10).toNat = t := ⟨_, rfl⟩
    have : a + 10 = t + b + M := by omega
    have e : p * (a + 10) = p * (t + b + M) := by rw [this]
    rw [Nat.mul_add, Nat.mul_add, Nat.mul_add] at e
    rw [ht, Nat.mul_comm t]
    omega
theorem less_end {A B V M i : Nat} (h : V + B % 10 ^ i = A % 10 ^ i + 10 ^ i * M) (hA : A < 10 ^ i) (hBA : B ≤ A) (hV : V < 10 ^ i) : V = A - B := by
  rw [Nat.mod_eq_of_lt hA, Nat.mod_eq_of_lt (show B < 10 ^ i by omega)] at h
  generalize 10 ^ i = p at *
  cases M with
  | zero => omega
  | succ m => rw [Nat.mul_add] at h; omega
theorem less_val : ∀ x y : List UInt8, x.length = y.length → allD x → allD y → Op.bytesLess x y = decide (valL x < valL y)
  | [], [], _, _, _ => by simp [Op.bytesLess]
  | a :: x, b :: y, h, ha, hb => by
    have ih := less_val x y (by simpa using h) (fun c hc => ha c (by simp [hc])) (fun c hc => hb c (by simp [hc]))
    have h1 := val_lt x fun c hc => ha c (by simp [hc])
    have h2 := val_lt y fun c hc => hb c (by simp [hc])
    have a1 := (isD_nat a).1 (ha a (by simp))
    have b1 := (isD_nat b).1 (hb b (by simp))
    have hl : x.length = y.length := by simpa using h
    rw [Op.bytesLess, ih, val_cons, val_cons, hl]
    rw [hl] at h1
    generalize 10 ^ y.length = p at *
    by_cases hlt : a < b
    · have : a.toNat < b.toNat := UInt8.lt_iff_toNat_lt.1 hlt
      have e : (a.toNat - 48 + 1) * p ≤ (b.toNat - 48) * p := Nat.mul_le_mul_right _ (by omega)
      rw [Nat.add_mul] at e
      have : valL x + (a.toNat - 48) * p < (b.toNat - 48) * p + valL y := by omega
      simp only [hlt, decide_true, Bool.true_or]
      symm; rw [decide_eq_true_eq]; omega
    · by_cases he : a = b
      · subst he
        simp only [hlt, decide_false, Bool.false_or, beq_self_eq_true, Bool.true_and]
        congr 1
        simp
      · have hba : b.toNat < a.toNat := by
          have : a.toNat ≠ b.toNat := fun h => he (UInt8.toNat_inj.1 h)
          have : ¬ a.toNat < b.toNat := fun h => hlt (UInt8.lt_iff_toNat_lt.2 h)
          omega
        have e : (b.toNat - 48 + 1) * p ≤ (a.toNat - 48) * p := Nat.mul_le_mul_right _ (by omega)
        rw [Nat.add_mul] at e
        have hne : (a == b) = false := by simpa using he
        simp only [hlt, decide_false, Bool.false_or, hne, Bool.false_and]
        symm; rw [decide_eq_false_iff_not]; omega
  | [], _ :: _, h, _, _ => by simp at h
  | _ :: _, [], h, _, _ => by simp at h
/-- which of two numbers is less, by their digits -/
def lessD (x y : List UInt8) : Bool := if x.length = y.length then Op.bytesLess x y else decide (x.length < y.length)
theorem less_dec (n m : Nat) : lessD (decN n) (decN m) = decide (n < m) := by
  unfold lessD
  by_cases h : (decN n).length = (decN m).length
  · rw [if_pos h, less_val _ _ h (dec_allD n) (dec_allD m), val_dec, val_dec]
  · rw [if_neg h]
    by_cases hlt : (decN n).length < (decN m).length
    · have := len_lt hlt
      rw [decide_eq_true hlt, decide_eq_true this]
    · have : m < n := len_lt (by omega)
      rw [decide_eq_false hlt, decide_eq_false (by omega)]
/-- how often, and what is left: one digit more -/
theorem div_step {X B d : Nat} (hB : 0 < B) : (10 * X + d) / B = 10 * (X / B) + (10 * (X % B) + d) / B ∧ (10 * X + d) % B = (10 * (X % B) + d) % B := by
  have h := Nat.div_add_mod X B
  have e : 10 * X + d = B * (10 * (X / B)) + (10 * (X % B) + d) := by
    have : 10 * X = 10 * (B * (X / B) + X % B) := by rw [h]
    rw [this, Nat.mul_add, Nat.mul_left_comm]; omega
  rw [e, Nat.mul_add_div hB, Nat.mul_add_mod]
  exact ⟨rfl, rfl⟩
theorem div_lt10 {X B d : Nat} (hB : 0 < B) (hd : d < 10) : (10 * (X % B) + d) / B < 10 := by
  have := Nat.mod_lt X hB
  rw [Nat.div_lt_iff_lt_mul hB]; omega

/-! digits to the base of 10^9, the lowest first -/
def bigB : Nat := 1000000000
theorem bigB_pos : 0 < bigB := by decide
theorem bdiv {n : Nat} (h : n ≠ 0) : n / bigB < n := Nat.div_lt_self (by omega) (by decide)
def valB : List Nat → Nat
  | [] => 0
  | d :: r => d + bigB * valB r
def digB (n : Nat) : List Nat := if n = 0 then [] else (n % bigB) :: digB (n / bigB)
  termination_by n
  decreasing_by exact bdiv ‹_›
def okB (l : List Nat) : Prop := ∀ d ∈ l, d < bigB
theorem digB_zero : digB 0 = [] := by rw [digB, if_pos rfl]
theorem digB_pos {n : Nat} (h : 0 < n) : digB n = (n % bigB) :: digB (n / bigB) := by rw [digB, if_neg (by omega)]
theorem digB_ok (n : Nat) : okB (digB n) := by
  induction n using Nat.strongRecOn with
  | ind n ih =>
    by_cases h : n = 0
    · subst h; rw [digB_zero]; intro d hd; cases hd
    · rw [digB_pos (by omega)]
      intro d hd
      have e : bigB = 1000000000 := rfl
      rcases List.mem_cons.1 hd with rfl | hd
      · exact Nat.mod_lt _ bigB_pos
      · exact ih (n / bigB) (bdiv h) d hd
theorem valB_digB (n : Nat) : valB (digB n) = n := by
  induction n using Nat.strongRecOn with
  | ind n ih =>
    by_cases h : n = 0
    · subst h; rw [digB_zero]; rfl
    · have e : bigB = 1000000000 := rfl
      rw [digB_pos (by omega), valB, ih (n / bigB) (bdiv h)]; exact Nat.mod_add_div _ _
/-- no nought behind the highest -/
def topB (l : List Nat) : Prop := l.getLast? ≠ some 0
theorem digB_valB : ∀ l : List Nat, okB l → topB l → digB (valB l) = l
  | [], _, _ => digB_zero
  | d :: r, h, ht => by
    have e : bigB = 1000000000 := rfl
    have hd := h d (by simp)
    have hr : topB r := by
      intro hh; apply ht
      cases r with
      | nil => simp at hh
      | cons a s => simpa [List.getLast?_cons_cons] using hh
    have ih := digB_valB r (fun x hx => h x (by simp [hx])) hr
    have hpos : 0 < valB (d :: r) := by
      rw [valB]
      cases r with
      | nil =>
        have : d ≠ 0 := fun h0 => ht (by simp [h0])
        omega
      | cons a s =>
        have : valB (a :: s) ≠ 0 := by
          intro h0
          rw [h0, digB_zero] at ih
          cases ih
        have := Nat.mul_pos bigB_pos (Nat.pos_of_ne_zero this)
        omega
    rw [digB_pos hpos, valB, Nat.add_mul_mod_self_left, Nat.mod_eq_of_lt hd, Nat.add_mul_div_left _ _ (by omega), Nat.div_eq_of_lt hd, Nat.zero_add, ih]
theorem digB_top (n : Nat) : topB (digB n) := by
  induction n using Nat.strongRecOn with
  | ind n ih =>
    by_cases h : n = 0
    · subst h; rw [digB_zero]; intro h; cases h
    · have e : bigB = 1000000000 := rfl
      rw [digB_pos (by omega)]
      have := ih (n / bigB) (bdiv h)
      by_cases h2 : n / bigB = 0
      · rw [h2, digB_zero]
        intro hh
        have h3 : n % bigB = 0 := by simpa using hh
        have := Nat.mod_add_div n bigB
        rw [h2, h3] at this
        omega
      · rw [digB_pos (Nat.pos_of_ne_zero h2)] at this ⊢
        intro hh
        rw [List.getLast?_cons_cons] at hh
        exact this hh
theorem digB_inj {n m : Nat} (h : digB n = digB m) : n = m := by rw [← valB_digB n, h, valB_digB]
theorem valB_app (l m : List Nat) : valB (l ++ m) = valB l + bigB ^ l.length * valB m := by
  induction l with
  | nil => simp [valB]
  | cons d r ih => simp only [List.cons_append, valB, ih, List.length_cons, Nat.pow_succ, Nat.mul_add]; rw [Nat.add_assoc]; congr 2; ac_rfl
theorem valB_snoc (l : List Nat) (d : Nat) : valB (l ++ [d]) = valB l + bigB ^ l.length * d := by rw [valB_app]; simp [valB]
theorem valB_lt : ∀ l : List Nat, okB l → valB l < bigB ^ l.length
  | [], _ => by simp [valB]
  | d :: r, h => by
    have e : bigB = 1000000000 := rfl
    have h1 := valB_lt r fun x hx => h x (by simp [hx])
    have h2 := h d (by simp)
    rw [valB, List.length_cons, Nat.pow_succ, Nat.mul_comm (bigB ^ _)]
    have : bigB * (valB r + 1) ≤ bigB * bigB ^ r.length := Nat.mul_le_mul_left _ h1
    rw [Nat.mul_add] at this
    omega
/-- how many -/
theorem digB_len {n k : Nat} : (digB n).length ≤ k ↔ n < bigB ^ k := by
  have e : bigB = 1000000000 := rfl
  constructor
  · intro h
    have h1 := valB_lt _ (digB_ok n)
    rw [valB_digB] at h1
    exact Nat.lt_of_lt_of_le h1 (Nat.pow_le_pow_right (by omega) h)
  · intro h
    induction k generalizing n with
    | zero => rw [Nat.pow_zero] at h; rw [show n = 0 by omega, digB_zero]; simp
    | succ k ih =>
      by_cases h0 : n = 0
      · rw [h0, digB_zero]; simp
      · rw [digB_pos (by omega), List.length_cons]
        have := ih (n := n / bigB) (by rw [Nat.pow_succ] at h; rwa [Nat.div_lt_iff_lt_mul (by omega)])
        omega
/-- noughts behind the highest are struck -/
def trimB (l : List Nat) : List Nat := (l.reverse.dropWhile (· == 0)).reverse
theorem trimB_snoc0 (l : List Nat) : trimB (l ++ [0]) = trimB l := by simp [trimB]
theorem trimB_snoc {l : List Nat} {d : Nat} (h : d ≠ 0) : trimB (l ++ [d]) = l ++ [d] := by
  simp [trimB, h]
theorem trimB_dig : ∀ (n : Nat) (l : List Nat), l.length = n → okB l → trimB l = digB (valB l)
  | 0, l, hl, _ => by obtain rfl := List.length_eq_zero_iff.1 hl; rw [show valB [] = 0 from rfl, digB_zero]; rfl
  | n + 1, l, hl, h => by
    have hne : l ≠ [] := by intro h; subst h; simp at hl
    obtain ⟨r, d, rfl⟩ : ∃ r d, l = r ++ [d] := ⟨l.dropLast, l.getLast hne, (List.dropLast_concat_getLast hne).symm⟩
    by_cases hd : d = 0
    · subst hd
      rw [trimB_snoc0, trimB_dig n r (by simpa using hl) (fun x hx => h x (by simp [hx])), valB_snoc]; simp
    · rw [trimB_snoc hd, digB_valB _ h (by intro hh; simp at hh; exact hd hh)]
/-- the decimal digits' groups of nine, from the lowest on -/
theorem val_split (l m : List UInt8) (hm : allD m) (h9 : m.length = 9) : valL (l ++ m) % bigB = valL m ∧ valL (l ++ m) / bigB = valL l := by
  have h := val_lt m hm
  rw [h9] at h
  rw [val_app, h9, show (10 : Nat) ^ 9 = bigB from rfl] at *
  have e : bigB = 1000000000 := rfl
  rw [Nat.mul_comm]
  exact ⟨by rw [Nat.mul_add_mod, Nat.mod_eq_of_lt h], by rw [Nat.mul_add_div (by omega), Nat.div_eq_of_lt h, Nat.add_zero]⟩
/-! sums and differences to whatever base -/
theorem sum_stepG {b A B V M i n : Nat} (h : V + b ^ i * M = A % b ^ i + B % b ^ i) (hn : n = A / b ^ i % b + B / b ^ i % b + M) :
    (V + b ^ i * (n % b)) + b ^ (i + 1) * (n / b) = A % b ^ (i + 1) + B % b ^ (i + 1) := by
  rw [Nat.mod_pow_succ, Nat.mod_pow_succ, Nat.pow_succ]
  generalize hp : b ^ i = p at *
  have e : p * (n % b) + p * b * (n / b) = p * n := by
    have : p * n = p * (n % b + b * (n / b)) := by rw [Nat.mod_add_div]
    rw [this, Nat.mul_add, Nat.mul_assoc]
  have e2 : p * n = p * (A / p % b) + p * (B / p % b) + p * M := by rw [hn, Nat.mul_add, Nat.mul_add]
  omega
theorem less_stepG {b A B V M i x : Nat} (h : V + B % b ^ i = A % b ^ i + b ^ i * M) (N : Nat) (hx : x + (B / b ^ i % b + M) = A / b ^ i % b + b * N) :
    (V + b ^ i * x) + B % b ^ (i + 1) = A % b ^ (i + 1) + b ^ (i + 1) * N := by
  rw [Nat.mod_pow_succ, Nat.mod_pow_succ, Nat.pow_succ]
  generalize hp : b ^ i = p at *
  have e : p * (x + (B / p % b + M)) = p * (A / p % b + b * N) := by rw [hx]
  rw [Nat.mul_add, Nat.mul_add, Nat.mul_add, ← Nat.mul_assoc] at e
  omega
theorem valB_digit : ∀ (l : List Nat), okB l → ∀ i, valB l / bigB ^ i % bigB = l.getD i 0
  | [], _, i => by simp [valB]
  | d :: r, h, 0 => by
    have hd := h d (by simp)
    rw [valB, Nat.pow_zero, Nat.div_one, List.getD_cons_zero, Nat.add_mul_mod_self_left, Nat.mod_eq_of_lt hd]
  | d :: r, h, i + 1 => by
    have hd := h d (by simp)
    rw [valB, List.getD_cons_succ, ← valB_digit r (fun x hx => h x (by simp [hx])) i, Nat.pow_succ, Nat.mul_comm (bigB ^ i), ← Nat.div_div_eq_div_mul, Nat.add_mul_div_left _ _ bigB_pos, Nat.div_eq_of_lt hd, Nat.zero_add]
end Go.Proofs.YtibhfcnjmilepaaDoor
