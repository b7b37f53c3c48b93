import Derived.Test.YtibhfcnjmilepaaDoorNumM
namespace Go.Proofs.YtibhfcnjmilepaaDoor

/-! the program's own rows of digits: what each round of its loops keeps -/
theorem bigB_eq : bigB = 1000000000 := rfl
theorem valB_dropD (b : List Nat) (i : Nat) : valB (b.drop i) = b.getD i 0 + bigB * valB (b.drop (i + 1)) := by
  by_cases h : i < b.length
  · rw [List.drop_eq_getElem_cons h, valB, List.getD_eq_getElem?_getD, List.getElem?_eq_getElem h, Option.getD_some]
  · rw [List.drop_of_length_le (by omega), List.drop_of_length_le (by omega), List.getD_eq_getElem?_getD, List.getElem?_eq_none (by omega)]
    simp [valB]
theorem okB_getD {l : List Nat} (h : okB l) (i : Nat) : l.getD i 0 < bigB := by
  rw [List.getD_eq_getElem?_getD]
  by_cases hi : i < l.length
  · rw [List.getElem?_eq_getElem hi, Option.getD_some]; exact h _ (List.getElem_mem hi)
  · rw [List.getElem?_eq_none (by omega), Option.getD_none]; exact bigB_pos
theorem okB_snoc {l : List Nat} {d : Nat} (h : okB l) (hd : d < bigB) : okB (l ++ [d]) := by
  intro x hx
  rcases List.mem_append.1 hx with hx | hx
  · exact h x hx
  · rw [List.mem_singleton.1 hx]; exact hd
theorem okB_app {l m : List Nat} (h : okB l) (hm : okB m) : okB (l ++ m) := by
  intro x hx
  rcases List.mem_append.1 hx with hx | hx
  · exact h x hx
  · exact hm x hx
theorem okB_left {l m : List Nat} (h : okB (l ++ m)) : okB l := fun x hx => h x (by simp [hx])
theorem okB_right {l m : List Nat} (h : okB (l ++ m)) : okB m := fun x hx => h x (by simp [hx])
theorem okB_cons {d : Nat} {l : List Nat} (h : okB (d :: l)) : d < bigB ∧ okB l := ⟨h d (by simp), fun x hx => h x (by simp [hx])⟩
theorem okB_nil : okB [] := fun x hx => by cases hx
theorem okB_zeros (n : Nat) : okB (List.replicate n 0) := by
  intro x hx; rw [List.eq_of_mem_replicate hx]; exact bigB_pos
theorem valB_zeros (n : Nat) : valB (List.replicate n 0) = 0 := by
  induction n with
  | zero => rfl
  | succ n ih => rw [List.replicate_succ, valB, ih]; rfl
theorem okB_take {l : List Nat} (h : okB l) (n : Nat) : okB (l.take n) := fun x hx => h x (List.mem_of_mem_take hx)
theorem okB_drop {l : List Nat} (h : okB l) (n : Nat) : okB (l.drop n) := fun x hx => h x (List.mem_of_mem_drop hx)
theorem valB_split (l : List Nat) (k : Nat) (h : k ≤ l.length) : valB l = valB (l.take k) + bigB ^ k * valB (l.drop k) := by
  have := valB_app (l.take k) (l.drop k)
  rw [List.take_append_drop, List.length_take, Nat.min_eq_left h] at this
  exact this

/-- one round of 'addTo' -/
theorem addTo_step {V p R D c x y s T : Nat} (h : V + p * (c + (x + bigB * R) + (y + bigB * D)) = T) (hs : s = x + c + y) :
    V + p * (s % bigB) + p * bigB * (s / bigB + R + D) = T := by
  have e := Nat.mod_add_div s bigB
  generalize s % bigB = m at e ⊢
  generalize s / bigB = q at e ⊢
  generalize bigB = b at *
  subst hs
  rw [← h]
  grind
/-- one round of 'takeFrom' -/
theorem take_step {T1 T2 V p R D o o' f x x' y : Nat} (h : T1 + p * (o + f * (y + bigB * D)) = V + p * (x + bigB * R) + T2) (hx : x' + (o + f * y) = x + bigB * o') :
    T1 + p * bigB * (o' + f * D) = V + p * x' + p * bigB * R + T2 := by
  generalize bigB = b at *
  grind
/-- one round of 'addTimes' -/
theorem times_step {V p R D c x y s f T : Nat} (h : V + p * (c + (x + bigB * R) + f * (y + bigB * D)) = T) (hs : s = x + f * y + c) :
    V + p * (s % bigB) + p * bigB * (s / bigB + R + f * D) = T := by
  have e := Nat.mod_add_div s bigB
  generalize s % bigB = m at e ⊢
  generalize s / bigB = q at e ⊢
  generalize bigB = b at *
  subst hs
  rw [← h]
  grind
/-- what 'takeFrom' owes is never more than the factor -/
theorem owed_le {o f y x : Nat} (ho : o ≤ f) (hy : y < bigB) : ((o + f * y) / bigB ≤ f) ∧ (x < (o + f * y) % bigB → (o + f * y) / bigB + 1 ≤ f) := by
  have e := Nat.mod_add_div (o + f * y) bigB
  have hm := Nat.mod_lt (o + f * y) bigB_pos
  have hb := bigB_pos
  generalize (o + f * y) % bigB = m at *
  generalize hq : (o + f * y) / bigB = q at *
  have h1 : f * y + f ≤ f * bigB := by
    have := Nat.mul_le_mul_left f hy
    rw [Nat.mul_succ] at this
    exact this
  constructor
  · refine Nat.le_of_mul_le_mul_left (c := bigB) ?_ hb
    rw [Nat.mul_comm bigB f]
    omega
  · intro hx
    have : bigB * q < bigB * f := by
      rw [Nat.mul_comm bigB f]
      omega
    exact Nat.lt_of_mul_lt_mul_left this
/-- rows of one length are compared from the highest place on -/
theorem valB_cmp {a b : List Nat} {k : Nat} (hl : a.length = b.length) (hk : k < a.length) (ha : okB a) (hd : a.drop (k + 1) = b.drop (k + 1)) (hlt : a.getD k 0 < b.getD k 0) : valB a < valB b := by
  have h1 := valB_split a k (by omega)
  have h2 := valB_split b k (by omega)
  rw [valB_dropD a k, hd] at h1
  rw [valB_dropD b k] at h2
  have h3 := valB_lt (a.take k) (okB_take ha k)
  rw [List.length_take, Nat.min_eq_left (by omega)] at h3
  generalize valB (b.drop (k + 1)) = D at *
  generalize a.getD k 0 = x at *
  generalize b.getD k 0 = y at *
  generalize bigB ^ k = p at *
  have h4 : p * (x + bigB * D) + p ≤ p * (y + bigB * D) := by
    have : p * (x + 1 + bigB * D) ≤ p * (y + bigB * D) := Nat.mul_le_mul_left _ (by omega)
    rw [show x + 1 + bigB * D = x + bigB * D + 1 by omega, Nat.mul_succ] at this
    exact this
  omega
theorem drop_getD {l : List Nat} {k : Nat} (h : k < l.length) : l.drop k = l.getD k 0 :: l.drop (k + 1) := by
  rw [List.drop_eq_getElem_cons h, List.getD_eq_getElem?_getD, List.getElem?_eq_getElem h, Option.getD_some]
def cmpN (n m : Nat) : Int := if n < m then -1 else if m < n then 1 else 0
theorem cmp_long {n m : Nat} (h : (digB n).length < (digB m).length) : n < m := by
  have h1 : n < bigB ^ (digB n).length := digB_len.1 (Nat.le_refl _)
  have h2 : ¬ m < bigB ^ (digB n).length := fun h2 => by have := digB_len.2 h2; omega
  omega
/-- a row of places filled from the lowest on: the next one is laid -/
theorem set_mid {α : Type} (A D R C : List α) (x d : α) : (A ++ (D ++ x :: R) ++ C).set (A.length + D.length) d = A ++ (D ++ d :: R) ++ C := by
  rw [List.append_assoc, List.append_assoc, List.set_append_right _ _ (by omega), Nat.add_sub_cancel_left, List.set_append_right _ _ (by omega), Nat.sub_self]
  simp
theorem get_mid {α : Type} (A D R C : List α) (x : α) : (A ++ (D ++ x :: R) ++ C)[A.length + D.length]? = some x := by
  rw [List.append_assoc, List.append_assoc, List.getElem?_append_right (by omega), Nat.add_sub_cancel_left, List.getElem?_append_right (by omega), Nat.sub_self]
  rfl
theorem snoc_mid {α : Type} (A D R C : List α) (d : α) : A ++ (D ++ d :: R) ++ C = A ++ ((D ++ [d]) ++ R) ++ C := by simp
end Go.Proofs.YtibhfcnjmilepaaDoor
