import Derived.Test.YtibhfcnjmilepaaDoorNumS
namespace Go.Proofs.YtibhfcnjmilepaaDoor

theorem mul_lt_cancel {a b c : Nat} (h : a * c < b * c) : a < b := Nat.lt_of_mul_lt_mul_right h
/-- the first three digits by the first two: the quotient, or one more -/
theorem guess_near {W v2 vl u3 xl : Nat} (hvl : vl < W) (hxl : xl < W) (hv : bigB * bigB ≤ 2 * v2) (hx : u3 * W + xl < bigB * (v2 * W + vl)) :
    (u3 * W + xl) / (v2 * W + vl) ≤ u3 / v2 ∧ u3 / v2 ≤ (u3 * W + xl) / (v2 * W + vl) + 1 ∧ u3 / v2 ≤ bigB ∧ 0 < v2 * W + vl := by
  have hB := bigB_eq
  have hBB : bigB * bigB = 1000000000000000000 := by rw [hB]
  have hv0 : 0 < v2 := by omega
  have hW : 0 < W := by omega
  have hV0 : 0 < v2 * W + vl := by
    have := Nat.mul_pos hv0 hW
    omega
  obtain ⟨q, hq⟩ : ∃ q, q = u3 / v2 := ⟨_, rfl⟩
  obtain ⟨Q, hQ⟩ : ∃ Q, Q = (u3 * W + xl) / (v2 * W + vl) := ⟨_, rfl⟩
  have q1 : q * v2 ≤ u3 := by rw [hq]; exact Nat.div_mul_le_self _ _
  have Q1 : Q * (v2 * W + vl) ≤ u3 * W + xl := by rw [hQ]; exact Nat.div_mul_le_self _ _
  have hQB : Q < bigB := by rw [hQ]; exact Nat.div_lt_of_lt_mul (by rw [Nat.mul_comm (v2 * W + vl)]; exact hx)
  have a1 : Q ≤ q := by
    rw [hq, Nat.le_div_iff_mul_le hv0]
    have h1 : Q * v2 * W ≤ Q * (v2 * W + vl) := by
      rw [Nat.mul_add, ← Nat.mul_assoc]; exact Nat.le_add_right _ _
    have h2 : Q * v2 * W < (u3 + 1) * W := by rw [Nat.succ_mul]; omega
    have := mul_lt_cancel h2
    omega
  have hu3 : u3 < bigB * (v2 + 1) := by
    have h1 : u3 * W < bigB * (v2 + 1) * W := by
      have : bigB * (v2 * W + vl) ≤ bigB * ((v2 + 1) * W) := Nat.mul_le_mul_left _ (by rw [Nat.succ_mul]; omega)
      rw [← Nat.mul_assoc] at this
      omega
    exact mul_lt_cancel h1
  have hqs : q ≤ v2 := by
    have h1 : q * v2 < 2 * bigB * v2 := by
      rw [Nat.mul_add, Nat.mul_one] at hu3
      have : bigB ≤ bigB * v2 := Nat.le_mul_of_pos_right _ hv0
      rw [Nat.mul_assoc, Nat.two_mul]
      omega
    have := mul_lt_cancel h1
    omega
  have a2 : q ≤ Q + 1 := by
    rcases q with _ | k
    · omega
    · have : k ≤ Q := by
        rw [hQ, Nat.le_div_iff_mul_le hV0]
        have h1 : k * vl ≤ k * W := Nat.mul_le_mul_left _ (by omega)
        have h2 : (k + 1) * v2 * W ≤ u3 * W := Nat.mul_le_mul_right _ q1
        have h3 : k * W ≤ v2 * W := Nat.mul_le_mul_right _ (by omega)
        rw [Nat.succ_mul, Nat.add_mul] at h2
        rw [Nat.mul_add, ← Nat.mul_assoc]
        omega
      omega
  rw [← hq, ← hQ]
  exact ⟨a1, a2, by omega, hV0⟩
/-- the guess's loop: it goes on just where the product is too great -/
theorem guess_test {q first second rest u top : Nat} (h : q * first + rest = top) : (rest * bigB + u < q * second) = (top * bigB + u < q * (first * bigB + second)) := by
  subst h
  have : q * (first * bigB + second) = q * first * bigB + q * second := by rw [Nat.mul_add, Nat.mul_assoc]
  rw [this, Nat.add_mul]
  apply propext
  omega
theorem guess_less {q v2 u3 : Nat} (hv : 0 < v2) (h : u3 < q * v2) : u3 / v2 ≤ q - 1 ∧ 0 < q := by
  have h1 : u3 / v2 < q := by rw [Nat.div_lt_iff_lt_mul hv]; exact h
  exact ⟨Nat.le_sub_one_of_lt h1, Nat.lt_of_le_of_lt (Nat.zero_le _) h1⟩
theorem guess_done {q v2 u3 : Nat} (hv : 0 < v2) (h : ¬ u3 < q * v2) (hq : u3 / v2 ≤ q) : q = u3 / v2 := by
  have h1 : q ≤ u3 / v2 := by rw [Nat.le_div_iff_mul_le hv]; omega
  omega
/-- a rest of 10^9 or more: nothing is too great -/
theorem guess_far {q second rest u : Nat} (hq : q ≤ bigB + 1) (hs : second < bigB) (hr : bigB ≤ rest) : ¬ rest * bigB + u < q * second := by
  have hB := bigB_eq
  have h1 : q * second ≤ (bigB + 1) * (bigB - 1) := Nat.mul_le_mul hq (by omega)
  have h2 : bigB * bigB ≤ rest * bigB := Nat.mul_le_mul_right _ hr
  rw [hB] at h1 h2 ⊢
  omega
/-- where the guess begins -/
theorem guess_start {first second top u : Nat} (h1 : first < bigB) (h2 : bigB ≤ 2 * first) (htop : top < bigB * (first + 1)) (_hs : second < bigB) (hu : u < bigB) :
    top / first * first + top % first = top ∧ top / first ≤ bigB + 1 ∧ (top * bigB + u) / (first * bigB + second) ≤ top / first ∧ top % first < bigB * 2 := by
  have hB := bigB_eq
  have hf : 0 < first := by omega
  refine ⟨by rw [Nat.mul_comm]; exact Nat.div_add_mod _ _, ?_, ?_, ?_⟩
  · have h1 : top < (bigB + 2) * first := by
      rw [Nat.mul_add, Nat.mul_one] at htop
      rw [Nat.add_mul]
      omega
    have := (Nat.div_lt_iff_lt_mul hf).2 h1
    omega
  · have h1 : (top * bigB + u) / (first * bigB + second) < top / first + 1 := by
      rw [Nat.div_lt_iff_lt_mul (by have := Nat.mul_pos hf bigB_pos; omega)]
      have h3 := Nat.mod_add_div top first
      have h4 := Nat.mod_lt top hf
      have h5 : top < first * (top / first + 1) := by rw [Nat.mul_add]; omega
      have h6 : (top + 1) * bigB ≤ first * (top / first + 1) * bigB := Nat.mul_le_mul_right _ h5
      rw [Nat.add_mul, Nat.one_mul] at h6
      have h7 : (top / first + 1) * (first * bigB + second) = first * (top / first + 1) * bigB + (top / first + 1) * second := by
        rw [Nat.mul_add]; congr 1; rw [← Nat.mul_assoc]; congr 1; exact Nat.mul_comm _ _
      rw [h7]
      omega
    omega
  · have h4 := Nat.mod_lt top hf
    omega
/-- behind 'takeFrom': what is owed, and the places, tell whether the product was greater -/
theorem owed_iff {x y o P p : Nat} (h : x + P * o = y + p) (_hx : x < P) (hy : y < P) : (0 < o) = (x < p) := by
  apply propext
  constructor
  · intro ho
    have : P ≤ P * o := Nat.le_mul_of_pos_right _ ho
    omega
  · intro hp
    rcases o with _ | o
    · omega
    · omega
/-- behind 'addTo': the one that was taken too often is given back -/
theorem back_one {x y z o c P Q V : Nat} (h1 : x + P * o = y + (Q + 1) * V) (h2 : z + P * c = y + V) (hz : z < P) (hQ : Q * V ≤ x) (hx : x - Q * V < P) : z = x - Q * V := by
  rw [Nat.succ_mul] at h1
  have h3 : z + P * c = (x - Q * V) + P * o := by omega
  have h4 : (z + P * c) % P = ((x - Q * V) + P * o) % P := by rw [h3]
  rw [Nat.add_mul_mod_self_left, Nat.add_mul_mod_self_left, Nat.mod_eq_of_lt hz, Nat.mod_eq_of_lt hx] at h4
  exact h4
/-- the factor that makes the highest digit great -/
theorem norm_top {t f : Nat} (ht0 : 0 < t) (ht : t < bigB) (hf : f = bigB / (t + 1)) : bigB ≤ 2 * (t * f) ∧ (t + 1) * f ≤ bigB ∧ 0 < f := by
  have hB := bigB_eq
  have e := Nat.div_add_mod bigB (t + 1)
  have hm := Nat.mod_lt bigB (show 0 < t + 1 by omega)
  rw [← hf] at e
  have hf0 : 0 < f := by
    rcases f with _ | f
    · rw [Nat.mul_zero] at e; omega
    · omega
  refine ⟨?_, by omega, hf0⟩
  by_cases h1 : t = 1
  · subst h1; omega
  · by_cases h2 : bigB ≤ 2 * t
    · have : t ≤ t * f := Nat.le_mul_of_pos_right _ hf0
      omega
    · by_cases hc : bigB ≤ 2 * (t * f)
      · exact hc
      · exfalso
        have e1 : bigB ≤ (t + 1) * f + t := by omega
        have e2 : t * bigB ≤ t * ((t + 1) * f + t) := Nat.mul_le_mul_left _ e1
        have e3 : 2 * (t * f) * (t + 1) ≤ (bigB - 1) * (t + 1) := Nat.mul_le_mul_right _ (by omega)
        have e4 : t * ((t + 1) * f + t) = t * f * (t + 1) + t * t := by grind
        have e5 : 2 * (t * f) * (t + 1) = 2 * (t * f * (t + 1)) := by grind
        have e6 : (bigB - 1) * (t + 1) + (t + 1) = bigB * t + bigB := by
          rw [← Nat.succ_mul, Nat.succ_eq_add_one, Nat.sub_add_cancel (by omega), Nat.mul_add, Nat.mul_one]
        have e7 : t * bigB = bigB * t := Nat.mul_comm _ _
        
        obtain ⟨k, hk⟩ : ∃ k, t = k + 2 := ⟨t - 2, by omega⟩
        obtain ⟨m, hmm⟩ : ∃ m, bigB = 2 * t + 2 + m := ⟨bigB - (2 * t + 2), by omega⟩
        have e8 : bigB * t + t + 1 = 2 * (t * t) + bigB + (k + 1) * (m + 1) := by
          rw [hmm, hk]; grind
        have e9 : 0 < (k + 1) * (m + 1) := Nat.mul_pos (by omega) (by omega)
        omega
/-- the divisor's and the dividend's places behind the factor -/
theorem norm_places {b f p t r : Nat} (hb : b = r + p * t) (hr : r < p) (hf1 : (t + 1) * f ≤ bigB) (hf0 : 0 < f) : b * f < bigB * p ∧ t * f * p ≤ b * f ∧ p * f ≤ b * f + (p * f) * (if t = 0 then 1 else 0) := by
  subst hb
  refine ⟨?_, ?_, ?_⟩
  · have h1 : (r + p * t) * f < (p * (t + 1)) * f := Nat.mul_lt_mul_of_pos_right (by rw [Nat.mul_add]; omega) hf0
    have h2 : p * (t + 1) * f ≤ p * bigB := by rw [Nat.mul_assoc]; exact Nat.mul_le_mul_left _ hf1
    rw [Nat.mul_comm bigB p]
    omega
  · have : t * f * p = p * t * f := by rw [Nat.mul_comm, Nat.mul_assoc]
    rw [this]
    exact Nat.mul_le_mul_right _ (by omega)
  · by_cases h : t = 0
    · rw [if_pos h]; omega
    · rw [if_neg h, Nat.mul_zero, Nat.add_zero]
      refine Nat.mul_le_mul_right _ ?_
      have : p ≤ p * t := Nat.le_mul_of_pos_right _ (by omega)
      omega
/-- one place more of the long division -/
theorem long_step {U V P d : Nat} (_hV : 0 < V) (hd : d = U / P % bigB) :
    U / P = bigB * (U / (P * bigB)) + d ∧ (U / P) % V = (d + bigB * (U / (P * bigB) % V)) % V ∧ (U / P) / V = bigB * (U / (P * bigB) / V) + (d + bigB * (U / (P * bigB) % V)) / V ∧ (d + bigB * (U / (P * bigB) % V)) < bigB * V := by
  have e : U / P = bigB * (U / (P * bigB)) + d := by
    rw [hd, ← Nat.div_div_eq_div_mul]
    exact (Nat.div_add_mod _ _).symm
  have hm := Nat.mod_lt (U / (P * bigB)) _hV
  have hd2 : d < bigB := by rw [hd]; exact Nat.mod_lt _ bigB_pos
  generalize U / (P * bigB) = Y at *
  have e2 := Nat.mod_add_div Y V
  have e3 : bigB * Y + d = (d + bigB * (Y % V)) + V * (bigB * (Y / V)) := by
    have : bigB * Y = bigB * (Y % V + V * (Y / V)) := by rw [e2]
    rw [this, Nat.mul_add]
    have : bigB * (V * (Y / V)) = V * (bigB * (Y / V)) := by ac_rfl
    omega
  refine ⟨e, ?_, ?_, ?_⟩
  · rw [e, e3, Nat.add_mul_mod_self_left]
  · rw [e, e3, Nat.add_mul_div_left _ _ _hV, Nat.add_comm]
  · have : bigB * (Y % V + 1) ≤ bigB * V := Nat.mul_le_mul_left _ hm
    rw [Nat.mul_add] at this
    omega
end Go.Proofs.YtibhfcnjmilepaaDoor
