import Derived.Test.YtibhfcnjmilepaaDoorNumAE
namespace Go.Proofs.YtibhfcnjmilepaaDoor
open Go.RowKit

theorem val_drop {l : List Nat} (ho : okB l) {e : Nat} (he : e ≤ l.length) : valB (l.drop e) = valB l / bigB ^ e ∧ valB (l.take e) = valB l % bigB ^ e := by
  have h := valB_split l e he
  have h2 := valB_lt (l.take e) (okB_take ho e)
  rw [List.length_take, Nat.min_eq_left he] at h2
  have hp : 0 < bigB ^ e := Nat.pow_pos bigB_pos
  constructor
  · rw [h, Nat.add_mul_div_left _ _ hp, Nat.div_eq_of_lt h2, Nat.zero_add]
  · rw [h, Nat.add_mul_mod_self_left, Nat.mod_eq_of_lt h2]
theorem getD_take {l : List Nat} {t e : Nat} (h : t < e) : l.getD t 0 = (l.take e).getD t 0 := by
  rw [List.getD_eq_getElem?_getD, List.getD_eq_getElem?_getD, List.getElem?_take_of_lt h]
/-- one round of the long division, in numbers -/
theorem long_round {X L1 : List Nat} {U V n t : Nat} (_hX : okB X) (hlen : t + (n + 1) ≤ X.length) (htk : X.take (t + 1) = L1.take (t + 1)) (hL1 : okB L1) (hU : valB L1 = U) (hdrop : valB (X.drop (t + 1)) = U / bigB ^ (t + 1) % V) (hV0 : 0 < V) (hVn : V < bigB ^ n) :
    valB ((X.drop t).take (n + 1)) < bigB * V ∧ valB ((X.drop t).take (n + 1)) % V = U / bigB ^ t % V ∧ U / bigB ^ t / V = valB ((X.drop t).take (n + 1)) / V + bigB * (U / bigB ^ (t + 1) / V) ∧ valB (X.drop (t + (n + 1))) = 0 := by
  have hd : X.getD t 0 = U / bigB ^ t % bigB := by
    rw [getD_take (show t < t + 1 by omega), htk, ← getD_take (by omega), ← valB_digit L1 hL1 t, hU]
  have hst := long_step (P := bigB ^ t) hV0 (rfl : U / bigB ^ t % bigB = _)
  rw [← Nat.pow_succ] at hst
  have hv := valB_dropD X t
  rw [hd, hdrop] at hv
  rw [← hv] at hst
  have hs := valB_split (X.drop t) (n + 1) (by rw [List.length_drop]; omega)
  rw [List.drop_drop] at hs
  have h0 : valB (X.drop (t + (n + 1))) = 0 := by
    have h1 : bigB ^ (n + 1) * valB (X.drop (t + (n + 1))) < bigB ^ (n + 1) * 1 := by
      have h2 : bigB * V < bigB * bigB ^ n := Nat.mul_lt_mul_of_pos_left hVn bigB_pos
      rw [Nat.mul_one, Nat.pow_succ, Nat.mul_comm (bigB ^ n)]
      have := hst.2.2.2
      rw [Nat.pow_succ, Nat.mul_comm (bigB ^ n)] at hs
      omega
    have := Nat.lt_of_mul_lt_mul_left h1
    omega
  rw [h0, Nat.mul_zero, Nat.add_zero] at hs
  rw [← hs]
  exact ⟨hst.2.2.2, hst.2.1.symm, by rw [hst.2.2.1, Nat.add_comm], h0⟩
theorem two_last {l : List Nat} {m : Nat} (h : l.length = m + 2) : l = l.take m ++ [l.getD m 0, l.getD (m + 1) 0] := by
  conv => lhs; rw [← List.take_append_drop m l]
  congr 1
  rw [drop_getD (by omega), drop_getD (by omega), List.drop_of_length_le (by omega)]
theorem three_last {l : List Nat} {m : Nat} (h : l.length = m + 3) : l = l.take m ++ [l.getD m 0, l.getD (m + 1) 0, l.getD (m + 2) 0] := by
  conv => lhs; rw [← List.take_append_drop m l]
  congr 1
  rw [drop_getD (by omega), drop_getD (by omega), drop_getD (by omega), List.drop_of_length_le (by omega)]
theorem digB_len_eq {n k : Nat} (h1 : n < bigB ^ (k + 1)) (h2 : bigB ^ k ≤ n) : (digB n).length = k + 1 := by
  have a := digB_len.2 h1
  have b : ¬ (digB n).length ≤ k := fun h => by have := digB_len.1 h; omega
  omega
theorem digB_low {n k : Nat} (h : (digB n).length = k + 1) : bigB ^ k ≤ n := by
  rcases Nat.lt_or_ge n (bigB ^ k) with h1 | h1
  · have := digB_len.2 h1; omega
  · exact h1
/-- the divisor behind the factor: as many places, the highest great -/
theorem norm_all {y m t f : Nat} (hl : (digB y).length = m + 2) (ht : t = (digB y).getD (m + 1) 0) (hf : f = bigB / (t + 1)) :
    0 < t ∧ t < bigB ∧ 0 < f ∧ f < bigB ∧ y * f < bigB ^ (m + 2) ∧ (digB (y * f)).length = m + 2 ∧ bigB ≤ 2 * (digB (y * f)).getD (m + 1) 0 := by
  have hB := bigB_eq
  have hsp := two_last hl
  rw [← ht] at hsp
  obtain ⟨_, _, _, hv⟩ := last_two m ((digB y).getD m 0) t ((digB y).take m) hsp (by rw [List.length_take]; omega)
  rw [valB_digB] at hv
  have htB : t < bigB := by rw [ht]; exact okB_getD (digB_ok _) _
  have hsB : (digB y).getD m 0 < bigB := okB_getD (digB_ok _) _
  have hdl := valB_lt ((digB y).take m) (okB_take (digB_ok _) m)
  rw [List.length_take, Nat.min_eq_left (by omega)] at hdl
  have hlow := digB_low hl
  have hpm : bigB ^ (m + 1) = bigB ^ m * bigB := Nat.pow_succ _ _
  have hpm2 : bigB ^ (m + 2) = bigB ^ (m + 1) * bigB := Nat.pow_succ _ _
  have hr : (digB y).getD m 0 * bigB ^ m + valB ((digB y).take m) < bigB ^ (m + 1) := by
    have : ((digB y).getD m 0 + 1) * bigB ^ m ≤ bigB * bigB ^ m := Nat.mul_le_mul_right _ hsB
    rw [Nat.succ_mul, Nat.mul_comm bigB] at this
    omega
  have hyb : y = ((digB y).getD m 0 * bigB ^ m + valB ((digB y).take m)) + bigB ^ (m + 1) * t := by
    rw [hpm]
    have e : (t * bigB + (digB y).getD m 0) * bigB ^ m = (digB y).getD m 0 * bigB ^ m + bigB ^ m * bigB * t := by
      generalize (digB y).getD m 0 = s
      generalize bigB ^ m = p
      generalize bigB = b
      grind
    omega
  have ht0 : 0 < t := by
    rcases t with _ | t
    · rw [Nat.mul_zero, Nat.add_zero] at hyb; omega
    · omega
  obtain ⟨n1, n2, n3⟩ := norm_top ht0 htB hf
  obtain ⟨p1, p2, _⟩ := norm_places hyb hr n2 n3
  have hfB : f < bigB := by
    rw [hf]
    exact Nat.div_lt_self bigB_pos (by omega)
  have hlt : y * f < bigB ^ (m + 2) := by rw [hpm2, Nat.mul_comm]; rw [Nat.mul_comm] at p1; rw [Nat.mul_comm bigB] at p1; omega
  have hge : bigB ^ (m + 1) ≤ y * f := by
    have : 1 * bigB ^ (m + 1) ≤ t * f * bigB ^ (m + 1) := Nat.mul_le_mul_right _ (Nat.mul_pos ht0 n3)
    omega
  have hlen := digB_len_eq hlt hge
  refine ⟨ht0, htB, n3, hfB, hlt, hlen, ?_⟩
  have hsp2 := two_last hlen
  obtain ⟨_, _, _, hv2⟩ := last_two m _ _ _ hsp2 (by rw [List.length_take]; omega)
  rw [valB_digB] at hv2
  have hs2 : (digB (y * f)).getD m 0 < bigB := okB_getD (digB_ok _) _
  have hdl2 := valB_lt ((digB (y * f)).take m) (okB_take (digB_ok _) m)
  rw [List.length_take, Nat.min_eq_left (by omega)] at hdl2
  generalize (digB (y * f)).getD (m + 1) 0 = F at *
  generalize (digB (y * f)).getD m 0 = s2 at *
  have h3 : t * f * bigB ^ (m + 1) < (F + 1) * bigB ^ (m + 1) := by
    have h4 : (F * bigB + s2 + 1) * bigB ^ m ≤ ((F + 1) * bigB) * bigB ^ m := Nat.mul_le_mul_right _ (by rw [Nat.succ_mul]; omega)
    rw [Nat.succ_mul, Nat.mul_assoc (F + 1), Nat.mul_comm bigB (bigB ^ m), ← hpm] at h4
    omega
  have := mul_lt_cancel h3
  omega
end Go.Proofs.YtibhfcnjmilepaaDoor
