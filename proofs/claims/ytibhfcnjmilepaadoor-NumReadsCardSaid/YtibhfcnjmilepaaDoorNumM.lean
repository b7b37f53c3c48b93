import Derived.Test.YtibhfcnjmilepaaDoorNumL
namespace Go.Proofs.YtibhfcnjmilepaaDoor
open Go.RowKit

/-! the document's groups of nine digits -/
def grp (n i : Nat) : Nat := n / bigB ^ i % bigB
def grps (n j : Nat) : List Nat := (List.range j).map (grp n)
theorem grp_lt (n i : Nat) : grp n i < bigB := Nat.mod_lt _ bigB_pos
theorem grps_succ (n j : Nat) : grps n (j + 1) = grps n j ++ [grp n j] := by unfold grps; rw [List.range_succ, List.map_append]; rfl
theorem grps_len (n j : Nat) : (grps n j).length = j := by simp [grps]
theorem grp_zero (n : Nat) : grp n 0 = n % bigB := by
  show n / bigB ^ 0 % bigB = n % bigB
  generalize bigB = b
  rw [Nat.pow_zero, Nat.div_one]
theorem grp_succ (n i : Nat) : grp n (i + 1) = grp (n / bigB) i := by
  show n / bigB ^ (i + 1) % bigB = n / bigB / bigB ^ i % bigB
  generalize bigB = b
  rw [Nat.pow_succ, Nat.mul_comm, ← Nat.div_div_eq_div_mul]
theorem grps_cons (n j : Nat) : grps n (j + 1) = (n % bigB) :: grps (n / bigB) j := by
  have h : ∀ i ∈ List.range j, (grp n ∘ Nat.succ) i = grp (n / bigB) i := fun i _ => by
    rw [Function.comp_apply]; exact grp_succ n i
  unfold grps
  rw [List.range_succ_eq_map, List.map_cons, List.map_map, grp_zero, List.map_congr_left h]
theorem digB_grps (j : Nat) : ∀ n : Nat, (digB n).length = j → digB n = grps n j := by
  induction j with
  | zero => intro n h; rw [List.length_eq_zero_iff.1 h]; rfl
  | succ j ih =>
    intro n h
    have hn : n ≠ 0 := by intro h0; rw [h0, digB_zero] at h; simp at h
    rw [digB_pos (Nat.pos_of_ne_zero hn)] at h ⊢
    rw [List.length_cons] at h
    rw [grps_cons, ih (n / bigB) (Nat.succ.inj h)]
theorem pow_nine (j : Nat) : (10 : Nat) ^ (9 * j) = bigB ^ j := by rw [Nat.pow_mul]; rfl
/-- how many groups there are -/
theorem grps_all {n j : Nat} (hn : n ≠ 0) (h1 : (decN n).length ≤ 9 * j) (h2 : 9 * j < (decN n).length + 9) : grps n j = digB n := by
  have hj : 0 < j := by have := dec_pos n; omega
  have a1 : (digB n).length ≤ j := digB_len.2 (by rw [← pow_nine]; exact (dec_len (by omega)).1 h1)
  have a2 : ¬ (digB n).length ≤ j - 1 := by
    rw [digB_len, ← pow_nine]
    by_cases hj1 : j - 1 = 0
    · rw [hj1, Nat.mul_zero, Nat.pow_zero]; omega
    · intro h
      have := (dec_len (n := n) (k := 9 * (j - 1)) (by omega)).2 h
      omega
  exact (digB_grps j n (by omega)).symm
/-- the digits from lo to e, as a number -/
def seg (l : List UInt8) (lo e : Nat) : Nat := valL ((l.take e).drop lo)
theorem seg_nil (l : List UInt8) (lo : Nat) : seg l lo lo = 0 := by
  unfold seg
  rw [List.drop_eq_nil_of_le (by rw [List.length_take]; omega)]; rfl
theorem seg_snoc (l : List UInt8) (lo e : Nat) (h : lo ≤ e) (he : e < l.length) : seg l lo (e + 1) = 10 * seg l lo e + (l[e].toNat - 48) := by
  unfold seg
  rw [List.take_succ_eq_append_getElem he, List.drop_append_of_le_length (by rw [List.length_take]; omega), val_snoc]
theorem seg_lt (l : List UInt8) (hl : allD l) (lo e : Nat) : seg l lo e < 10 ^ (e - lo) := by
  unfold seg
  have h := val_lt ((l.take e).drop lo) fun c hc => hl c (List.mem_of_mem_take (List.mem_of_mem_drop hc))
  refine Nat.lt_of_lt_of_le h (Nat.pow_le_pow_right (by omega) ?_)
  rw [List.length_drop, List.length_take]; omega
theorem take_val (l : List UInt8) (hl : allD l) (e : Nat) (_he : e ≤ l.length) : valL (l.take e) = valL l / 10 ^ (l.length - e) := by
  have h := val_app (l.take e) (l.drop e)
  rw [List.take_append_drop] at h
  have hd := val_lt (l.drop e) fun c hc => hl c (List.mem_of_mem_drop hc)
  rw [List.length_drop] at h hd
  rw [h, Nat.mul_comm, Nat.mul_add_div (Nat.pow_pos (by omega)), Nat.div_eq_of_lt hd, Nat.add_zero]
/-- a group is the digits of nine places -/
theorem seg_grp (l : List UInt8) (hl : allD l) (j e : Nat) (he : e + 9 * j = l.length) : seg l (e - 9) e = grp (valL l) j := by
  have ht := take_val l hl e (by omega)
  rw [show l.length - e = 9 * j by omega, pow_nine] at ht
  unfold grp seg
  rw [← ht]
  by_cases h9 : 9 ≤ e
  · have hs := val_split ((l.take e).take (e - 9)) ((l.take e).drop (e - 9)) (fun c hc => hl c (List.mem_of_mem_take (List.mem_of_mem_drop hc))) (by rw [List.length_drop, List.length_take]; omega)
    rw [List.take_append_drop] at hs
    exact hs.1.symm
  · rw [show e - 9 = 0 by omega, List.drop_zero]
    have h := val_lt (l.take e) fun c hc => hl c (List.mem_of_mem_take hc)
    rw [List.length_take] at h
    have : (10 : Nat) ^ (min e l.length) ≤ 10 ^ 9 := Nat.pow_le_pow_right (by omega) (by omega)
    have e9 : (10 : Nat) ^ 9 = bigB := rfl
    rw [Nat.mod_eq_of_lt (by omega)]
end Go.Proofs.YtibhfcnjmilepaaDoor
